/- Heaps as mathematics: rows of numbers of which none is less than the one ahead of it in the tree. No program. -/
import Derived.Test.YtmjjkoiepoblmaaBase
import Derived.Sort.AssemblyPlain
namespace Go.Proofs.Ytmjjkoiepoblmaa
open Go.Sort

def Heap (d : Array Int) (n : Nat) : Prop := ∀ k, 0 < k → k < n → d[(k - 1) / 2]! ≤ d[k]!
def UpInv (d : Array Int) (n j : Nat) : Prop := (∀ k, 0 < k → k < n → k ≠ j → d[(k - 1) / 2]! ≤ d[k]!) ∧ ∀ k, 0 < k → k < n → (k - 1) / 2 = j → 0 < j → d[(j - 1) / 2]! ≤ d[k]!
def DownInv (d : Array Int) (n i : Nat) : Prop := (∀ k, 0 < k → k < n → (k - 1) / 2 ≠ i → d[(k - 1) / 2]! ≤ d[k]!) ∧ ∀ k, 0 < k → k < n → (k - 1) / 2 = i → 0 < i → d[(i - 1) / 2]! ≤ d[k]!

theorem hup_stop {d : Array Int} {n j : Nat} (h : UpInv d n j) (hs : j = 0 ∨ d[(j - 1) / 2]! ≤ d[j]!) : Heap d n := fun k h0 h1 => by
  by_cases e : k = j
  · subst e
    rcases hs with hs | hs
    · omega
    · exact hs
  · exact h.1 k h0 h1 e
theorem hup_go {d : Array Int} {n j : Nat} (h : UpInv d n j) (hj : 0 < j) (hn : j < n) (hd : n ≤ d.size) (hs : d[j]! < d[(j - 1) / 2]!) : UpInv (swp d ((j - 1) / 2) j) n ((j - 1) / 2) := by
  generalize hi : (j - 1) / 2 = i at *
  have hij : i < j := by omega
  have ei : (swp d i j)[i]! = d[j]! := swp_left d i j (by omega) (by omega)
  have ej : (swp d i j)[j]! = d[i]! := swp_right d i j (by omega)
  have eo : ∀ k, k ≠ i → k ≠ j → (swp d i j)[k]! = d[k]! := fun k a b => swp_other d i j k a b
  refine ⟨fun k h0 h1 hk => ?_, fun k h0 h1 hk hi0 => ?_⟩
  · by_cases e : k = j
    · subst e
      rw [hi, ei, ej]
      omega
    · rw [eo k hk e]
      have q := h.1 k h0 h1 e
      by_cases e1 : (k - 1) / 2 = i
      · rw [e1] at q ⊢
        rw [ei]
        omega
      · by_cases e2 : (k - 1) / 2 = j
        · have q2 := h.2 k h0 h1 e2 hj
          rw [hi] at q2
          rw [e2, ej]
          exact q2
        · rw [eo _ e1 e2]
          exact q
  · have q := h.1 i hi0 (by omega) (by omega)
    rw [eo ((i - 1) / 2) (by omega) (by omega)]
    by_cases e : k = j
    · subst e
      rw [ej]
      exact q
    · rw [eo k (by omega) e]
      have q2 := h.1 k h0 h1 e
      rw [hk] at q2
      omega
theorem hdown_stop {d : Array Int} {n i : Nat} (h : DownInv d n i) (hs : ∀ k, 0 < k → k < n → (k - 1) / 2 = i → d[i]! ≤ d[k]!) : Heap d n := fun k h0 h1 => by
  by_cases e : (k - 1) / 2 = i
  · rw [e]
    exact hs k h0 h1 e
  · exact h.1 k h0 h1 e
theorem hdown_go {d : Array Int} {n i j : Nat} (h : DownInv d n i) (hj : 0 < j) (hi : (j - 1) / 2 = i) (hn : j < n) (hd : n ≤ d.size) (hm : ∀ k, 0 < k → k < n → (k - 1) / 2 = i → d[j]! ≤ d[k]!) (hs : d[j]! < d[i]!) : DownInv (swp d i j) n j := by
  have hij : i < j := by omega
  have ei : (swp d i j)[i]! = d[j]! := swp_left d i j (by omega) (by omega)
  have ej : (swp d i j)[j]! = d[i]! := swp_right d i j (by omega)
  have eo : ∀ k, k ≠ i → k ≠ j → (swp d i j)[k]! = d[k]! := fun k a b => swp_other d i j k a b
  refine ⟨fun k h0 h1 hk => ?_, fun k h0 h1 hk _ => ?_⟩
  · by_cases e : k = j
    · subst e
      rw [hi, ei, ej]
      omega
    · by_cases e1 : (k - 1) / 2 = i
      · rw [e1, ei, eo k (by omega) e]
        exact hm k h0 h1 e1
      · rw [eo _ e1 hk]
        by_cases e2 : k = i
        · have q := h.2 j hj hn hi (by omega)
          rw [e2, ei]
          exact q
        · rw [eo k e2 e]
          exact h.1 k h0 h1 e1
  · rw [hi, ei, eo k (by omega) (by omega)]
    have q := h.1 k h0 h1 (by omega)
    rw [hk] at q
    exact q
theorem heap_least {d : Array Int} {n : Nat} (h : Heap d n) : ∀ k, k < n → d[0]! ≤ d[k]! := fun k => by
  induction k using Nat.strongRecOn with
  | _ k ih =>
    intro hk
    rcases Nat.eq_zero_or_pos k with rfl | h0
    · exact Int.le_refl _
    · exact Int.le_trans (ih ((k - 1) / 2) (by omega) (by omega)) (h k h0 hk)
/-- Behind a number more the heap is one up to it. -/
theorem up_start {d d' : Array Int} {n : Nat} (h : Heap d n) (e : ∀ k, k < n → d'[k]! = d[k]!) : UpInv d' (n + 1) n :=
  ⟨fun k h0 h1 hk => by rw [e k (by omega), e _ (by omega)]; exact h k h0 (by omega), fun k h0 h1 hk h2 => by omega⟩
/-- Where another number stands in front, the heap is one below it. -/
theorem down_start {d d' : Array Int} {n m : Nat} (h : Heap d n) (hm : m ≤ n) (e : ∀ k, 0 < k → k < m → d'[k]! = d[k]!) : DownInv d' m 0 :=
  ⟨fun k h0 h1 hk => by rw [e k h0 h1, e _ (by omega) (by omega)]; exact h k h0 (by omega), fun k h0 h1 hk h2 => by omega⟩
end Go.Proofs.Ytmjjkoiepoblmaa
