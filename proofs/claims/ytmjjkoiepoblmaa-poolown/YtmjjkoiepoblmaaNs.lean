/- Rising lists of numbers, plain mathematics. -/
import Derived.Test.YtmjjkoiepoblmaaNm
namespace Go.Proofs.Ytmjjkoiepoblmaa

/-- A rising list with a number more. -/
def putS (n : Int) : List Int → List Int
  | [] => [n]
  | x :: r => if n < x then n :: x :: r else if n = x then x :: r else x :: putS n r
/-- A rising list of numbers of 32 bits. -/
structure Ris (s : List Int) : Prop where
  up : s.Pairwise (· < ·)
  rng : ∀ x ∈ s, 0 ≤ x ∧ x < 4294967296
theorem Ris.nil : Ris [] := ⟨List.Pairwise.nil, by simp⟩
theorem mem_putS (n x : Int) : ∀ s : List Int, x ∈ putS n s ↔ x = n ∨ x ∈ s
  | [] => by simp [putS]
  | y :: r => by
    unfold putS
    split
    · simp
    · split
      · subst_vars; simp
      · rw [List.mem_cons, mem_putS n x r, List.mem_cons]
        constructor
        · rintro (h | h | h)
          · exact .inr (.inl h)
          · exact .inl h
          · exact .inr (.inr h)
        · rintro (h | h | h)
          · exact .inr (.inl h)
          · exact .inl h
          · exact .inr (.inr h)
theorem Ris.put {s : List Int} (h : Ris s) {n : Int} (h0 : 0 ≤ n) (h1 : n < 4294967296) : Ris (putS n s) := by
  refine ⟨?_, fun x hx => ?_⟩
  · have up := h.up
    clear h
    induction s with
    | nil => simp [putS]
    | cons y r ih =>
      obtain ⟨p1, p2⟩ := List.pairwise_cons.1 up
      unfold putS
      split
      · rename_i hlt
        refine List.pairwise_cons.2 ⟨fun z hz => ?_, up⟩
        rcases List.mem_cons.1 hz with rfl | hz
        · exact hlt
        · exact Int.lt_trans hlt (p1 z hz)
      · split
        · exact up
        · refine List.pairwise_cons.2 ⟨fun z hz => ?_, ih p2⟩
          rcases (mem_putS n z r).1 hz with rfl | hz
          · omega
          · exact p1 z hz
  · rcases (mem_putS n x s).1 hx with rfl | hx
    · exact ⟨h0, h1⟩
    · exact h.rng x hx
theorem Ris.tail {x : Int} {s : List Int} (h : Ris (x :: s)) : Ris s := ⟨(List.pairwise_cons.1 h.up).2, fun y hy => h.rng y (by simp [hy])⟩
theorem Ris.lt {x : Int} {s : List Int} (h : Ris (x :: s)) : ∀ y ∈ s, x < y := (List.pairwise_cons.1 h.up).1
theorem putS_in {s : List Int} (h : Ris s) {n : Int} (hn : n ∈ s) : putS n s = s := by
  induction s with
  | nil => cases hn
  | cons y r ih =>
    unfold putS
    rcases List.mem_cons.1 hn with rfl | hn
    · rw [if_neg (by omega), if_pos rfl]
    · have := h.lt n hn
      rw [if_neg (by omega), if_neg (by omega), ih h.tail hn]
theorem putS_perm {n : Int} : ∀ {s : List Int}, n ∉ s → (putS n s).Perm (n :: s)
  | [], _ => List.Perm.refl _
  | y :: r, h => by
    unfold putS
    split
    · exact List.Perm.refl _
    · split
      · subst_vars; simp at h
      · exact ((putS_perm (fun q => h (by simp [q]))).cons y).trans (List.Perm.swap n y r)
theorem len_putS {s : List Int} (h : Ris s) (n : Int) : (putS n s).length = if n ∈ s then s.length else s.length + 1 := by
  split
  · rename_i hn
    rw [putS_in h hn]
  · rename_i hn
    rw [(putS_perm hn).length_eq, List.length_cons]
/-- Of two rising lists of the same numbers there is one. -/
theorem rising_eq : ∀ {s t : List Int}, s.Pairwise (· < ·) → t.Pairwise (· < ·) → s.Perm t → s = t
  | [], t, _, _, p => (List.Perm.nil_eq p)
  | x :: r, [], _, _, p => (List.Perm.eq_nil p)
  | x :: r, y :: q, h, k, p => by
    obtain ⟨h1, h2⟩ := List.pairwise_cons.1 h
    obtain ⟨k1, k2⟩ := List.pairwise_cons.1 k
    have e : x = y := by
      rcases List.mem_cons.1 (p.subset (List.mem_cons_self (a := x) (l := r))) with e | hx
      · exact e
      · rcases List.mem_cons.1 (p.symm.subset (List.mem_cons_self (a := y) (l := q))) with e | hy
        · exact e.symm
        · have := k1 x hx
          have := h1 y hy
          omega
    subst e
    rw [rising_eq h2 k2 ((List.perm_cons x).1 p)]
end Go.Proofs.Ytmjjkoiepoblmaa
