/- The document's own twice: a row of decimal digits, doubled. -/
import Derived.Test.YtehcmgaonpfafaaText
namespace Go.Proofs.Ytehcmgaonpfafaa
open Go.RowKit
open W (hi lo addN addB dig MM M tw low nz alld)

/-- Digits as values. -/
def ivs (l : List Nat) : List Value := l.map fun d => .int .i64 ((d : Nat) : Int)
theorem ivs_length (l : List Nat) : (ivs l).length = l.length := by simp [ivs]
theorem ivs_append (l m : List Nat) : ivs (l ++ m) = ivs l ++ ivs m := by simp [ivs]
theorem ivs_get (l : List Nat) (j : Nat) (h : j < l.length) : (ivs l)[j]? = some (.int .i64 ((l[j] : Nat) : Int)) := by simp [ivs, h]
/-- A slice of digits that stays: its cells, wherever they lie. -/
def Digs (w : World) (v : Value) (l : List Nat) : Prop := ∃ A c, v = .slice A l.length c ∧ (l ≠ [] → ∃ g, A = some ⟨g, 0, none⟩ ∧ ∀ j (h : j < l.length), w.cell? ⟨g, j, none⟩ = some (.int .i64 ((l[j] : Nat) : Int)))
theorem Digs.below {w w1 : World} {v : Value} {l : List Nat} (h : Digs w v l) (hb : Below w.heap.size w w1) : Digs w1 v l := by
  obtain ⟨A, c, e, h⟩ := h
  refine ⟨A, c, e, fun hl => ?_⟩
  obtain ⟨g, e2, h2⟩ := h hl
  exact ⟨g, e2, fun j hj => kept (h2 j hj) hb⟩
theorem Digs.own {w : World} {base : Nat} {v : Value} {l : List Nat} (h : w.ownsRow base 3 1 v l.length (ivs l)) : Digs w v l := by
  rcases Go.Joins.ownsRow_forms h with ⟨e, h0⟩ | ⟨g, cap, e⟩
  · have : l = [] := List.length_eq_zero_iff.1 h0
    subst this
    exact ⟨none, 0, e, fun h => absurd rfl h⟩
  · subst e
    refine ⟨_, _, rfl, fun _ => ⟨g, rfl, fun j hj => ?_⟩⟩
    rw [h.cellAt j (by omega), ivs_get l j hj]
/-- Behind k digits: what is carried, what is done. -/
def twC (l : List Nat) (b : Nat) : Nat → Nat
  | 0 => b
  | k + 1 => (2 * l.getD k 0 + twC l b k) / 10
def twO (l : List Nat) (b : Nat) : Nat → List Nat
  | 0 => []
  | k + 1 => twO l b k ++ [(2 * l.getD k 0 + twC l b k) % 10]
theorem twO_length (l : List Nat) (b k : Nat) : (twO l b k).length = k := by
  induction k with
  | zero => rfl
  | succ k ih => simp [twO, ih]
theorem twC_le (l : List Nat) (b k : Nat) (hb : b ≤ 1) (h : alld l = true) : twC l b k ≤ 1 := by
  induction k with
  | zero => exact hb
  | succ k ih =>
    simp only [twC]
    by_cases hk : k < l.length
    · have := (List.all_eq_true.1 h) l[k] (List.getElem_mem hk)
      simp only [decide_eq_true_eq] at this
      have e : l.getD k 0 = l[k] := by simp [hk]
      omega
    · have e : l.getD k 0 = 0 := by simp [List.getD, List.getElem?_eq_none (Nat.le_of_not_lt hk)]
      omega
theorem tw_split (l : List Nat) (b k : Nat) (hk : k ≤ l.length) : tw l b = twO l b k ++ tw (l.drop k) (twC l b k) := by
  induction k with
  | zero => simp [twO, twC]
  | succ k ih =>
    rw [ih (by omega), List.drop_eq_getElem_cons (show k < l.length by omega)]
    have e : l.getD k 0 = l[k] := by simp [show k < l.length by omega]
    simp only [tw, twO, twC, e, List.append_assoc, List.singleton_append]
theorem tw_end (l : List Nat) (b : Nat) : tw l b = twO l b l.length ++ (if 0 < twC l b l.length then [twC l b l.length] else []) := by
  rw [tw_split l b l.length (Nat.le_refl _), List.drop_length]
  rfl
def TwicePost (l : List Nat) (b : Nat) (w : World) (e : Ending) (w' : World) : Prop :=
  ∃ v, e = .returned v ∧ w'.ownsRow w.heap.size 3 1 v (tw l b).length (ivs (tw l b)) ∧ Below w.heap.size w w'

set_option maxHeartbeats 400000 in
theorem twice_any (v : Value) (l : List Nat) (b : Nat) (w : World) (hv : Digs w v l) (hb : b ≤ 1) (ha : alld l = true) (hl : l.length ≤ 1000) :
    Calls Try.prog 24 #[v, .int .i64 (b : Int)] w (TwicePost l b w) := by
  obtain ⟨i0, hi0, hz0, hz1, hz2⟩ := info_parts Try.info3
  obtain ⟨A, c, rfl, hcell⟩ := hv
  have HC := Lib.hid hcell; clear hcell
  have HB : Hid (∀ k, twC l b k ≤ 1) := fun k => twC_le l b k hb ha
  have HD : Hid (∀ k (h : k < l.length), l[k] < 10) := fun k h => by
    have := (List.all_eq_true.1 ha) l[k] (List.getElem_mem h)
    simpa using this
  clear hb ha
  go_enter Try.func24, Try.ntmps24
  go_wp2
  go_loopw [5, 6, 7] (fun o t i wr => ∃ k : Nat, k ≤ l.length ∧ i = .int .i64 (k : Int) ∧ t = .int .i64 ((twC l b k : Nat) : Int) ∧ wr.ownsRow w.heap.size 3 1 o k (ivs (twO l b k)) ∧ Below w.heap.size w wr)
    (fun _ _ i _ => l.length - (intOf i).toNat)
  case atStart =>
    refine ⟨0, by omega, rfl, rfl, ?_, alb _⟩
    exact World.ownsRow_lit w #[] 0 (Nat.le_refl _) (by unfold maxLen; omega) rfl
  case round =>
    obtain ⟨k, hk, rfl, rfl, hown, hB⟩ := hrel
    have hbs := hB.size
    by_cases hlt : k < l.length
    · obtain ⟨g, rfl, hcell⟩ := HC.out (fun e => by subst e; simp at hlt)
      have c0 := kept (hcell k hlt) hB
      have q1 := HD.out k hlt
      have q2 := HB.out k
      have HE := Lib.hid (show l.getD k 0 = l[k] by simp [hlt])
      have HO : Hid (twO l b (k + 1) = twO l b k ++ [(2 * l.getD k 0 + twC l b k) % 10]) := rfl
      have HT : Hid (twC l b (k + 1) = (2 * l.getD k 0 + twC l b k) / 10) := rfl
      rw [HE.out] at HO HT
      clear hcell HE
      generalize l[k] = d at *
      generalize twC l b k = t at *
      go_wp2_with (first
        | (at_builtin; refine wpList_append_own _ rfl _ _ 50 rfl w.heap.size 3 i0 _ 1 8 Try.underlying50 hi0 hz0 hz1 hz2 rfl (by omega) _ _ _ rfl (hown.alloc _) ⟨wr.heap.size, 0, none⟩ 1 1 [.int .i64 ((2 * (d : Int) + (t : Int)) % 10)] rfl rfl ?c1 ?c2 ?c3 ?c4 ?c5 ?_)
        | go_in)
      case c1 =>
        intro j u hj
        match j, hj with
        | 0, hj => simp at hj; subst hj; simp [Addr.add, go_sem]
      case c2 => intro u hu; simp at hu; subst hu; rfl
      case c3 => unfold maxLen; omega
      case c4 => omega
      case c5 => simp; omega
      intro v' w2 hown' hgrow _
      have hB' : Below w.heap.size w w2 := (bal hB _).grown hgrow (by simp; omega) (fun g hg => (hown.lt g hg).1)
      clear hown hgrow c0
      go_wp2
      go_roundw
      case rel =>
        refine ⟨k + 1, by omega, by go_num, by rw [HT.out]; go_num, ?_, hB'⟩
        rw [HO.out, ivs_append]
        exact hown'
      case measure => simp [intOf]; omega
    · have hk2 : k = l.length := by omega
      have HE := Lib.hid (tw_end l b)
      rw [← hk2] at HE
      have HL := Lib.hid (twO_length l b k)
      have q2 := HB.out k
      clear hk2
      by_cases hc : 0 < twC l b k
      · rw [if_pos hc] at HE
        generalize twC l b k = t at *
        generalize twO l b k = o at *
        go_wp2_with (first
          | (at_builtin; refine wpList_append_own _ rfl _ _ 50 rfl w.heap.size 3 i0 _ 1 8 Try.underlying50 hi0 hz0 hz1 hz2 rfl (by omega) _ _ _ rfl (hown.alloc _) ⟨wr.heap.size, 0, none⟩ 1 1 [.int .i64 (t : Int)] rfl rfl ?d1 ?d2 ?d3 ?d4 ?d5 ?_)
          | go_in)
        case d1 =>
          intro j u hj
          match j, hj with
          | 0, hj => simp at hj; subst hj; simp [Addr.add, go_sem]
        case d2 => intro u hu; simp at hu; subst hu; rfl
        case d3 => unfold maxLen; omega
        case d4 => omega
        case d5 => simp; omega
        intro v' w2 hown' hgrow _
        have hB' : Below w.heap.size w w2 := (bal hB _).grown hgrow (by simp; omega) (fun g hg => (hown.lt g hg).1)
        clear hown hgrow
        go_wp2
        go_ret
        refine ⟨_, rfl, ?_, hB'⟩
        rw [HE.out, ivs_append, List.length_append, HL.out]
        exact hown'
      · rw [if_neg hc, List.append_nil] at HE
        generalize twC l b k = t at *
        generalize twO l b k = o at *
        go_wp2
        go_ret
        refine ⟨_, rfl, ?_, hB⟩
        rw [HE.out, HL.out]
        exact hown
end Go.Proofs.Ytehcmgaonpfafaa
