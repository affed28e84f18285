/- The library's sort at uint32: the two scans of a part, plain mathematics; a store behind a store. -/
import Derived.Test.YtmjjkoiepoblmaaSa
import Derived.Deep.DeepCutAuto
import Derived.Deep.Cut
namespace Go.Proofs.Ytmjjkoiepoblmaa
open Go.RowKit Go.Sort

theorem up_go {q : Int → Bool} {d : Array Int} {j i : Nat} (h : (decide (i ≤ j) && q d[i]!) = true) : scanUp q d j i = scanUp q d j (i + 1) := by
  rw [scanUp.eq_def q d j i, if_pos h]
theorem up_end {q : Int → Bool} {d : Array Int} {j i : Nat} (h : (decide (i ≤ j) && q d[i]!) = false) : scanUp q d j i = i := by
  rw [scanUp.eq_def q d j i, if_neg (by simp [h])]
theorem down_go {q : Int → Bool} {d : Array Int} {j i : Nat} (hi : 0 < i) (h : (decide (i ≤ j) && q d[j]!) = true) : scanDown q d i j = scanDown q d i (j - 1) := by
  rcases j with _ | j
  · simp at h; omega
  · rw [scanDown, if_pos h]
    rfl
theorem down_end {q : Int → Bool} {d : Array Int} {j i : Nat} (h : (decide (i ≤ j) && q d[j]!) = false) : scanDown q d i j = j := by
  rcases j with _ | j
  · rfl
  · rw [scanDown, if_neg (by simp [h])]
theorem set_some {w : World} {p q : Addr} {x v : Value} (h : w.cell? q = some v) : ∃ v', (w.setCell p x).cell? q = some v' := by
  by_cases e : p = q
  · subst e
    exact ⟨x, World.cell?_setCell_same _ _ _ h⟩
  · exact ⟨v, by rw [World.cell?_setCell_other _ _ _ _ (fun k => e (by rw [k]))]; exact h⟩
end Go.Proofs.Ytmjjkoiepoblmaa
