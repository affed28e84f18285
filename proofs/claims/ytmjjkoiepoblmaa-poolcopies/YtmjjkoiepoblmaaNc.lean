/- Rows of numbers that a slice of the call's own holds, and what the library's sort and heap make of them. -/
import Derived.Test.YtmjjkoiepoblmaaSa
import Derived.Test.YtmjjkoiepoblmaaBs
namespace Go.Proofs.Ytmjjkoiepoblmaa
open Go.RowKit Go.Sort

/-- Numbers as cells. -/
def us (xs : List Int) : List Value := xs.map (Value.int .u32)
theorem us_length (xs : List Int) : (us xs).length = xs.length := by simp [us]
theorem us_get (xs : List Int) (j : Nat) (h : j < xs.length) : (us xs)[j]? = some (.int .u32 xs[j]!) := by
  simp [us, h]
theorem us_one (xs : List Int) : ∀ u ∈ us xs, u.oneCell' = true := ints_oneCell .u32 xs
theorem own_holds {w : World} {base g n cap : Nat} {e : TypeId} {xs : List Int} (h : w.ownsRow base e 1 (.slice (some ⟨g, 0, none⟩) n cap) n (us xs)) : Holds eU w g 0 xs.toArray := by
  have hl : xs.length = n := by rw [← us_length, h.1, Nat.mul_one]
  intro j hj
  have hj2 : j < xs.length := by simpa using hj
  refine ⟨?_, h.frozenAt _⟩
  rw [h.cellAt (0 + j) (by omega), Nat.zero_add, us_get xs j hj2]
  simp [hj2]
theorem own_of_rw {w w' : World} {base g n cap : Nat} {e : TypeId} {xs : List Int} {d : Array Int} (h : w.ownsRow base e 1 (.slice (some ⟨g, 0, none⟩) n cap) n (us xs)) (R : Rw w g 0 d w') (hd : d.size = n) :
    w'.ownsRow base e 1 (.slice (some ⟨g, 0, none⟩) n cap) n (us d.toList) := by
  rcases h.2 with ⟨h', _⟩ | ⟨g', cap', cur, h', hb, hg, hnc, hcm, hcs, htake⟩
  · simp at h'
  · simp only [Value.slice.injEq, Option.some.injEq, Addr.mk.injEq, and_true, true_and] at h'
    obtain ⟨rfl, rfl⟩ := h'
    obtain ⟨c1, q1, s1⟩ := R.shape cur e _ hg
    refine ⟨by rw [us_length, Array.length_toList, hd, Nat.mul_one], .inr ⟨g, cap, c1, rfl, hb, q1, hnc, hcm, by omega, ?_⟩⟩
    rw [Nat.mul_one]
    apply List.ext_getElem?
    intro j
    by_cases hj : j < n
    · have c := (R.holds j (by omega)).1
      rw [Nat.zero_add] at c
      simp only [World.cell?, q1] at c
      rw [List.getElem?_take_of_lt hj, Array.getElem?_toList, us_get _ _ (by simp; omega)]
      simpa [hd, hj] using c
    · rw [List.getElem?_take_eq_none (by omega), List.getElem?_eq_none (by rw [us_length]; simp; omega)]
theorem own_shrink {w : World} {base g n m cap : Nat} {e : TypeId} {xs : List Int} (h : w.ownsRow base e 1 (.slice (some ⟨g, 0, none⟩) n cap) n (us xs)) (hm : m ≤ n) :
    w.ownsRow base e 1 (.slice (some ⟨g, 0, none⟩) m cap) m (us (xs.take m)) := by
  rcases h.2 with ⟨h', _⟩ | ⟨g', cap', cur, h', hb, hg, hnc, hcm, hcs, htake⟩
  · simp at h'
  · simp only [Value.slice.injEq, Option.some.injEq, Addr.mk.injEq, and_true, true_and] at h'
    obtain ⟨rfl, rfl⟩ := h'
    have hl : xs.length = n := by rw [← us_length, h.1, Nat.mul_one]
    refine ⟨by rw [us_length, List.length_take, hl, Nat.mul_one]; omega, .inr ⟨g, cap, cur, rfl, hb, hg, by omega, hcm, hcs, ?_⟩⟩
    have e1 : us (xs.take m) = (us xs).take m := by simp [us, List.map_take]
    rw [e1, ← htake, Nat.mul_one, Nat.mul_one, List.take_take, Nat.min_eq_left hm]
theorem own_len {w : World} {base n : Nat} {e : TypeId} {v : Value} {xs : List Int} (h : w.ownsRow base e 1 v n (us xs)) : xs.length = n := by rw [← us_length, h.1, Nat.mul_one]
end Go.Proofs.Ytmjjkoiepoblmaa
