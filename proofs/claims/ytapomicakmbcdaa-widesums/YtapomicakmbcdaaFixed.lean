/- The chapter's examples (the law's own function 'fixed'): true, whatever the world. -/
import Derived.Test.YtapomicakmbcdaaRefTwo
namespace Go.Proofs.Ytapomicakmbcdaa
open Go.RowKit
open W (hi lo addN addB subN subB cmpN dig MM)

theorem add_at {x1 x2 x3 x4 y1 y2 : Int} {ok : Bool} (a b : Nat) (h1 : x1 = (hi a : Nat)) (h2 : x2 = (lo a : Nat)) (h3 : x3 = (hi b : Nat)) (h4 : x4 = (lo b : Nat)) (h5 : y1 = (hi (addN a b) : Nat)) (h6 : y2 = (lo (addN a b) : Nat)) (h7 : ok = addB a b) (w : World) :
    Calls Try.prog 8 #[.agg #[.int .u64 x1, .int .u64 x2], .agg #[.int .u64 x3, .int .u64 x4]] w fun e w' => e = .returned (.tuple #[.agg #[.int .u64 y1, .int .u64 y2], .bool ok]) ∧ Below w.heap.size w w' := by
  rw [h1, h2, h3, h4, h5, h6, h7]; exact add_any a b w
theorem rest_at {x1 x2 x3 x4 y1 y2 : Int} (a b : Nat) (ha : a < MM) (hb : b < MM) (h1 : x1 = (hi a : Nat)) (h2 : x2 = (lo a : Nat)) (h3 : x3 = (hi b : Nat)) (h4 : x4 = (lo b : Nat)) (h5 : y1 = (hi (subN a b) : Nat)) (h6 : y2 = (lo (subN a b) : Nat)) (w : World) :
    Calls Try.prog 13 #[.agg #[.int .u64 x1, .int .u64 x2], .agg #[.int .u64 x3, .int .u64 x4]] w fun e w' => e = .returned (.agg #[.int .u64 y1, .int .u64 y2]) ∧ Below w.heap.size w w' := by
  rw [h1, h2, h3, h4, h5, h6]; exact rest_any a b ha hb w

theorem add_one (w : World) : Calls Try.prog 8 #[.agg #[.int .u64 0, .int .u64 18446744073709551615], .agg #[.int .u64 0, .int .u64 1]] w fun e w' => e = .returned (.tuple #[.agg #[.int .u64 1, .int .u64 0], .bool true]) ∧ Below w.heap.size w w' :=
  add_at 18446744073709551615 1 (by decide) (by decide) (by decide) (by decide) (by decide) (by decide) (by decide) w
theorem add_top (w : World) : Calls Try.prog 8 #[.agg #[.int .u64 18446744073709551615, .int .u64 18446744073709551615], .agg #[.int .u64 0, .int .u64 1]] w fun e w' => e = .returned (.tuple #[.agg #[.int .u64 0, .int .u64 0], .bool false]) ∧ Below w.heap.size w w' :=
  add_at W.topN 1 (by decide) (by decide) (by decide) (by decide) (by decide) (by decide) (by decide) w
theorem rest_35 (w : World) : Calls Try.prog 13 #[.agg #[.int .u64 0, .int .u64 3], .agg #[.int .u64 0, .int .u64 5]] w fun e w' => e = .returned (.agg #[.int .u64 0, .int .u64 0]) ∧ Below w.heap.size w w' :=
  rest_at 3 5 (by decide) (by decide) (by decide) (by decide) (by decide) (by decide) (by decide) (by decide) w

set_option maxHeartbeats 800000 in
theorem fixed_any (w : World) : Calls Try.prog 12 #[] w fun e w' => e = .returned (.bool true) ∧ Below w.heap.size w w' := by
  go_enter Try.func12, Try.ntmps12
  go_wp2_with fail
  refine (of_any _ _).mono ?_
  rintro e w1 ⟨rfl, hb1⟩
  go_wp2_with fail
  refine (add_one _).mono ?_
  rintro e w2 ⟨rfl, hb2⟩
  go_wp2_with fail
  refine (top_any _).mono ?_
  rintro e w3 ⟨rfl, hb3⟩
  go_wp2_with fail
  refine (of_any _ _).mono ?_
  rintro e w4 ⟨rfl, hb4⟩
  go_wp2_with fail
  refine (add_top _).mono ?_
  rintro e w5 ⟨rfl, hb5⟩
  have hB3 := btr (btr (btr hb3 hb4) hb5) (bal (Below.refl _ _) (.cells #[.int .u64 0, .int .u64 0] 24))
  have c0 := kept (p := ⟨w2.heap.size, 0, none⟩) (x := .int .u64 1) (by simp [go_sem]) hB3
  have c1 := kept (p := ⟨w2.heap.size, 1, none⟩) (x := .int .u64 0) (by simp [go_sem]) hB3
  go_wp2_with fail
  refine (of_any _ _).mono ?_
  rintro e w6 ⟨rfl, hb6⟩
  go_wp2_with fail
  refine (of_any _ _).mono ?_
  rintro e w7 ⟨rfl, hb7⟩
  go_wp2_with fail
  refine (rest_35 _).mono ?_
  rintro e w8 ⟨rfl, hb8⟩
  go_wp2
  go_ret
  refine ⟨rfl, ?_⟩
  refine btr (btr (btr (btr ?_ hB3) hb6) hb7) hb8
  exact bal (btr hb1 hb2) _
end Go.Proofs.Ytapomicakmbcdaa
