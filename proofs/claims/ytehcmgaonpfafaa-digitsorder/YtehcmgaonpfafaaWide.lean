/- The contracts of package wide's functions. -/
import Derived.Test.YtehcmgaonpfafaaBase
namespace Go.Proofs.Ytehcmgaonpfafaa
open Go.RowKit
open W (hi lo addN addB subN subB cmpN dig MM)

set_option maxHeartbeats 400000 in
theorem add_any (a b : Nat) (w : World) :
    Calls Try.prog 30 #[.agg #[.int .u64 (hi a : Nat), .int .u64 (lo a : Nat)], .agg #[.int .u64 (hi b : Nat), .int .u64 (lo b : Nat)]] w fun e w' =>
      e = .returned (.tuple #[.agg #[.int .u64 (hi (addN a b) : Nat), .int .u64 (lo (addN a b) : Nat)], .bool (addB a b)]) ∧ Below w.heap.size w w' := by
  obtain ⟨c, r, c2, r2, h1, h2, h3, h4, h5, h6⟩ := W.add_parts a b
  have k1 := run_Add64 (lo a) (lo b) 0 r c (by omega) h1 h2
  have k2 := run_Add64 (hi a) (hi b) c r2 c2 h3 h4 h5
  simp only [Int.natCast_zero] at k1
  clear h1 h2 h4 h5
  rcases h6 with ⟨rfl, hB, rfl, rfl⟩ | ⟨hc2, hB, hH, hL⟩
  · have HB := Lib.hid hB; clear hB
    go_enter Try.func30, Try.ntmps30
    go_wp2
    exact bodyPost_ret (v := .tuple #[.agg #[.int .u64 (hi (addN a b) : Nat), .int .u64 (lo (addN a b) : Nat)], .bool true]) (by simp [results, Try.results30, go_sem]) rfl ⟨by rw [HB.out], by
      repeat (first | exact Below.refl _ _ | apply bal)⟩
  · have HB := Lib.hid hB; clear hB
    have HH := Lib.hid hH; clear hH
    have HL := Lib.hid hL; clear hL
    go_enter Try.func30, Try.ntmps30
    go_wp2
    exact bodyPost_ret (v := .tuple #[.agg #[.int .u64 0, .int .u64 0], .bool false]) (by simp [results, Try.results30, go_sem]) rfl ⟨by rw [HB.out, HH.out, HL.out]; rfl, by
      repeat (first | exact Below.refl _ _ | apply bal)⟩

theorem of_any (n : Int) (w : World) : Calls Try.prog 21 #[.int .u64 n] w fun e w' => e = .returned (.agg #[.int .u64 0, .int .u64 n]) ∧ Below w.heap.size w w' := by
  go_enter Try.func21, Try.ntmps21
  go_wp2
  exact bodyPost_ret (v := .agg #[.int .u64 0, .int .u64 n]) (by simp [results, Try.results21, go_sem]) rfl ⟨rfl, by
      repeat (first | exact Below.refl _ _ | apply bal)⟩

end Go.Proofs.Ytehcmgaonpfafaa
