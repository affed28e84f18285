/- The contracts of package wide's functions. -/
import Derived.Test.YtfofhnaomlcioaaBase
namespace Go.Proofs.Ytfofhnaomlcioaa
open Go.RowKit
open W (hi lo addN addB subN subB cmpN dig MM)

theorem of_any (n : Int) (w : World) : Calls Try.prog 35 #[.int .u64 n] w fun e w' => e = .returned (.agg #[.int .u64 0, .int .u64 n]) ∧ Below w.heap.size w w' := by
  go_enter Try.func35, Try.ntmps35
  go_wp2
  exact bodyPost_ret (v := .agg #[.int .u64 0, .int .u64 n]) (by simp [results, Try.results35, go_sem]) rfl ⟨rfl, by
      repeat (first | exact Below.refl _ _ | apply bal)⟩

end Go.Proofs.Ytfofhnaomlcioaa
