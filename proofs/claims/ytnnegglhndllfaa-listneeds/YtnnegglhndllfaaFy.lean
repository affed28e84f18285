/- ListNeeds. -/
import Derived.Test.YtnnegglhndllfaaFx
namespace Go.Proofs.Ytnnegglhndllfaa
open Go.RowKit

set_option maxHeartbeats 1600000 in
theorem needs_any (z : Int) (w : World) : Calls Try.prog 3 #[.int .i64 z] w fun e w' => e = .returned (.bool true) ∧ Below w.heap.size w w' := by
  have HF := Lib.hid (fun W : World => fixed_any W)
  by_cases hz : 100000 < z
  · go_enter Try.func3, Try.ntmps3
    go_wp2_with fail
    refine (HF.out _).mono ?_
    rintro e w2 ⟨rfl, hB⟩
    go_wp2
    go_ret
    exact ⟨rfl, hB⟩
  · have hz1 : z ≤ 100000 := by omega
    have HN := Lib.hid (fun W : World => need_any z hz1 W)
    have HM := Lib.hid (fun W : World => refneed_any z hz1 W)
    rcases L.need_law z hz1 with ⟨h1, h2⟩ | ⟨h1, h2, h3, h4, h5⟩
    · rw [h2] at HN HM
      clear h2
      go_enter Try.func3, Try.ntmps3
      go_wp2_with fail
      refine (HN.out _).mono ?_
      rintro e w2 ⟨rfl, rfl⟩
      go_wp2_with fail
      refine (HF.out _).mono ?_
      rintro e w2 ⟨rfl, hB⟩
      go_wp2_with fail
      refine (HM.out _).mono ?_
      rintro e w3 ⟨rfl, rfl⟩
      go_wp2
      go_ret
      exact ⟨rfl, hB⟩
    · have d1 : decide (z < 1) = false := decide_eq_false (by omega)
      generalize L.needZ z = k at *
      have d2 : decide (1 ≤ k) = true := decide_eq_true h2
      have d3 : decide (z - k ≤ 123 * k) = true := decide_eq_true h4
      have d4 : decide (123 * (k - 1) < z - (k - 1)) = true := decide_eq_true h5
      go_enter Try.func3, Try.ntmps3
      go_wp2_with fail
      refine (HN.out _).mono ?_
      rintro e w2 ⟨rfl, rfl⟩
      go_wp2_with fail
      refine (HF.out _).mono ?_
      rintro e w2 ⟨rfl, hB⟩
      go_wp2_with fail
      refine (HM.out _).mono ?_
      rintro e w3 ⟨rfl, rfl⟩
      go_wp2
      go_ret
      exact ⟨rfl, hB⟩
end Go.Proofs.Ytnnegglhndllfaa
