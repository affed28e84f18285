/- The statements' fixed example. -/
import Derived.Test.YtnhihkngelckoaaDoorGq
namespace Go.Proofs.YtnhihkngelckoaaDoor
open Go.RowKit
open C (crc)

theorem fixed_page : (((G.page 7 3 [9]).drop 4).take 9) = [0, 0, 0, 7, 3, 0, 1, 0, 9] := by decide +kernel
theorem fixed_any (w : World) (hT : Tab w) : Calls Tryd.prog 7 #[] w fun e w' => e = .returned (.bool true) ∧ Below w.heap.size w w' := by
  have H := Lib.hid (seal_page 7 (by omega) 3 _ [9] _ (lit_one w 9) (by simp) (hT.below (alb _)))
  clear hT
  have e9 : (UInt8.toNat 9 : Int) = 9 := rfl
  have e3 : (UInt8.toNat 3 : Int) = 3 := rfl
  have e7 : ((7 : Nat) : Int) = 7 := rfl
  rw [e9, e3, e7] at H
  have HP := Lib.hid fixed_page
  generalize G.page 7 3 [9] = P at *
  go_enter Tryd.func7, Tryd.ntmps7
  go_wp2_with fail
  refine H.out.mono ?_
  rintro e w1 ⟨rfl, hb, hB⟩
  have hcv := (hb.byts.part 4 13 (by omega) (by omega) 508 (by omega)).conv
  rw [HP.out] at hcv
  replace hB := btr (alb _) hB
  clear hb H
  generalize (w.alloc (.cells #[.int .u8 9] 5)).heap.size = g at *
  simp only [str] at hcv
  go_wp2
  go_ret
  exact ⟨rfl, hB⟩
end Go.Proofs.YtnhihkngelckoaaDoor
