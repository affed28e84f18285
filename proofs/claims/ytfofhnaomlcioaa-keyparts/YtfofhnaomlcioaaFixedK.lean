/- The chapter's examples (the laws' own function 'fixed'): true, whatever the world. -/
import Derived.Test.YtfofhnaomlcioaaRefNextK
import Derived.Test.YtfofhnaomlcioaaRefCmpK
import Derived.Test.YtfofhnaomlcioaaBegin
import Derived.Test.YtfofhnaomlcioaaOpenK
namespace Go.Proofs.Ytfofhnaomlcioaa
open Go.RowKit
open W (hi lo dig MM M cmpN)

theorem lit_a (w : World) : Byts (w.alloc (.cells #[.int .u8 1, .int .u8 255] 5)) (.slice (some ⟨w.heap.size, 0, none⟩) 2 2) [1, 255] := Byts.lit w [1, 255] (by simp)
theorem lit_b (w : World) : Byts (w.alloc (.cells #[.int .u8 255, .int .u8 255] 5)) (.slice (some ⟨w.heap.size, 0, none⟩) 2 2) [255, 255] := Byts.lit w [255, 255] (by simp)
theorem lit_c (w : World) : Byts (w.alloc (.cells #[.int .u8 7] 5)) (.slice (some ⟨w.heap.size, 0, none⟩) 1 1) [7] := Byts.lit w [7] (by simp)
theorem nx_a : nx [1, 255] = some [2, 0] := by decide
theorem nx_b : nx [255, 255] = none := by decide
theorem fill_a : fillL [7] (cl 3) 0 = [7, 0, 0] := by decide
theorem fill_b : fillL [7] (cl 3) 255 = [7, 255, 255] := by decide

set_option maxHeartbeats 400000 in
theorem fixed_any (w : World) : Calls Try.prog 7 #[] w fun e w' => e = .returned (.bool true) ∧ Below w.heap.size w w' := by
  go_enter Try.func7, Try.ntmps7
  go_wp2_with fail
  refine (keynext_any _ _ _ (lit_a w) (by simp)).mono ?_
  rintro e w1 ⟨v1, rfl, b1, h1⟩
  rw [nx_a] at b1 ⊢
  simp only [Option.getD_some, Option.isSome_some] at b1 ⊢
  have hB := btr (alb _) h1
  clear h1
  go_wp2_with fail
  refine (keynext_any _ _ _ (lit_b w1) (by simp)).mono ?_
  rintro e w2 ⟨v2, rfl, b2, h2⟩
  rw [nx_b] at b2 ⊢
  simp only [Option.getD_none, Option.isSome_none] at b2 ⊢
  replace b1 := (b1.below (alb _)).below h2
  replace hB := btr (bal hB _) h2
  clear h2 b2
  have hc1 : (convert 22 9 v1).run Try.prog w2 = .ok (.string ⟨#[2, 0]⟩) w2 := b1.conv
  go_wp2_with fail
  refine (low_any _ _ _ _ (lit_c w2)).mono ?_
  rintro e w3 ⟨v3, rfl, b3, h3⟩
  rw [fill_a] at b3
  replace hB := btr (bal hB _) h3
  have hc3 : (convert 22 9 v3).run Try.prog w3 = .ok (.string ⟨#[7, 0, 0]⟩) w3 := b3.conv
  clear h3 hc1
  go_wp2_with fail
  refine (high_any _ _ _ _ (lit_c w3)).mono ?_
  rintro e w4 ⟨v4, rfl, b4, h4⟩
  rw [fill_b] at b4
  replace hB := btr (bal hB _) h4
  have hc4 : (convert 22 9 v4).run Try.prog w4 = .ok (.string ⟨#[7, 255, 255]⟩) w4 := b4.conv
  clear h4 hc3
  go_wp2
  go_ret
  exact ⟨rfl, hB⟩
end Go.Proofs.Ytfofhnaomlcioaa
