/- The chapter's examples (the laws' own function 'fixed'): true, whatever the world. -/
import Derived.Test.YtehcmgaonpfafaaRefLoop
namespace Go.Proofs.Ytehcmgaonpfafaa
open Go.RowKit
open W (hi lo addN addB dig MM M txL isT isD dg num)

def topL : List UInt8 := [51, 52, 48, 50, 56, 50, 51, 54, 54, 57, 50, 48, 57, 51, 56, 52, 54, 51, 52, 54, 51, 51, 55, 52, 54, 48, 55, 52, 51, 49, 55, 54, 56, 50, 49, 49, 52, 53, 53]
def overL : List UInt8 := [51, 52, 48, 50, 56, 50, 51, 54, 54, 57, 50, 48, 57, 51, 56, 52, 54, 51, 52, 54, 51, 51, 55, 52, 54, 48, 55, 52, 51, 49, 55, 54, 56, 50, 49, 49, 52, 53, 54]
theorem topL_isT : isT topL = true := by decide +kernel
theorem topL_num : num topL = W.topN := by decide +kernel
theorem overL_isT : isT overL = true := by decide +kernel
theorem overL_num : num overL = MM := by decide +kernel
theorem topL_txL : txL W.topN = topL := W.txL_of topL_isT topL_num
theorem read_top (w : World) : Calls Try.prog 8 #[.string ⟨#[51, 52, 48, 50, 56, 50, 51, 54, 54, 57, 50, 48, 57, 51, 56, 52, 54, 51, 52, 54, 51, 51, 55, 52, 54, 48, 55, 52, 51, 49, 55, 54, 56, 50, 49, 49, 52, 53, 53]⟩] w fun e w' =>
    e = .returned (.tuple #[.agg #[.int .u64 18446744073709551615, .int .u64 18446744073709551615], .int .i64 0]) ∧ Below w.heap.size w w' := by
  have h := read_any topL (by decide) w
  have k := read_ok topL_isT (by rw [topL_num]; exact W.topN_lt)
  unfold ReadPost at h
  rw [k.1, k.2, topL_num, W.topN_hi, W.topN_lo] at h
  exact h
theorem read_past (w : World) : Calls Try.prog 8 #[.string ⟨#[51, 52, 48, 50, 56, 50, 51, 54, 54, 57, 50, 48, 57, 51, 56, 52, 54, 51, 52, 54, 51, 51, 55, 52, 54, 48, 55, 52, 51, 49, 55, 54, 56, 50, 49, 49, 52, 53, 54]⟩] w fun e w' =>
    e = .returned (.tuple #[.agg #[.int .u64 0, .int .u64 0], .int .i64 9]) ∧ Below w.heap.size w w' := by
  have h := read_any overL (by decide) w
  have k := read_over overL_isT (by rw [overL_num]; omega)
  unfold ReadPost at h
  rw [k.1, k.2] at h
  exact h
theorem read_007 (w : World) : Calls Try.prog 8 #[.string ⟨#[48, 48, 55]⟩] w fun e w' =>
    e = .returned (.tuple #[.agg #[.int .u64 0, .int .u64 0], .int .i64 2]) ∧ Below w.heap.size w w' := by
  have h := read_any [48, 48, 55] (by decide) w
  have k := read_form (l := [48, 48, 55]) (by decide +kernel)
  unfold ReadPost at h
  rw [k.1, k.2] at h
  exact h
theorem text_top (w : World) : Calls Try.prog 7 #[.agg #[.int .u64 18446744073709551615, .int .u64 18446744073709551615]] w fun e w' =>
    e = .returned (.string ⟨#[51, 52, 48, 50, 56, 50, 51, 54, 54, 57, 50, 48, 57, 51, 56, 52, 54, 51, 52, 54, 51, 51, 55, 52, 54, 48, 55, 52, 51, 49, 55, 54, 56, 50, 49, 49, 52, 53, 53]⟩) ∧ Below w.heap.size w w' := by
  have h := text_any W.topN W.topN_lt w
  rw [W.topN_hi, W.topN_lo, topL_txL] at h
  exact h

set_option maxRecDepth 100000 in
set_option maxHeartbeats 800000 in
theorem fixed_any (w : World) : Calls Try.prog 11 #[] w fun e w' => e = .returned (.bool true) ∧ Below w.heap.size w w' := by
  go_enter Try.func11, Try.ntmps11
  go_wp2_with fail
  refine (read_top _).mono ?_
  rintro e w1 ⟨rfl, hb1⟩
  go_wp2_with fail
  refine (read_past _).mono ?_
  rintro e w2 ⟨rfl, hb2⟩
  go_wp2_with fail
  refine (read_007 _).mono ?_
  rintro e w3 ⟨rfl, hb3⟩
  go_wp2_with fail
  have a0 := kept (p := ⟨w1.heap.size, 0, none⟩) (x := .int .u64 18446744073709551615) (by simp [go_sem]) hb2
  have a1 := kept (p := ⟨w1.heap.size, 1, none⟩) (x := .int .u64 18446744073709551615) (by simp [go_sem]) hb2
  have hA := btr (alb (w := w2) (.cells #[.int .u64 0, .int .u64 0] 24)) hb3
  replace a0 := alc (kept a0 hA) (.cells #[.int .u64 0, .int .u64 0] 24)
  replace a1 := alc (kept a1 hA) (.cells #[.int .u64 0, .int .u64 0] 24)
  have hB : Below w.heap.size w (w3.alloc (.cells #[.int .u64 0, .int .u64 0] 24)) := bal (btr (btr (bal hb1 _) hb2) hA) _
  clear hA hb1 hb2 hb3
  generalize w3.alloc (.cells #[.int .u64 0, .int .u64 0] 24) = v at *
  generalize w1.heap.size = n1 at *
  replace a0 := cell_regrown a0
  replace a1 := cell_regrown a1
  refine wp_region_quiet_below (by kernel_rfl) (by kernel_rfl) ?_
  repeat (first | go_big_quiet_step (first | (go_at_call 22; with_reducible exact Calls.regrown_of (reftop_any _)) | (go_at_call 7; with_reducible exact Calls.regrown_of (text_top _))))
  refine wpQuiet_nil ?_
  rintro _ ⟨⟨dq, osq⟩, rfl⟩
  go_wp2
  go_ret
  exact ⟨rfl, btr hB (below_regrown v dq osq)⟩
end Go.Proofs.Ytehcmgaonpfafaa
