/- The walk of the law WidePlays. -/
import Derived.Test.YtapomicakmbcdaaFixed
namespace Go.Proofs.Ytapomicakmbcdaa
open Go.RowKit
open W (hi lo addN addB subN subB cmpN dig MM)

set_option maxHeartbeats 1600000 in
theorem plays_any (a b : Nat) (ha : a < MM) (hb : b < MM) (w : World) :
    Calls Try.prog 3 #[.agg #[.int .u64 (hi a : Nat), .int .u64 (lo a : Nat)], .agg #[.int .u64 (hi b : Nat), .int .u64 (lo b : Nat)]] w fun e w' => e = .returned (.bool true) ∧ Below w.heap.size w w' := by
  go_enter Try.func3, Try.ntmps3
  go_wp2_with fail
  refine (add_any a b _).mono ?_
  rintro e w1 ⟨rfl, hb1⟩
  have a0 := kept (p := ⟨w.heap.size, 0, none⟩) (x := .int .u64 (hi a : Nat)) (by simp [go_sem]) hb1
  have a1 := kept (p := ⟨w.heap.size, 1, none⟩) (x := .int .u64 (lo a : Nat)) (by simp [go_sem]) hb1
  have b0 := kept (p := ⟨w.heap.size + 1, 0, none⟩) (x := .int .u64 (hi b : Nat)) (by simp [go_sem]) hb1
  have b1 := kept (p := ⟨w.heap.size + 1, 1, none⟩) (x := .int .u64 (lo b : Nat)) (by simp [go_sem]) hb1
  have hB : Below w.heap.size w w1 := btr (bal (bal (Below.refl _ _) _) _) hb1
  have hz1 : w.heap.size + 1 < w1.heap.size := World.block_lt_of_cell? w1 _ b0
  have hz0 : w.heap.size < w1.heap.size := World.block_lt_of_cell? w1 _ a0
  clear hb1
  go_wp2_with fail
  refine (refadd_any a b ha hb _).mono ?_
  rintro e w2 ⟨rfl, hb2⟩
  have hA := bal (Below.refl w1.heap.size w1) (.cells #[.int .u64 (hi (addN a b) : Nat), .int .u64 (lo (addN a b) : Nat)] 24)
  replace a0 := kept a0 (btr hA hb2)
  replace a1 := kept a1 (btr hA hb2)
  replace b0 := kept b0 (btr hA hb2)
  replace b1 := kept b1 (btr hA hb2)
  have s0 := kept (p := ⟨w1.heap.size, 0, none⟩) (x := .int .u64 (hi (addN a b) : Nat)) (by simp [go_sem]) hb2
  have s1 := kept (p := ⟨w1.heap.size, 1, none⟩) (x := .int .u64 (lo (addN a b) : Nat)) (by simp [go_sem]) hb2
  replace hB := btr hB (btr hA hb2)
  have hz2 : w.heap.size + 1 < w2.heap.size := World.block_lt_of_cell? w2 _ b0
  have hz3 : w.heap.size < w2.heap.size := World.block_lt_of_cell? w2 _ a0
  clear hb2 hA
  go_wp2_with fail
  refine (sub_any a b ha hb _).mono ?_
  rintro e w3 ⟨rfl, hb3⟩
  have hA := bal (Below.refl w2.heap.size w2) (.cells #[.int .u64 (hi (addN a b) : Nat), .int .u64 (lo (addN a b) : Nat)] 24)
  replace a0 := kept a0 (btr hA hb3)
  replace a1 := kept a1 (btr hA hb3)
  replace b0 := kept b0 (btr hA hb3)
  replace b1 := kept b1 (btr hA hb3)
  replace s0 := kept s0 (btr hA hb3)
  replace s1 := kept s1 (btr hA hb3)
  have t0 := kept (p := ⟨w2.heap.size, 0, none⟩) (x := .int .u64 (hi (addN a b) : Nat)) (by simp [go_sem]) hb3
  have t1 := kept (p := ⟨w2.heap.size, 1, none⟩) (x := .int .u64 (lo (addN a b) : Nat)) (by simp [go_sem]) hb3
  replace hB := btr hB (btr hA hb3)
  have hz4 : w.heap.size + 1 < w3.heap.size := World.block_lt_of_cell? w3 _ b0
  have hz5 : w.heap.size < w3.heap.size := World.block_lt_of_cell? w3 _ a0
  clear hb3 hA
  go_wp2_with fail
  refine (refsub_any a b ha hb _).mono ?_
  rintro e w4 ⟨rfl, hb4⟩
  have hA := bal (Below.refl w3.heap.size w3) (.cells #[.int .u64 (hi (subN a b) : Nat), .int .u64 (lo (subN a b) : Nat)] 24)
  replace a0 := kept a0 (btr hA hb4)
  replace a1 := kept a1 (btr hA hb4)
  replace b0 := kept b0 (btr hA hb4)
  replace b1 := kept b1 (btr hA hb4)
  replace s0 := kept s0 (btr hA hb4)
  replace s1 := kept s1 (btr hA hb4)
  replace t0 := kept t0 (btr hA hb4)
  replace t1 := kept t1 (btr hA hb4)
  have d0 := kept (p := ⟨w3.heap.size, 0, none⟩) (x := .int .u64 (hi (subN a b) : Nat)) (by simp [go_sem]) hb4
  have d1 := kept (p := ⟨w3.heap.size, 1, none⟩) (x := .int .u64 (lo (subN a b) : Nat)) (by simp [go_sem]) hb4
  replace hB := btr hB (btr hA hb4)
  clear hb4 hA
  go_wp2_with fail
  have hA := bal (Below.refl w4.heap.size w4) (.cells #[.int .u64 (hi (subN a b) : Nat), .int .u64 (lo (subN a b) : Nat)] 24)
  replace a0 := kept a0 hA
  replace a1 := kept a1 hA
  replace b0 := kept b0 hA
  replace b1 := kept b1 hA
  replace s0 := kept s0 hA
  replace s1 := kept s1 hA
  replace t0 := kept t0 hA
  replace t1 := kept t1 hA
  replace d0 := kept d0 hA
  replace d1 := kept d1 hA
  have e0 : (w4.alloc (.cells #[.int .u64 (hi (subN a b) : Nat), .int .u64 (lo (subN a b) : Nat)] 24)).cell? ⟨w4.heap.size, 0, none⟩ = some (.int .u64 (hi (subN a b) : Nat)) := by simp [go_sem]
  have e1 : (w4.alloc (.cells #[.int .u64 (hi (subN a b) : Nat), .int .u64 (lo (subN a b) : Nat)] 24)).cell? ⟨w4.heap.size, 1, none⟩ = some (.int .u64 (lo (subN a b) : Nat)) := by simp [go_sem]
  replace hB := btr hB hA
  clear hA hz0 hz1 hz2 hz3 hz4 hz5
  generalize w4.alloc (.cells #[.int .u64 (hi (subN a b) : Nat), .int .u64 (lo (subN a b) : Nat)] 24) = v at *
  generalize w1.heap.size = n1 at *
  generalize w2.heap.size = n2 at *
  generalize w3.heap.size = n3 at *
  generalize w4.heap.size = n4 at *
  clear w1 w2 w3 w4
  replace a0 := cell_regrown a0
  replace a1 := cell_regrown a1
  replace b0 := cell_regrown b0
  replace b1 := cell_regrown b1
  replace s0 := cell_regrown s0
  replace s1 := cell_regrown s1
  replace t0 := cell_regrown t0
  replace t1 := cell_regrown t1
  replace d0 := cell_regrown d0
  replace d1 := cell_regrown d1
  replace e0 := cell_regrown e0
  replace e1 := cell_regrown e1
  refine wp_region_quiet_below (by kernel_rfl) (by kernel_rfl) ?_
  repeat (first | go_big_quiet_step (first | (go_at_call 12; exact Calls.regrown_of (fixed_any _)) | (go_at_call 13; exact Calls.regrown_of (rest_any a b ha hb _)) | (go_at_call 14; exact Calls.regrown_of (cmp_any a b _)) | (go_at_call 15; exact Calls.regrown_of (refcmp_any a b ha hb _)) | (go_at_call 16; exact Calls.regrown_of (of_any _ _)) | (go_at_call 17; exact Calls.regrown_of (top_any _)) | (go_at_call 18; exact Calls.regrown_of (reftop_any _))))
  refine wpQuiet_nil ?_
  rintro _ ⟨⟨dq, osq⟩, rfl⟩
  go_wp2
  go_ret
  exact ⟨rfl, btr hB (below_regrown v dq osq)⟩
end Go.Proofs.Ytapomicakmbcdaa
