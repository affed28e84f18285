/- The walk of the law WideBack, by cases: whether there is a sum, whether the second number is at most the first. -/
import Derived.Test.YtapomicakmbcdaaSmall
namespace Go.Proofs.Ytapomicakmbcdaa
open Go.RowKit
open W (hi lo addN addB subN subB cmpN dig MM)

set_option maxHeartbeats 1600000 in
theorem back_ok_fine (a b : Nat) (ha : a < MM) (hb : b < MM) (hs : a + b < MM) (hd : b ≤ a) (w : World) :
    Calls Try.prog 4 #[.agg #[.int .u64 (hi a : Nat), .int .u64 (lo a : Nat)], .agg #[.int .u64 (hi b : Nat), .int .u64 (lo b : Nat)]] w fun e w' => e = .returned (.bool true) ∧ Below w.heap.size w w' := by
  have HS := Lib.hid hs; clear hs
  have HD := Lib.hid hd; clear hd
  have HA := Lib.hid ha; clear ha
  have HB := Lib.hid hb; clear hb
  obtain ⟨c, hc0, hc⟩ := cmp_fine a b HD.out
  have HC := Lib.hid hc; clear hc
  go_enter Try.func4, Try.ntmps4
  go_wp2_with fail
  refine (add_ok_c a b HS.out _).mono ?_
  rintro e w1 ⟨rfl, h1⟩
  have a0 := kept (p := ⟨w.heap.size, 0, none⟩) (x := .int .u64 (hi a : Nat)) (by simp [go_sem]) h1
  have a1 := kept (p := ⟨w.heap.size, 1, none⟩) (x := .int .u64 (lo a : Nat)) (by simp [go_sem]) h1
  have b0 := kept (p := ⟨w.heap.size + 1, 0, none⟩) (x := .int .u64 (hi b : Nat)) (by simp [go_sem]) h1
  have b1 := kept (p := ⟨w.heap.size + 1, 1, none⟩) (x := .int .u64 (lo b : Nat)) (by simp [go_sem]) h1
  have hB : Below w.heap.size w w1 := btr (bal (bal (Below.refl _ _) _) _) h1
  clear h1
  have a0' := fun o => kept a0 (bal (Below.refl _ _) o)
  have a1' := fun o => kept a1 (bal (Below.refl _ _) o)
  have b0' := fun o => kept b0 (bal (Below.refl _ _) o)
  have b1' := fun o => kept b1 (bal (Below.refl _ _) o)
  go_wp2_with fail
  refine (add_ok_r a b HS.out _).mono ?_
  rintro e w2 ⟨rfl, h2⟩
  replace a0 := kept (a0' _) h2
  replace a1 := kept (a1' _) h2
  replace b0 := kept (b0' _) h2
  replace b1 := kept (b1' _) h2
  have s0 := kept (p := ⟨w1.heap.size, 0, none⟩) (x := .int .u64 (hi (a + b) : Nat)) (by simp [go_sem]) h2
  have s1 := kept (p := ⟨w1.heap.size, 1, none⟩) (x := .int .u64 (lo (a + b) : Nat)) (by simp [go_sem]) h2
  replace hB := btr (bal hB _) h2
  clear a0' a1' b0' b1'
  clear h2
  have a0' := fun o => kept a0 (bal (Below.refl _ _) o)
  have a1' := fun o => kept a1 (bal (Below.refl _ _) o)
  have b0' := fun o => kept b0 (bal (Below.refl _ _) o)
  have b1' := fun o => kept b1 (bal (Below.refl _ _) o)
  have s0' := fun o => kept s0 (bal (Below.refl _ _) o)
  have s1' := fun o => kept s1 (bal (Below.refl _ _) o)
  go_wp2_with fail
  refine (sub_back a b HS.out _).mono ?_
  rintro e w3 ⟨rfl, h3⟩
  replace a0 := kept (a0' _) h3
  replace a1 := kept (a1' _) h3
  replace b0 := kept (b0' _) h3
  replace b1 := kept (b1' _) h3
  replace s0 := kept (s0' _) h3
  replace s1 := kept (s1' _) h3
  have t0 := kept (p := ⟨w2.heap.size, 0, none⟩) (x := .int .u64 (hi (a + b) : Nat)) (by simp [go_sem]) h3
  have t1 := kept (p := ⟨w2.heap.size, 1, none⟩) (x := .int .u64 (lo (a + b) : Nat)) (by simp [go_sem]) h3
  replace hB := btr (bal hB _) h3
  clear a0' a1' b0' b1' s0' s1'
  clear h3
  have a0' := fun o => kept a0 (bal (Below.refl _ _) o)
  have a1' := fun o => kept a1 (bal (Below.refl _ _) o)
  have b0' := fun o => kept b0 (bal (Below.refl _ _) o)
  have b1' := fun o => kept b1 (bal (Below.refl _ _) o)
  have s0' := fun o => kept s0 (bal (Below.refl _ _) o)
  have s1' := fun o => kept s1 (bal (Below.refl _ _) o)
  have t0' := fun o => kept t0 (bal (Below.refl _ _) o)
  have t1' := fun o => kept t1 (bal (Below.refl _ _) o)
  go_wp2_with fail
  refine (sub_fine a b HA.out HD.out _).mono ?_
  rintro e w4 ⟨rfl, h4⟩
  replace a0 := kept (a0' _) h4
  replace a1 := kept (a1' _) h4
  replace b0 := kept (b0' _) h4
  replace b1 := kept (b1' _) h4
  replace s0 := kept (s0' _) h4
  replace s1 := kept (s1' _) h4
  replace t0 := kept (t0' _) h4
  replace t1 := kept (t1' _) h4
  have d0 := kept (p := ⟨w3.heap.size, 0, none⟩) (x := .int .u64 (hi a : Nat)) (by simp [go_sem]) h4
  have d1 := kept (p := ⟨w3.heap.size, 1, none⟩) (x := .int .u64 (lo a : Nat)) (by simp [go_sem]) h4
  replace hB := btr (bal hB _) h4
  clear a0' a1' b0' b1' s0' s1' t0' t1'
  clear h4
  have a0' := fun o => kept a0 (bal (Below.refl _ _) o)
  have a1' := fun o => kept a1 (bal (Below.refl _ _) o)
  have b0' := fun o => kept b0 (bal (Below.refl _ _) o)
  have b1' := fun o => kept b1 (bal (Below.refl _ _) o)
  have s0' := fun o => kept s0 (bal (Below.refl _ _) o)
  have s1' := fun o => kept s1 (bal (Below.refl _ _) o)
  have t0' := fun o => kept t0 (bal (Below.refl _ _) o)
  have t1' := fun o => kept t1 (bal (Below.refl _ _) o)
  have d0' := fun o => kept d0 (bal (Below.refl _ _) o)
  have d1' := fun o => kept d1 (bal (Below.refl _ _) o)
  go_wp2_with fail
  refine (add_back a b HA.out HD.out _).mono ?_
  rintro e w5 ⟨rfl, h5⟩
  replace a0 := kept (a0' _) h5
  replace a1 := kept (a1' _) h5
  replace b0 := kept (b0' _) h5
  replace b1 := kept (b1' _) h5
  replace s0 := kept (s0' _) h5
  replace s1 := kept (s1' _) h5
  replace t0 := kept (t0' _) h5
  replace t1 := kept (t1' _) h5
  replace d0 := kept (d0' _) h5
  replace d1 := kept (d1' _) h5
  have e0 := kept (p := ⟨w4.heap.size, 0, none⟩) (x := .int .u64 (hi (a - b) : Nat)) (by simp [go_sem]) h5
  have e1 := kept (p := ⟨w4.heap.size, 1, none⟩) (x := .int .u64 (lo (a - b) : Nat)) (by simp [go_sem]) h5
  replace hB := btr (bal hB _) h5
  clear a0' a1' b0' b1' s0' s1' t0' t1' d0' d1'
  clear h5
  have a0' := fun o => kept a0 (bal (Below.refl _ _) o)
  have a1' := fun o => kept a1 (bal (Below.refl _ _) o)
  have b0' := fun o => kept b0 (bal (Below.refl _ _) o)
  have b1' := fun o => kept b1 (bal (Below.refl _ _) o)
  have s0' := fun o => kept s0 (bal (Below.refl _ _) o)
  have s1' := fun o => kept s1 (bal (Below.refl _ _) o)
  have t0' := fun o => kept t0 (bal (Below.refl _ _) o)
  have t1' := fun o => kept t1 (bal (Below.refl _ _) o)
  have d0' := fun o => kept d0 (bal (Below.refl _ _) o)
  have d1' := fun o => kept d1 (bal (Below.refl _ _) o)
  have e0' := fun o => kept e0 (bal (Below.refl _ _) o)
  have e1' := fun o => kept e1 (bal (Below.refl _ _) o)
  go_wp2_with fail
  have hA := bal (Below.refl w5.heap.size w5) (.cells #[.int .u64 (hi a : Nat), .int .u64 (lo a : Nat)] 24)
  replace a0 := kept a0 hA
  replace a1 := kept a1 hA
  replace b0 := kept b0 hA
  replace b1 := kept b1 hA
  have f0 : (w5.alloc (.cells #[.int .u64 (hi a : Nat), .int .u64 (lo a : Nat)] 24)).cell? ⟨w5.heap.size, 0, none⟩ = some (.int .u64 (hi a : Nat)) := by simp [go_sem]
  have f1 : (w5.alloc (.cells #[.int .u64 (hi a : Nat), .int .u64 (lo a : Nat)] 24)).cell? ⟨w5.heap.size, 1, none⟩ = some (.int .u64 (lo a : Nat)) := by simp [go_sem]
  replace hB := btr hB hA
  clear hA a0' a1' b0' b1' s0' s1' t0' t1' d0' d1' e0' e1' s0 s1 t0 t1 d0 d1 e0 e1
  generalize w5.alloc (.cells #[.int .u64 (hi a : Nat), .int .u64 (lo a : Nat)] 24) = v at *
  generalize w1.heap.size = n1 at *
  generalize w2.heap.size = n2 at *
  generalize w3.heap.size = n3 at *
  generalize w4.heap.size = n4 at *
  generalize w5.heap.size = n5 at *
  clear w1 w2 w3 w4 w5
  replace a0 := cell_regrown a0
  replace a1 := cell_regrown a1
  replace b0 := cell_regrown b0
  replace b1 := cell_regrown b1
  replace f0 := cell_regrown f0
  replace f1 := cell_regrown f1
  refine wp_region_quiet_below (by kernel_rfl) (by kernel_rfl) ?_
  repeat (go_big_quiet_step (first | (go_at_call 12; with_reducible exact Calls.regrown_of (fixed_any _)) | (go_at_call 14; with_reducible exact Calls.regrown_of (HC.out _))))
  refine wpQuiet_nil ?_
  rintro _ ⟨⟨dq, osq⟩, rfl⟩
  go_wp2
  go_ret
  exact ⟨rfl, btr hB (below_regrown v dq osq)⟩

set_option maxHeartbeats 1600000 in
theorem back_ok_less (a b : Nat) (ha : a < MM) (hb : b < MM) (hs : a + b < MM) (hd : a < b) (w : World) :
    Calls Try.prog 4 #[.agg #[.int .u64 (hi a : Nat), .int .u64 (lo a : Nat)], .agg #[.int .u64 (hi b : Nat), .int .u64 (lo b : Nat)]] w fun e w' => e = .returned (.bool true) ∧ Below w.heap.size w w' := by
  have HS := Lib.hid hs; clear hs
  have HD := Lib.hid hd; clear hd
  have HA := Lib.hid ha; clear ha
  have HB := Lib.hid hb; clear hb
  go_enter Try.func4, Try.ntmps4
  go_wp2_with fail
  refine (add_ok_c a b HS.out _).mono ?_
  rintro e w1 ⟨rfl, h1⟩
  have a0 := kept (p := ⟨w.heap.size, 0, none⟩) (x := .int .u64 (hi a : Nat)) (by simp [go_sem]) h1
  have a1 := kept (p := ⟨w.heap.size, 1, none⟩) (x := .int .u64 (lo a : Nat)) (by simp [go_sem]) h1
  have b0 := kept (p := ⟨w.heap.size + 1, 0, none⟩) (x := .int .u64 (hi b : Nat)) (by simp [go_sem]) h1
  have b1 := kept (p := ⟨w.heap.size + 1, 1, none⟩) (x := .int .u64 (lo b : Nat)) (by simp [go_sem]) h1
  have hB : Below w.heap.size w w1 := btr (bal (bal (Below.refl _ _) _) _) h1
  clear h1
  have a0' := fun o => kept a0 (bal (Below.refl _ _) o)
  have a1' := fun o => kept a1 (bal (Below.refl _ _) o)
  have b0' := fun o => kept b0 (bal (Below.refl _ _) o)
  have b1' := fun o => kept b1 (bal (Below.refl _ _) o)
  go_wp2_with fail
  refine (add_ok_r a b HS.out _).mono ?_
  rintro e w2 ⟨rfl, h2⟩
  replace a0 := kept (a0' _) h2
  replace a1 := kept (a1' _) h2
  replace b0 := kept (b0' _) h2
  replace b1 := kept (b1' _) h2
  have s0 := kept (p := ⟨w1.heap.size, 0, none⟩) (x := .int .u64 (hi (a + b) : Nat)) (by simp [go_sem]) h2
  have s1 := kept (p := ⟨w1.heap.size, 1, none⟩) (x := .int .u64 (lo (a + b) : Nat)) (by simp [go_sem]) h2
  replace hB := btr (bal hB _) h2
  clear a0' a1' b0' b1'
  clear h2
  have a0' := fun o => kept a0 (bal (Below.refl _ _) o)
  have a1' := fun o => kept a1 (bal (Below.refl _ _) o)
  have b0' := fun o => kept b0 (bal (Below.refl _ _) o)
  have b1' := fun o => kept b1 (bal (Below.refl _ _) o)
  have s0' := fun o => kept s0 (bal (Below.refl _ _) o)
  have s1' := fun o => kept s1 (bal (Below.refl _ _) o)
  go_wp2_with fail
  refine (sub_back a b HS.out _).mono ?_
  rintro e w3 ⟨rfl, h3⟩
  replace a0 := kept (a0' _) h3
  replace a1 := kept (a1' _) h3
  replace b0 := kept (b0' _) h3
  replace b1 := kept (b1' _) h3
  replace s0 := kept (s0' _) h3
  replace s1 := kept (s1' _) h3
  have t0 := kept (p := ⟨w2.heap.size, 0, none⟩) (x := .int .u64 (hi (a + b) : Nat)) (by simp [go_sem]) h3
  have t1 := kept (p := ⟨w2.heap.size, 1, none⟩) (x := .int .u64 (lo (a + b) : Nat)) (by simp [go_sem]) h3
  replace hB := btr (bal hB _) h3
  clear a0' a1' b0' b1' s0' s1'
  clear h3
  have a0' := fun o => kept a0 (bal (Below.refl _ _) o)
  have a1' := fun o => kept a1 (bal (Below.refl _ _) o)
  have b0' := fun o => kept b0 (bal (Below.refl _ _) o)
  have b1' := fun o => kept b1 (bal (Below.refl _ _) o)
  have s0' := fun o => kept s0 (bal (Below.refl _ _) o)
  have s1' := fun o => kept s1 (bal (Below.refl _ _) o)
  have t0' := fun o => kept t0 (bal (Below.refl _ _) o)
  have t1' := fun o => kept t1 (bal (Below.refl _ _) o)
  go_wp2_with fail
  refine (sub_less a b HA.out HB.out HD.out _).mono ?_
  rintro e w4 ⟨rfl, h4⟩
  replace a0 := kept (a0' _) h4
  replace a1 := kept (a1' _) h4
  replace b0 := kept (b0' _) h4
  replace b1 := kept (b1' _) h4
  replace s0 := kept (s0' _) h4
  replace s1 := kept (s1' _) h4
  replace t0 := kept (t0' _) h4
  replace t1 := kept (t1' _) h4
  have d0 := kept (p := ⟨w3.heap.size, 0, none⟩) (x := .int .u64 (hi a : Nat)) (by simp [go_sem]) h4
  have d1 := kept (p := ⟨w3.heap.size, 1, none⟩) (x := .int .u64 (lo a : Nat)) (by simp [go_sem]) h4
  replace hB := btr (bal hB _) h4
  clear a0' a1' b0' b1' s0' s1' t0' t1'
  clear h4
  have a0' := fun o => kept a0 (bal (Below.refl _ _) o)
  have a1' := fun o => kept a1 (bal (Below.refl _ _) o)
  have b0' := fun o => kept b0 (bal (Below.refl _ _) o)
  have b1' := fun o => kept b1 (bal (Below.refl _ _) o)
  have s0' := fun o => kept s0 (bal (Below.refl _ _) o)
  have s1' := fun o => kept s1 (bal (Below.refl _ _) o)
  have t0' := fun o => kept t0 (bal (Below.refl _ _) o)
  have t1' := fun o => kept t1 (bal (Below.refl _ _) o)
  have d0' := fun o => kept d0 (bal (Below.refl _ _) o)
  have d1' := fun o => kept d1 (bal (Below.refl _ _) o)
  go_wp2_with fail
  refine (add_zero b _).mono ?_
  rintro e w5 ⟨rfl, h5⟩
  replace a0 := kept (a0' _) h5
  replace a1 := kept (a1' _) h5
  replace b0 := kept (b0' _) h5
  replace b1 := kept (b1' _) h5
  replace s0 := kept (s0' _) h5
  replace s1 := kept (s1' _) h5
  replace t0 := kept (t0' _) h5
  replace t1 := kept (t1' _) h5
  replace d0 := kept (d0' _) h5
  replace d1 := kept (d1' _) h5
  have e0 := kept (p := ⟨w4.heap.size, 0, none⟩) (x := .int .u64 0) (by simp [go_sem]) h5
  have e1 := kept (p := ⟨w4.heap.size, 1, none⟩) (x := .int .u64 0) (by simp [go_sem]) h5
  replace hB := btr (bal hB _) h5
  clear a0' a1' b0' b1' s0' s1' t0' t1' d0' d1'
  clear h5
  have a0' := fun o => kept a0 (bal (Below.refl _ _) o)
  have a1' := fun o => kept a1 (bal (Below.refl _ _) o)
  have b0' := fun o => kept b0 (bal (Below.refl _ _) o)
  have b1' := fun o => kept b1 (bal (Below.refl _ _) o)
  have s0' := fun o => kept s0 (bal (Below.refl _ _) o)
  have s1' := fun o => kept s1 (bal (Below.refl _ _) o)
  have t0' := fun o => kept t0 (bal (Below.refl _ _) o)
  have t1' := fun o => kept t1 (bal (Below.refl _ _) o)
  have d0' := fun o => kept d0 (bal (Below.refl _ _) o)
  have d1' := fun o => kept d1 (bal (Below.refl _ _) o)
  have e0' := fun o => kept e0 (bal (Below.refl _ _) o)
  have e1' := fun o => kept e1 (bal (Below.refl _ _) o)
  go_wp2_with fail
  have hA := bal (Below.refl w5.heap.size w5) (.cells #[.int .u64 (hi (addN 0 b) : Nat), .int .u64 (lo (addN 0 b) : Nat)] 24)
  replace a0 := kept a0 hA
  replace a1 := kept a1 hA
  replace b0 := kept b0 hA
  replace b1 := kept b1 hA
  have f0 : (w5.alloc (.cells #[.int .u64 (hi (addN 0 b) : Nat), .int .u64 (lo (addN 0 b) : Nat)] 24)).cell? ⟨w5.heap.size, 0, none⟩ = some (.int .u64 (hi (addN 0 b) : Nat)) := by simp [go_sem]
  have f1 : (w5.alloc (.cells #[.int .u64 (hi (addN 0 b) : Nat), .int .u64 (lo (addN 0 b) : Nat)] 24)).cell? ⟨w5.heap.size, 1, none⟩ = some (.int .u64 (lo (addN 0 b) : Nat)) := by simp [go_sem]
  replace hB := btr hB hA
  clear hA a0' a1' b0' b1' s0' s1' t0' t1' d0' d1' e0' e1' s0 s1 t0 t1 d0 d1 e0 e1
  generalize w5.alloc (.cells #[.int .u64 (hi (addN 0 b) : Nat), .int .u64 (lo (addN 0 b) : Nat)] 24) = v at *
  generalize w1.heap.size = n1 at *
  generalize w2.heap.size = n2 at *
  generalize w3.heap.size = n3 at *
  generalize w4.heap.size = n4 at *
  generalize w5.heap.size = n5 at *
  clear w1 w2 w3 w4 w5
  replace a0 := cell_regrown a0
  replace a1 := cell_regrown a1
  replace b0 := cell_regrown b0
  replace b1 := cell_regrown b1
  replace f0 := cell_regrown f0
  replace f1 := cell_regrown f1
  refine wp_region_quiet_below (by kernel_rfl) (by kernel_rfl) ?_
  repeat (go_big_quiet_step (first | (go_at_call 12; with_reducible exact Calls.regrown_of (fixed_any _)) | (go_at_call 14; with_reducible exact Calls.regrown_of (cmp_less a b HD.out _))))
  refine wpQuiet_nil ?_
  rintro _ ⟨⟨dq, osq⟩, rfl⟩
  go_wp2
  go_ret
  exact ⟨rfl, btr hB (below_regrown v dq osq)⟩

set_option maxHeartbeats 1600000 in
theorem back_no_fine (a b : Nat) (ha : a < MM) (hb : b < MM) (hs : ¬ a + b < MM) (hd : b ≤ a) (w : World) :
    Calls Try.prog 4 #[.agg #[.int .u64 (hi a : Nat), .int .u64 (lo a : Nat)], .agg #[.int .u64 (hi b : Nat), .int .u64 (lo b : Nat)]] w fun e w' => e = .returned (.bool true) ∧ Below w.heap.size w w' := by
  have HS := Lib.hid hs; clear hs
  have HD := Lib.hid hd; clear hd
  have HA := Lib.hid ha; clear ha
  have HB := Lib.hid hb; clear hb
  obtain ⟨c, hc0, hc⟩ := cmp_fine a b HD.out
  have HC := Lib.hid hc; clear hc
  go_enter Try.func4, Try.ntmps4
  go_wp2_with fail
  refine (add_no_c a b HS.out _).mono ?_
  rintro e w1 ⟨rfl, h1⟩
  have a0 := kept (p := ⟨w.heap.size, 0, none⟩) (x := .int .u64 (hi a : Nat)) (by simp [go_sem]) h1
  have a1 := kept (p := ⟨w.heap.size, 1, none⟩) (x := .int .u64 (lo a : Nat)) (by simp [go_sem]) h1
  have b0 := kept (p := ⟨w.heap.size + 1, 0, none⟩) (x := .int .u64 (hi b : Nat)) (by simp [go_sem]) h1
  have b1 := kept (p := ⟨w.heap.size + 1, 1, none⟩) (x := .int .u64 (lo b : Nat)) (by simp [go_sem]) h1
  have hB : Below w.heap.size w w1 := btr (bal (bal (Below.refl _ _) _) _) h1
  clear h1
  have a0' := fun o => kept a0 (bal (Below.refl _ _) o)
  have a1' := fun o => kept a1 (bal (Below.refl _ _) o)
  have b0' := fun o => kept b0 (bal (Below.refl _ _) o)
  have b1' := fun o => kept b1 (bal (Below.refl _ _) o)
  go_wp2_with fail
  refine (add_no_r a b HS.out _).mono ?_
  rintro e w2 ⟨rfl, h2⟩
  replace a0 := kept (a0' _) h2
  replace a1 := kept (a1' _) h2
  replace b0 := kept (b0' _) h2
  replace b1 := kept (b1' _) h2
  have s0 := kept (p := ⟨w1.heap.size, 0, none⟩) (x := .int .u64 0) (by simp [go_sem]) h2
  have s1 := kept (p := ⟨w1.heap.size, 1, none⟩) (x := .int .u64 0) (by simp [go_sem]) h2
  replace hB := btr (bal hB _) h2
  clear a0' a1' b0' b1'
  clear h2
  have a0' := fun o => kept a0 (bal (Below.refl _ _) o)
  have a1' := fun o => kept a1 (bal (Below.refl _ _) o)
  have b0' := fun o => kept b0 (bal (Below.refl _ _) o)
  have b1' := fun o => kept b1 (bal (Below.refl _ _) o)
  have s0' := fun o => kept s0 (bal (Below.refl _ _) o)
  have s1' := fun o => kept s1 (bal (Below.refl _ _) o)
  go_wp2_with fail
  refine (sub_zero b HB.out _).mono ?_
  rintro e w3 ⟨rfl, h3⟩
  replace a0 := kept (a0' _) h3
  replace a1 := kept (a1' _) h3
  replace b0 := kept (b0' _) h3
  replace b1 := kept (b1' _) h3
  replace s0 := kept (s0' _) h3
  replace s1 := kept (s1' _) h3
  have t0 := kept (p := ⟨w2.heap.size, 0, none⟩) (x := .int .u64 0) (by simp [go_sem]) h3
  have t1 := kept (p := ⟨w2.heap.size, 1, none⟩) (x := .int .u64 0) (by simp [go_sem]) h3
  replace hB := btr (bal hB _) h3
  clear a0' a1' b0' b1' s0' s1'
  clear h3
  have a0' := fun o => kept a0 (bal (Below.refl _ _) o)
  have a1' := fun o => kept a1 (bal (Below.refl _ _) o)
  have b0' := fun o => kept b0 (bal (Below.refl _ _) o)
  have b1' := fun o => kept b1 (bal (Below.refl _ _) o)
  have s0' := fun o => kept s0 (bal (Below.refl _ _) o)
  have s1' := fun o => kept s1 (bal (Below.refl _ _) o)
  have t0' := fun o => kept t0 (bal (Below.refl _ _) o)
  have t1' := fun o => kept t1 (bal (Below.refl _ _) o)
  go_wp2_with fail
  refine (sub_fine a b HA.out HD.out _).mono ?_
  rintro e w4 ⟨rfl, h4⟩
  replace a0 := kept (a0' _) h4
  replace a1 := kept (a1' _) h4
  replace b0 := kept (b0' _) h4
  replace b1 := kept (b1' _) h4
  replace s0 := kept (s0' _) h4
  replace s1 := kept (s1' _) h4
  replace t0 := kept (t0' _) h4
  replace t1 := kept (t1' _) h4
  have d0 := kept (p := ⟨w3.heap.size, 0, none⟩) (x := .int .u64 0) (by simp [go_sem]) h4
  have d1 := kept (p := ⟨w3.heap.size, 1, none⟩) (x := .int .u64 0) (by simp [go_sem]) h4
  replace hB := btr (bal hB _) h4
  clear a0' a1' b0' b1' s0' s1' t0' t1'
  clear h4
  have a0' := fun o => kept a0 (bal (Below.refl _ _) o)
  have a1' := fun o => kept a1 (bal (Below.refl _ _) o)
  have b0' := fun o => kept b0 (bal (Below.refl _ _) o)
  have b1' := fun o => kept b1 (bal (Below.refl _ _) o)
  have s0' := fun o => kept s0 (bal (Below.refl _ _) o)
  have s1' := fun o => kept s1 (bal (Below.refl _ _) o)
  have t0' := fun o => kept t0 (bal (Below.refl _ _) o)
  have t1' := fun o => kept t1 (bal (Below.refl _ _) o)
  have d0' := fun o => kept d0 (bal (Below.refl _ _) o)
  have d1' := fun o => kept d1 (bal (Below.refl _ _) o)
  go_wp2_with fail
  refine (add_back a b HA.out HD.out _).mono ?_
  rintro e w5 ⟨rfl, h5⟩
  replace a0 := kept (a0' _) h5
  replace a1 := kept (a1' _) h5
  replace b0 := kept (b0' _) h5
  replace b1 := kept (b1' _) h5
  replace s0 := kept (s0' _) h5
  replace s1 := kept (s1' _) h5
  replace t0 := kept (t0' _) h5
  replace t1 := kept (t1' _) h5
  replace d0 := kept (d0' _) h5
  replace d1 := kept (d1' _) h5
  have e0 := kept (p := ⟨w4.heap.size, 0, none⟩) (x := .int .u64 (hi (a - b) : Nat)) (by simp [go_sem]) h5
  have e1 := kept (p := ⟨w4.heap.size, 1, none⟩) (x := .int .u64 (lo (a - b) : Nat)) (by simp [go_sem]) h5
  replace hB := btr (bal hB _) h5
  clear a0' a1' b0' b1' s0' s1' t0' t1' d0' d1'
  clear h5
  have a0' := fun o => kept a0 (bal (Below.refl _ _) o)
  have a1' := fun o => kept a1 (bal (Below.refl _ _) o)
  have b0' := fun o => kept b0 (bal (Below.refl _ _) o)
  have b1' := fun o => kept b1 (bal (Below.refl _ _) o)
  have s0' := fun o => kept s0 (bal (Below.refl _ _) o)
  have s1' := fun o => kept s1 (bal (Below.refl _ _) o)
  have t0' := fun o => kept t0 (bal (Below.refl _ _) o)
  have t1' := fun o => kept t1 (bal (Below.refl _ _) o)
  have d0' := fun o => kept d0 (bal (Below.refl _ _) o)
  have d1' := fun o => kept d1 (bal (Below.refl _ _) o)
  have e0' := fun o => kept e0 (bal (Below.refl _ _) o)
  have e1' := fun o => kept e1 (bal (Below.refl _ _) o)
  go_wp2_with fail
  have hA := bal (Below.refl w5.heap.size w5) (.cells #[.int .u64 (hi a : Nat), .int .u64 (lo a : Nat)] 24)
  replace a0 := kept a0 hA
  replace a1 := kept a1 hA
  replace b0 := kept b0 hA
  replace b1 := kept b1 hA
  have f0 : (w5.alloc (.cells #[.int .u64 (hi a : Nat), .int .u64 (lo a : Nat)] 24)).cell? ⟨w5.heap.size, 0, none⟩ = some (.int .u64 (hi a : Nat)) := by simp [go_sem]
  have f1 : (w5.alloc (.cells #[.int .u64 (hi a : Nat), .int .u64 (lo a : Nat)] 24)).cell? ⟨w5.heap.size, 1, none⟩ = some (.int .u64 (lo a : Nat)) := by simp [go_sem]
  replace hB := btr hB hA
  clear hA a0' a1' b0' b1' s0' s1' t0' t1' d0' d1' e0' e1' s0 s1 t0 t1 d0 d1 e0 e1
  generalize w5.alloc (.cells #[.int .u64 (hi a : Nat), .int .u64 (lo a : Nat)] 24) = v at *
  generalize w1.heap.size = n1 at *
  generalize w2.heap.size = n2 at *
  generalize w3.heap.size = n3 at *
  generalize w4.heap.size = n4 at *
  generalize w5.heap.size = n5 at *
  clear w1 w2 w3 w4 w5
  replace a0 := cell_regrown a0
  replace a1 := cell_regrown a1
  replace b0 := cell_regrown b0
  replace b1 := cell_regrown b1
  replace f0 := cell_regrown f0
  replace f1 := cell_regrown f1
  refine wp_region_quiet_below (by kernel_rfl) (by kernel_rfl) ?_
  repeat (go_big_quiet_step (first | (go_at_call 12; with_reducible exact Calls.regrown_of (fixed_any _)) | (go_at_call 14; with_reducible exact Calls.regrown_of (HC.out _)) | (go_at_call 17; with_reducible exact Calls.regrown_of (top_any _)) | (go_at_call 13; with_reducible exact Calls.regrown_of (rest_top a HA.out _)) | (go_at_call 14; with_reducible exact Calls.regrown_of (cmp_top a b HA.out HS.out _))))
  refine wpQuiet_nil ?_
  rintro _ ⟨⟨dq, osq⟩, rfl⟩
  go_wp2
  go_ret
  exact ⟨rfl, btr hB (below_regrown v dq osq)⟩

set_option maxHeartbeats 1600000 in
theorem back_no_less (a b : Nat) (ha : a < MM) (hb : b < MM) (hs : ¬ a + b < MM) (hd : a < b) (w : World) :
    Calls Try.prog 4 #[.agg #[.int .u64 (hi a : Nat), .int .u64 (lo a : Nat)], .agg #[.int .u64 (hi b : Nat), .int .u64 (lo b : Nat)]] w fun e w' => e = .returned (.bool true) ∧ Below w.heap.size w w' := by
  have HS := Lib.hid hs; clear hs
  have HD := Lib.hid hd; clear hd
  have HA := Lib.hid ha; clear ha
  have HB := Lib.hid hb; clear hb
  go_enter Try.func4, Try.ntmps4
  go_wp2_with fail
  refine (add_no_c a b HS.out _).mono ?_
  rintro e w1 ⟨rfl, h1⟩
  have a0 := kept (p := ⟨w.heap.size, 0, none⟩) (x := .int .u64 (hi a : Nat)) (by simp [go_sem]) h1
  have a1 := kept (p := ⟨w.heap.size, 1, none⟩) (x := .int .u64 (lo a : Nat)) (by simp [go_sem]) h1
  have b0 := kept (p := ⟨w.heap.size + 1, 0, none⟩) (x := .int .u64 (hi b : Nat)) (by simp [go_sem]) h1
  have b1 := kept (p := ⟨w.heap.size + 1, 1, none⟩) (x := .int .u64 (lo b : Nat)) (by simp [go_sem]) h1
  have hB : Below w.heap.size w w1 := btr (bal (bal (Below.refl _ _) _) _) h1
  clear h1
  have a0' := fun o => kept a0 (bal (Below.refl _ _) o)
  have a1' := fun o => kept a1 (bal (Below.refl _ _) o)
  have b0' := fun o => kept b0 (bal (Below.refl _ _) o)
  have b1' := fun o => kept b1 (bal (Below.refl _ _) o)
  go_wp2_with fail
  refine (add_no_r a b HS.out _).mono ?_
  rintro e w2 ⟨rfl, h2⟩
  replace a0 := kept (a0' _) h2
  replace a1 := kept (a1' _) h2
  replace b0 := kept (b0' _) h2
  replace b1 := kept (b1' _) h2
  have s0 := kept (p := ⟨w1.heap.size, 0, none⟩) (x := .int .u64 0) (by simp [go_sem]) h2
  have s1 := kept (p := ⟨w1.heap.size, 1, none⟩) (x := .int .u64 0) (by simp [go_sem]) h2
  replace hB := btr (bal hB _) h2
  clear a0' a1' b0' b1'
  clear h2
  have a0' := fun o => kept a0 (bal (Below.refl _ _) o)
  have a1' := fun o => kept a1 (bal (Below.refl _ _) o)
  have b0' := fun o => kept b0 (bal (Below.refl _ _) o)
  have b1' := fun o => kept b1 (bal (Below.refl _ _) o)
  have s0' := fun o => kept s0 (bal (Below.refl _ _) o)
  have s1' := fun o => kept s1 (bal (Below.refl _ _) o)
  go_wp2_with fail
  refine (sub_zero b HB.out _).mono ?_
  rintro e w3 ⟨rfl, h3⟩
  replace a0 := kept (a0' _) h3
  replace a1 := kept (a1' _) h3
  replace b0 := kept (b0' _) h3
  replace b1 := kept (b1' _) h3
  replace s0 := kept (s0' _) h3
  replace s1 := kept (s1' _) h3
  have t0 := kept (p := ⟨w2.heap.size, 0, none⟩) (x := .int .u64 0) (by simp [go_sem]) h3
  have t1 := kept (p := ⟨w2.heap.size, 1, none⟩) (x := .int .u64 0) (by simp [go_sem]) h3
  replace hB := btr (bal hB _) h3
  clear a0' a1' b0' b1' s0' s1'
  clear h3
  have a0' := fun o => kept a0 (bal (Below.refl _ _) o)
  have a1' := fun o => kept a1 (bal (Below.refl _ _) o)
  have b0' := fun o => kept b0 (bal (Below.refl _ _) o)
  have b1' := fun o => kept b1 (bal (Below.refl _ _) o)
  have s0' := fun o => kept s0 (bal (Below.refl _ _) o)
  have s1' := fun o => kept s1 (bal (Below.refl _ _) o)
  have t0' := fun o => kept t0 (bal (Below.refl _ _) o)
  have t1' := fun o => kept t1 (bal (Below.refl _ _) o)
  go_wp2_with fail
  refine (sub_less a b HA.out HB.out HD.out _).mono ?_
  rintro e w4 ⟨rfl, h4⟩
  replace a0 := kept (a0' _) h4
  replace a1 := kept (a1' _) h4
  replace b0 := kept (b0' _) h4
  replace b1 := kept (b1' _) h4
  replace s0 := kept (s0' _) h4
  replace s1 := kept (s1' _) h4
  replace t0 := kept (t0' _) h4
  replace t1 := kept (t1' _) h4
  have d0 := kept (p := ⟨w3.heap.size, 0, none⟩) (x := .int .u64 0) (by simp [go_sem]) h4
  have d1 := kept (p := ⟨w3.heap.size, 1, none⟩) (x := .int .u64 0) (by simp [go_sem]) h4
  replace hB := btr (bal hB _) h4
  clear a0' a1' b0' b1' s0' s1' t0' t1'
  clear h4
  have a0' := fun o => kept a0 (bal (Below.refl _ _) o)
  have a1' := fun o => kept a1 (bal (Below.refl _ _) o)
  have b0' := fun o => kept b0 (bal (Below.refl _ _) o)
  have b1' := fun o => kept b1 (bal (Below.refl _ _) o)
  have s0' := fun o => kept s0 (bal (Below.refl _ _) o)
  have s1' := fun o => kept s1 (bal (Below.refl _ _) o)
  have t0' := fun o => kept t0 (bal (Below.refl _ _) o)
  have t1' := fun o => kept t1 (bal (Below.refl _ _) o)
  have d0' := fun o => kept d0 (bal (Below.refl _ _) o)
  have d1' := fun o => kept d1 (bal (Below.refl _ _) o)
  go_wp2_with fail
  refine (add_zero b _).mono ?_
  rintro e w5 ⟨rfl, h5⟩
  replace a0 := kept (a0' _) h5
  replace a1 := kept (a1' _) h5
  replace b0 := kept (b0' _) h5
  replace b1 := kept (b1' _) h5
  replace s0 := kept (s0' _) h5
  replace s1 := kept (s1' _) h5
  replace t0 := kept (t0' _) h5
  replace t1 := kept (t1' _) h5
  replace d0 := kept (d0' _) h5
  replace d1 := kept (d1' _) h5
  have e0 := kept (p := ⟨w4.heap.size, 0, none⟩) (x := .int .u64 0) (by simp [go_sem]) h5
  have e1 := kept (p := ⟨w4.heap.size, 1, none⟩) (x := .int .u64 0) (by simp [go_sem]) h5
  replace hB := btr (bal hB _) h5
  clear a0' a1' b0' b1' s0' s1' t0' t1' d0' d1'
  clear h5
  have a0' := fun o => kept a0 (bal (Below.refl _ _) o)
  have a1' := fun o => kept a1 (bal (Below.refl _ _) o)
  have b0' := fun o => kept b0 (bal (Below.refl _ _) o)
  have b1' := fun o => kept b1 (bal (Below.refl _ _) o)
  have s0' := fun o => kept s0 (bal (Below.refl _ _) o)
  have s1' := fun o => kept s1 (bal (Below.refl _ _) o)
  have t0' := fun o => kept t0 (bal (Below.refl _ _) o)
  have t1' := fun o => kept t1 (bal (Below.refl _ _) o)
  have d0' := fun o => kept d0 (bal (Below.refl _ _) o)
  have d1' := fun o => kept d1 (bal (Below.refl _ _) o)
  have e0' := fun o => kept e0 (bal (Below.refl _ _) o)
  have e1' := fun o => kept e1 (bal (Below.refl _ _) o)
  go_wp2_with fail
  have hA := bal (Below.refl w5.heap.size w5) (.cells #[.int .u64 (hi (addN 0 b) : Nat), .int .u64 (lo (addN 0 b) : Nat)] 24)
  replace a0 := kept a0 hA
  replace a1 := kept a1 hA
  replace b0 := kept b0 hA
  replace b1 := kept b1 hA
  have f0 : (w5.alloc (.cells #[.int .u64 (hi (addN 0 b) : Nat), .int .u64 (lo (addN 0 b) : Nat)] 24)).cell? ⟨w5.heap.size, 0, none⟩ = some (.int .u64 (hi (addN 0 b) : Nat)) := by simp [go_sem]
  have f1 : (w5.alloc (.cells #[.int .u64 (hi (addN 0 b) : Nat), .int .u64 (lo (addN 0 b) : Nat)] 24)).cell? ⟨w5.heap.size, 1, none⟩ = some (.int .u64 (lo (addN 0 b) : Nat)) := by simp [go_sem]
  replace hB := btr hB hA
  clear hA a0' a1' b0' b1' s0' s1' t0' t1' d0' d1' e0' e1' s0 s1 t0 t1 d0 d1 e0 e1
  generalize w5.alloc (.cells #[.int .u64 (hi (addN 0 b) : Nat), .int .u64 (lo (addN 0 b) : Nat)] 24) = v at *
  generalize w1.heap.size = n1 at *
  generalize w2.heap.size = n2 at *
  generalize w3.heap.size = n3 at *
  generalize w4.heap.size = n4 at *
  generalize w5.heap.size = n5 at *
  clear w1 w2 w3 w4 w5
  replace a0 := cell_regrown a0
  replace a1 := cell_regrown a1
  replace b0 := cell_regrown b0
  replace b1 := cell_regrown b1
  replace f0 := cell_regrown f0
  replace f1 := cell_regrown f1
  refine wp_region_quiet_below (by kernel_rfl) (by kernel_rfl) ?_
  repeat (go_big_quiet_step (first | (go_at_call 12; with_reducible exact Calls.regrown_of (fixed_any _)) | (go_at_call 14; with_reducible exact Calls.regrown_of (cmp_less a b HD.out _)) | (go_at_call 17; with_reducible exact Calls.regrown_of (top_any _)) | (go_at_call 13; with_reducible exact Calls.regrown_of (rest_top a HA.out _)) | (go_at_call 14; with_reducible exact Calls.regrown_of (cmp_top a b HA.out HS.out _))))
  refine wpQuiet_nil ?_
  rintro _ ⟨⟨dq, osq⟩, rfl⟩
  go_wp2
  go_ret
  exact ⟨rfl, btr hB (below_regrown v dq osq)⟩

theorem back_any (a b : Nat) (ha : a < MM) (hb : b < MM) (w : World) :
    Calls Try.prog 4 #[.agg #[.int .u64 (hi a : Nat), .int .u64 (lo a : Nat)], .agg #[.int .u64 (hi b : Nat), .int .u64 (lo b : Nat)]] w fun e w' => e = .returned (.bool true) ∧ Below w.heap.size w w' := by
  by_cases hs : a + b < MM
  · by_cases hd : b ≤ a
    · exact back_ok_fine a b ha hb hs hd w
    · exact back_ok_less a b ha hb hs (by omega) w
  · by_cases hd : b ≤ a
    · exact back_no_fine a b ha hb hs hd w
    · exact back_no_less a b ha hb hs (by omega) w
end Go.Proofs.Ytapomicakmbcdaa
