/- The walk of the law WideBack, by cases: whether there is a sum, whether the second number is at most the first. -/
import Derived.Test.YtapomicakmbcdaaFixed
namespace Go.Proofs.Ytapomicakmbcdaa
open Go.RowKit
open W (hi lo addN addB subN subB cmpN dig MM)

theorem sub_at {x1 x2 x3 x4 y1 y2 : Int} {ok : Bool} (a b : Nat) (ha : a < MM) (hb : b < MM) (h1 : x1 = (hi a : Nat)) (h2 : x2 = (lo a : Nat)) (h3 : x3 = (hi b : Nat)) (h4 : x4 = (lo b : Nat)) (h5 : y1 = (hi (subN a b) : Nat)) (h6 : y2 = (lo (subN a b) : Nat)) (h7 : ok = subB a b) (w : World) :
    Calls Try.prog 10 #[.agg #[.int .u64 x1, .int .u64 x2], .agg #[.int .u64 x3, .int .u64 x4]] w fun e w' => e = .returned (.tuple #[.agg #[.int .u64 y1, .int .u64 y2], .bool ok]) ∧ Below w.heap.size w w' := by
  rw [h1, h2, h3, h4, h5, h6, h7]; exact sub_any a b ha hb w
theorem addN_ok {a b : Nat} (h : a + b < MM) : addN a b = a + b := by unfold W.addN; rw [if_pos h]
theorem addN_no {a b : Nat} (h : ¬ a + b < MM) : addN a b = 0 := by unfold W.addN; rw [if_neg h]
theorem add_ok_c (a b : Nat) (h : a + b < MM) (w : World) : Calls Try.prog 8 #[.agg #[.int .u64 (hi a : Nat), .int .u64 (lo a : Nat)], .agg #[.int .u64 (hi b : Nat), .int .u64 (lo b : Nat)]] w fun e w' => e = .returned (.tuple #[.agg #[.int .u64 (hi (a + b) : Nat), .int .u64 (lo (a + b) : Nat)], .bool true]) ∧ Below w.heap.size w w' :=
  add_at a b rfl rfl rfl rfl (by rw [addN_ok h]) (by rw [addN_ok h]) (W.addB_true h).symm w
theorem add_ok_r (a b : Nat) (h : a + b < MM) (w : World) : Calls Try.prog 8 #[.agg #[.int .u64 (hi b : Nat), .int .u64 (lo b : Nat)], .agg #[.int .u64 (hi a : Nat), .int .u64 (lo a : Nat)]] w fun e w' => e = .returned (.tuple #[.agg #[.int .u64 (hi (a + b) : Nat), .int .u64 (lo (a + b) : Nat)], .bool true]) ∧ Below w.heap.size w w' := by
  have h2 : b + a < MM := by omega
  have e : a + b = b + a := Nat.add_comm a b
  exact add_at b a rfl rfl rfl rfl (by rw [addN_ok h2, e]) (by rw [addN_ok h2, e]) (W.addB_true h2).symm w
theorem add_no_c (a b : Nat) (h : ¬ a + b < MM) (w : World) : Calls Try.prog 8 #[.agg #[.int .u64 (hi a : Nat), .int .u64 (lo a : Nat)], .agg #[.int .u64 (hi b : Nat), .int .u64 (lo b : Nat)]] w fun e w' => e = .returned (.tuple #[.agg #[.int .u64 0, .int .u64 0], .bool false]) ∧ Below w.heap.size w w' :=
  add_at a b rfl rfl rfl rfl (by rw [addN_no h]; rfl) (by rw [addN_no h]; rfl) (W.addB_false h).symm w
theorem add_no_r (a b : Nat) (h : ¬ a + b < MM) (w : World) : Calls Try.prog 8 #[.agg #[.int .u64 (hi b : Nat), .int .u64 (lo b : Nat)], .agg #[.int .u64 (hi a : Nat), .int .u64 (lo a : Nat)]] w fun e w' => e = .returned (.tuple #[.agg #[.int .u64 0, .int .u64 0], .bool false]) ∧ Below w.heap.size w w' := by
  have h2 : ¬ b + a < MM := by omega
  exact add_at b a rfl rfl rfl rfl (by rw [addN_no h2]; rfl) (by rw [addN_no h2]; rfl) (W.addB_false h2).symm w
theorem sub_back (a b : Nat) (h : a + b < MM) (w : World) : Calls Try.prog 10 #[.agg #[.int .u64 (hi (a + b) : Nat), .int .u64 (lo (a + b) : Nat)], .agg #[.int .u64 (hi b : Nat), .int .u64 (lo b : Nat)]] w fun e w' => e = .returned (.tuple #[.agg #[.int .u64 (hi a : Nat), .int .u64 (lo a : Nat)], .bool true]) ∧ Below w.heap.size w w' := by
  have e : subN (a + b) b = a := by unfold W.subN; omega
  exact sub_at (a + b) b h (by omega) rfl rfl rfl rfl (by rw [e]) (by rw [e]) (by simp [W.subB]) w
theorem sub_zero (b : Nat) (h : b < MM) (w : World) : Calls Try.prog 10 #[.agg #[.int .u64 0, .int .u64 0], .agg #[.int .u64 (hi b : Nat), .int .u64 (lo b : Nat)]] w fun e w' => e = .returned (.tuple #[.agg #[.int .u64 0, .int .u64 0], .bool (subB 0 b)]) ∧ Below w.heap.size w w' := by
  have e : subN 0 b = 0 := by unfold W.subN; omega
  exact sub_at 0 b (by decide) h rfl rfl rfl rfl (by rw [e]; rfl) (by rw [e]; rfl) rfl w
theorem sub_fine (a b : Nat) (ha : a < MM) (h : b ≤ a) (w : World) : Calls Try.prog 10 #[.agg #[.int .u64 (hi a : Nat), .int .u64 (lo a : Nat)], .agg #[.int .u64 (hi b : Nat), .int .u64 (lo b : Nat)]] w fun e w' => e = .returned (.tuple #[.agg #[.int .u64 (hi (a - b) : Nat), .int .u64 (lo (a - b) : Nat)], .bool true]) ∧ Below w.heap.size w w' :=
  sub_at a b ha (by omega) rfl rfl rfl rfl rfl rfl (by simp [W.subB, h]) w
theorem sub_less (a b : Nat) (ha : a < MM) (hb : b < MM) (h : a < b) (w : World) : Calls Try.prog 10 #[.agg #[.int .u64 (hi a : Nat), .int .u64 (lo a : Nat)], .agg #[.int .u64 (hi b : Nat), .int .u64 (lo b : Nat)]] w fun e w' => e = .returned (.tuple #[.agg #[.int .u64 0, .int .u64 0], .bool false]) ∧ Below w.heap.size w w' := by
  have e : subN a b = 0 := by unfold W.subN; omega
  exact sub_at a b ha hb rfl rfl rfl rfl (by rw [e]; rfl) (by rw [e]; rfl) (by simp [W.subB, h]) w
theorem add_back (a b : Nat) (ha : a < MM) (h : b ≤ a) (w : World) : Calls Try.prog 8 #[.agg #[.int .u64 (hi (a - b) : Nat), .int .u64 (lo (a - b) : Nat)], .agg #[.int .u64 (hi b : Nat), .int .u64 (lo b : Nat)]] w fun e w' => e = .returned (.tuple #[.agg #[.int .u64 (hi a : Nat), .int .u64 (lo a : Nat)], .bool true]) ∧ Below w.heap.size w w' := by
  have e : a - b + b = a := by omega
  have h2 : a - b + b < MM := by omega
  exact add_at (a - b) b rfl rfl rfl rfl (by rw [addN_ok h2, e]) (by rw [addN_ok h2, e]) (W.addB_true h2).symm w
theorem add_zero (b : Nat) (w : World) : Calls Try.prog 8 #[.agg #[.int .u64 0, .int .u64 0], .agg #[.int .u64 (hi b : Nat), .int .u64 (lo b : Nat)]] w fun e w' => e = .returned (.tuple #[.agg #[.int .u64 (hi (addN 0 b) : Nat), .int .u64 (lo (addN 0 b) : Nat)], .bool (addB 0 b)]) ∧ Below w.heap.size w w' :=
  add_at 0 b rfl rfl rfl rfl rfl rfl rfl w
theorem cmp_fine (a b : Nat) (h : b ≤ a) : ∃ c : Int, 0 ≤ c ∧ ∀ w : World, Calls Try.prog 14 #[.agg #[.int .u64 (hi a : Nat), .int .u64 (lo a : Nat)], .agg #[.int .u64 (hi b : Nat), .int .u64 (lo b : Nat)]] w fun e w' => e = .returned (.int .i64 c) ∧ Below w.heap.size w w' :=
  ⟨cmpN a b, by unfold W.cmpN; rw [if_neg (by omega)]; split <;> omega, cmp_any a b⟩
theorem cmp_less (a b : Nat) (h : a < b) (w : World) : Calls Try.prog 14 #[.agg #[.int .u64 (hi a : Nat), .int .u64 (lo a : Nat)], .agg #[.int .u64 (hi b : Nat), .int .u64 (lo b : Nat)]] w fun e w' => e = .returned (.int .i64 (-1)) ∧ Below w.heap.size w w' := by
  rw [← W.cmpN_lt h]; exact cmp_any a b w
theorem rest_top (a : Nat) (ha : a < MM) (w : World) : Calls Try.prog 13 #[.agg #[.int .u64 18446744073709551615, .int .u64 18446744073709551615], .agg #[.int .u64 (hi a : Nat), .int .u64 (lo a : Nat)]] w fun e w' => e = .returned (.agg #[.int .u64 (hi (W.topN - a) : Nat), .int .u64 (lo (W.topN - a) : Nat)]) ∧ Below w.heap.size w w' :=
  rest_at W.topN a W.topN_lt ha (by rw [W.topN_hi]; rfl) (by rw [W.topN_lo]; rfl) rfl rfl rfl rfl w
theorem cmp_top (a b : Nat) (ha : a < MM) (h : ¬ a + b < MM) (w : World) : Calls Try.prog 14 #[.agg #[.int .u64 (hi (W.topN - a) : Nat), .int .u64 (lo (W.topN - a) : Nat)], .agg #[.int .u64 (hi b : Nat), .int .u64 (lo b : Nat)]] w fun e w' => e = .returned (.int .i64 (-1)) ∧ Below w.heap.size w w' := by
  have hl : W.topN - a < b := by have := W.topN_eq; omega
  rw [← W.cmpN_lt hl]; exact cmp_any _ b w

set_option maxHeartbeats 1600000 in
theorem back_ok_fine (a b : Nat) (ha : a < MM) (hb : b < MM) (hs : a + b < MM) (hd : b ≤ a) (w : World) :
    Calls Try.prog 4 #[.agg #[.int .u64 (hi a : Nat), .int .u64 (lo a : Nat)], .agg #[.int .u64 (hi b : Nat), .int .u64 (lo b : Nat)]] w fun e w' => e = .returned (.bool true) ∧ Below w.heap.size w w' := by
  have HS := Lib.hid hs; clear hs
  have HD := Lib.hid hd; clear hd
  have HA := Lib.hid ha; clear ha
  have HB := Lib.hid hb; clear hb
  obtain ⟨c, hc0, hc⟩ := cmp_fine a b HD.out
  have HC := Lib.hid hc; clear hc
  go_enter Try.func4, Try.ntmps4
  go_wp2_with fail
  refine (add_ok_c a b HS.out _).mono ?_
  rintro e w1 ⟨rfl, h1⟩
  have a0 := kept (p := ⟨w.heap.size, 0, none⟩) (x := .int .u64 (hi a : Nat)) (by simp [go_sem]) h1
  have a1 := kept (p := ⟨w.heap.size, 1, none⟩) (x := .int .u64 (lo a : Nat)) (by simp [go_sem]) h1
  have b0 := kept (p := ⟨w.heap.size + 1, 0, none⟩) (x := .int .u64 (hi b : Nat)) (by simp [go_sem]) h1
  have b1 := kept (p := ⟨w.heap.size + 1, 1, none⟩) (x := .int .u64 (lo b : Nat)) (by simp [go_sem]) h1
  have hB : Below w.heap.size w w1 := btr (bal (bal (Below.refl _ _) _) _) h1
  clear h1
  have a0' := fun o => kept a0 (bal (Below.refl _ _) o)
  have a1' := fun o => kept a1 (bal (Below.refl _ _) o)
  have b0' := fun o => kept b0 (bal (Below.refl _ _) o)
  have b1' := fun o => kept b1 (bal (Below.refl _ _) o)
  go_wp2_with fail
  refine (add_ok_r a b HS.out _).mono ?_
  rintro e w2 ⟨rfl, h2⟩
  replace a0 := kept (a0' _) h2
  replace a1 := kept (a1' _) h2
  replace b0 := kept (b0' _) h2
  replace b1 := kept (b1' _) h2
  have s0 := kept (p := ⟨w1.heap.size, 0, none⟩) (x := .int .u64 (hi (a + b) : Nat)) (by simp [go_sem]) h2
  have s1 := kept (p := ⟨w1.heap.size, 1, none⟩) (x := .int .u64 (lo (a + b) : Nat)) (by simp [go_sem]) h2
  replace hB := btr (bal hB _) h2
  clear a0' a1' b0' b1'
  clear h2
  have a0' := fun o => kept a0 (bal (Below.refl _ _) o)
  have a1' := fun o => kept a1 (bal (Below.refl _ _) o)
  have b0' := fun o => kept b0 (bal (Below.refl _ _) o)
  have b1' := fun o => kept b1 (bal (Below.refl _ _) o)
  have s0' := fun o => kept s0 (bal (Below.refl _ _) o)
  have s1' := fun o => kept s1 (bal (Below.refl _ _) o)
  go_wp2_with fail
  refine (sub_back a b HS.out _).mono ?_
  rintro e w3 ⟨rfl, h3⟩
  replace a0 := kept (a0' _) h3
  replace a1 := kept (a1' _) h3
  replace b0 := kept (b0' _) h3
  replace b1 := kept (b1' _) h3
  replace s0 := kept (s0' _) h3
  replace s1 := kept (s1' _) h3
  have t0 := kept (p := ⟨w2.heap.size, 0, none⟩) (x := .int .u64 (hi (a + b) : Nat)) (by simp [go_sem]) h3
  have t1 := kept (p := ⟨w2.heap.size, 1, none⟩) (x := .int .u64 (lo (a + b) : Nat)) (by simp [go_sem]) h3
  replace hB := btr (bal hB _) h3
  clear a0' a1' b0' b1' s0' s1'
  clear h3
  have a0' := fun o => kept a0 (bal (Below.refl _ _) o)
  have a1' := fun o => kept a1 (bal (Below.refl _ _) o)
  have b0' := fun o => kept b0 (bal (Below.refl _ _) o)
  have b1' := fun o => kept b1 (bal (Below.refl _ _) o)
  have s0' := fun o => kept s0 (bal (Below.refl _ _) o)
  have s1' := fun o => kept s1 (bal (Below.refl _ _) o)
  have t0' := fun o => kept t0 (bal (Below.refl _ _) o)
  have t1' := fun o => kept t1 (bal (Below.refl _ _) o)
  go_wp2_with fail
  refine (sub_fine a b HA.out HD.out _).mono ?_
  rintro e w4 ⟨rfl, h4⟩
  replace a0 := kept (a0' _) h4
  replace a1 := kept (a1' _) h4
  replace b0 := kept (b0' _) h4
  replace b1 := kept (b1' _) h4
  replace s0 := kept (s0' _) h4
  replace s1 := kept (s1' _) h4
  replace t0 := kept (t0' _) h4
  replace t1 := kept (t1' _) h4
  have d0 := kept (p := ⟨w3.heap.size, 0, none⟩) (x := .int .u64 (hi a : Nat)) (by simp [go_sem]) h4
  have d1 := kept (p := ⟨w3.heap.size, 1, none⟩) (x := .int .u64 (lo a : Nat)) (by simp [go_sem]) h4
  replace hB := btr (bal hB _) h4
  clear a0' a1' b0' b1' s0' s1' t0' t1'
  clear h4
  have a0' := fun o => kept a0 (bal (Below.refl _ _) o)
  have a1' := fun o => kept a1 (bal (Below.refl _ _) o)
  have b0' := fun o => kept b0 (bal (Below.refl _ _) o)
  have b1' := fun o => kept b1 (bal (Below.refl _ _) o)
  have s0' := fun o => kept s0 (bal (Below.refl _ _) o)
  have s1' := fun o => kept s1 (bal (Below.refl _ _) o)
  have t0' := fun o => kept t0 (bal (Below.refl _ _) o)
  have t1' := fun o => kept t1 (bal (Below.refl _ _) o)
  have d0' := fun o => kept d0 (bal (Below.refl _ _) o)
  have d1' := fun o => kept d1 (bal (Below.refl _ _) o)
  go_wp2_with fail
  refine (add_back a b HA.out HD.out _).mono ?_
  rintro e w5 ⟨rfl, h5⟩
  replace a0 := kept (a0' _) h5
  replace a1 := kept (a1' _) h5
  replace b0 := kept (b0' _) h5
  replace b1 := kept (b1' _) h5
  replace s0 := kept (s0' _) h5
  replace s1 := kept (s1' _) h5
  replace t0 := kept (t0' _) h5
  replace t1 := kept (t1' _) h5
  replace d0 := kept (d0' _) h5
  replace d1 := kept (d1' _) h5
  have e0 := kept (p := ⟨w4.heap.size, 0, none⟩) (x := .int .u64 (hi (a - b) : Nat)) (by simp [go_sem]) h5
  have e1 := kept (p := ⟨w4.heap.size, 1, none⟩) (x := .int .u64 (lo (a - b) : Nat)) (by simp [go_sem]) h5
  replace hB := btr (bal hB _) h5
  clear a0' a1' b0' b1' s0' s1' t0' t1' d0' d1'
  clear h5
  have a0' := fun o => kept a0 (bal (Below.refl _ _) o)
  have a1' := fun o => kept a1 (bal (Below.refl _ _) o)
  have b0' := fun o => kept b0 (bal (Below.refl _ _) o)
  have b1' := fun o => kept b1 (bal (Below.refl _ _) o)
  have s0' := fun o => kept s0 (bal (Below.refl _ _) o)
  have s1' := fun o => kept s1 (bal (Below.refl _ _) o)
  have t0' := fun o => kept t0 (bal (Below.refl _ _) o)
  have t1' := fun o => kept t1 (bal (Below.refl _ _) o)
  have d0' := fun o => kept d0 (bal (Below.refl _ _) o)
  have d1' := fun o => kept d1 (bal (Below.refl _ _) o)
  have e0' := fun o => kept e0 (bal (Below.refl _ _) o)
  have e1' := fun o => kept e1 (bal (Below.refl _ _) o)
  go_wp2_with fail
  have hA := bal (Below.refl w5.heap.size w5) (.cells #[.int .u64 (hi a : Nat), .int .u64 (lo a : Nat)] 24)
  replace a0 := kept a0 hA
  replace a1 := kept a1 hA
  replace b0 := kept b0 hA
  replace b1 := kept b1 hA
  have f0 : (w5.alloc (.cells #[.int .u64 (hi a : Nat), .int .u64 (lo a : Nat)] 24)).cell? ⟨w5.heap.size, 0, none⟩ = some (.int .u64 (hi a : Nat)) := by simp [go_sem]
  have f1 : (w5.alloc (.cells #[.int .u64 (hi a : Nat), .int .u64 (lo a : Nat)] 24)).cell? ⟨w5.heap.size, 1, none⟩ = some (.int .u64 (lo a : Nat)) := by simp [go_sem]
  replace hB := btr hB hA
  clear hA a0' a1' b0' b1' s0' s1' t0' t1' d0' d1' e0' e1' s0 s1 t0 t1 d0 d1 e0 e1
  generalize w5.alloc (.cells #[.int .u64 (hi a : Nat), .int .u64 (lo a : Nat)] 24) = v at *
  generalize w1.heap.size = n1 at *
  generalize w2.heap.size = n2 at *
  generalize w3.heap.size = n3 at *
  generalize w4.heap.size = n4 at *
  generalize w5.heap.size = n5 at *
  clear w1 w2 w3 w4 w5
  replace a0 := cell_regrown a0
  replace a1 := cell_regrown a1
  replace b0 := cell_regrown b0
  replace b1 := cell_regrown b1
  replace f0 := cell_regrown f0
  replace f1 := cell_regrown f1
  refine wp_region_quiet_below (by kernel_rfl) (by kernel_rfl) ?_
  repeat (go_big_quiet_step (first | (go_at_call 12; with_reducible exact Calls.regrown_of (fixed_any _)) | (go_at_call 14; with_reducible exact Calls.regrown_of (HC.out _))))
  refine wpQuiet_nil ?_
  rintro _ ⟨⟨dq, osq⟩, rfl⟩
  go_wp2
  go_ret
  exact ⟨rfl, btr hB (below_regrown v dq osq)⟩

set_option maxHeartbeats 1600000 in
theorem back_ok_less (a b : Nat) (ha : a < MM) (hb : b < MM) (hs : a + b < MM) (hd : a < b) (w : World) :
    Calls Try.prog 4 #[.agg #[.int .u64 (hi a : Nat), .int .u64 (lo a : Nat)], .agg #[.int .u64 (hi b : Nat), .int .u64 (lo b : Nat)]] w fun e w' => e = .returned (.bool true) ∧ Below w.heap.size w w' := by
  have HS := Lib.hid hs; clear hs
  have HD := Lib.hid hd; clear hd
  have HA := Lib.hid ha; clear ha
  have HB := Lib.hid hb; clear hb
  go_enter Try.func4, Try.ntmps4
  go_wp2_with fail
  refine (add_ok_c a b HS.out _).mono ?_
  rintro e w1 ⟨rfl, h1⟩
  have a0 := kept (p := ⟨w.heap.size, 0, none⟩) (x := .int .u64 (hi a : Nat)) (by simp [go_sem]) h1
  have a1 := kept (p := ⟨w.heap.size, 1, none⟩) (x := .int .u64 (lo a : Nat)) (by simp [go_sem]) h1
  have b0 := kept (p := ⟨w.heap.size + 1, 0, none⟩) (x := .int .u64 (hi b : Nat)) (by simp [go_sem]) h1
  have b1 := kept (p := ⟨w.heap.size + 1, 1, none⟩) (x := .int .u64 (lo b : Nat)) (by simp [go_sem]) h1
  have hB : Below w.heap.size w w1 := btr (bal (bal (Below.refl _ _) _) _) h1
  clear h1
  have a0' := fun o => kept a0 (bal (Below.refl _ _) o)
  have a1' := fun o => kept a1 (bal (Below.refl _ _) o)
  have b0' := fun o => kept b0 (bal (Below.refl _ _) o)
  have b1' := fun o => kept b1 (bal (Below.refl _ _) o)
  go_wp2_with fail
  refine (add_ok_r a b HS.out _).mono ?_
  rintro e w2 ⟨rfl, h2⟩
  replace a0 := kept (a0' _) h2
  replace a1 := kept (a1' _) h2
  replace b0 := kept (b0' _) h2
  replace b1 := kept (b1' _) h2
  have s0 := kept (p := ⟨w1.heap.size, 0, none⟩) (x := .int .u64 (hi (a + b) : Nat)) (by simp [go_sem]) h2
  have s1 := kept (p := ⟨w1.heap.size, 1, none⟩) (x := .int .u64 (lo (a + b) : Nat)) (by simp [go_sem]) h2
  replace hB := btr (bal hB _) h2
  clear a0' a1' b0' b1'
  clear h2
  have a0' := fun o => kept a0 (bal (Below.refl _ _) o)
  have a1' := fun o => kept a1 (bal (Below.refl _ _) o)
  have b0' := fun o => kept b0 (bal (Below.refl _ _) o)
  have b1' := fun o => kept b1 (bal (Below.refl _ _) o)
  have s0' := fun o => kept s0 (bal (Below.refl _ _) o)
  have s1' := fun o => kept s1 (bal (Below.refl _ _) o)
  go_wp2_with fail
  refine (sub_back a b HS.out _).mono ?_
  rintro e w3 ⟨rfl, h3⟩
  replace a0 := kept (a0' _) h3
  replace a1 := kept (a1' _) h3
  replace b0 := kept (b0' _) h3
  replace b1 := kept (b1' _) h3
  replace s0 := kept (s0' _) h3
  replace s1 := kept (s1' _) h3
  have t0 := kept (p := ⟨w2.heap.size, 0, none⟩) (x := .int .u64 (hi (a + b) : Nat)) (by simp [go_sem]) h3
  have t1 := kept (p := ⟨w2.heap.size, 1, none⟩) (x := .int .u64 (lo (a + b) : Nat)) (by simp [go_sem]) h3
  replace hB := btr (bal hB _) h3
  clear a0' a1' b0' b1' s0' s1'
  clear h3
  have a0' := fun o => kept a0 (bal (Below.refl _ _) o)
  have a1' := fun o => kept a1 (bal (Below.refl _ _) o)
  have b0' := fun o => kept b0 (bal (Below.refl _ _) o)
  have b1' := fun o => kept b1 (bal (Below.refl _ _) o)
  have s0' := fun o => kept s0 (bal (Below.refl _ _) o)
  have s1' := fun o => kept s1 (bal (Below.refl _ _) o)
  have t0' := fun o => kept t0 (bal (Below.refl _ _) o)
  have t1' := fun o => kept t1 (bal (Below.refl _ _) o)
  go_wp2_with fail
  refine (sub_less a b HA.out HB.out HD.out _).mono ?_
  rintro e w4 ⟨rfl, h4⟩
  replace a0 := kept (a0' _) h4
  replace a1 := kept (a1' _) h4
  replace b0 := kept (b0' _) h4
  replace b1 := kept (b1' _) h4
  replace s0 := kept (s0' _) h4
  replace s1 := kept (s1' _) h4
  replace t0 := kept (t0' _) h4
  replace t1 := kept (t1' _) h4
  have d0 := kept (p := ⟨w3.heap.size, 0, none⟩) (x := .int .u64 (hi a : Nat)) (by simp [go_sem]) h4
  have d1 := kept (p := ⟨w3.heap.size, 1, none⟩) (x := .int .u64 (lo a : Nat)) (by simp [go_sem]) h4
  replace hB := btr (bal hB _) h4
  clear a0' a1' b0' b1' s0' s1' t0' t1'
  clear h4
  have a0' := fun o => kept a0 (bal (Below.refl _ _) o)
  have a1' := fun o => kept a1 (bal (Below.refl _ _) o)
  have b0' := fun o => kept b0 (bal (Below.refl _ _) o)
  have b1' := fun o => kept b1 (bal (Below.refl _ _) o)
  have s0' := fun o => kept s0 (bal (Below.refl _ _) o)
  have s1' := fun o => kept s1 (bal (Below.refl _ _) o)
  have t0' := fun o => kept t0 (bal (Below.refl _ _) o)
  have t1' := fun o => kept t1 (bal (Below.refl _ _) o)
  have d0' := fun o => kept d0 (bal (Below.refl _ _) o)
  have d1' := fun o => kept d1 (bal (Below.refl _ _) o)
  go_wp2_with fail
  refine (add_zero b _).mono ?_
  rintro e w5 ⟨rfl, h5⟩
  replace a0 := kept (a0' _) h5
  replace a1 := kept (a1' _) h5
  replace b0 := kept (b0' _) h5
  replace b1 := kept (b1' _) h5
  replace s0 := kept (s0' _) h5
  replace s1 := kept (s1' _) h5
  replace t0 := kept (t0' _) h5
  replace t1 := kept (t1' _) h5
  replace d0 := kept (d0' _) h5
  replace d1 := kept (d1' _) h5
  have e0 := kept (p := ⟨w4.heap.size, 0, none⟩) (x := .int .u64 0) (by simp [go_sem]) h5
  have e1 := kept (p := ⟨w4.heap.size, 1, none⟩) (x := .int .u64 0) (by simp [go_sem]) h5
  replace hB := btr (bal hB _) h5
  clear a0' a1' b0' b1' s0' s1' t0' t1' d0' d1'
  clear h5
  have a0' := fun o => kept a0 (bal (Below.refl _ _) o)
  have a1' := fun o => kept a1 (bal (Below.refl _ _) o)
  have b0' := fun o => kept b0 (bal (Below.refl _ _) o)
  have b1' := fun o => kept b1 (bal (Below.refl _ _) o)
  have s0' := fun o => kept s0 (bal (Below.refl _ _) o)
  have s1' := fun o => kept s1 (bal (Below.refl _ _) o)
  have t0' := fun o => kept t0 (bal (Below.refl _ _) o)
  have t1' := fun o => kept t1 (bal (Below.refl _ _) o)
  have d0' := fun o => kept d0 (bal (Below.refl _ _) o)
  have d1' := fun o => kept d1 (bal (Below.refl _ _) o)
  have e0' := fun o => kept e0 (bal (Below.refl _ _) o)
  have e1' := fun o => kept e1 (bal (Below.refl _ _) o)
  go_wp2_with fail
  have hA := bal (Below.refl w5.heap.size w5) (.cells #[.int .u64 (hi (addN 0 b) : Nat), .int .u64 (lo (addN 0 b) : Nat)] 24)
  replace a0 := kept a0 hA
  replace a1 := kept a1 hA
  replace b0 := kept b0 hA
  replace b1 := kept b1 hA
  have f0 : (w5.alloc (.cells #[.int .u64 (hi (addN 0 b) : Nat), .int .u64 (lo (addN 0 b) : Nat)] 24)).cell? ⟨w5.heap.size, 0, none⟩ = some (.int .u64 (hi (addN 0 b) : Nat)) := by simp [go_sem]
  have f1 : (w5.alloc (.cells #[.int .u64 (hi (addN 0 b) : Nat), .int .u64 (lo (addN 0 b) : Nat)] 24)).cell? ⟨w5.heap.size, 1, none⟩ = some (.int .u64 (lo (addN 0 b) : Nat)) := by simp [go_sem]
  replace hB := btr hB hA
  clear hA a0' a1' b0' b1' s0' s1' t0' t1' d0' d1' e0' e1' s0 s1 t0 t1 d0 d1 e0 e1
  generalize w5.alloc (.cells #[.int .u64 (hi (addN 0 b) : Nat), .int .u64 (lo (addN 0 b) : Nat)] 24) = v at *
  generalize w1.heap.size = n1 at *
  generalize w2.heap.size = n2 at *
  generalize w3.heap.size = n3 at *
  generalize w4.heap.size = n4 at *
  generalize w5.heap.size = n5 at *
  clear w1 w2 w3 w4 w5
  replace a0 := cell_regrown a0
  replace a1 := cell_regrown a1
  replace b0 := cell_regrown b0
  replace b1 := cell_regrown b1
  replace f0 := cell_regrown f0
  replace f1 := cell_regrown f1
  refine wp_region_quiet_below (by kernel_rfl) (by kernel_rfl) ?_
  repeat (go_big_quiet_step (first | (go_at_call 12; with_reducible exact Calls.regrown_of (fixed_any _)) | (go_at_call 14; with_reducible exact Calls.regrown_of (cmp_less a b HD.out _))))
  refine wpQuiet_nil ?_
  rintro _ ⟨⟨dq, osq⟩, rfl⟩
  go_wp2
  go_ret
  exact ⟨rfl, btr hB (below_regrown v dq osq)⟩

set_option maxHeartbeats 1600000 in
theorem back_no_fine (a b : Nat) (ha : a < MM) (hb : b < MM) (hs : ¬ a + b < MM) (hd : b ≤ a) (w : World) :
    Calls Try.prog 4 #[.agg #[.int .u64 (hi a : Nat), .int .u64 (lo a : Nat)], .agg #[.int .u64 (hi b : Nat), .int .u64 (lo b : Nat)]] w fun e w' => e = .returned (.bool true) ∧ Below w.heap.size w w' := by
  have HS := Lib.hid hs; clear hs
  have HD := Lib.hid hd; clear hd
  have HA := Lib.hid ha; clear ha
  have HB := Lib.hid hb; clear hb
  obtain ⟨c, hc0, hc⟩ := cmp_fine a b HD.out
  have HC := Lib.hid hc; clear hc
  go_enter Try.func4, Try.ntmps4
  go_wp2_with fail
  refine (add_no_c a b HS.out _).mono ?_
  rintro e w1 ⟨rfl, h1⟩
  have a0 := kept (p := ⟨w.heap.size, 0, none⟩) (x := .int .u64 (hi a : Nat)) (by simp [go_sem]) h1
  have a1 := kept (p := ⟨w.heap.size, 1, none⟩) (x := .int .u64 (lo a : Nat)) (by simp [go_sem]) h1
  have b0 := kept (p := ⟨w.heap.size + 1, 0, none⟩) (x := .int .u64 (hi b : Nat)) (by simp [go_sem]) h1
  have b1 := kept (p := ⟨w.heap.size + 1, 1, none⟩) (x := .int .u64 (lo b : Nat)) (by simp [go_sem]) h1
  have hB : Below w.heap.size w w1 := btr (bal (bal (Below.refl _ _) _) _) h1
  clear h1
  have a0' := fun o => kept a0 (bal (Below.refl _ _) o)
  have a1' := fun o => kept a1 (bal (Below.refl _ _) o)
  have b0' := fun o => kept b0 (bal (Below.refl _ _) o)
  have b1' := fun o => kept b1 (bal (Below.refl _ _) o)
  go_wp2_with fail
  refine (add_no_r a b HS.out _).mono ?_
  rintro e w2 ⟨rfl, h2⟩
  replace a0 := kept (a0' _) h2
  replace a1 := kept (a1' _) h2
  replace b0 := kept (b0' _) h2
  replace b1 := kept (b1' _) h2
  have s0 := kept (p := ⟨w1.heap.size, 0, none⟩) (x := .int .u64 0) (by simp [go_sem]) h2
  have s1 := kept (p := ⟨w1.heap.size, 1, none⟩) (x := .int .u64 0) (by simp [go_sem]) h2
  replace hB := btr (bal hB _) h2
  clear a0' a1' b0' b1'
  clear h2
  have a0' := fun o => kept a0 (bal (Below.refl _ _) o)
  have a1' := fun o => kept a1 (bal (Below.refl _ _) o)
  have b0' := fun o => kept b0 (bal (Below.refl _ _) o)
  have b1' := fun o => kept b1 (bal (Below.refl _ _) o)
  have s0' := fun o => kept s0 (bal (Below.refl _ _) o)
  have s1' := fun o => kept s1 (bal (Below.refl _ _) o)
  go_wp2_with fail
  refine (sub_zero b HB.out _).mono ?_
  rintro e w3 ⟨rfl, h3⟩
  replace a0 := kept (a0' _) h3
  replace a1 := kept (a1' _) h3
  replace b0 := kept (b0' _) h3
  replace b1 := kept (b1' _) h3
  replace s0 := kept (s0' _) h3
  replace s1 := kept (s1' _) h3
  have t0 := kept (p := ⟨w2.heap.size, 0, none⟩) (x := .int .u64 0) (by simp [go_sem]) h3
  have t1 := kept (p := ⟨w2.heap.size, 1, none⟩) (x := .int .u64 0) (by simp [go_sem]) h3
  replace hB := btr (bal hB _) h3
  clear a0' a1' b0' b1' s0' s1'
  clear h3
  have a0' := fun o => kept a0 (bal (Below.refl _ _) o)
  have a1' := fun o => kept a1 (bal (Below.refl _ _) o)
  have b0' := fun o => kept b0 (bal (Below.refl _ _) o)
  have b1' := fun o => kept b1 (bal (Below.refl _ _) o)
  have s0' := fun o => kept s0 (bal (Below.refl _ _) o)
  have s1' := fun o => kept s1 (bal (Below.refl _ _) o)
  have t0' := fun o => kept t0 (bal (Below.refl _ _) o)
  have t1' := fun o => kept t1 (bal (Below.refl _ _) o)
  go_wp2_with fail
  refine (sub_fine a b HA.out HD.out _).mono ?_
  rintro e w4 ⟨rfl, h4⟩
  replace a0 := kept (a0' _) h4
  replace a1 := kept (a1' _) h4
  replace b0 := kept (b0' _) h4
  replace b1 := kept (b1' _) h4
  replace s0 := kept (s0' _) h4
  replace s1 := kept (s1' _) h4
  replace t0 := kept (t0' _) h4
  replace t1 := kept (t1' _) h4
  have d0 := kept (p := ⟨w3.heap.size, 0, none⟩) (x := .int .u64 0) (by simp [go_sem]) h4
  have d1 := kept (p := ⟨w3.heap.size, 1, none⟩) (x := .int .u64 0) (by simp [go_sem]) h4
  replace hB := btr (bal hB _) h4
  clear a0' a1' b0' b1' s0' s1' t0' t1'
  clear h4
  have a0' := fun o => kept a0 (bal (Below.refl _ _) o)
  have a1' := fun o => kept a1 (bal (Below.refl _ _) o)
  have b0' := fun o => kept b0 (bal (Below.refl _ _) o)
  have b1' := fun o => kept b1 (bal (Below.refl _ _) o)
  have s0' := fun o => kept s0 (bal (Below.refl _ _) o)
  have s1' := fun o => kept s1 (bal (Below.refl _ _) o)
  have t0' := fun o => kept t0 (bal (Below.refl _ _) o)
  have t1' := fun o => kept t1 (bal (Below.refl _ _) o)
  have d0' := fun o => kept d0 (bal (Below.refl _ _) o)
  have d1' := fun o => kept d1 (bal (Below.refl _ _) o)
  go_wp2_with fail
  refine (add_back a b HA.out HD.out _).mono ?_
  rintro e w5 ⟨rfl, h5⟩
  replace a0 := kept (a0' _) h5
  replace a1 := kept (a1' _) h5
  replace b0 := kept (b0' _) h5
  replace b1 := kept (b1' _) h5
  replace s0 := kept (s0' _) h5
  replace s1 := kept (s1' _) h5
  replace t0 := kept (t0' _) h5
  replace t1 := kept (t1' _) h5
  replace d0 := kept (d0' _) h5
  replace d1 := kept (d1' _) h5
  have e0 := kept (p := ⟨w4.heap.size, 0, none⟩) (x := .int .u64 (hi (a - b) : Nat)) (by simp [go_sem]) h5
  have e1 := kept (p := ⟨w4.heap.size, 1, none⟩) (x := .int .u64 (lo (a - b) : Nat)) (by simp [go_sem]) h5
  replace hB := btr (bal hB _) h5
  clear a0' a1' b0' b1' s0' s1' t0' t1' d0' d1'
  clear h5
  have a0' := fun o => kept a0 (bal (Below.refl _ _) o)
  have a1' := fun o => kept a1 (bal (Below.refl _ _) o)
  have b0' := fun o => kept b0 (bal (Below.refl _ _) o)
  have b1' := fun o => kept b1 (bal (Below.refl _ _) o)
  have s0' := fun o => kept s0 (bal (Below.refl _ _) o)
  have s1' := fun o => kept s1 (bal (Below.refl _ _) o)
  have t0' := fun o => kept t0 (bal (Below.refl _ _) o)
  have t1' := fun o => kept t1 (bal (Below.refl _ _) o)
  have d0' := fun o => kept d0 (bal (Below.refl _ _) o)
  have d1' := fun o => kept d1 (bal (Below.refl _ _) o)
  have e0' := fun o => kept e0 (bal (Below.refl _ _) o)
  have e1' := fun o => kept e1 (bal (Below.refl _ _) o)
  go_wp2_with fail
  have hA := bal (Below.refl w5.heap.size w5) (.cells #[.int .u64 (hi a : Nat), .int .u64 (lo a : Nat)] 24)
  replace a0 := kept a0 hA
  replace a1 := kept a1 hA
  replace b0 := kept b0 hA
  replace b1 := kept b1 hA
  have f0 : (w5.alloc (.cells #[.int .u64 (hi a : Nat), .int .u64 (lo a : Nat)] 24)).cell? ⟨w5.heap.size, 0, none⟩ = some (.int .u64 (hi a : Nat)) := by simp [go_sem]
  have f1 : (w5.alloc (.cells #[.int .u64 (hi a : Nat), .int .u64 (lo a : Nat)] 24)).cell? ⟨w5.heap.size, 1, none⟩ = some (.int .u64 (lo a : Nat)) := by simp [go_sem]
  replace hB := btr hB hA
  clear hA a0' a1' b0' b1' s0' s1' t0' t1' d0' d1' e0' e1' s0 s1 t0 t1 d0 d1 e0 e1
  generalize w5.alloc (.cells #[.int .u64 (hi a : Nat), .int .u64 (lo a : Nat)] 24) = v at *
  generalize w1.heap.size = n1 at *
  generalize w2.heap.size = n2 at *
  generalize w3.heap.size = n3 at *
  generalize w4.heap.size = n4 at *
  generalize w5.heap.size = n5 at *
  clear w1 w2 w3 w4 w5
  replace a0 := cell_regrown a0
  replace a1 := cell_regrown a1
  replace b0 := cell_regrown b0
  replace b1 := cell_regrown b1
  replace f0 := cell_regrown f0
  replace f1 := cell_regrown f1
  refine wp_region_quiet_below (by kernel_rfl) (by kernel_rfl) ?_
  repeat (go_big_quiet_step (first | (go_at_call 12; with_reducible exact Calls.regrown_of (fixed_any _)) | (go_at_call 14; with_reducible exact Calls.regrown_of (HC.out _)) | (go_at_call 17; with_reducible exact Calls.regrown_of (top_any _)) | (go_at_call 13; with_reducible exact Calls.regrown_of (rest_top a HA.out _)) | (go_at_call 14; with_reducible exact Calls.regrown_of (cmp_top a b HA.out HS.out _))))
  refine wpQuiet_nil ?_
  rintro _ ⟨⟨dq, osq⟩, rfl⟩
  go_wp2
  go_ret
  exact ⟨rfl, btr hB (below_regrown v dq osq)⟩

set_option maxHeartbeats 1600000 in
theorem back_no_less (a b : Nat) (ha : a < MM) (hb : b < MM) (hs : ¬ a + b < MM) (hd : a < b) (w : World) :
    Calls Try.prog 4 #[.agg #[.int .u64 (hi a : Nat), .int .u64 (lo a : Nat)], .agg #[.int .u64 (hi b : Nat), .int .u64 (lo b : Nat)]] w fun e w' => e = .returned (.bool true) ∧ Below w.heap.size w w' := by
  have HS := Lib.hid hs; clear hs
  have HD := Lib.hid hd; clear hd
  have HA := Lib.hid ha; clear ha
  have HB := Lib.hid hb; clear hb
  go_enter Try.func4, Try.ntmps4
  go_wp2_with fail
  refine (add_no_c a b HS.out _).mono ?_
  rintro e w1 ⟨rfl, h1⟩
  have a0 := kept (p := ⟨w.heap.size, 0, none⟩) (x := .int .u64 (hi a : Nat)) (by simp [go_sem]) h1
  have a1 := kept (p := ⟨w.heap.size, 1, none⟩) (x := .int .u64 (lo a : Nat)) (by simp [go_sem]) h1
  have b0 := kept (p := ⟨w.heap.size + 1, 0, none⟩) (x := .int .u64 (hi b : Nat)) (by simp [go_sem]) h1
  have b1 := kept (p := ⟨w.heap.size + 1, 1, none⟩) (x := .int .u64 (lo b : Nat)) (by simp [go_sem]) h1
  have hB : Below w.heap.size w w1 := btr (bal (bal (Below.refl _ _) _) _) h1
  clear h1
  have a0' := fun o => kept a0 (bal (Below.refl _ _) o)
  have a1' := fun o => kept a1 (bal (Below.refl _ _) o)
  have b0' := fun o => kept b0 (bal (Below.refl _ _) o)
  have b1' := fun o => kept b1 (bal (Below.refl _ _) o)
  go_wp2_with fail
  refine (add_no_r a b HS.out _).mono ?_
  rintro e w2 ⟨rfl, h2⟩
  replace a0 := kept (a0' _) h2
  replace a1 := kept (a1' _) h2
  replace b0 := kept (b0' _) h2
  replace b1 := kept (b1' _) h2
  have s0 := kept (p := ⟨w1.heap.size, 0, none⟩) (x := .int .u64 0) (by simp [go_sem]) h2
  have s1 := kept (p := ⟨w1.heap.size, 1, none⟩) (x := .int .u64 0) (by simp [go_sem]) h2
  replace hB := btr (bal hB _) h2
  clear a0' a1' b0' b1'
  clear h2
  have a0' := fun o => kept a0 (bal (Below.refl _ _) o)
  have a1' := fun o => kept a1 (bal (Below.refl _ _) o)
  have b0' := fun o => kept b0 (bal (Below.refl _ _) o)
  have b1' := fun o => kept b1 (bal (Below.refl _ _) o)
  have s0' := fun o => kept s0 (bal (Below.refl _ _) o)
  have s1' := fun o => kept s1 (bal (Below.refl _ _) o)
  go_wp2_with fail
  refine (sub_zero b HB.out _).mono ?_
  rintro e w3 ⟨rfl, h3⟩
  replace a0 := kept (a0' _) h3
  replace a1 := kept (a1' _) h3
  replace b0 := kept (b0' _) h3
  replace b1 := kept (b1' _) h3
  replace s0 := kept (s0' _) h3
  replace s1 := kept (s1' _) h3
  have t0 := kept (p := ⟨w2.heap.size, 0, none⟩) (x := .int .u64 0) (by simp [go_sem]) h3
  have t1 := kept (p := ⟨w2.heap.size, 1, none⟩) (x := .int .u64 0) (by simp [go_sem]) h3
  replace hB := btr (bal hB _) h3
  clear a0' a1' b0' b1' s0' s1'
  clear h3
  have a0' := fun o => kept a0 (bal (Below.refl _ _) o)
  have a1' := fun o => kept a1 (bal (Below.refl _ _) o)
  have b0' := fun o => kept b0 (bal (Below.refl _ _) o)
  have b1' := fun o => kept b1 (bal (Below.refl _ _) o)
  have s0' := fun o => kept s0 (bal (Below.refl _ _) o)
  have s1' := fun o => kept s1 (bal (Below.refl _ _) o)
  have t0' := fun o => kept t0 (bal (Below.refl _ _) o)
  have t1' := fun o => kept t1 (bal (Below.refl _ _) o)
  go_wp2_with fail
  refine (sub_less a b HA.out HB.out HD.out _).mono ?_
  rintro e w4 ⟨rfl, h4⟩
  replace a0 := kept (a0' _) h4
  replace a1 := kept (a1' _) h4
  replace b0 := kept (b0' _) h4
  replace b1 := kept (b1' _) h4
  replace s0 := kept (s0' _) h4
  replace s1 := kept (s1' _) h4
  replace t0 := kept (t0' _) h4
  replace t1 := kept (t1' _) h4
  have d0 := kept (p := ⟨w3.heap.size, 0, none⟩) (x := .int .u64 0) (by simp [go_sem]) h4
  have d1 := kept (p := ⟨w3.heap.size, 1, none⟩) (x := .int .u64 0) (by simp [go_sem]) h4
  replace hB := btr (bal hB _) h4
  clear a0' a1' b0' b1' s0' s1' t0' t1'
  clear h4
  have a0' := fun o => kept a0 (bal (Below.refl _ _) o)
  have a1' := fun o => kept a1 (bal (Below.refl _ _) o)
  have b0' := fun o => kept b0 (bal (Below.refl _ _) o)
  have b1' := fun o => kept b1 (bal (Below.refl _ _) o)
  have s0' := fun o => kept s0 (bal (Below.refl _ _) o)
  have s1' := fun o => kept s1 (bal (Below.refl _ _) o)
  have t0' := fun o => kept t0 (bal (Below.refl _ _) o)
  have t1' := fun o => kept t1 (bal (Below.refl _ _) o)
  have d0' := fun o => kept d0 (bal (Below.refl _ _) o)
  have d1' := fun o => kept d1 (bal (Below.refl _ _) o)
  go_wp2_with fail
  refine (add_zero b _).mono ?_
  rintro e w5 ⟨rfl, h5⟩
  replace a0 := kept (a0' _) h5
  replace a1 := kept (a1' _) h5
  replace b0 := kept (b0' _) h5
  replace b1 := kept (b1' _) h5
  replace s0 := kept (s0' _) h5
  replace s1 := kept (s1' _) h5
  replace t0 := kept (t0' _) h5
  replace t1 := kept (t1' _) h5
  replace d0 := kept (d0' _) h5
  replace d1 := kept (d1' _) h5
  have e0 := kept (p := ⟨w4.heap.size, 0, none⟩) (x := .int .u64 0) (by simp [go_sem]) h5
  have e1 := kept (p := ⟨w4.heap.size, 1, none⟩) (x := .int .u64 0) (by simp [go_sem]) h5
  replace hB := btr (bal hB _) h5
  clear a0' a1' b0' b1' s0' s1' t0' t1' d0' d1'
  clear h5
  have a0' := fun o => kept a0 (bal (Below.refl _ _) o)
  have a1' := fun o => kept a1 (bal (Below.refl _ _) o)
  have b0' := fun o => kept b0 (bal (Below.refl _ _) o)
  have b1' := fun o => kept b1 (bal (Below.refl _ _) o)
  have s0' := fun o => kept s0 (bal (Below.refl _ _) o)
  have s1' := fun o => kept s1 (bal (Below.refl _ _) o)
  have t0' := fun o => kept t0 (bal (Below.refl _ _) o)
  have t1' := fun o => kept t1 (bal (Below.refl _ _) o)
  have d0' := fun o => kept d0 (bal (Below.refl _ _) o)
  have d1' := fun o => kept d1 (bal (Below.refl _ _) o)
  have e0' := fun o => kept e0 (bal (Below.refl _ _) o)
  have e1' := fun o => kept e1 (bal (Below.refl _ _) o)
  go_wp2_with fail
  have hA := bal (Below.refl w5.heap.size w5) (.cells #[.int .u64 (hi (addN 0 b) : Nat), .int .u64 (lo (addN 0 b) : Nat)] 24)
  replace a0 := kept a0 hA
  replace a1 := kept a1 hA
  replace b0 := kept b0 hA
  replace b1 := kept b1 hA
  have f0 : (w5.alloc (.cells #[.int .u64 (hi (addN 0 b) : Nat), .int .u64 (lo (addN 0 b) : Nat)] 24)).cell? ⟨w5.heap.size, 0, none⟩ = some (.int .u64 (hi (addN 0 b) : Nat)) := by simp [go_sem]
  have f1 : (w5.alloc (.cells #[.int .u64 (hi (addN 0 b) : Nat), .int .u64 (lo (addN 0 b) : Nat)] 24)).cell? ⟨w5.heap.size, 1, none⟩ = some (.int .u64 (lo (addN 0 b) : Nat)) := by simp [go_sem]
  replace hB := btr hB hA
  clear hA a0' a1' b0' b1' s0' s1' t0' t1' d0' d1' e0' e1' s0 s1 t0 t1 d0 d1 e0 e1
  generalize w5.alloc (.cells #[.int .u64 (hi (addN 0 b) : Nat), .int .u64 (lo (addN 0 b) : Nat)] 24) = v at *
  generalize w1.heap.size = n1 at *
  generalize w2.heap.size = n2 at *
  generalize w3.heap.size = n3 at *
  generalize w4.heap.size = n4 at *
  generalize w5.heap.size = n5 at *
  clear w1 w2 w3 w4 w5
  replace a0 := cell_regrown a0
  replace a1 := cell_regrown a1
  replace b0 := cell_regrown b0
  replace b1 := cell_regrown b1
  replace f0 := cell_regrown f0
  replace f1 := cell_regrown f1
  refine wp_region_quiet_below (by kernel_rfl) (by kernel_rfl) ?_
  repeat (go_big_quiet_step (first | (go_at_call 12; with_reducible exact Calls.regrown_of (fixed_any _)) | (go_at_call 14; with_reducible exact Calls.regrown_of (cmp_less a b HD.out _)) | (go_at_call 17; with_reducible exact Calls.regrown_of (top_any _)) | (go_at_call 13; with_reducible exact Calls.regrown_of (rest_top a HA.out _)) | (go_at_call 14; with_reducible exact Calls.regrown_of (cmp_top a b HA.out HS.out _))))
  refine wpQuiet_nil ?_
  rintro _ ⟨⟨dq, osq⟩, rfl⟩
  go_wp2
  go_ret
  exact ⟨rfl, btr hB (below_regrown v dq osq)⟩

theorem back_any (a b : Nat) (ha : a < MM) (hb : b < MM) (w : World) :
    Calls Try.prog 4 #[.agg #[.int .u64 (hi a : Nat), .int .u64 (lo a : Nat)], .agg #[.int .u64 (hi b : Nat), .int .u64 (lo b : Nat)]] w fun e w' => e = .returned (.bool true) ∧ Below w.heap.size w w' := by
  by_cases hs : a + b < MM
  · by_cases hd : b ≤ a
    · exact back_ok_fine a b ha hb hs hd w
    · exact back_ok_less a b ha hb hs (by omega) w
  · by_cases hd : b ≤ a
    · exact back_no_fine a b ha hb hs hd w
    · exact back_no_less a b ha hb hs (by omega) w
end Go.Proofs.Ytapomicakmbcdaa
