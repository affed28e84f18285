/- The walk of the law KeyOrder. -/
import Derived.Test.YtfofhnaomlcioaaNextLaw
import Derived.Test.YtfofhnaomlcioaaLin
namespace Go.Proofs.Ytfofhnaomlcioaa
open Go.RowKit
open W (hi lo dig MM M cmpN)

theorem pair_nb (a n : Nat) (ha : a < MM) (hn : n < 18446744073709551616) : nb (tail a 16 ++ tail n 8) = a * 18446744073709551616 + n := by
  rw [nb_append, tail_length, nb_wide a ha, nb_word n hn]
theorem fill_24 (a : Nat) (x : UInt8) : fillL (tail a 16) (cl 24) x = tail a 16 ++ List.replicate 8 x := by
  have h : cl 24 = 24 := by decide
  unfold fillL
  rw [h, tail_length, List.take_of_length_le (by rw [tail_length]; omega)]
theorem low_nb (a : Nat) (ha : a < MM) : nb (fillL (tail a 16) (cl 24) 0) = a * 18446744073709551616 := by
  rw [fill_24, nb_append, List.length_replicate, nb_zeros, nb_wide a ha, Nat.add_zero]
theorem high_nb (a : Nat) (ha : a < MM) : nb (fillL (tail a 16) (cl 24) 255) = a * 18446744073709551616 + 18446744073709551615 := by
  have h := nb_full 8
  rw [fill_24, nb_append, List.length_replicate, nb_wide a ha]
  have e : (256 : Nat) ^ 8 = 18446744073709551616 := by decide
  rw [e] at h ⊢
  omega
/-- How the law's numbers stand: c the numbers, x the pairs, p and q the first and the last row against the second pair. -/
def Stands (a b n m : Nat) (c x p q : Int) : Prop :=
  (c = -1 ∧ x = -1 ∧ p ≤ 0 ∧ 0 < q ∧ ¬ a = b) ∨ (c = 1 ∧ x = 1 ∧ 0 < p ∧ ¬ a = b) ∨
  (c = 0 ∧ p ≤ 0 ∧ q ≤ 0 ∧ a = b ∧ ((n < m ∧ x = -1) ∨ (m < n ∧ x = 1) ∨ (n = m ∧ x = 0)))
theorem stands (a b n m : Nat) (ha : a < MM) (hb : b < MM) (hn : n < 18446744073709551616) (hm : m < 18446744073709551616) :
    Stands a b n m (cmpN a b) (Lib.compareBytes (tail a 16 ++ tail n 8) (tail b 16 ++ tail m 8)) (Lib.compareBytes (fillL (tail a 16) (cl 24) 0) (tail b 16 ++ tail m 8))
      (Lib.compareBytes (tail b 16 ++ tail m 8) (fillL (tail a 16) (cl 24) 255)) := by
  have h24 : cl 24 = 24 := by decide
  have l1 : (tail a 16 ++ tail n 8).length = (tail b 16 ++ tail m 8).length := by simp [tail_length]
  have l2 : (fillL (tail a 16) (cl 24) 0).length = (tail b 16 ++ tail m 8).length := by rw [fillL_length, h24]; simp [tail_length]
  have l3 : (tail b 16 ++ tail m 8).length = (fillL (tail a 16) (cl 24) 255).length := by rw [fillL_length, h24]; simp [tail_length]
  rw [cmp_nb _ _ l1, cmp_nb _ _ l2, cmp_nb _ _ l3, pair_nb a n ha hn, pair_nb b m hb hm, low_nb a ha, high_nb a ha]
  unfold Stands
  rcases Nat.lt_trichotomy a b with c | c | c
  · refine .inl ⟨W.cmpN_lt c, W.cmpN_lt (by omega), cmpN_le (by omega), ?_, by omega⟩
    rw [W.cmpN_gt (by omega)]
    decide
  · refine .inr (.inr ⟨W.cmpN_eq c, cmpN_le (by omega), cmpN_le (by omega), c, ?_⟩)
    subst c
    rcases Nat.lt_trichotomy n m with d | d | d
    · exact .inl ⟨d, W.cmpN_lt (by omega)⟩
    · exact .inr (.inr ⟨d, W.cmpN_eq (by omega)⟩)
    · exact .inr (.inl ⟨d, W.cmpN_gt (by omega)⟩)
  · refine .inr (.inl ⟨W.cmpN_gt c, W.cmpN_gt (by omega), ?_, by omega⟩)
    rw [W.cmpN_gt (by omega)]
    decide

set_option maxHeartbeats 3200000 in
theorem orderlaw_any (a b n m : Nat) (ha : a < MM) (hb : b < MM) (hn : n < 18446744073709551616) (hm : m < 18446744073709551616) (w : World) :
    Calls Try.prog 5 #[.agg #[.int .u64 (hi a : Nat), .int .u64 (lo a : Nat), .int .u64 (n : Int)], .agg #[.int .u64 (hi b : Nat), .int .u64 (lo b : Nat), .int .u64 (m : Int)]] w fun e w' => e = .returned (.bool true) ∧ Below w.heap.size w w' := by
  have HS := Lib.hid (stands a b n m ha hb hn hm)
  have HP := Lib.hid (pair_any a n ha hn)
  have HQ := Lib.hid (pair_any b m hb hm)
  have HR := Lib.hid (refcmp_any a b ha hb)
  have HI := Lib.hid (id_any a ha)
  have HX := Lib.hid (fun W v1 v2 (h1 : Byts W v1 _) (h2 : Byts W v2 _) => keycmp_any v1 v2 (tail a 16 ++ tail n 8) (tail b 16 ++ tail m 8) W h1 h2)
  have HC := Lib.hid (fun W v1 v2 (h1 : Byts W v1 _) (h2 : Byts W v2 _) => keycmp_any v1 v2 (fillL (tail a 16) (cl 24) 0) (tail b 16 ++ tail m 8) W h1 h2)
  have HD := Lib.hid (fun W v1 v2 (h1 : Byts W v1 _) (h2 : Byts W v2 _) => keycmp_any v1 v2 (tail b 16 ++ tail m 8) (fillL (tail a 16) (cl 24) 255) W h1 h2)
  clear ha hb hn hm
  generalize Lib.compareBytes (tail a 16 ++ tail n 8) (tail b 16 ++ tail m 8) = x at *
  generalize Lib.compareBytes (fillL (tail a 16) (cl 24) 0) (tail b 16 ++ tail m 8) = p at *
  generalize Lib.compareBytes (tail b 16 ++ tail m 8) (fillL (tail a 16) (cl 24) 255) = q at *
  generalize cmpN a b = c at *
  go_enter Try.func5, Try.ntmps5
  go_upto_region 1 with fail
  go_cut [5, 6, 7, 8] (fun p q x y wc => ∃ g h, p = .pointer (some ⟨g, 0, none⟩) ∧ q = .pointer (some ⟨h, 0, none⟩) ∧ x = .int .u64 (n : Int) ∧ y = .int .u64 (m : Int) ∧ wc.cell? ⟨g, 0, none⟩ = some (.int .u64 (hi a : Nat)) ∧ wc.cell? ⟨g, 1, none⟩ = some (.int .u64 (lo a : Nat)) ∧ wc.cell? ⟨h, 0, none⟩ = some (.int .u64 (hi b : Nat)) ∧ wc.cell? ⟨h, 1, none⟩ = some (.int .u64 (lo b : Nat)) ∧ Below w.heap.size w wc)
  case first =>
    go_region
    all_goals (go_wp2_with fail; go_meet; exact ⟨_, _, rfl, rfl, rfl, rfl, by simp [go_sem], by simp [go_sem], by simp [go_sem], by simp [go_sem], by repeat (first | exact Below.refl _ _ | apply bal | (refine Below.setCell ?_ (by simp) _) | (refine Below.drew ?_))⟩)
  case rest =>
    obtain ⟨g, h, rfl, rfl, rfl, rfl, a0, a1, b0, b1, hB⟩ := hcut
    go_wp2_with fail
    refine lin_start 8 rfl (by kernel_rfl) ?_
    replace a0 : wc.drew.cell? ⟨g, 0, none⟩ = some (.int .u64 (hi a : Nat)) := a0
    replace a1 : wc.drew.cell? ⟨g, 1, none⟩ = some (.int .u64 (lo a : Nat)) := a1
    replace b0 : wc.drew.cell? ⟨h, 0, none⟩ = some (.int .u64 (hi b : Nat)) := b0
    replace b1 : wc.drew.cell? ⟨h, 1, none⟩ = some (.int .u64 (lo b : Nat)) := b1
    replace hB := hB.drew
    generalize wc.drew = u at *
    refine lin_take 0 21 (v := ?_) rfl rfl (by kernel_rfl) (by kernel_rfl) (by kernel_rfl) (fun _ _ _ _ _ h => h) (by rfl) (fun W hW => ?_) ?_
    rotate_left
    · have k0 := kept a0 hW; have k1 := kept a1 hW; have k2 := kept b0 hW; have k3 := kept b1 hW; go_simp; try rfl
    try simp only [Act.put, List.setIfInBounds_toArray, List.set_cons_zero, List.set_cons_succ]
    refine lin_take 1 22 (v := ?_) rfl rfl (by kernel_rfl) (by kernel_rfl) (by kernel_rfl) (fun _ _ _ _ _ h => h) (by rfl) (fun W hW => ?_) ?_
    rotate_left
    · have k0 := kept a0 hW; have k1 := kept a1 hW; have k2 := kept b0 hW; have k3 := kept b1 hW; go_simp; try rfl
    try simp only [Act.put, List.setIfInBounds_toArray, List.set_cons_zero, List.set_cons_succ]
    refine lin_take 3 24 (v := ?_) rfl rfl (by kernel_rfl) (by kernel_rfl) (by kernel_rfl) (fun _ _ _ _ _ h => h) (by rfl) (fun W hW => ?_) ?_
    rotate_left
    · have k0 := kept a0 hW; have k1 := kept a1 hW; have k2 := kept b0 hW; have k3 := kept b1 hW; go_simp; try rfl
    try simp only [Act.put, List.setIfInBounds_toArray, List.set_cons_zero, List.set_cons_succ]
    refine lin_take 4 25 (v := ?_) rfl rfl (by kernel_rfl) (by kernel_rfl) (by kernel_rfl) (fun _ _ _ _ _ h => h) (by rfl) (fun W hW => ?_) ?_
    rotate_left
    · have k0 := kept a0 hW; have k1 := kept a1 hW; have k2 := kept b0 hW; have k3 := kept b1 hW; go_simp; try rfl
    try simp only [Act.put, List.setIfInBounds_toArray, List.set_cons_zero, List.set_cons_succ]
    refine lin_step 2 rfl (by kernel_rfl) (fun K hK => ?_)
    go_simp
    refine (HP.out _).mono ?_
    rintro e w1 ⟨v1, rfl, p1, h1⟩
    refine hK.out _ _ h1 ?_
    clear hK K
    refine lin_step 5 rfl (by kernel_rfl) (fun K hK => ?_)
    go_simp
    refine (HQ.out _).mono ?_
    rintro e w2 ⟨v2, rfl, p2, h2⟩
    refine hK.out _ _ h2 ?_
    clear hK K
    refine lin_take 6 9 (v := ?_) rfl rfl (by kernel_rfl) (by kernel_rfl) (by kernel_rfl) (fun _ _ _ _ _ h => h) (by rfl) (fun W hW => ?_) ?_
    rotate_left
    · go_simp; try rfl
    try simp only [Act.put, List.setIfInBounds_toArray, List.set_cons_zero, List.set_cons_succ]
    refine lin_take 7 10 (v := ?_) rfl rfl (by kernel_rfl) (by kernel_rfl) (by kernel_rfl) (fun _ _ _ _ _ h => h) (by rfl) (fun W hW => ?_) ?_
    rotate_left
    · go_simp; try rfl
    try simp only [Act.put, List.setIfInBounds_toArray, List.set_cons_zero, List.set_cons_succ]
    refine lin_done (by kernel_rfl) ?_
    replace p1 := p1.below h2
    have h12 := btr h1 h2
    replace a0 := kept a0 h12
    replace a1 := kept a1 h12
    replace b0 := kept b0 h12
    replace b1 := kept b1 h12
    replace hB := btr hB h12
    clear h1 h2 h12 HP HQ
    have hs := HS.out
    unfold Stands at hs
    clear HS
    rcases hs with ⟨rfl, rfl, q1, q2, q3⟩ | ⟨rfl, rfl, q1, q3⟩ | ⟨rfl, q1, q2, rfl, q3⟩
    · have hz : decide (q ≤ 0) = false := decide_eq_false (by omega)
      have hh := halves_same a b
      rw [decide_eq_false q3] at hh
      clear q3
      go_wp2_with fail
      refine (HR.out _).mono ?_
      rintro e w3 ⟨rfl, h3⟩
      replace a0 := kept a0 h3
      replace a1 := kept a1 h3
      replace b0 := kept b0 h3
      replace b1 := kept b1 h3
      replace p1 := p1.below h3
      replace p2 := p2.below h3
      replace hB := btr hB h3
      clear h3
      go_wp2_with fail
      refine (HI.out _).mono ?_
      rintro e w4 ⟨v4, rfl, p4, h4⟩
      replace a0 := kept a0 h4
      replace a1 := kept a1 h4
      replace b0 := kept b0 h4
      replace b1 := kept b1 h4
      replace p1 := p1.below h4
      replace p2 := p2.below h4
      replace hB := btr hB h4
      clear h4
      go_wp2_with fail
      refine (low_any _ _ _ _ p4).mono ?_
      rintro e w5 ⟨v5, rfl, p5, h5⟩
      replace a0 := kept a0 h5
      replace a1 := kept a1 h5
      replace b0 := kept b0 h5
      replace b1 := kept b1 h5
      replace p1 := p1.below h5
      replace p2 := p2.below h5
      replace hB := btr hB h5
      clear h5
      clear p4
      go_wp2_with fail
      refine (HC.out _ _ _ p5 p2).mono ?_
      rintro e w6 ⟨rfl, h6⟩
      replace a0 := kept a0 h6
      replace a1 := kept a1 h6
      replace b0 := kept b0 h6
      replace b1 := kept b1 h6
      replace p1 := p1.below h6
      replace p2 := p2.below h6
      replace hB := btr hB h6
      clear h6
      clear p5
      go_wp2_with fail
      refine (HI.out _).mono ?_
      rintro e w7 ⟨v7, rfl, p7, h7⟩
      replace a0 := kept a0 h7
      replace a1 := kept a1 h7
      replace b0 := kept b0 h7
      replace b1 := kept b1 h7
      replace p1 := p1.below h7
      replace p2 := p2.below h7
      replace hB := btr hB h7
      clear h7
      go_wp2_with fail
      refine (high_any _ _ _ _ p7).mono ?_
      rintro e w8 ⟨v8, rfl, p8, h8⟩
      replace a0 := kept a0 h8
      replace a1 := kept a1 h8
      replace b0 := kept b0 h8
      replace b1 := kept b1 h8
      replace p1 := p1.below h8
      replace p2 := p2.below h8
      replace hB := btr hB h8
      clear h8
      clear p7
      go_wp2_with fail
      refine (HD.out _ _ _ p2 p8).mono ?_
      rintro e w9 ⟨rfl, h9⟩
      replace a0 := kept a0 h9
      replace a1 := kept a1 h9
      replace b0 := kept b0 h9
      replace b1 := kept b1 h9
      replace p1 := p1.below h9
      replace p2 := p2.below h9
      replace hB := btr hB h9
      clear h9
      clear p8
      go_wp2_with fail
      refine (fixed_any _).mono ?_
      rintro e w10 ⟨rfl, h10⟩
      replace a0 := kept a0 h10
      replace a1 := kept a1 h10
      replace b0 := kept b0 h10
      replace b1 := kept b1 h10
      replace p1 := p1.below h10
      replace p2 := p2.below h10
      replace hB := btr hB h10
      clear h10
      go_wp2_with fail
      refine (HX.out _ _ _ p1 p2).mono ?_
      rintro e w11 ⟨rfl, h11⟩
      replace a0 := kept a0 h11
      replace a1 := kept a1 h11
      replace b0 := kept b0 h11
      replace b1 := kept b1 h11
      replace p1 := p1.below h11
      replace p2 := p2.below h11
      replace hB := btr hB h11
      clear h11
      cases hp : (((hi a : Nat) : Int) == ((hi b : Nat) : Int)) <;> cases hq : (((lo a : Nat) : Int) == ((lo b : Nat) : Int)) <;> rw [hp, hq] at hh <;> simp only [Bool.and_self, Bool.and_true, Bool.and_false, Bool.true_eq_false] at hh
      all_goals
        go_wp2
        go_ret
        exact ⟨rfl, hB⟩
    · have hh := halves_same a b
      rw [decide_eq_false q3] at hh
      clear q3
      go_wp2_with fail
      refine (HR.out _).mono ?_
      rintro e w3 ⟨rfl, h3⟩
      replace a0 := kept a0 h3
      replace a1 := kept a1 h3
      replace b0 := kept b0 h3
      replace b1 := kept b1 h3
      replace p1 := p1.below h3
      replace p2 := p2.below h3
      replace hB := btr hB h3
      clear h3
      go_wp2_with fail
      refine (HI.out _).mono ?_
      rintro e w4 ⟨v4, rfl, p4, h4⟩
      replace a0 := kept a0 h4
      replace a1 := kept a1 h4
      replace b0 := kept b0 h4
      replace b1 := kept b1 h4
      replace p1 := p1.below h4
      replace p2 := p2.below h4
      replace hB := btr hB h4
      clear h4
      go_wp2_with fail
      refine (low_any _ _ _ _ p4).mono ?_
      rintro e w5 ⟨v5, rfl, p5, h5⟩
      replace a0 := kept a0 h5
      replace a1 := kept a1 h5
      replace b0 := kept b0 h5
      replace b1 := kept b1 h5
      replace p1 := p1.below h5
      replace p2 := p2.below h5
      replace hB := btr hB h5
      clear h5
      clear p4
      go_wp2_with fail
      refine (HC.out _ _ _ p5 p2).mono ?_
      rintro e w6 ⟨rfl, h6⟩
      replace a0 := kept a0 h6
      replace a1 := kept a1 h6
      replace b0 := kept b0 h6
      replace b1 := kept b1 h6
      replace p1 := p1.below h6
      replace p2 := p2.below h6
      replace hB := btr hB h6
      clear h6
      clear p5
      go_wp2_with fail
      refine (fixed_any _).mono ?_
      rintro e w10 ⟨rfl, h10⟩
      replace a0 := kept a0 h10
      replace a1 := kept a1 h10
      replace b0 := kept b0 h10
      replace b1 := kept b1 h10
      replace p1 := p1.below h10
      replace p2 := p2.below h10
      replace hB := btr hB h10
      clear h10
      go_wp2_with fail
      refine (HX.out _ _ _ p1 p2).mono ?_
      rintro e w11 ⟨rfl, h11⟩
      replace a0 := kept a0 h11
      replace a1 := kept a1 h11
      replace b0 := kept b0 h11
      replace b1 := kept b1 h11
      replace p1 := p1.below h11
      replace p2 := p2.below h11
      replace hB := btr hB h11
      clear h11
      cases hp : (((hi a : Nat) : Int) == ((hi b : Nat) : Int)) <;> cases hq : (((lo a : Nat) : Int) == ((lo b : Nat) : Int)) <;> rw [hp, hq] at hh <;> simp only [Bool.and_self, Bool.and_true, Bool.and_false, Bool.true_eq_false] at hh
      all_goals
        go_wp2
        go_ret
        exact ⟨rfl, hB⟩
    · rcases q3 with ⟨q3, rfl⟩ | ⟨q3, rfl⟩ | ⟨rfl, rfl⟩
      all_goals
        go_wp2_with fail
        refine (HR.out _).mono ?_
        rintro e w3 ⟨rfl, h3⟩
        replace a0 := kept a0 h3
        replace a1 := kept a1 h3
        replace b0 := kept b0 h3
        replace b1 := kept b1 h3
        replace p1 := p1.below h3
        replace p2 := p2.below h3
        replace hB := btr hB h3
        clear h3
        go_wp2_with fail
        refine (HI.out _).mono ?_
        rintro e w4 ⟨v4, rfl, p4, h4⟩
        replace a0 := kept a0 h4
        replace a1 := kept a1 h4
        replace b0 := kept b0 h4
        replace b1 := kept b1 h4
        replace p1 := p1.below h4
        replace p2 := p2.below h4
        replace hB := btr hB h4
        clear h4
        go_wp2_with fail
        refine (low_any _ _ _ _ p4).mono ?_
        rintro e w5 ⟨v5, rfl, p5, h5⟩
        replace a0 := kept a0 h5
        replace a1 := kept a1 h5
        replace b0 := kept b0 h5
        replace b1 := kept b1 h5
        replace p1 := p1.below h5
        replace p2 := p2.below h5
        replace hB := btr hB h5
        clear h5
        clear p4
        go_wp2_with fail
        refine (HC.out _ _ _ p5 p2).mono ?_
        rintro e w6 ⟨rfl, h6⟩
        replace a0 := kept a0 h6
        replace a1 := kept a1 h6
        replace b0 := kept b0 h6
        replace b1 := kept b1 h6
        replace p1 := p1.below h6
        replace p2 := p2.below h6
        replace hB := btr hB h6
        clear h6
        clear p5
        go_wp2_with fail
        refine (HI.out _).mono ?_
        rintro e w7 ⟨v7, rfl, p7, h7⟩
        replace a0 := kept a0 h7
        replace a1 := kept a1 h7
        replace b0 := kept b0 h7
        replace b1 := kept b1 h7
        replace p1 := p1.below h7
        replace p2 := p2.below h7
        replace hB := btr hB h7
        clear h7
        go_wp2_with fail
        refine (high_any _ _ _ _ p7).mono ?_
        rintro e w8 ⟨v8, rfl, p8, h8⟩
        replace a0 := kept a0 h8
        replace a1 := kept a1 h8
        replace b0 := kept b0 h8
        replace b1 := kept b1 h8
        replace p1 := p1.below h8
        replace p2 := p2.below h8
        replace hB := btr hB h8
        clear h8
        clear p7
        go_wp2_with fail
        refine (HD.out _ _ _ p2 p8).mono ?_
        rintro e w9 ⟨rfl, h9⟩
        replace a0 := kept a0 h9
        replace a1 := kept a1 h9
        replace b0 := kept b0 h9
        replace b1 := kept b1 h9
        replace p1 := p1.below h9
        replace p2 := p2.below h9
        replace hB := btr hB h9
        clear h9
        clear p8
        go_wp2_with fail
        refine (fixed_any _).mono ?_
        rintro e w10 ⟨rfl, h10⟩
        replace a0 := kept a0 h10
        replace a1 := kept a1 h10
        replace b0 := kept b0 h10
        replace b1 := kept b1 h10
        replace p1 := p1.below h10
        replace p2 := p2.below h10
        replace hB := btr hB h10
        clear h10
        go_wp2_with fail
        refine (HX.out _ _ _ p1 p2).mono ?_
        rintro e w11 ⟨rfl, h11⟩
        replace a0 := kept a0 h11
        replace a1 := kept a1 h11
        replace b0 := kept b0 h11
        replace b1 := kept b1 h11
        replace p1 := p1.below h11
        replace p2 := p2.below h11
        replace hB := btr hB h11
        clear h11
        go_wp2
        go_ret
        exact ⟨rfl, hB⟩
end Go.Proofs.Ytfofhnaomlcioaa
