/- key.ID, key.Stamp, key.Pair, key.Two: the bytes of numbers and stamps, and of two together. -/
import Derived.Test.YtfofhnaomlcioaaConcat
namespace Go.Proofs.Ytfofhnaomlcioaa
open Go.RowKit
open W (hi lo dig MM M cmpN rowOf)

theorem tail_get (n : Nat) : ∀ k j (h : j < (tail n k).length), (tail n k)[j] = UInt8.ofNat (dig n (k - 1 - j))
  | 0, j, h => by simp [tail] at h
  | k + 1, 0, h => by simp [tail]
  | k + 1, j + 1, h => by
    have hj : j < (tail n k).length := by simp [tail] at h; exact h
    have e : (tail n (k + 1))[j + 1] = (tail n k)[j] := by simp [tail]
    rw [e, tail_get n k j hj]
    congr 2
    have := tail_length n k
    omega
theorem tail_nat (n k j : Nat) (h : j < (tail n k).length) : (((tail n k)[j].toNat : Nat) : Int) = ((dig n (k - 1 - j) : Nat) : Int) := by
  rw [tail_get n k j h]
  have := W.dig_lt n (k - 1 - j)
  simp [Nat.mod_eq_of_lt this]
theorem Byts.wide {w : World} {b n : Nat} (h : Row8 w b (rowOf n)) : Byts w (.slice (some ⟨b, 0, Option.none⟩) 16 16) (tail n 16) := by
  refine ⟨_, 16, by rw [tail_length], by rw [tail_length]; exact Nat.le_refl _, fun _ => ⟨b, 0, rfl, fun j hj => ?_⟩⟩
  have hj2 : j < 16 := by rw [tail_length] at hj; exact hj
  rw [tail_nat n 16 j hj, Nat.zero_add, (h j hj2).1]
  rfl
theorem Byts.half {w : World} {b n : Nat} (h : Row8 w b (rowOf n)) : Byts w (.slice (some ⟨b, 8, Option.none⟩) 8 8) (tail n 8) := by
  refine ⟨_, 8, by rw [tail_length], by rw [tail_length]; exact Nat.le_refl _, fun _ => ⟨b, 8, rfl, fun j hj => ?_⟩⟩
  have hj2 : j < 8 := by rw [tail_length] at hj; exact hj
  rw [tail_nat n 8 j hj, (h (8 + j) (by omega)).1]
  unfold W.rowOf
  rw [show 15 - (8 + j) = 8 - 1 - j by omega]
theorem small_hi (n : Nat) (h : n < 18446744073709551616) : hi n = 0 := by unfold W.hi; rw [W.M_eq]; omega
theorem small_lo (n : Nat) (h : n < 18446744073709551616) : lo n = n := by unfold W.lo; rw [W.M_eq]; omega
theorem small_wide (n : Nat) (h : n < 18446744073709551616) : n < MM := by rw [W.MM_eq]; omega

theorem id_any (n : Nat) (hn : n < MM) (w : World) : Calls Try.prog 19 #[.agg #[.int .u64 (hi n : Nat), .int .u64 (lo n : Nat)]] w fun e w' => ∃ v', e = .returned v' ∧ Byts w' v' (tail n 16) ∧ Below w.heap.size w w' := by
  have H := Lib.hid (bytes_any n hn)
  clear hn
  go_enter Try.func19, Try.ntmps19
  go_wp2_with fail
  refine (H.out _).mono ?_
  rintro e w1 ⟨rfl, hr, hB⟩
  simp only [World.size_alloc] at hr
  have HR := Lib.hid (Byts.wide hr)
  clear hr
  go_wp2
  go_ret
  exact ⟨_, rfl, HR.out, btr (alb _) hB⟩

theorem stamp_any (n : Nat) (hn : n < 18446744073709551616) (w : World) : Calls Try.prog 21 #[.int .u64 (n : Int)] w fun e w' => ∃ v', e = .returned v' ∧ Byts w' v' (tail n 8) ∧ Below w.heap.size w w' := by
  have H := Lib.hid (bytes_any n (small_wide n hn))
  rw [small_hi n hn, small_lo n hn] at H
  clear hn
  go_enter Try.func21, Try.ntmps21
  go_wp2_with fail
  refine (of_any _ _).mono ?_
  rintro e w1 ⟨rfl, hB1⟩
  go_wp2_with fail
  refine (H.out _).mono ?_
  rintro e w2 ⟨rfl, hr, hB2⟩
  have HR := Lib.hid (Byts.half hr)
  clear hr
  go_wp2
  go_ret
  exact ⟨_, rfl, HR.out, btr hB1 hB2⟩

set_option maxHeartbeats 400000 in
theorem togetherA_any (a n : Nat) (ha : a < MM) (hn : n < 18446744073709551616) (w : World) :
    Calls Try.prog 30 #[.agg #[.int .u64 (hi a : Nat), .int .u64 (lo a : Nat)], .func (.func 19) #[] #[], .int .u64 (n : Int), .func (.func 21) #[] #[]] w fun e w' =>
      ∃ v', e = .returned v' ∧ Byts w' v' (tail a 16 ++ tail n 8) ∧ Below w.heap.size w w' := by
  have H1 := Lib.hid (id_any a ha)
  have H2 := Lib.hid (stamp_any n hn)
  clear ha hn
  go_enter Try.func30, Try.ntmps30
  go_wp2_with fail
  refine (H1.out _).mono ?_
  rintro e w1 ⟨v1, rfl, b1, hB1⟩
  have hB := btr (alb _) hB1
  clear hB1
  go_wp2_with fail
  refine (H2.out _).mono ?_
  rintro e w2 ⟨v2, rfl, b2, hB2⟩
  replace b1 := b1.below hB2
  replace hB := btr hB hB2
  clear hB2
  have HC := Lib.hid (concat_any w2.heap.size 2 v1 v2 (tail a 16) (tail n 8) (w2.alloc (.cells #[v1, v2] 22)) (b1.below (alb _)) (b2.below (alb _)) (by rw [tail_length]; omega) (by rw [tail_length]; omega) (by rw [tail_length, tail_length]; omega) (by simp [go_sem]) (by simp [go_sem]))
  obtain ⟨A1, d1, rfl, _⟩ := b1
  obtain ⟨A2, d2, rfl, _⟩ := b2
  go_wp2_with fail
  refine HC.out.mono ?_
  rintro e w3 ⟨v3, rfl, b3, hB3⟩
  replace hB := btr (bal hB _) hB3
  clear hB3 HC
  go_wp2
  go_ret
  exact ⟨_, rfl, b3, hB⟩

set_option maxHeartbeats 400000 in
theorem togetherB_any (n m : Nat) (hn : n < 18446744073709551616) (hm : m < 18446744073709551616) (w : World) :
    Calls Try.prog 31 #[.int .u64 (n : Int), .func (.func 21) #[] #[], .int .u64 (m : Int), .func (.func 21) #[] #[]] w fun e w' =>
      ∃ v', e = .returned v' ∧ Byts w' v' (tail n 8 ++ tail m 8) ∧ Below w.heap.size w w' := by
  have H1 := Lib.hid (stamp_any n hn)
  have H2 := Lib.hid (stamp_any m hm)
  clear hm hn
  go_enter Try.func31, Try.ntmps31
  go_wp2_with fail
  refine (H1.out _).mono ?_
  rintro e w1 ⟨v1, rfl, b1, hB1⟩
  have hB := hB1
  clear hB1
  go_wp2_with fail
  refine (H2.out _).mono ?_
  rintro e w2 ⟨v2, rfl, b2, hB2⟩
  replace b1 := b1.below hB2
  replace hB := btr hB hB2
  clear hB2
  have HC := Lib.hid (concat_any w2.heap.size 2 v1 v2 (tail n 8) (tail m 8) (w2.alloc (.cells #[v1, v2] 22)) (b1.below (alb _)) (b2.below (alb _)) (by rw [tail_length]; omega) (by rw [tail_length]; omega) (by rw [tail_length, tail_length]; omega) (by simp [go_sem]) (by simp [go_sem]))
  obtain ⟨A1, d1, rfl, _⟩ := b1
  obtain ⟨A2, d2, rfl, _⟩ := b2
  go_wp2_with fail
  refine HC.out.mono ?_
  rintro e w3 ⟨v3, rfl, b3, hB3⟩
  replace hB := btr (bal hB _) hB3
  clear hB3 HC
  go_wp2
  go_ret
  exact ⟨_, rfl, b3, hB⟩

theorem pair_any (a n : Nat) (ha : a < MM) (hn : n < 18446744073709551616) (w : World) :
    Calls Try.prog 15 #[.agg #[.int .u64 (hi a : Nat), .int .u64 (lo a : Nat)], .int .u64 (n : Int)] w fun e w' => ∃ v', e = .returned v' ∧ Byts w' v' (tail a 16 ++ tail n 8) ∧ Below w.heap.size w w' := by
  have H := Lib.hid (togetherA_any a n ha hn)
  clear ha hn
  go_enter Try.func15, Try.ntmps15
  go_wp2_with fail
  refine (H.out _).mono ?_
  rintro e w1 ⟨v1, rfl, b1, hB1⟩
  go_wp2
  go_ret
  exact ⟨_, rfl, b1, btr (alb _) hB1⟩
theorem twoK_any (n m : Nat) (hn : n < 18446744073709551616) (hm : m < 18446744073709551616) (w : World) :
    Calls Try.prog 16 #[.int .u64 (n : Int), .int .u64 (m : Int)] w fun e w' => ∃ v', e = .returned v' ∧ Byts w' v' (tail n 8 ++ tail m 8) ∧ Below w.heap.size w w' := by
  have H := Lib.hid (togetherB_any n m hn hm)
  clear hm hn
  go_enter Try.func16, Try.ntmps16
  go_wp2_with fail
  refine (H.out _).mono ?_
  rintro e w1 ⟨v1, rfl, b1, hB1⟩
  go_wp2
  go_ret
  exact ⟨_, rfl, b1, hB1⟩
end Go.Proofs.Ytfofhnaomlcioaa
