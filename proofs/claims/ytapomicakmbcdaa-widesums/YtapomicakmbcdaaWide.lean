/- The contracts of package wide's functions. -/
import Derived.Test.YtapomicakmbcdaaBase
namespace Go.Proofs.Ytapomicakmbcdaa
open Go.RowKit
open W (hi lo addN addB subN subB cmpN dig MM)

set_option maxHeartbeats 400000 in
theorem add_any (a b : Nat) (w : World) :
    Calls Try.prog 8 #[.agg #[.int .u64 (hi a : Nat), .int .u64 (lo a : Nat)], .agg #[.int .u64 (hi b : Nat), .int .u64 (lo b : Nat)]] w fun e w' =>
      e = .returned (.tuple #[.agg #[.int .u64 (hi (addN a b) : Nat), .int .u64 (lo (addN a b) : Nat)], .bool (addB a b)]) ∧ Below w.heap.size w w' := by
  obtain ⟨c, r, c2, r2, h1, h2, h3, h4, h5, h6⟩ := W.add_parts a b
  have k1 := run_Add64 (lo a) (lo b) 0 r c (by omega) h1 h2
  have k2 := run_Add64 (hi a) (hi b) c r2 c2 h3 h4 h5
  simp only [Int.natCast_zero] at k1
  clear h1 h2 h4 h5
  rcases h6 with ⟨rfl, hB, rfl, rfl⟩ | ⟨hc2, hB, hH, hL⟩
  · have HB := Lib.hid hB; clear hB
    go_enter Try.func8, Try.ntmps8
    go_wp2
    exact bodyPost_ret (v := .tuple #[.agg #[.int .u64 (hi (addN a b) : Nat), .int .u64 (lo (addN a b) : Nat)], .bool true]) (by simp [results, Try.results8, go_sem]) rfl ⟨by rw [HB.out], by
      repeat (first | exact Below.refl _ _ | apply bal)⟩
  · have HB := Lib.hid hB; clear hB
    have HH := Lib.hid hH; clear hH
    have HL := Lib.hid hL; clear hL
    go_enter Try.func8, Try.ntmps8
    go_wp2
    exact bodyPost_ret (v := .tuple #[.agg #[.int .u64 0, .int .u64 0], .bool false]) (by simp [results, Try.results8, go_sem]) rfl ⟨by rw [HB.out, HH.out, HL.out]; rfl, by
      repeat (first | exact Below.refl _ _ | apply bal)⟩

set_option maxHeartbeats 400000 in
theorem sub_any (a b : Nat) (ha : a < MM) (hb : b < MM) (w : World) :
    Calls Try.prog 10 #[.agg #[.int .u64 (hi a : Nat), .int .u64 (lo a : Nat)], .agg #[.int .u64 (hi b : Nat), .int .u64 (lo b : Nat)]] w fun e w' =>
      e = .returned (.tuple #[.agg #[.int .u64 (hi (subN a b) : Nat), .int .u64 (lo (subN a b) : Nat)], .bool (subB a b)]) ∧ Below w.heap.size w w' := by
  obtain ⟨c, r, c2, r2, h1, h2, h3, h4, h5, h6⟩ := W.sub_parts a b ha hb
  have k1 := run_Sub64 (lo a) (lo b) 0 r c (by omega) h1 h2
  have k2 := run_Sub64 (hi a) (hi b) c r2 c2 h3 h4 h5
  simp only [Int.natCast_zero] at k1
  clear h1 h2 h4 h5 ha hb
  rcases h6 with ⟨rfl, hB, rfl, rfl⟩ | ⟨hc2, hB, hH, hL⟩
  · have HB := Lib.hid hB; clear hB
    go_enter Try.func10, Try.ntmps10
    go_wp2
    exact bodyPost_ret (v := .tuple #[.agg #[.int .u64 (hi (subN a b) : Nat), .int .u64 (lo (subN a b) : Nat)], .bool true]) (by simp [results, Try.results10, go_sem]) rfl ⟨by rw [HB.out], by
      repeat (first | exact Below.refl _ _ | apply bal)⟩
  · have HB := Lib.hid hB; clear hB
    have HH := Lib.hid hH; clear hH
    have HL := Lib.hid hL; clear hL
    go_enter Try.func10, Try.ntmps10
    go_wp2
    exact bodyPost_ret (v := .tuple #[.agg #[.int .u64 0, .int .u64 0], .bool false]) (by simp [results, Try.results10, go_sem]) rfl ⟨by rw [HB.out, HH.out, HL.out]; rfl, by
      repeat (first | exact Below.refl _ _ | apply bal)⟩

theorem rest_any (a b : Nat) (ha : a < MM) (hb : b < MM) (w : World) :
    Calls Try.prog 13 #[.agg #[.int .u64 (hi a : Nat), .int .u64 (lo a : Nat)], .agg #[.int .u64 (hi b : Nat), .int .u64 (lo b : Nat)]] w fun e w' =>
      e = .returned (.agg #[.int .u64 (hi (subN a b) : Nat), .int .u64 (lo (subN a b) : Nat)]) ∧ Below w.heap.size w w' := by
  go_enter Try.func13, Try.ntmps13
  go_wp2_with fail
  refine (sub_any a b ha hb _).mono ?_
  rintro e w1 ⟨rfl, hb1⟩
  have hc := oldc hb1
  have hf := oldf hb1
  have hz : w.heap.size + 2 < w1.heap.size := by have := hb1.size; simp at this; omega
  go_wp2
  exact bodyPost_ret (v := .agg #[.int .u64 (hi (subN a b) : Nat), .int .u64 (lo (subN a b) : Nat)]) (by simp [results, Try.results13, go_sem, hc, hz]) rfl ⟨rfl, by
    repeat (first | exact Below.refl _ _ | apply bal | (refine Below.setCell ?_ (by simp; omega) _) | (refine btr ?_ hb1))⟩

theorem of_any (n : Int) (w : World) : Calls Try.prog 16 #[.int .u64 n] w fun e w' => e = .returned (.agg #[.int .u64 0, .int .u64 n]) ∧ Below w.heap.size w w' := by
  go_enter Try.func16, Try.ntmps16
  go_wp2
  exact bodyPost_ret (v := .agg #[.int .u64 0, .int .u64 n]) (by simp [results, Try.results16, go_sem]) rfl ⟨rfl, by
      repeat (first | exact Below.refl _ _ | apply bal)⟩

theorem top_any (w : World) : Calls Try.prog 17 #[] w fun e w' => e = .returned (.agg #[.int .u64 18446744073709551615, .int .u64 18446744073709551615]) ∧ Below w.heap.size w w' := by
  go_enter Try.func17, Try.ntmps17
  go_wp2
  exact bodyPost_ret (v := .agg #[.int .u64 18446744073709551615, .int .u64 18446744073709551615]) (by simp [results, Try.results17, go_sem]) rfl ⟨rfl, by
      repeat (first | exact Below.refl _ _ | apply bal)⟩

theorem compare_any (x y : Int) (w : World) : Calls Try.prog 30 #[.int .u64 x, .int .u64 y] w fun e w' => e = .returned (.int .i64 (W.cmpI x y)) ∧ w = w' := by
  by_cases h1 : x < y
  · rw [W.cmpI_lt h1]
    go_enter Try.func30, Try.ntmps30
    go_wp2
    go_ret
    exact ⟨rfl, rfl⟩
  · by_cases h2 : y < x
    · rw [W.cmpI_gt h2]
      go_enter Try.func30, Try.ntmps30
      go_wp2
      go_ret
      exact ⟨rfl, rfl⟩
    · rw [W.cmpI_eq h1 h2]
      go_enter Try.func30, Try.ntmps30
      go_wp2
      go_ret
      exact ⟨rfl, rfl⟩

theorem cmp_any (a b : Nat) (w : World) :
    Calls Try.prog 14 #[.agg #[.int .u64 (hi a : Nat), .int .u64 (lo a : Nat)], .agg #[.int .u64 (hi b : Nat), .int .u64 (lo b : Nat)]] w fun e w' =>
      e = .returned (.int .i64 (cmpN a b)) ∧ Below w.heap.size w w' := by
  by_cases h : hi a = hi b
  · have hc := W.cmpN_lo h
    have HC := Lib.hid hc; clear hc
    have hb : (((hi a : Nat) : Int) != ((hi b : Nat) : Int)) = false := by simp [h]
    clear h
    go_enter Try.func14, Try.ntmps14
    go_wp2_with fail
    refine (compare_any _ _ _).mono ?_
    rintro e w1 ⟨rfl, rfl⟩
    go_wp2
    go_ret
    exact ⟨by rw [HC.out]; rfl, by repeat (first | exact Below.refl _ _ | apply bal)⟩
  · have hc := W.cmpN_hi h
    have HC := Lib.hid hc; clear hc
    have hb : (((hi a : Nat) : Int) != ((hi b : Nat) : Int)) = true := by simp; omega
    clear h
    go_enter Try.func14, Try.ntmps14
    go_wp2_with fail
    refine (compare_any _ _ _).mono ?_
    rintro e w1 ⟨rfl, rfl⟩
    go_wp2
    go_ret
    exact ⟨by rw [HC.out]; rfl, by repeat (first | exact Below.refl _ _ | apply bal)⟩
end Go.Proofs.Ytapomicakmbcdaa
