/- The walk of the law DigitsTexts. -/
import Derived.Test.YtehcmgaonpfafaaFixed
namespace Go.Proofs.Ytehcmgaonpfafaa
open Go.RowKit
open W (hi lo addN addB dig MM M txL isT isD dg num)

theorem read_txL (n : Nat) (h : n < MM) : readN (txL n) = n ∧ readE (txL n) = 0 := by
  have k := read_ok (W.txL_isT n) (by rw [W.txL_num]; exact h)
  rw [W.txL_num] at k
  exact k
theorem txL_max (n : Nat) (h : n < MM) : (txL n).length ≤ maxLen := by have := W.txL_len_le n h; unfold maxLen; omega
theorem read_txt (n : Nat) (h : n < MM) (w : World) : Calls Try.prog 8 #[.string (str (txL n))] w fun e w' =>
    e = .returned (.tuple #[.agg #[.int .u64 (hi n : Nat), .int .u64 (lo n : Nat)], .int .i64 0]) ∧ Below w.heap.size w w' := by
  have k := read_any (txL n) (txL_max n h) w
  unfold ReadPost at k
  rwa [(read_txL n h).1, (read_txL n h).2] at k
theorem number_txt (n : Nat) (h : n < 18446744073709551616) (w : World) : Calls Try.prog 10 #[.string (str (txL n))] w fun e w' =>
    e = .returned (.tuple #[.int .u64 (n : Int), .int .i64 0]) ∧ Below w.heap.size w w' := by
  have hm := small_lt n h
  have k := number_text (txL n) (txL_max n hm) w
  have r := read_txL n hm
  have q := short_ok (l := txL n) r.2 (by rw [r.1]; exact hi_small n h)
  unfold ShortPost at k
  rwa [q.1, q.2, r.1, lo_small n h] at k

set_option maxHeartbeats 800000 in
theorem texts_any (n : Nat) (hn : n < MM) (w : World) :
    Calls Try.prog 3 #[.agg #[.int .u64 (hi n : Nat), .int .u64 (lo n : Nat)]] w fun e w' => e = .returned (.bool true) ∧ Below w.heap.size w w' := by
  have hl : lo n < 18446744073709551616 := by have := W.lo_le n; omega
  have C1 := Lib.hid (text_any n hn)
  have C2 := Lib.hid (read_txt n hn)
  have C3 := Lib.hid (short_any (lo n) hl)
  have C4 := Lib.hid (number_txt (lo n) hl)
  have C5 := Lib.hid (reftext_any n hn)
  have C6 := Lib.hid (refshort_any (lo n) hl)
  clear hn hl
  generalize str (txL n) = s at *
  generalize str (txL (lo n)) = t at *
  go_enter Try.func3, Try.ntmps3
  go_wp2_with fail
  refine (C1.out _).mono ?_
  rintro e w1 ⟨rfl, hb1⟩
  have a0 := kept (p := ⟨w.heap.size, 0, none⟩) (x := .int .u64 (hi n : Nat)) (by simp [go_sem]) hb1
  have a1 := kept (p := ⟨w.heap.size, 1, none⟩) (x := .int .u64 (lo n : Nat)) (by simp [go_sem]) hb1
  have hB : Below w.heap.size w w1 := btr (alb _) hb1
  clear hb1
  go_wp2_with fail
  refine (C2.out _).mono ?_
  rintro e w2 ⟨rfl, hb2⟩
  have hA := btr hb2 (alb (.cells #[.int .u64 (hi n : Nat), .int .u64 (lo n : Nat)] 24))
  replace a0 := kept a0 hA
  replace a1 := kept a1 hA
  replace hB := btr hB hA
  have b0 : (w2.alloc (.cells #[.int .u64 (hi n : Nat), .int .u64 (lo n : Nat)] 24)).cell? ⟨w2.heap.size, 0, none⟩ = some (.int .u64 (hi n : Nat)) := by simp [go_sem]
  have b1 : (w2.alloc (.cells #[.int .u64 (hi n : Nat), .int .u64 (lo n : Nat)] 24)).cell? ⟨w2.heap.size, 1, none⟩ = some (.int .u64 (lo n : Nat)) := by simp [go_sem]
  clear hA hb2
  go_wp2_with fail
  generalize w2.alloc (.cells #[.int .u64 (hi n : Nat), .int .u64 (lo n : Nat)] 24) = v at *
  generalize w2.heap.size = q at *
  refine (C3.out _).mono ?_
  rintro e w3 ⟨rfl, hb3⟩
  replace a0 := kept a0 hb3
  replace a1 := kept a1 hb3
  replace b0 := kept b0 hb3
  replace b1 := kept b1 hb3
  replace hB := btr hB hb3
  clear hb3
  go_wp2_with fail
  refine (C4.out _).mono ?_
  rintro e w4 ⟨rfl, hb4⟩
  replace a0 := kept a0 hb4
  replace a1 := kept a1 hb4
  replace b0 := kept b0 hb4
  replace b1 := kept b1 hb4
  replace hB := btr hB hb4
  clear hb4
  go_wp2_with fail
  refine (fixed_any _).mono ?_
  rintro e w5 ⟨rfl, hb5⟩
  replace a0 := kept a0 hb5
  replace a1 := kept a1 hb5
  replace b0 := kept b0 hb5
  replace b1 := kept b1 hb5
  replace hB := btr hB hb5
  clear hb5
  go_wp2_with fail
  refine (C5.out _).mono ?_
  rintro e w6 ⟨rfl, hb6⟩
  replace a0 := kept a0 hb6
  replace a1 := kept a1 hb6
  replace b0 := kept b0 hb6
  replace b1 := kept b1 hb6
  replace hB := btr hB hb6
  clear hb6
  go_wp2_with fail
  refine (C6.out _).mono ?_
  rintro e w7 ⟨rfl, hb7⟩
  replace a0 := kept a0 hb7
  replace a1 := kept a1 hb7
  replace hB := btr hB hb7
  clear hb7
  go_wp2
  go_ret
  exact ⟨rfl, hB⟩
end Go.Proofs.Ytehcmgaonpfafaa
