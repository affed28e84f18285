/- The walk of the law DigitsReads. -/
import Derived.Test.YtehcmgaonpfafaaFixed
namespace Go.Proofs.Ytehcmgaonpfafaa
open Go.RowKit
open W (hi lo addN addB dig MM M txL isT isD dg num)

theorem reads_long (s : ByteArray) (hs : 200 < s.size) (w : World) :
    Calls Try.prog 4 #[.string s] w fun e w' => e = .returned (.bool true) ∧ Below w.heap.size w w' := by
  have hs' : (200 : Int) < (s.size : Int) := by omega
  clear hs
  go_enter Try.func4, Try.ntmps4
  go_wp2_with fail
  refine (fixed_any _).mono ?_
  rintro e w1 ⟨rfl, hb1⟩
  go_wp2
  go_ret
  exact ⟨rfl, hb1⟩

set_option maxHeartbeats 800000 in
theorem reads_short (l : List UInt8) (hl : l.length ≤ 200) (w : World) :
    Calls Try.prog 4 #[.string (str l)] w fun e w' => e = .returned (.bool true) ∧ Below w.heap.size w w' := by
  have hm : l.length ≤ maxLen := by unfold maxLen; omega
  have C1 := Lib.hid (fun w => read_any l hm w)
  have C2 := Lib.hid (fun w => refread_any l hm w)
  have C3 := Lib.hid (fun w => number_text l hm w)
  have C4 := Lib.hid (fun w => refnumber_any l hm w)
  have hs' : ((str l).size : Int) ≤ 200 := by rw [str_size]; omega
  clear hl hm
  unfold ReadPost at C1 C2
  unfold ShortPost at C3 C4
  generalize str l = s at *
  generalize readN l = N at *
  generalize readE l = E at *
  generalize shortN l = n at *
  generalize shortE l = f at *
  go_enter Try.func4, Try.ntmps4
  go_wp2_with fail
  refine (C1.out _).mono ?_
  rintro e w1 ⟨rfl, hb1⟩
  have a0 : (w1.alloc (.cells #[.int .u64 (hi N : Nat), .int .u64 (lo N : Nat)] 24)).cell? ⟨w1.heap.size, 0, none⟩ = some (.int .u64 (hi N : Nat)) := by simp [go_sem]
  have a1 : (w1.alloc (.cells #[.int .u64 (hi N : Nat), .int .u64 (lo N : Nat)] 24)).cell? ⟨w1.heap.size, 1, none⟩ = some (.int .u64 (lo N : Nat)) := by simp [go_sem]
  have hB : Below w.heap.size w (w1.alloc (.cells #[.int .u64 (hi N : Nat), .int .u64 (lo N : Nat)] 24)) := bal hb1 _
  clear hb1
  go_wp2_with fail
  generalize w1.alloc (.cells #[.int .u64 (hi N : Nat), .int .u64 (lo N : Nat)] 24) = v at *
  generalize w1.heap.size = p at *
  refine (C2.out _).mono ?_
  rintro e w2 ⟨rfl, hb2⟩
  have hA := btr hb2 (alb (.cells #[.int .u64 (hi N : Nat), .int .u64 (lo N : Nat)] 24))
  replace a0 := kept a0 hA
  replace a1 := kept a1 hA
  replace hB := btr hB hA
  have b0 : (w2.alloc (.cells #[.int .u64 (hi N : Nat), .int .u64 (lo N : Nat)] 24)).cell? ⟨w2.heap.size, 0, none⟩ = some (.int .u64 (hi N : Nat)) := by simp [go_sem]
  have b1 : (w2.alloc (.cells #[.int .u64 (hi N : Nat), .int .u64 (lo N : Nat)] 24)).cell? ⟨w2.heap.size, 1, none⟩ = some (.int .u64 (lo N : Nat)) := by simp [go_sem]
  clear hA hb2
  go_wp2_with fail
  generalize w2.alloc (.cells #[.int .u64 (hi N : Nat), .int .u64 (lo N : Nat)] 24) = u at *
  generalize w2.heap.size = q at *
  refine (C3.out _).mono ?_
  rintro e w3 ⟨rfl, hb3⟩
  replace a0 := kept a0 hb3
  replace a1 := kept a1 hb3
  replace b0 := kept b0 hb3
  replace b1 := kept b1 hb3
  replace hB := btr hB hb3
  clear hb3
  go_wp2_with fail
  refine (C4.out _).mono ?_
  rintro e w4 ⟨rfl, hb4⟩
  replace a0 := kept a0 hb4
  replace a1 := kept a1 hb4
  replace b0 := kept b0 hb4
  replace b1 := kept b1 hb4
  replace hB := btr hB hb4
  clear hb4
  go_wp2_with fail
  refine (fixed_any _).mono ?_
  rintro e w5 ⟨rfl, hb5⟩
  replace a0 := kept a0 hb5
  replace a1 := kept a1 hb5
  replace b0 := kept b0 hb5
  replace b1 := kept b1 hb5
  replace hB := btr hB hb5
  clear hb5
  go_wp2
  go_ret
  exact ⟨rfl, hB⟩
theorem reads_any (s : ByteArray) (w : World) :
    Calls Try.prog 4 #[.string s] w fun e w' => e = .returned (.bool true) ∧ Below w.heap.size w w' := by
  by_cases h : 200 < s.size
  · exact reads_long s h w
  · rw [← str_of s]
    exact reads_short s.data.toList (by rw [← str_size, str_of]; omega) w
end Go.Proofs.Ytehcmgaonpfafaa
