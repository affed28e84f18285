/- The walk of the law DigitsOne. -/
import Derived.Test.YtehcmgaonpfafaaTexts
namespace Go.Proofs.Ytehcmgaonpfafaa
open Go.RowKit
open W (hi lo addN addB dig MM M txL isT isD dg num)

theorem one_long (s : ByteArray) (hs : 200 < s.size) (w : World) :
    Calls Try.prog 5 #[.string s] w fun e w' => e = .returned (.bool true) ∧ Below w.heap.size w w' := by
  have hs' : (200 : Int) < (s.size : Int) := by omega
  clear hs
  go_enter Try.func5, Try.ntmps5
  go_wp2_with fail
  refine (fixed_any _).mono ?_
  rintro e w1 ⟨rfl, hb1⟩
  go_wp2
  go_ret
  exact ⟨rfl, hb1⟩

/-- What is read as a number is its text. -/
theorem read_back {l : List UInt8} (h : readE l = 0) : isT l = true ∧ num l < MM ∧ readN l = num l ∧ txL (readN l) = l := by
  unfold readE at h
  split at h
  · rename_i ht
    split at h
    · rename_i hn
      have k := (read_ok ht hn).1
      exact ⟨ht, hn, k, by rw [k]; exact W.txL_of ht rfl⟩
    · omega
  · omega
theorem read_errs {l : List UInt8} (h : ¬ readE l = 0) : readN l = 0 ∧ (readE l = 2 ∨ readE l = 9) := by
  cases ht : isT l with
  | false => exact ⟨(read_form ht).1, Or.inl (read_form ht).2⟩
  | true =>
    by_cases hn : num l < MM
    · exact absurd (read_ok ht hn).2 h
    · exact ⟨(read_over ht hn).1, Or.inr (read_over ht hn).2⟩

set_option maxHeartbeats 800000 in
/-- A text that isn't a number's. -/
theorem one_err (l : List UInt8) (hl : l.length ≤ 200) (he : ¬ readE l = 0) (w : World) :
    Calls Try.prog 5 #[.string (str l)] w fun e w' => e = .returned (.bool true) ∧ Below w.heap.size w w' := by
  have hm : l.length ≤ maxLen := by unfold maxLen; omega
  have C1 := Lib.hid (fun w => read_any l hm w)
  have C3 := Lib.hid (fun w => number_text l hm w)
  have hs' : ((str l).size : Int) ≤ 200 := by rw [str_size]; omega
  have r := read_errs he
  have q := short_err he
  unfold ReadPost at C1
  unfold ShortPost at C3
  rw [r.1] at C1
  rw [q.1, q.2] at C3
  have hE := r.2
  have z1 : ((hi 0 : Nat) : Int) = 0 := rfl
  have z2 : ((lo 0 : Nat) : Int) = 0 := rfl
  rw [z1, z2] at C1
  clear hl hm r q he z1 z2
  generalize str l = s at *
  generalize readE l = E at *
  rcases hE with rfl | rfl
  all_goals
    go_enter Try.func5, Try.ntmps5
    go_wp2_with fail
    refine (C1.out _).mono ?_
    rintro e w1 ⟨rfl, hb1⟩
    have a0 : (w1.alloc (.cells #[.int .u64 0, .int .u64 0] 24)).cell? ⟨w1.heap.size, 0, none⟩ = some (.int .u64 0) := by simp [go_sem]
    have a1 : (w1.alloc (.cells #[.int .u64 0, .int .u64 0] 24)).cell? ⟨w1.heap.size, 1, none⟩ = some (.int .u64 0) := by simp [go_sem]
    have hB : Below w.heap.size w (w1.alloc (.cells #[.int .u64 0, .int .u64 0] 24)) := bal hb1 _
    clear hb1
    go_wp2_with fail
    generalize w1.alloc (.cells #[.int .u64 0, .int .u64 0] 24) = v at *
    generalize w1.heap.size = p at *
    refine (C3.out _).mono ?_
    rintro e w3 ⟨rfl, hb3⟩
    replace a0 := kept a0 hb3
    replace a1 := kept a1 hb3
    replace hB := btr hB hb3
    clear hb3
    go_wp2_with fail
    refine (fixed_any _).mono ?_
    rintro e w5 ⟨rfl, hb5⟩
    replace a0 := kept a0 hb5
    replace a1 := kept a1 hb5
    replace hB := btr hB hb5
    clear hb5
    go_wp2
    go_ret
    exact ⟨rfl, hB⟩

set_option maxHeartbeats 800000 in
/-- A number of more than 64 bits. -/
theorem one_wide (l : List UInt8) (hl : l.length ≤ 200) (he : readE l = 0) (hh : ¬ hi (readN l) = 0) (w : World) :
    Calls Try.prog 5 #[.string (str l)] w fun e w' => e = .returned (.bool true) ∧ Below w.heap.size w w' := by
  have hm : l.length ≤ maxLen := by unfold maxLen; omega
  have C1 := Lib.hid (fun w => read_any l hm w)
  have C3 := Lib.hid (fun w => number_text l hm w)
  have C5 := Lib.hid (text_any (readN l) (readN_lt l))
  have hs' : ((str l).size : Int) ≤ 200 := by rw [str_size]; omega
  have q := short_over he hh
  unfold ReadPost at C1
  unfold ShortPost at C3
  rw [he] at C1
  rw [q.1, q.2] at C3
  rw [(read_back he).2.2.2] at C5
  clear hl hm q he hh
  generalize str l = s at *
  generalize readN l = N at *
  go_enter Try.func5, Try.ntmps5
  go_wp2_with fail
  refine (C1.out _).mono ?_
  rintro e w1 ⟨rfl, hb1⟩
  have a0 : (w1.alloc (.cells #[.int .u64 (hi N : Nat), .int .u64 (lo N : Nat)] 24)).cell? ⟨w1.heap.size, 0, none⟩ = some (.int .u64 (hi N : Nat)) := by simp [go_sem]
  have a1 : (w1.alloc (.cells #[.int .u64 (hi N : Nat), .int .u64 (lo N : Nat)] 24)).cell? ⟨w1.heap.size, 1, none⟩ = some (.int .u64 (lo N : Nat)) := by simp [go_sem]
  have hB : Below w.heap.size w (w1.alloc (.cells #[.int .u64 (hi N : Nat), .int .u64 (lo N : Nat)] 24)) := bal hb1 _
  clear hb1
  go_wp2_with fail
  generalize w1.alloc (.cells #[.int .u64 (hi N : Nat), .int .u64 (lo N : Nat)] 24) = v at *
  generalize w1.heap.size = p at *
  refine (C3.out _).mono ?_
  rintro e w3 ⟨rfl, hb3⟩
  replace a0 := kept a0 hb3
  replace a1 := kept a1 hb3
  replace hB := btr hB hb3
  clear hb3
  go_wp2_with fail
  refine (C5.out _).mono ?_
  rintro e w4 ⟨rfl, hb4⟩
  replace a0 := kept a0 hb4
  replace a1 := kept a1 hb4
  replace hB := btr hB hb4
  clear hb4
  go_wp2_with fail
  refine (fixed_any _).mono ?_
  rintro e w5 ⟨rfl, hb5⟩
  replace hB := btr hB hb5
  clear hb5 a0 a1
  go_wp2
  go_ret
  exact ⟨rfl, hB⟩

set_option maxHeartbeats 800000 in
/-- A short number. -/
theorem one_short (l : List UInt8) (hl : l.length ≤ 200) (he : readE l = 0) (hh : hi (readN l) = 0) (w : World) :
    Calls Try.prog 5 #[.string (str l)] w fun e w' => e = .returned (.bool true) ∧ Below w.heap.size w w' := by
  have hm : l.length ≤ maxLen := by unfold maxLen; omega
  have C1 := Lib.hid (fun w => read_any l hm w)
  have C3 := Lib.hid (fun w => number_text l hm w)
  have C5 := Lib.hid (text_any (readN l) (readN_lt l))
  have hN : readN l = lo (readN l) := by have := W.hi_lo (readN l); rw [hh] at this; omega
  have C6 := Lib.hid (short_any (lo (readN l)) (by have := W.lo_le (readN l); omega))
  have hs' : ((str l).size : Int) ≤ 200 := by rw [str_size]; omega
  have q := short_ok he hh
  unfold ReadPost at C1
  unfold ShortPost at C3
  rw [he, hh] at C1
  rw [q.1, q.2] at C3
  rw [(read_back he).2.2.2, hh] at C5
  rw [← hN, (read_back he).2.2.2, hN] at C6
  have z1 : ((0 : Nat) : Int) = 0 := rfl
  rw [z1] at C1 C5
  clear hl hm q he hh z1 hN
  generalize str l = s at *
  generalize lo (readN l) = N at *
  go_enter Try.func5, Try.ntmps5
  go_wp2_with fail
  refine (C1.out _).mono ?_
  rintro e w1 ⟨rfl, hb1⟩
  have a0 : (w1.alloc (.cells #[.int .u64 0, .int .u64 (N : Int)] 24)).cell? ⟨w1.heap.size, 0, none⟩ = some (.int .u64 0) := by simp [go_sem]
  have a1 : (w1.alloc (.cells #[.int .u64 0, .int .u64 (N : Int)] 24)).cell? ⟨w1.heap.size, 1, none⟩ = some (.int .u64 (N : Int)) := by simp [go_sem]
  have hB : Below w.heap.size w (w1.alloc (.cells #[.int .u64 0, .int .u64 (N : Int)] 24)) := bal hb1 _
  clear hb1
  go_wp2_with fail
  generalize w1.alloc (.cells #[.int .u64 0, .int .u64 (N : Int)] 24) = v at *
  generalize w1.heap.size = p at *
  refine (C3.out _).mono ?_
  rintro e w3 ⟨rfl, hb3⟩
  replace a0 := kept a0 hb3
  replace a1 := kept a1 hb3
  replace hB := btr hB hb3
  clear hb3
  go_wp2_with fail
  refine (C5.out _).mono ?_
  rintro e w4 ⟨rfl, hb4⟩
  replace a0 := kept a0 hb4
  replace a1 := kept a1 hb4
  replace hB := btr hB hb4
  clear hb4
  go_wp2_with fail
  refine (C6.out _).mono ?_
  rintro e w6 ⟨rfl, hb6⟩
  replace a0 := kept a0 hb6
  replace a1 := kept a1 hb6
  replace hB := btr hB hb6
  clear hb6
  go_wp2_with fail
  refine (fixed_any _).mono ?_
  rintro e w5 ⟨rfl, hb5⟩
  replace hB := btr hB hb5
  clear hb5 a0 a1
  go_wp2
  go_ret
  exact ⟨rfl, hB⟩
theorem one_any (s : ByteArray) (w : World) :
    Calls Try.prog 5 #[.string s] w fun e w' => e = .returned (.bool true) ∧ Below w.heap.size w w' := by
  by_cases h : 200 < s.size
  · exact one_long s h w
  · rw [← str_of s]
    have hl : s.data.toList.length ≤ 200 := by rw [← str_size, str_of]; omega
    by_cases he : readE s.data.toList = 0
    · by_cases hh : hi (readN s.data.toList) = 0
      · exact one_short _ hl he hh w
      · exact one_wide _ hl he hh w
    · exact one_err _ hl he w
end Go.Proofs.Ytehcmgaonpfafaa
