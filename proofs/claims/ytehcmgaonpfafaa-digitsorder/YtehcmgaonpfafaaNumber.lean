/- digits.Short and digits.Number: short numbers. -/
import Derived.Test.YtehcmgaonpfafaaRead
namespace Go.Proofs.Ytehcmgaonpfafaa
open Go.RowKit
open W (hi lo addN addB dig MM M txL isT isD dg num)

theorem hi_small (n : Nat) (h : n < 18446744073709551616) : hi n = 0 := by unfold W.hi; rw [W.M_eq]; omega
theorem lo_small (n : Nat) (h : n < 18446744073709551616) : lo n = n := by unfold W.lo; rw [W.M_eq]; omega
theorem small_lt (n : Nat) (h : n < 18446744073709551616) : n < MM := by rw [W.MM_eq]; omega
theorem short_any (n : Nat) (hn : n < 18446744073709551616) (w : World) : Calls Try.prog 9 #[.int .u64 (n : Int)] w fun e w' => e = .returned (.string (str (txL n))) ∧ Below w.heap.size w w' := by
  have HT := Lib.hid (text_any n (small_lt n hn))
  rw [hi_small n hn, lo_small n hn] at HT
  clear hn
  go_enter Try.func9, Try.ntmps9
  go_wp2_with fail
  refine (of_any _ _).mono ?_
  rintro e w1 ⟨rfl, hb1⟩
  go_wp2_with fail
  refine (HT.out _).mono ?_
  rintro e w2 ⟨rfl, hb2⟩
  go_wp2
  go_ret
  exact ⟨rfl, btr hb1 hb2⟩

/-- What a text is read as, as a short number: the number, and the error's number. -/
def shortN (l : List UInt8) : Nat := if readE l = 0 ∧ hi (readN l) = 0 then lo (readN l) else 0
def shortE (l : List UInt8) : Int := if readE l = 0 then (if hi (readN l) = 0 then 0 else 9) else readE l
theorem short_err {l : List UInt8} (h : ¬ readE l = 0) : shortN l = 0 ∧ shortE l = readE l := by unfold shortN shortE; simp [h]
theorem short_over {l : List UInt8} (h : readE l = 0) (h2 : ¬ hi (readN l) = 0) : shortN l = 0 ∧ shortE l = 9 := by unfold shortN shortE; simp [h, h2]
theorem short_ok {l : List UInt8} (h : readE l = 0) (h2 : hi (readN l) = 0) : shortN l = lo (readN l) ∧ shortE l = 0 := by unfold shortN shortE; simp [h, h2]
theorem ret_short {a b c d : Int} (h1 : a = c) (h2 : b = d) : Ending.returned (.tuple #[.int .u64 a, .int .i64 b]) = .returned (.tuple #[.int .u64 c, .int .i64 d]) := by rw [h1, h2]
def ShortPost (l : List UInt8) (w : World) (e : Ending) (w' : World) : Prop :=
  e = .returned (.tuple #[.int .u64 ((shortN l : Nat) : Int), .int .i64 (shortE l)]) ∧ Below w.heap.size w w'

set_option maxHeartbeats 400000 in
theorem number_of (l : List UInt8) (w : World) (HI : Hid (∀ w, Calls Try.prog 8 #[.string (str l)] w (ReadPost l w))) : Calls Try.prog 10 #[.string (str l)] w (ShortPost l w) := by
  by_cases he : readE l = 0
  · by_cases hh : hi (readN l) = 0
    · have HR := Lib.hid (short_ok he hh)
      have he' : (readE l != 0) = false := by rw [he]; rfl
      have hh' : (((hi (readN l) : Nat) : Int) != 0) = false := by rw [hh]; rfl
      clear he hh
      go_enter Try.func10, Try.ntmps10
      go_wp2_with fail
      refine (HI.out _).mono ?_
      rintro e w1 ⟨rfl, hb1⟩
      go_wp2
      go_ret2
      exact ⟨ret_short (by rw [HR.out.1]) HR.out.2.symm, bal hb1 _⟩
    · have HR := Lib.hid (short_over he hh)
      have he' : (readE l != 0) = false := by rw [he]; rfl
      have hh' : (((hi (readN l) : Nat) : Int) != 0) = true := by rw [bne_iff_ne]; omega
      clear he hh
      go_enter Try.func10, Try.ntmps10
      go_wp2_with fail
      refine (HI.out _).mono ?_
      rintro e w1 ⟨rfl, hb1⟩
      go_wp2
      go_ret2
      exact ⟨ret_short (by rw [HR.out.1]; rfl) HR.out.2.symm, bal hb1 _⟩
  · have HR := Lib.hid (short_err he)
    have he' : (readE l != 0) = true := by rw [bne_iff_ne]; exact he
    clear he
    go_enter Try.func10, Try.ntmps10
    go_wp2_with fail
    refine (HI.out _).mono ?_
    rintro e w1 ⟨rfl, hb1⟩
    go_wp2
    go_ret2
    exact ⟨ret_short (by rw [HR.out.1]; rfl) HR.out.2.symm, bal hb1 _⟩
theorem number_text (l : List UInt8) (hl : l.length ≤ maxLen) (w : World) : Calls Try.prog 10 #[.string (str l)] w (ShortPost l w) := number_of l w (fun w => read_any l hl w)
end Go.Proofs.Ytehcmgaonpfafaa
