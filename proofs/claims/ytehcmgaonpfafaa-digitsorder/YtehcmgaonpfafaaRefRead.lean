/- The document's own Short, Read and Number. -/
import Derived.Test.YtehcmgaonpfafaaRefText
import Derived.Test.YtehcmgaonpfafaaNumber
import Derived.Laws.Cover1
namespace Go.Proofs.Ytehcmgaonpfafaa
open Go.RowKit
open W (hi lo addN addB dig MM M txL isT isD dg num)

theorem refshort_any (n : Nat) (hn : n < 18446744073709551616) (w : World) : Calls Try.prog 13 #[.int .u64 (n : Int)] w fun e w' => e = .returned (.string (str (txL n))) ∧ Below w.heap.size w w' := by
  have HT := Lib.hid (reftext_any n (small_lt n hn))
  rw [hi_small n hn, lo_small n hn] at HT
  clear hn
  go_enter Try.func13, Try.ntmps13
  go_wp2_with fail
  refine (HT.out _).mono ?_
  rintro e w2 ⟨rfl, hb2⟩
  go_wp2
  go_ret
  exact ⟨rfl, hb2⟩

theorem reftext_top (w : World) : Calls Try.prog 12 #[.agg #[.int .u64 18446744073709551615, .int .u64 18446744073709551615]] w fun e w' => e = .returned (.string (str (txL W.topN))) ∧ Below w.heap.size w w' := by
  have h := reftext_any W.topN W.topN_lt w
  rw [W.topN_hi, W.topN_lo] at h
  exact h
theorem refadd_ok (a b : Nat) (h : a + b < MM) (w : World) :
    Calls Try.prog 26 #[.agg #[.int .u64 (hi a : Nat), .int .u64 (lo a : Nat)], .agg #[.int .u64 (hi b : Nat), .int .u64 (lo b : Nat)]] w fun e w' => e = .returned (.tuple #[.agg #[.int .u64 (hi (a + b) : Nat), .int .u64 (lo (a + b) : Nat)], .bool true]) ∧ Below w.heap.size w w' := by
  have k := refadd_any a b (by omega) (by omega) w
  rwa [addN_ok h, W.addB_true h] at k
theorem refadd_digit (a d : Nat) (h : a + d < MM) (hd : d < 10) (w : World) :
    Calls Try.prog 26 #[.agg #[.int .u64 (hi a : Nat), .int .u64 (lo a : Nat)], .agg #[.int .u64 0, .int .u64 (d : Int)]] w fun e w' => e = .returned (.tuple #[.agg #[.int .u64 (hi (a + d) : Nat), .int .u64 (lo (a + d) : Nat)], .bool true]) ∧ Below w.heap.size w w' := by
  have k := refadd_ok a d h w
  rwa [hi_small d (by omega), lo_small d (by omega)] at k
/-- Where a text stands to that of the greatest number, as the tests ask it. -/
def OverTop (s T : ByteArray) : Prop := T.size < s.size ∨ ((((s.size : Nat) : Int) == ((T.size : Nat) : Int)) = true ∧ ¬ T.size < s.size ∧ Op.bytesLess s.toList T.toList = false ∧ (s.toList == T.toList) = false)
def UnderTop (s T : ByteArray) : Prop := (¬ T.size < s.size ∧ (((s.size : Nat) : Int) == ((T.size : Nat) : Int)) = false) ∨
  ((((s.size : Nat) : Int) == ((T.size : Nat) : Int)) = true ∧ ¬ T.size < s.size ∧ Op.bytesLess s.toList T.toList = true) ∨
  ((((s.size : Nat) : Int) == ((T.size : Nat) : Int)) = true ∧ ¬ T.size < s.size ∧ Op.bytesLess s.toList T.toList = false ∧ (s.toList == T.toList) = true)
theorem top_cases (l : List UInt8) (h : isT l = true) : (¬ num l < MM ∧ OverTop (str l) (str (txL W.topN))) ∨ (num l < MM ∧ UnderTop (str l) (str (txL W.topN))) := by
  have hT := W.txL_isT W.topN
  have hN := W.txL_num W.topN
  have e : W.topN + 1 = MM := W.topN_eq
  unfold OverTop UnderTop
  simp only [str_toList, str_size]
  generalize txL W.topN = t at *
  rcases Nat.lt_trichotomy t.length l.length with c | c | c
  · have := W.isT_short hT h c
    exact Or.inl ⟨by omega, Or.inl c⟩
  · have hL := W.less_num l t (W.isT_all h) (W.isT_all hT) c.symm
    rw [hN] at hL
    have c1 : (((l.length : Nat) : Int) == ((t.length : Nat) : Int)) = true := by rw [c]; simp
    have c2 : ¬ t.length < l.length := by omega
    rcases Nat.lt_trichotomy (num l) W.topN with d | d | d
    · exact Or.inr ⟨by omega, Or.inr (Or.inl ⟨c1, c2, by rw [hL]; simp [d]⟩)⟩
    · have el : l = t := W.isT_inj h hT (by omega)
      exact Or.inr ⟨by omega, Or.inr (Or.inr ⟨c1, c2, by rw [hL]; simp [d], by rw [el]; simp⟩)⟩
    · refine Or.inl ⟨by omega, Or.inr ⟨c1, c2, by rw [hL]; simp; omega, ?_⟩⟩
      rw [beq_eq_false_iff_ne]
      intro el
      rw [el] at d
      omega
  · have := W.isT_short h hT c
    exact Or.inr ⟨by omega, Or.inl ⟨by omega, beq_eq_false_iff_ne.2 (by omega)⟩⟩

theorem refread_form (l : List UInt8) (hl : l.length ≤ maxLen) (ht : isT l = false) (w : World) : Calls Try.prog 14 #[.string (str l)] w (ReadPost l w) := by
  have HR := Lib.hid (read_form ht)
  have HI := Lib.hid (fun w => form_any l hl w)
  rw [ht] at HI
  clear ht hl
  go_enter Try.func14, Try.ntmps14
  go_wp2_with fail
  refine (HI.out _).mono ?_
  rintro e w1 ⟨rfl, rfl⟩
  go_wp2
  refine bodyPost_ret (v := .tuple #[.agg #[.int .u64 0, .int .u64 0], .int .i64 2]) (by simp [results, Try.results14, go_sem]) rfl ⟨by rw [HR.out.1, HR.out.2]; rfl, ?_⟩
  repeat (first | exact Below.refl _ _ | apply bal | (refine Below.setCell ?_ (by simp) _))

set_option maxHeartbeats 400000 in
theorem refread_over (l : List UInt8) (hl : l.length ≤ maxLen) (ht : isT l = true) (w : World) (hn : ¬ num l < MM) (hc : OverTop (str l) (str (txL W.topN))) :
    Calls Try.prog 14 #[.string (str l)] w (ReadPost l w) := by
  have HR := Lib.hid (read_over ht hn)
  have HI := Lib.hid (fun w => form_any l hl w)
  rw [ht] at HI
  have HT := Lib.hid reftext_top
  clear ht hl hn
  generalize str (txL W.topN) = T at *
  generalize str l = s at *
  rcases hc with h1 | ⟨h1, h2, h3, h4⟩
  all_goals
    go_enter Try.func14, Try.ntmps14
    go_wp2_with fail
    refine (HI.out _).mono ?_
    rintro e w1 ⟨rfl, rfl⟩
    go_wp2_with fail
    refine (reftop_any _).mono ?_
    rintro e w1 ⟨rfl, hb1⟩
    go_wp2_with fail
    refine (HT.out _).mono ?_
    rintro e w2 ⟨rfl, hb2⟩
    have hb := btr hb1 hb2
    have hB : Below w.heap.size w w2 := btr (alb _) hb
    have d0 := kept (p := ⟨w.heap.size, 0, none⟩) (x := .int .u64 0) (by simp [go_sem]) hb
    have d1 := kept (p := ⟨w.heap.size, 1, none⟩) (x := .int .u64 0) (by simp [go_sem]) hb
    have g0 := keptf (p := ⟨w.heap.size, 0, none⟩) (x := .int .u64 0) (by simp [go_sem]) (by simp [go_sem]) hb
    have g1 := keptf (p := ⟨w.heap.size, 1, none⟩) (x := .int .u64 0) (by simp [go_sem]) (by simp [go_sem]) hb
    clear hb hb1 hb2
    go_wp2
    refine bodyPost_ret (v := .tuple #[.agg #[.int .u64 0, .int .u64 0], .int .i64 9]) (by simp [results, Try.results14, go_sem, d0, d1]) rfl ⟨by rw [HR.out.1, HR.out.2]; rfl, ?_⟩
    repeat (first | exact hB | apply bal | (refine Below.setCell ?_ (by simp) _))
end Go.Proofs.Ytehcmgaonpfafaa
