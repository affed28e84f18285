/- The document's own Read, where the number isn't too great: digit by digit, ten sums each. -/
import Derived.Test.YtehcmgaonpfafaaRefRead
namespace Go.Proofs.Ytehcmgaonpfafaa
open Go.RowKit
open W (hi lo addN addB dig MM M txL isT isD dg num)

set_option maxHeartbeats 800000 in
theorem refread_ok (l : List UInt8) (ht : isT l = true) (w : World) (hn : num l < MM) (hc : UnderTop (str l) (str (txL W.topN))) :
    Calls Try.prog 14 #[.string (str l)] w (ReadPost l w) := by
  have HR := Lib.hid (read_ok ht hn)
  have hl := W.isT_len_le ht hn
  have HI := Lib.hid (fun w => form_any l (by unfold maxLen; omega) w)
  rw [ht] at HI
  have HT := Lib.hid reftext_top
  have hsz : (str l).size = l.length := rfl
  have HG := Lib.hid (fun k h => str_getD l k h)
  rw [← hsz] at hl
  have HSZ := Lib.hid hsz
  have HNM := Lib.hid hn
  have HIS := Lib.hid ht
  clear ht hn
  generalize str (txL W.topN) = T at *
  generalize str l = s at *
  clear hsz
  rcases hc with ⟨h2, h1⟩ | ⟨h1, h2, h3⟩ | ⟨h1, h2, h3, h4⟩
  all_goals
    go_enter Try.func14, Try.ntmps14
    go_wp2_with fail
    refine (HI.out _).mono ?_
    rintro e w1 ⟨rfl, rfl⟩
    go_wp2_with fail
    refine (reftop_any _).mono ?_
    rintro e w1 ⟨rfl, hb1⟩
    go_wp2_with fail
    refine (HT.out _).mono ?_
    rintro e w2 ⟨rfl, hb2⟩
    have hb := btr hb1 hb2
    have hB2 : Below w.heap.size w w2 := btr (alb _) hb
    have d0 := kept (p := ⟨w.heap.size, 0, none⟩) (x := .int .u64 0) (by simp [go_sem]) hb
    have d1 := kept (p := ⟨w.heap.size, 1, none⟩) (x := .int .u64 0) (by simp [go_sem]) hb
    have g0 := keptf (p := ⟨w.heap.size, 0, none⟩) (x := .int .u64 0) (by simp [go_sem]) (by simp [go_sem]) hb
    have g1 := keptf (p := ⟨w.heap.size, 1, none⟩) (x := .int .u64 0) (by simp [go_sem]) (by simp [go_sem]) hb
    have hz : w.heap.size < w2.heap.size := World.block_lt_of_cell? w2 _ d0
    clear hb hb1 hb2
    go_wp2
    go_loopw [6] (fun i wr => ∃ k : Nat, k ≤ s.size ∧ i = .int .i64 (k : Int) ∧ wr.cell? ⟨w2.heap.size, 0, none⟩ = some (.int .u64 (hi (num (l.take k)) : Nat)) ∧ wr.cell? ⟨w2.heap.size, 1, none⟩ = some (.int .u64 (lo (num (l.take k)) : Nat)) ∧
        wr.frozen? ⟨w2.heap.size, 0, none⟩ = false ∧ wr.frozen? ⟨w2.heap.size, 1, none⟩ = false ∧ wr.cell? ⟨w.heap.size, 0, none⟩ = some (.int .u64 0) ∧ wr.cell? ⟨w.heap.size, 1, none⟩ = some (.int .u64 0) ∧
        wr.frozen? ⟨w.heap.size, 0, none⟩ = false ∧ wr.frozen? ⟨w.heap.size, 1, none⟩ = false ∧ Below w.heap.size w wr)
      (fun i _ => s.size - (intOf i).toNat)
    case atStart =>
      refine ⟨0, by omega, rfl, ?_, ?_, ?_, ?_, alc d0 _, alc d1 _, alf d0 g0 _, alf d1 g1 _, bal hB2 _⟩
      · simp [go_sem]; decide
      · simp [go_sem]; decide
      · simp [go_sem]
      · simp [go_sem]
    case round =>
      clear d0 d1 g0 g1 hB2
      obtain ⟨k, hk, rfl, c0, c1, f0, f1, d0, d1, g0, g1, hB⟩ := hrel
      by_cases hkn : k < s.size
      · have hkl : k < l.length := by rw [← HSZ.out]; exact hkn
        have hg : s[k] = l[k] := (HG.out k hkn).trans (by simp [hkl])
        have hd : isD l[k] = true := (List.all_eq_true.1 (W.isT_all HIS.out)) _ (List.getElem_mem hkl)
        have hnt := W.num_take l k hkl
        have hle := W.num_take_le l (k + 1)
        rw [← hg] at hd hnt
        have HNT := Lib.hid hnt
        have HS : Hid (num (l.take k) * 10 + dg s[k] < MM) := by have h := HNM.out; unfold Hid; omega
        have HDG := Lib.hid (dg_byte hd)
        have hdg := W.dg_lt hd
        clear hnt hle hg hd
        generalize num (l.take k) = N at *
        have hb37 : decide (k < s.size) = true := by simp; exact hkn
        go_wp2
        have b0 : (wr.alloc (.cells #[.int .u64 0, .int .u64 0] 24)).cell? ⟨wr.heap.size, 0, none⟩ = some (.int .u64 0) := by simp [go_sem]
        have b1 : (wr.alloc (.cells #[.int .u64 0, .int .u64 0] 24)).cell? ⟨wr.heap.size, 1, none⟩ = some (.int .u64 0) := by simp [go_sem]
        have e0 : (wr.alloc (.cells #[.int .u64 0, .int .u64 0] 24)).frozen? ⟨wr.heap.size, 0, none⟩ = false := by simp [go_sem]
        have e1 : (wr.alloc (.cells #[.int .u64 0, .int .u64 0] 24)).frozen? ⟨wr.heap.size, 1, none⟩ = false := by simp [go_sem]
        have hqA : wr.heap.size ≠ w2.heap.size := World.new_ne wr _ c0
        have hqR : wr.heap.size ≠ w.heap.size := World.new_ne wr _ d0
        have hAR : w2.heap.size ≠ w.heap.size := by omega
        have hge : w.heap.size ≤ wr.heap.size := hB.size
        have hge2 : w.heap.size ≤ w2.heap.size := by omega
        replace f0 := alf c0 f0 (.cells #[.int .u64 0, .int .u64 0] 24)
        replace f1 := alf c1 f1 (.cells #[.int .u64 0, .int .u64 0] 24)
        replace g0 := alf d0 g0 (.cells #[.int .u64 0, .int .u64 0] 24)
        replace g1 := alf d1 g1 (.cells #[.int .u64 0, .int .u64 0] 24)
        replace c0 := alc c0 (.cells #[.int .u64 0, .int .u64 0] 24)
        replace c1 := alc c1 (.cells #[.int .u64 0, .int .u64 0] 24)
        replace d0 := alc d0 (.cells #[.int .u64 0, .int .u64 0] 24)
        replace d1 := alc d1 (.cells #[.int .u64 0, .int .u64 0] 24)
        replace hB := bal hB (.cells #[.int .u64 0, .int .u64 0] 24)
        generalize wr.alloc (.cells #[.int .u64 0, .int .u64 0] 24) = v at *
        generalize wr.heap.size = B at *
        go_loopw [8] (fun i wq => ∃ j : Nat, j ≤ 10 ∧ i = .int .i64 (j : Int) ∧ wq.cell? ⟨B, 0, none⟩ = some (.int .u64 (hi (N * j) : Nat)) ∧ wq.cell? ⟨B, 1, none⟩ = some (.int .u64 (lo (N * j) : Nat)) ∧
            wq.frozen? ⟨B, 0, none⟩ = false ∧ wq.frozen? ⟨B, 1, none⟩ = false ∧ wq.cell? ⟨w2.heap.size, 0, none⟩ = some (.int .u64 (hi N : Nat)) ∧ wq.cell? ⟨w2.heap.size, 1, none⟩ = some (.int .u64 (lo N : Nat)) ∧
            wq.frozen? ⟨w2.heap.size, 0, none⟩ = false ∧ wq.frozen? ⟨w2.heap.size, 1, none⟩ = false ∧ wq.cell? ⟨w.heap.size, 0, none⟩ = some (.int .u64 0) ∧ wq.cell? ⟨w.heap.size, 1, none⟩ = some (.int .u64 0) ∧
            wq.frozen? ⟨w.heap.size, 0, none⟩ = false ∧ wq.frozen? ⟨w.heap.size, 1, none⟩ = false ∧ Below w.heap.size w wq)
          (fun i _ => 10 - (intOf i).toNat)
        case atStart => exact ⟨0, by omega, rfl, by rw [Nat.mul_zero]; exact b0, by rw [Nat.mul_zero]; exact b1, e0, e1, c0, c1, f0, f1, d0, d1, g0, g1, hB⟩
        case round =>
          clear b0 b1 e0 e1 c0 c1 f0 f1 d0 d1 g0 g1 hB
          obtain ⟨j, hj, rfl, b0, b1, e0, e1, c0, c1, f0, f1, d0, d1, g0, g1, hB⟩ := hrel
          by_cases hj10 : j < 10
          · have HA := Lib.hid (refadd_ok (N * j) N (by have h := HS.out; have : N * j ≤ N * 9 := Nat.mul_le_mul_left _ (by omega); omega))
            have HM : Hid (N * (j + 1) = N * j + N) := Nat.mul_succ N j
            generalize N * j = P at *
            go_wp2_with fail
            refine (HA.out _).mono ?_
            rintro e w3 ⟨rfl, hb3⟩
            replace e0 := keptf b0 e0 hb3
            replace e1 := keptf b1 e1 hb3
            replace f0 := keptf c0 f0 hb3
            replace f1 := keptf c1 f1 hb3
            replace g0 := keptf d0 g0 hb3
            replace g1 := keptf d1 g1 hb3
            replace b0 := kept b0 hb3
            replace b1 := kept b1 hb3
            replace c0 := kept c0 hb3
            replace c1 := kept c1 hb3
            replace d0 := kept d0 hb3
            replace d1 := kept d1 hb3
            replace hB := btr hB hb3
            clear hb3 HA
            go_wp2
            go_roundw
            case rel =>
              refine ⟨j + 1, by omega, by go_num, ?_, ?_, fzs (fzs e0), fzs (fzs e1), cfar hqA (cfar hqA c0), cfar hqA (cfar hqA c1), fzs (fzs f0), fzs (fzs f1), cfar hqR (cfar hqR d0), cfar hqR (cfar hqR d1), fzs (fzs g0), fzs (fzs g1), (hB.setCell hge _).setCell hge _⟩
              · rw [HM.out]; exact (two_set b0 b1).1
              · rw [HM.out]; exact (two_set b0 b1).2
            case measure => simp [intOf]; omega
          · obtain rfl : j = 10 := by omega
            have HA := Lib.hid (refadd_digit (N * 10) (dg s[k]) HS.out hdg)
            have r1 : IntKind.u8.wrap (((s[k].toNat : Nat) : Int) - 48) = ((dg s[k] : Nat) : Int) := by rw [HDG.out, IntKind.wrap_u8]; omega
            have r2 : IntKind.u64.wrap ((dg s[k] : Nat) : Int) = ((dg s[k] : Nat) : Int) := by rw [IntKind.wrap_u64]; omega
            generalize dg s[k] = d at *
            generalize N * 10 = P at *
            go_wp2
            go_region_held3 (fun w' => w'.cell? ⟨B, 0, none⟩ = some (.int .u64 (hi P : Nat)) ∧ w'.cell? ⟨B, 1, none⟩ = some (.int .u64 (lo P : Nat)))
              (first
                | exact ⟨b0, b1⟩
                | ((try dsimp only at *); go_split_ands; ((refine ⟨kept ?_ hb1, kept ?_ hb1⟩) <;> assumption))
                | ((try dsimp only at *); go_split_ands; ((refine ⟨cfar ?_ (cfar ?_ ?_), cfar ?_ (cfar ?_ ?_)⟩) <;> (first | assumption | exact hqA.symm))))
              (first | (go_at_call 26; refine (HA.out _).mono ?_; rintro e w1 ⟨rfl, hb1⟩; have x0 := kept (v := wr.drew) c0 hb1; have x1 := kept (v := wr.drew) c1 hb1; have y0 := keptf (v := wr.drew) c0 f0 hb1; have y1 := keptf (v := wr.drew) c1 f1 hb1))
            rename_i hS
            replace g0 := keptf (v := wr.drew) d0 g0 hb1
            replace g1 := keptf (v := wr.drew) d1 g1 hb1
            replace d0 := kept (v := wr.drew) d0 hb1
            replace d1 := kept (v := wr.drew) d1 hb1
            replace hB := btr hB.drew hb1
            clear hS hb1 b0 b1 e0 e1 c0 c1 f0 f1 HA r1 r2
            go_wp2
            go_roundw
            case rel =>
              refine ⟨k + 1, by omega, by go_num, ?_, ?_, fzs (fzs y0), fzs (fzs y1), cfar hAR (cfar hAR d0), cfar hAR (cfar hAR d1), fzs (fzs g0), fzs (fzs g1), (hB.setCell hge2 _).setCell hge2 _⟩
              · rw [HNT.out]; exact (two_set x0 x1).1
              · rw [HNT.out]; exact (two_set x0 x1).2
            case measure => simp [intOf]; omega
      · have hk2 : k = l.length := by rw [← HSZ.out]; omega
        have hT : num (l.take k) = num l := by rw [hk2, List.take_length]
        rw [hT] at c0 c1
        clear hk2 hT
        generalize num l = N at *
        go_wp2
        exact bodyPost_ret (v := .tuple #[.agg #[.int .u64 (hi N : Nat), .int .u64 (lo N : Nat)], .int .i64 0]) (by simp [results, Try.results14, go_sem, d0, d1]) rfl ⟨by rw [HR.out.1, HR.out.2], by
            repeat (first | exact hB | apply bal | (refine Below.setCell ?_ (by simp) _))⟩

theorem refread_any (l : List UInt8) (hl : l.length ≤ maxLen) (w : World) : Calls Try.prog 14 #[.string (str l)] w (ReadPost l w) := by
  cases ht : isT l with
  | false => exact refread_form l hl ht w
  | true =>
    rcases top_cases l ht with ⟨hn, hc⟩ | ⟨hn, hc⟩
    · exact refread_over l hl ht w hn hc
    · exact refread_ok l ht w hn hc

set_option maxHeartbeats 400000 in
theorem refnumber_any (l : List UInt8) (hl : l.length ≤ maxLen) (w : World) : Calls Try.prog 15 #[.string (str l)] w (ShortPost l w) := by
  have HI := Lib.hid (fun w => refread_any l hl w); clear hl
  by_cases he : readE l = 0
  · have he' : (readE l != 0) = false := by rw [he]; rfl
    by_cases hh : hi (readN l) = 0
    · have HR := Lib.hid (short_ok he hh)
      have hh' : ¬ 0 < hi (readN l) := by omega
      clear he hh
      go_enter Try.func15, Try.ntmps15
      go_wp2_with fail
      refine (HI.out _).mono ?_
      rintro e w1 ⟨rfl, hb1⟩
      go_wp2
      go_ret2
      exact ⟨ret_short (by rw [HR.out.1]) HR.out.2.symm, bal hb1 _⟩
    · have HR := Lib.hid (short_over he hh)
      have hh' : 0 < hi (readN l) := by omega
      clear he hh
      go_enter Try.func15, Try.ntmps15
      go_wp2_with fail
      refine (HI.out _).mono ?_
      rintro e w1 ⟨rfl, hb1⟩
      go_wp2
      go_ret2
      exact ⟨ret_short (by rw [HR.out.1]; rfl) HR.out.2.symm, bal hb1 _⟩
  · have HR := Lib.hid (short_err he)
    have he' : (readE l != 0) = true := by rw [bne_iff_ne]; exact he
    clear he
    go_enter Try.func15, Try.ntmps15
    go_wp2_with fail
    refine (HI.out _).mono ?_
    rintro e w1 ⟨rfl, hb1⟩
    go_wp2
    go_ret2
    exact ⟨ret_short (by rw [HR.out.1]; rfl) HR.out.2.symm, bal hb1 _⟩
end Go.Proofs.Ytehcmgaonpfafaa
