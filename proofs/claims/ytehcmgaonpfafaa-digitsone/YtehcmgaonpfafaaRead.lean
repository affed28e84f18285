/- digits.Read and digits.Number: the number of a text. -/
import Derived.Test.YtehcmgaonpfafaaDigit
namespace Go.Proofs.Ytehcmgaonpfafaa
open Go.RowKit
open W (hi lo addN addB dig MM M txL isT isD dg num)

/-- What a text is read as: the number, and the error's number. -/
def readN (l : List UInt8) : Nat := if isT l = true ∧ num l < MM then num l else 0
def readE (l : List UInt8) : Int := if isT l = true then (if num l < MM then 0 else 9) else 2
theorem readN_lt (l : List UInt8) : readN l < MM := by unfold readN; split; · rename_i h; exact h.2
                                                       · decide
theorem read_form {l : List UInt8} (h : isT l = false) : readN l = 0 ∧ readE l = 2 := by unfold readN readE; simp [h]
theorem read_over {l : List UInt8} (h : isT l = true) (hn : ¬ num l < MM) : readN l = 0 ∧ readE l = 9 := by unfold readN readE; simp [h, hn]
theorem read_ok {l : List UInt8} (h : isT l = true) (hn : num l < MM) : readN l = num l ∧ readE l = 0 := by unfold readN readE; simp [h, hn]
def ReadPost (l : List UInt8) (w : World) (e : Ending) (w' : World) : Prop :=
  e = .returned (.tuple #[.agg #[.int .u64 (hi (readN l) : Nat), .int .u64 (lo (readN l) : Nat)], .int .i64 (readE l)]) ∧ Below w.heap.size w w'

theorem dg_byte {c : UInt8} (h : isD c = true) : ((c.toNat : Nat) : Int) = 48 + ((dg c : Nat) : Int) := by
  have := isD_yes h
  unfold W.dg
  omega
theorem withDigit_ok (a : Nat) (c : UInt8) (ha : a < MM) (hc : isD c = true) (h : a * 10 + dg c < MM) (w : World) :
    Calls Try.prog 20 #[.agg #[.int .u64 (hi a : Nat), .int .u64 (lo a : Nat)], .int .u8 ((c.toNat : Nat) : Int)] w fun e w' =>
      e = .returned (.tuple #[.agg #[.int .u64 (hi (a * 10 + dg c) : Nat), .int .u64 (lo (a * 10 + dg c) : Nat)], .bool true]) ∧ Below w.heap.size w w' := by
  rw [dg_byte hc]
  have k := withDigit_any a (dg c) ha (W.dg_lt hc) w
  unfold DigitPost at k
  rwa [addN_ok h, W.addB_true h] at k
theorem withDigit_no (a : Nat) (c : UInt8) (ha : a < MM) (hc : isD c = true) (h : ¬ a * 10 + dg c < MM) (w : World) :
    Calls Try.prog 20 #[.agg #[.int .u64 (hi a : Nat), .int .u64 (lo a : Nat)], .int .u8 ((c.toNat : Nat) : Int)] w fun e w' =>
      e = .returned (.tuple #[.agg #[.int .u64 0, .int .u64 0], .bool false]) ∧ Below w.heap.size w w' := by
  rw [dg_byte hc]
  have k := withDigit_any a (dg c) ha (W.dg_lt hc) w
  unfold DigitPost at k
  rwa [addN_no h, W.addB_false h] at k

set_option maxHeartbeats 800000 in
theorem read_any (l : List UInt8) (hl : l.length ≤ maxLen) (w : World) : Calls Try.prog 8 #[.string (str l)] w (ReadPost l w) := by
  cases ht : isT l with
  | false =>
    have HR := Lib.hid (read_form ht)
    have HI := Lib.hid (fun w => isText_any l hl w)
    rw [ht] at HI
    clear ht hl
    go_enter Try.func8, Try.ntmps8
    go_wp2_with fail
    refine (HI.out _).mono ?_
    rintro e w1 ⟨rfl, rfl⟩
    go_wp2
    refine bodyPost_ret (v := .tuple #[.agg #[.int .u64 0, .int .u64 0], .int .i64 2]) (by simp [results, Try.results8, go_sem]) rfl ⟨by rw [HR.out.1, HR.out.2]; rfl, ?_⟩
    repeat (first | exact Below.refl _ _ | apply bal | (refine Below.setCell ?_ (by simp) _))
  | true =>
    have HI := Lib.hid (fun w => isText_any l hl w)
    rw [ht] at HI
    unfold maxLen at hl
    have HT := Lib.hid ht; clear ht
    have hsz : (str l).size = l.length := rfl
    have HG := Lib.hid (fun k h => str_getD l k h)
    rw [← hsz] at hl
    have HSZ := Lib.hid hsz
    generalize str l = s at *
    clear hsz
    go_enter Try.func8, Try.ntmps8
    go_wp2_with fail
    refine (HI.out _).mono ?_
    rintro e w1 ⟨rfl, rfl⟩
    go_wp2
    go_loopw [15] (fun i wr => ∃ k : Nat, k ≤ s.size ∧ i = .int .i64 (k : Int) ∧ Hid (num (l.take k) < MM) ∧ wr.cell? ⟨w.heap.size + 1, 0, none⟩ = some (.int .u64 (hi (num (l.take k)) : Nat)) ∧ wr.cell? ⟨w.heap.size + 1, 1, none⟩ = some (.int .u64 (lo (num (l.take k)) : Nat)) ∧
        wr.frozen? ⟨w.heap.size + 1, 0, none⟩ = false ∧ wr.frozen? ⟨w.heap.size + 1, 1, none⟩ = false ∧ wr.cell? ⟨w.heap.size, 0, none⟩ = some (.int .u64 0) ∧ wr.cell? ⟨w.heap.size, 1, none⟩ = some (.int .u64 0) ∧
        wr.frozen? ⟨w.heap.size, 0, none⟩ = false ∧ wr.frozen? ⟨w.heap.size, 1, none⟩ = false ∧ Below w.heap.size w wr)
      (fun i _ => s.size - (intOf i).toNat)
    case atStart =>
      refine ⟨0, by omega, rfl, ?_, ?_, ?_, ?_, ?_, ?_, ?_, ?_, ?_, ?_⟩
      · show num [] < MM; decide
      · simp [go_sem]; decide
      · simp [go_sem]; decide
      · simp [go_sem]
      · simp [go_sem]
      · simp [go_sem]
      · simp [go_sem]
      · simp [go_sem]
      · simp [go_sem]
      · repeat (first | exact Below.refl _ _ | apply bal)
    case round =>
      obtain ⟨k, hk, rfl, hlt, c0, c1, f0, f1, d0, d1, g0, g1, hB⟩ := hrel
      by_cases hkn : k < s.size
      · have hkl : k < l.length := by rw [← HSZ.out]; exact hkn
        have hg : s[k] = l[k] := (HG.out k hkn).trans (by simp [hkl])
        have hd : isD l[k] = true := (List.all_eq_true.1 (W.isT_all HT.out)) _ (List.getElem_mem hkl)
        have hn := W.num_take l k hkl
        have hle := W.num_take_le l (k + 1)
        rw [← hg] at hd hn
        have HN := Lib.hid hn; clear hn hg
        by_cases hs : num (l.take k) * 10 + dg s[k] < MM
        · have WD := Lib.hid (withDigit_ok (num (l.take k)) s[k] hlt.out hd hs)
          have HS := Lib.hid hs; clear hs hd hle hlt
          generalize num (l.take k) = T at *
          generalize hV : T * 10 + dg s[k] = V at *
          clear hV
          have hq1 : wr.heap.size ≠ w.heap.size + 1 := World.new_ne wr _ c0
          go_wp2
          go_region_held3 (fun w' => w'.cell? ⟨w.heap.size + 1, 0, none⟩ = some (.int .u64 (hi T : Nat)) ∧ w'.cell? ⟨w.heap.size + 1, 1, none⟩ = some (.int .u64 (lo T : Nat)))
            (first
              | exact ⟨c0, c1⟩
              | exact ⟨alc c0 _, alc c1 _⟩
              | ((try dsimp only at *); go_split_ands; ((refine ⟨kept ?_ hb1, kept ?_ hb1⟩) <;> assumption))
              | ((refine ⟨alc (kept ?_ hb1) _, alc (kept ?_ hb1) _⟩) <;> (first | exact c0 | exact c1))
              | ((try dsimp only at *); go_split_ands; ((refine ⟨cfar ?_ (cfar ?_ ?_), cfar ?_ (cfar ?_ ?_)⟩) <;> (first | assumption | exact hq1))))
            (first | (go_at_call 20; refine (WD.out _).mono ?_; rintro e w1 ⟨rfl, hb1⟩; (first | (have nn := fresh_pair hb1; obtain ⟨n0, n1, m0, m1⟩ := nn) | skip)))
          · have hA : Below wr.heap.size wr (w1.alloc (.cells #[.int .u64 (hi V : Nat), .int .u64 (lo V : Nat)] 24)) := bal (btr (Below.refl _ wr).drew hb1) _
            have p0 : (w1.alloc (.cells #[.int .u64 (hi V : Nat), .int .u64 (lo V : Nat)] 24)).cell? ⟨w1.heap.size, 0, none⟩ = some (.int .u64 (hi V : Nat)) := by simp [go_sem]
            have p1 : (w1.alloc (.cells #[.int .u64 (hi V : Nat), .int .u64 (lo V : Nat)] 24)).cell? ⟨w1.heap.size, 1, none⟩ = some (.int .u64 (lo V : Nat)) := by simp [go_sem]
            generalize w1.alloc (.cells #[.int .u64 (hi V : Nat), .int .u64 (lo V : Nat)] 24) = U at *
            generalize w1.heap.size = q at *
            rename_i hS
            clear hS hb1 hq1
            replace f0 := keptf c0 f0 hA
            replace f1 := keptf c1 f1 hA
            replace g0 := keptf d0 g0 hA
            replace g1 := keptf d1 g1 hA
            replace c0 := kept c0 hA
            replace c1 := kept c1 hA
            replace d0 := kept d0 hA
            replace d1 := kept d1 hA
            replace hB := btr hB hA
            clear hA WD
            go_wp2
            go_roundw
            case rel =>
              have hz : w.heap.size + 1 ≠ w.heap.size := by omega
              refine ⟨k + 1, by omega, by go_num, ?_, ?_, ?_, ?_, ?_, ?_, ?_, ?_, ?_, ?_⟩
              · rw [HN.out]; exact HS.out
              · rw [HN.out]; exact (two_set c0 c1).1
              · rw [HN.out]; exact (two_set c0 c1).2
              · exact fzs (fzs f0)
              · exact fzs (fzs f1)
              · exact cfar hz (cfar hz d0)
              · exact cfar hz (cfar hz d1)
              · exact fzs (fzs g0)
              · exact fzs (fzs g1)
              · exact (hB.setCell (by simp) _).setCell (by simp) _
            case measure => simp [intOf]; omega
          all_goals
            have hA : Below wr.heap.size wr ((w1.setCell ⟨wr.heap.size, 0, none⟩ (.int .u64 (hi V : Nat))).setCell ⟨wr.heap.size, 1, none⟩ (.int .u64 (lo V : Nat))) :=
              ((btr (alb (w := wr) _).drew hb1).setCell (Nat.le_refl _) _).setCell (Nat.le_refl _) _
            have p0 := (two_set (x0 := .int .u64 (hi V : Nat)) (x1 := .int .u64 (lo V : Nat)) n0 n1).1
            have p1 := (two_set (x0 := .int .u64 (hi V : Nat)) (x1 := .int .u64 (lo V : Nat)) n0 n1).2
            generalize (w1.setCell ⟨wr.heap.size, 0, none⟩ (.int .u64 (hi V : Nat))).setCell ⟨wr.heap.size, 1, none⟩ (.int .u64 (lo V : Nat)) = U at *
            rename_i hS
            clear hS hb1 hq1 n0 n1 m0 m1
            replace f0 := keptf c0 f0 hA
            replace f1 := keptf c1 f1 hA
            replace g0 := keptf d0 g0 hA
            replace g1 := keptf d1 g1 hA
            replace c0 := kept c0 hA
            replace c1 := kept c1 hA
            replace d0 := kept d0 hA
            replace d1 := kept d1 hA
            replace hB := btr hB hA
            clear hA WD
            go_wp2
            go_roundw
            case rel =>
              have hz : w.heap.size + 1 ≠ w.heap.size := by omega
              refine ⟨k + 1, by omega, by go_num, ?_, ?_, ?_, ?_, ?_, ?_, ?_, ?_, ?_, ?_⟩
              · rw [HN.out]; exact HS.out
              · rw [HN.out]; exact (two_set c0 c1).1
              · rw [HN.out]; exact (two_set c0 c1).2
              · exact fzs (fzs f0)
              · exact fzs (fzs f1)
              · exact cfar hz (cfar hz d0)
              · exact cfar hz (cfar hz d1)
              · exact fzs (fzs g0)
              · exact fzs (fzs g1)
              · exact (hB.setCell (by simp) _).setCell (by simp) _
            case measure => simp [intOf]; omega
        · have WD := Lib.hid (withDigit_no (num (l.take k)) s[k] hlt.out hd hs)
          have HR := Lib.hid (read_over HT.out (by rw [HN.out] at hle; omega))
          clear hs hd hle hlt HN
          generalize num (l.take k) = T at *
          have hq1 : wr.heap.size ≠ w.heap.size + 1 := World.new_ne wr _ c0
          go_wp2
          go_region_held3 (fun w' => w'.cell? ⟨w.heap.size + 1, 0, none⟩ = some (.int .u64 (hi T : Nat)) ∧ w'.cell? ⟨w.heap.size + 1, 1, none⟩ = some (.int .u64 (lo T : Nat)))
            (first
              | exact ⟨c0, c1⟩
              | exact ⟨alc c0 _, alc c1 _⟩
              | ((try dsimp only at *); go_split_ands; ((refine ⟨kept ?_ hb1, kept ?_ hb1⟩) <;> assumption))
              | ((refine ⟨alc (kept ?_ hb1) _, alc (kept ?_ hb1) _⟩) <;> (first | exact c0 | exact c1))
              | ((try dsimp only at *); go_split_ands; ((refine ⟨cfar ?_ (cfar ?_ ?_), cfar ?_ (cfar ?_ ?_)⟩) <;> (first | assumption | exact hq1))))
            (first | (go_at_call 20; refine (WD.out _).mono ?_; rintro e w1 ⟨rfl, hb1⟩; (first | (have nn := fresh_pair hb1; obtain ⟨n0, n1, m0, m1⟩ := nn) | skip)))
          · have hA : Below wr.heap.size wr (w1.alloc (.cells #[.int .u64 0, .int .u64 0] 24)) := bal (btr (Below.refl _ wr).drew hb1) _
            have p0 : (w1.alloc (.cells #[.int .u64 0, .int .u64 0] 24)).cell? ⟨w1.heap.size, 0, none⟩ = some (.int .u64 0) := by simp [go_sem]
            have p1 : (w1.alloc (.cells #[.int .u64 0, .int .u64 0] 24)).cell? ⟨w1.heap.size, 1, none⟩ = some (.int .u64 0) := by simp [go_sem]
            generalize w1.alloc (.cells #[.int .u64 0, .int .u64 0] 24) = U at *
            generalize w1.heap.size = q at *
            rename_i hS
            clear hS hb1 hq1
            replace g0 := keptf d0 g0 hA
            replace g1 := keptf d1 g1 hA
            replace d0 := kept d0 hA
            replace d1 := kept d1 hA
            replace hB := btr hB hA
            clear hA c0 c1 f0 f1 WD
            go_wp2
            exact bodyPost_ret (v := .tuple #[.agg #[.int .u64 0, .int .u64 0], .int .i64 9]) (by simp [results, Try.results8, go_sem, d0, d1]) rfl ⟨by rw [HR.out.1, HR.out.2]; rfl, by
              repeat (first | exact hB | apply bal | (refine Below.setCell ?_ (by simp) _))⟩
          all_goals
            have hA : Below wr.heap.size wr ((w1.setCell ⟨wr.heap.size, 0, none⟩ (.int .u64 0)).setCell ⟨wr.heap.size, 1, none⟩ (.int .u64 0)) :=
              ((btr (alb (w := wr) _).drew hb1).setCell (Nat.le_refl _) _).setCell (Nat.le_refl _) _
            have p0 := (two_set (x0 := .int .u64 0) (x1 := .int .u64 0) n0 n1).1
            have p1 := (two_set (x0 := .int .u64 0) (x1 := .int .u64 0) n0 n1).2
            generalize (w1.setCell ⟨wr.heap.size, 0, none⟩ (.int .u64 0)).setCell ⟨wr.heap.size, 1, none⟩ (.int .u64 0) = U at *
            rename_i hS
            clear hS hb1 hq1 n0 n1 m0 m1
            replace g0 := keptf d0 g0 hA
            replace g1 := keptf d1 g1 hA
            replace d0 := kept d0 hA
            replace d1 := kept d1 hA
            replace hB := btr hB hA
            clear hA c0 c1 f0 f1 WD
            go_wp2
            exact bodyPost_ret (v := .tuple #[.agg #[.int .u64 0, .int .u64 0], .int .i64 9]) (by simp [results, Try.results8, go_sem, d0, d1]) rfl ⟨by rw [HR.out.1, HR.out.2]; rfl, by
              repeat (first | exact hB | apply bal | (refine Below.setCell ?_ (by simp) _))⟩
      · have hk2 : k = l.length := by rw [← HSZ.out]; omega
        have ht : num (l.take k) = num l := by rw [hk2, List.take_length]
        rw [ht] at c0 c1 hlt
        have HR := Lib.hid (read_ok HT.out hlt.out)
        clear hk2 ht hlt
        generalize hT : num l = T at *
        clear hT
        go_wp2
        exact bodyPost_ret (v := .tuple #[.agg #[.int .u64 (hi T : Nat), .int .u64 (lo T : Nat)], .int .i64 0]) (by simp [results, Try.results8, go_sem, d0, d1]) rfl ⟨by rw [HR.out.1, HR.out.2], by
            repeat (first | exact hB | apply bal | (refine Below.setCell ?_ (by simp) _))⟩
end Go.Proofs.Ytehcmgaonpfafaa
