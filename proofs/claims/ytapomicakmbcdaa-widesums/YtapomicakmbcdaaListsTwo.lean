/- Slices of wide numbers, second part: the document's own sum. -/
import Derived.Test.YtapomicakmbcdaaLists
namespace Go.Proofs.Ytapomicakmbcdaa
open Go.RowKit
open W (hi lo addN addB subN subB cmpN dig MM tot)

theorem refadd_at {y1 y2 : Int} {ok : Bool} (a b : Nat) (ha : a < MM) (hb : b < MM) (h5 : y1 = (hi (addN a b) : Nat)) (h6 : y2 = (lo (addN a b) : Nat)) (h7 : ok = addB a b) (w : World) :
    Calls Try.prog 9 #[.agg #[.int .u64 (hi a : Nat), .int .u64 (lo a : Nat)], .agg #[.int .u64 (hi b : Nat), .int .u64 (lo b : Nat)]] w fun e w' => e = .returned (.tuple #[.agg #[.int .u64 y1, .int .u64 y2], .bool ok]) ∧ Below w.heap.size w w' := by
  rw [h5, h6, h7]; exact refadd_any a b ha hb w
theorem refadd_ok (a b : Nat) (h : Hid (a + b < MM)) (w : World) :
    Calls Try.prog 9 #[.agg #[.int .u64 (hi a : Nat), .int .u64 (lo a : Nat)], .agg #[.int .u64 (hi b : Nat), .int .u64 (lo b : Nat)]] w fun e w' => e = .returned (.tuple #[.agg #[.int .u64 (hi (a + b) : Nat), .int .u64 (lo (a + b) : Nat)], .bool true]) ∧ Below w.heap.size w w' := by
  have h := h.out
  exact refadd_at a b (by omega) (by omega) (by rw [addN_ok h]) (by rw [addN_ok h]) (W.addB_true h).symm w
theorem refadd_no (a b : Nat) (ha : Hid (a < MM)) (hb : Hid (b < MM)) (h : Hid (¬ a + b < MM)) (w : World) :
    Calls Try.prog 9 #[.agg #[.int .u64 (hi a : Nat), .int .u64 (lo a : Nat)], .agg #[.int .u64 (hi b : Nat), .int .u64 (lo b : Nat)]] w fun e w' => e = .returned (.tuple #[.agg #[.int .u64 0, .int .u64 0], .bool false]) ∧ Below w.heap.size w w' :=
  refadd_at a b ha.out hb.out (by rw [addN_no h.out]; rfl) (by rw [addN_no h.out]; rfl) (W.addB_false h.out).symm w

set_option maxHeartbeats 800000 in
theorem refsum_any (A : Option Addr) (c : Nat) (ns : List Nat) (hn : ns.length ≤ 200) (w : World) (hw : Wides w A ns) :
    Calls Try.prog 20 #[.slice A ns.length c] w fun e w' =>
      e = .returned (.tuple #[.agg #[.int .u64 (hi (W.sumN ns) : Nat), .int .u64 (lo (W.sumN ns) : Nat)], .bool (W.sumB ns)]) ∧ Below w.heap.size w w' := by
  go_enter Try.func20, Try.ntmps20
  go_wp2
  go_loopw [5] (fun i wr => ∃ k : Nat, k ≤ ns.length ∧ i = .int .i64 (k : Int) ∧ Hid (tot (ns.take k) < MM) ∧ wr.cell? ⟨w.heap.size + 1, 0, none⟩ = some (.int .u64 (hi (tot (ns.take k)) : Nat)) ∧ wr.cell? ⟨w.heap.size + 1, 1, none⟩ = some (.int .u64 (lo (tot (ns.take k)) : Nat)) ∧
      wr.frozen? ⟨w.heap.size + 1, 0, none⟩ = false ∧ wr.frozen? ⟨w.heap.size + 1, 1, none⟩ = false ∧ wr.cell? ⟨w.heap.size, 0, none⟩ = some (.int .u64 0) ∧ wr.cell? ⟨w.heap.size, 1, none⟩ = some (.int .u64 0) ∧
      wr.frozen? ⟨w.heap.size, 0, none⟩ = false ∧ wr.frozen? ⟨w.heap.size, 1, none⟩ = false ∧ Below w.heap.size w wr)
    (fun i _ => ns.length - (intOf i).toNat)
  case atStart =>
    refine ⟨0, by omega, rfl, ?_, ?_, ?_, ?_, ?_, ?_, ?_, ?_, ?_, ?_⟩
    · show tot [] < MM; decide
    · simp [go_sem]; decide
    · simp [go_sem]; decide
    · simp [go_sem]
    · simp [go_sem]
    · simp [go_sem]
    · simp [go_sem]
    · simp [go_sem]
    · simp [go_sem]
    · repeat (first | exact Below.refl _ _ | apply bal)
  case round =>
    obtain ⟨k, hk, rfl, hlt, c0, c1, f0, f1, d0, d1, g0, g1, hB⟩ := hrel
    by_cases hkn : k < ns.length
    · obtain ⟨b, off, rfl, x0, x1⟩ := (hw.below hB).at_ hkn
      have HW := Lib.hid hw; clear hw
      have ht := Lib.hid (W.tot_take_succ ns k hkn)
      have hst := Lib.hid (W.sum_stops ns k hkn)
      by_cases hs : tot (ns.take k) + ns.getD k 0 < MM
      · have HS := Lib.hid hs; clear hs
        clear hlt hst
        generalize tot (ns.take k) = T at *
        generalize ns.getD k 0 = m at *
        have hq1 : wr.heap.size ≠ w.heap.size + 1 := World.new_ne wr _ c0
        have hq2 : wr.heap.size ≠ b := World.new_ne wr _ x0
        go_wp2
        go_region_held3 (fun w' => w'.cell? ⟨w.heap.size + 1, 0, none⟩ = some (.int .u64 (hi T : Nat)) ∧ w'.cell? ⟨w.heap.size + 1, 1, none⟩ = some (.int .u64 (lo T : Nat)) ∧ w'.cell? ⟨b, off + k * 2, none⟩ = some (.int .u64 (hi m : Nat)) ∧ w'.cell? ⟨b, off + k * 2 + 1, none⟩ = some (.int .u64 (lo m : Nat)))
          (first
            | exact ⟨c0, c1, x0, x1⟩
            | exact ⟨alc c0 _, alc c1 _, alc x0 _, alc x1 _⟩
            | ((try dsimp only at *); go_split_ands; ((refine ⟨kept ?_ hb1, kept ?_ hb1, kept ?_ hb1, kept ?_ hb1⟩) <;> assumption))
            | ((refine ⟨alc (kept ?_ hb1) _, alc (kept ?_ hb1) _, alc (kept ?_ hb1) _, alc (kept ?_ hb1) _⟩) <;> (first | exact c0 | exact c1 | exact x0 | exact x1))
            | ((try dsimp only at *); go_split_ands; ((refine ⟨cfar ?_ (cfar ?_ ?_), cfar ?_ (cfar ?_ ?_), cfar ?_ (cfar ?_ ?_), cfar ?_ (cfar ?_ ?_)⟩) <;> (first | assumption | exact hq1 | exact hq2))))
          (first | (go_at_call 9; refine (refadd_ok T m HS _).mono ?_; rintro e w1 ⟨rfl, hb1⟩; (first | (have nn := fresh_pair hb1; obtain ⟨n0, n1, m0, m1⟩ := nn) | skip)))
        · have hA : Below wr.heap.size wr (w1.alloc (.cells #[.int .u64 (hi (T + m) : Nat), .int .u64 (lo (T + m) : Nat)] 24)) := bal (btr (Below.refl _ wr).drew hb1) _
          have p0 : (w1.alloc (.cells #[.int .u64 (hi (T + m) : Nat), .int .u64 (lo (T + m) : Nat)] 24)).cell? ⟨w1.heap.size, 0, none⟩ = some (.int .u64 (hi (T + m) : Nat)) := by simp [go_sem]
          have p1 : (w1.alloc (.cells #[.int .u64 (hi (T + m) : Nat), .int .u64 (lo (T + m) : Nat)] 24)).cell? ⟨w1.heap.size, 1, none⟩ = some (.int .u64 (lo (T + m) : Nat)) := by simp [go_sem]
          generalize w1.alloc (.cells #[.int .u64 (hi (T + m) : Nat), .int .u64 (lo (T + m) : Nat)] 24) = V at *
          generalize w1.heap.size = q at *
          rename_i hS
          clear hS hb1 hq1 hq2
          replace f0 := keptf c0 f0 hA
          replace f1 := keptf c1 f1 hA
          replace g0 := keptf d0 g0 hA
          replace g1 := keptf d1 g1 hA
          replace c0 := kept c0 hA
          replace c1 := kept c1 hA
          replace d0 := kept d0 hA
          replace d1 := kept d1 hA
          replace hB := btr hB hA
          clear hA x0 x1
          go_wp2
          go_roundw
          case rel =>
            have hz : w.heap.size + 1 ≠ w.heap.size := by omega
            refine ⟨k + 1, by omega, by go_num, ?_, ?_, ?_, ?_, ?_, ?_, ?_, ?_, ?_, ?_⟩
            · rw [ht.out]; exact HS.out
            · rw [ht.out]; exact (two_set c0 c1).1
            · rw [ht.out]; exact (two_set c0 c1).2
            · exact fzs (fzs f0)
            · exact fzs (fzs f1)
            · exact cfar hz (cfar hz d0)
            · exact cfar hz (cfar hz d1)
            · exact fzs (fzs g0)
            · exact fzs (fzs g1)
            · exact (hB.setCell (by simp) _).setCell (by simp) _
          case measure => simp [intOf]; omega
        · have hA : Below wr.heap.size wr ((w1.setCell ⟨wr.heap.size, 0, none⟩ (.int .u64 (hi (T + m) : Nat))).setCell ⟨wr.heap.size, 1, none⟩ (.int .u64 (lo (T + m) : Nat))) :=
            ((btr (alb (w := wr) _).drew hb1).setCell (Nat.le_refl _) _).setCell (Nat.le_refl _) _
          have p0 := (two_set (x0 := .int .u64 (hi (T + m) : Nat)) (x1 := .int .u64 (lo (T + m) : Nat)) n0 n1).1
          have p1 := (two_set (x0 := .int .u64 (hi (T + m) : Nat)) (x1 := .int .u64 (lo (T + m) : Nat)) n0 n1).2
          generalize (w1.setCell ⟨wr.heap.size, 0, none⟩ (.int .u64 (hi (T + m) : Nat))).setCell ⟨wr.heap.size, 1, none⟩ (.int .u64 (lo (T + m) : Nat)) = V at *
          rename_i hS
          clear hS hb1 hq1 hq2 n0 n1 m0 m1
          replace f0 := keptf c0 f0 hA
          replace f1 := keptf c1 f1 hA
          replace g0 := keptf d0 g0 hA
          replace g1 := keptf d1 g1 hA
          replace c0 := kept c0 hA
          replace c1 := kept c1 hA
          replace d0 := kept d0 hA
          replace d1 := kept d1 hA
          replace hB := btr hB hA
          clear hA x0 x1
          go_wp2
          go_roundw
          case rel =>
            have hz : w.heap.size + 1 ≠ w.heap.size := by omega
            refine ⟨k + 1, by omega, by go_num, ?_, ?_, ?_, ?_, ?_, ?_, ?_, ?_, ?_, ?_⟩
            · rw [ht.out]; exact HS.out
            · rw [ht.out]; exact (two_set c0 c1).1
            · rw [ht.out]; exact (two_set c0 c1).2
            · exact fzs (fzs f0)
            · exact fzs (fzs f1)
            · exact cfar hz (cfar hz d0)
            · exact cfar hz (cfar hz d1)
            · exact fzs (fzs g0)
            · exact fzs (fzs g1)
            · exact (hB.setCell (by simp) _).setCell (by simp) _
          case measure => simp [intOf]; omega
      · have HN := Lib.hid (W.sumN_false (hst.out hs))
        have HF := Lib.hid (W.sumB_false (hst.out hs))
        have HM := Lib.hid (HW.out.1 k hkn)
        have HS := Lib.hid hs; clear hs
        clear hst
        generalize tot (ns.take k) = T at *
        generalize ns.getD k 0 = m at *
        have hq1 : wr.heap.size ≠ w.heap.size + 1 := World.new_ne wr _ c0
        have hq2 : wr.heap.size ≠ b := World.new_ne wr _ x0
        go_wp2
        go_region_held3 (fun w' => w'.cell? ⟨w.heap.size + 1, 0, none⟩ = some (.int .u64 (hi T : Nat)) ∧ w'.cell? ⟨w.heap.size + 1, 1, none⟩ = some (.int .u64 (lo T : Nat)) ∧ w'.cell? ⟨b, off + k * 2, none⟩ = some (.int .u64 (hi m : Nat)) ∧ w'.cell? ⟨b, off + k * 2 + 1, none⟩ = some (.int .u64 (lo m : Nat)))
          (first
            | exact ⟨c0, c1, x0, x1⟩
            | exact ⟨alc c0 _, alc c1 _, alc x0 _, alc x1 _⟩
            | ((try dsimp only at *); go_split_ands; ((refine ⟨kept ?_ hb1, kept ?_ hb1, kept ?_ hb1, kept ?_ hb1⟩) <;> assumption))
            | ((refine ⟨alc (kept ?_ hb1) _, alc (kept ?_ hb1) _, alc (kept ?_ hb1) _, alc (kept ?_ hb1) _⟩) <;> (first | exact c0 | exact c1 | exact x0 | exact x1))
            | ((try dsimp only at *); go_split_ands; ((refine ⟨cfar ?_ (cfar ?_ ?_), cfar ?_ (cfar ?_ ?_), cfar ?_ (cfar ?_ ?_), cfar ?_ (cfar ?_ ?_)⟩) <;> (first | assumption | exact hq1 | exact hq2))))
          (first | (go_at_call 9; refine (refadd_no T m hlt HM HS _).mono ?_; rintro e w1 ⟨rfl, hb1⟩; (first | (have nn := fresh_pair hb1; obtain ⟨n0, n1, m0, m1⟩ := nn) | skip)))
        · have hA : Below wr.heap.size wr (w1.alloc (.cells #[.int .u64 0, .int .u64 0] 24)) := bal (btr (Below.refl _ wr).drew hb1) _
          have p0 : (w1.alloc (.cells #[.int .u64 0, .int .u64 0] 24)).cell? ⟨w1.heap.size, 0, none⟩ = some (.int .u64 0) := by simp [go_sem]
          have p1 : (w1.alloc (.cells #[.int .u64 0, .int .u64 0] 24)).cell? ⟨w1.heap.size, 1, none⟩ = some (.int .u64 0) := by simp [go_sem]
          generalize w1.alloc (.cells #[.int .u64 0, .int .u64 0] 24) = V at *
          generalize w1.heap.size = q at *
          rename_i hS
          clear hS hb1 hq1 hq2
          replace g0 := keptf d0 g0 hA
          replace g1 := keptf d1 g1 hA
          replace d0 := kept d0 hA
          replace d1 := kept d1 hA
          replace hB := btr hB hA
          clear hA x0 x1 c0 c1 f0 f1
          go_wp2
          exact bodyPost_ret (v := .tuple #[.agg #[.int .u64 0, .int .u64 0], .bool false]) (by simp [results, Try.results20, go_sem, d0, d1]) rfl ⟨by rw [HN.out, HF.out]; rfl, by
            repeat (first | exact hB | apply bal | (refine Below.setCell ?_ (by simp) _))⟩
        · have hA : Below wr.heap.size wr ((w1.setCell ⟨wr.heap.size, 0, none⟩ (.int .u64 0)).setCell ⟨wr.heap.size, 1, none⟩ (.int .u64 0)) :=
            ((btr (alb (w := wr) _).drew hb1).setCell (Nat.le_refl _) _).setCell (Nat.le_refl _) _
          have p0 := (two_set (x0 := .int .u64 0) (x1 := .int .u64 0) n0 n1).1
          have p1 := (two_set (x0 := .int .u64 0) (x1 := .int .u64 0) n0 n1).2
          generalize (w1.setCell ⟨wr.heap.size, 0, none⟩ (.int .u64 0)).setCell ⟨wr.heap.size, 1, none⟩ (.int .u64 0) = V at *
          rename_i hS
          clear hS hb1 hq1 hq2 n0 n1 m0 m1
          replace g0 := keptf d0 g0 hA
          replace g1 := keptf d1 g1 hA
          replace d0 := kept d0 hA
          replace d1 := kept d1 hA
          replace hB := btr hB hA
          clear hA x0 x1 c0 c1 f0 f1
          go_wp2
          exact bodyPost_ret (v := .tuple #[.agg #[.int .u64 0, .int .u64 0], .bool false]) (by simp [results, Try.results20, go_sem, d0, d1]) rfl ⟨by rw [HN.out, HF.out]; rfl, by
            repeat (first | exact hB | apply bal | (refine Below.setCell ?_ (by simp) _))⟩
    · have hk2 : k = ns.length := by omega
      have ht : tot (ns.take k) = tot ns := by rw [hk2, List.take_length]
      rw [ht] at c0 c1 hlt
      have HN := Lib.hid (W.sumN_true hlt.out)
      have HF := Lib.hid (W.sumB_true hlt.out)
      clear hk2 ht hlt hw
      generalize hT : tot ns = T at *
      clear hT
      go_wp2
      exact bodyPost_ret (v := .tuple #[.agg #[.int .u64 (hi T : Nat), .int .u64 (lo T : Nat)], .bool true]) (by simp [results, Try.results20, go_sem, d0, d1]) rfl ⟨by rw [HN.out, HF.out], by
          repeat (first | exact hB | apply bal | (refine Below.setCell ?_ (by simp) _))⟩
end Go.Proofs.Ytapomicakmbcdaa
