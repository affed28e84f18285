/- The contract of Least, and the walk of the law WideLeast. -/
import Derived.Test.YtapomicakmbcdaaOpen
namespace Go.Proofs.Ytapomicakmbcdaa
open Go.RowKit
open W (hi lo addN addB subN subB cmpN dig MM leastTo hasTo)

set_option maxHeartbeats 800000 in
theorem least_any (A : Option Addr) (c : Nat) (ns : List Nat) (hn : ns.length ≤ 200) (w : World) (hw : Wides w A ns) :
    Calls Try.prog 21 #[.slice A ns.length c] w fun e w' =>
      e = .returned (.agg #[.int .u64 (hi (leastTo ns ns.length) : Nat), .int .u64 (lo (leastTo ns ns.length) : Nat)]) ∧ Below w.heap.size w w' := by
  go_enter Try.func21, Try.ntmps21
  go_wp2_with fail
  refine (top_any _).mono ?_
  rintro e w1 ⟨rfl, h1⟩
  have d0 := kept (p := ⟨w.heap.size, 0, none⟩) (x := .int .u64 0) (by simp [go_sem]) h1
  have d1 := kept (p := ⟨w.heap.size, 1, none⟩) (x := .int .u64 0) (by simp [go_sem]) h1
  have g0 := keptf (p := ⟨w.heap.size, 0, none⟩) (x := .int .u64 0) (by simp [go_sem]) (by simp [go_sem]) h1
  have g1 := keptf (p := ⟨w.heap.size, 1, none⟩) (x := .int .u64 0) (by simp [go_sem]) (by simp [go_sem]) h1
  have hB : Below w.heap.size w w1 := btr (alb _) h1
  have hz : w.heap.size < w1.heap.size := World.block_lt_of_cell? _ _ d0
  clear h1
  go_wp2
  go_loopw [9] (fun i wr => ∃ k : Nat, k ≤ ns.length ∧ i = .int .i64 (k : Int) ∧ wr.cell? ⟨w1.heap.size, 0, none⟩ = some (.int .u64 (hi (leastTo ns k) : Nat)) ∧ wr.cell? ⟨w1.heap.size, 1, none⟩ = some (.int .u64 (lo (leastTo ns k) : Nat)) ∧
      wr.frozen? ⟨w1.heap.size, 0, none⟩ = false ∧ wr.frozen? ⟨w1.heap.size, 1, none⟩ = false ∧ wr.cell? ⟨w.heap.size, 0, none⟩ = some (.int .u64 0) ∧ wr.cell? ⟨w.heap.size, 1, none⟩ = some (.int .u64 0) ∧
      wr.frozen? ⟨w.heap.size, 0, none⟩ = false ∧ wr.frozen? ⟨w.heap.size, 1, none⟩ = false ∧ Below w.heap.size w wr)
    (fun i _ => ns.length - (intOf i).toNat)
  case atStart =>
    refine ⟨0, by omega, rfl, ?_, ?_, ?_, ?_, alc d0 _, alc d1 _, alf d0 g0 _, alf d1 g1 _, bal hB _⟩
    · rw [show leastTo ns 0 = W.topN from rfl, W.topN_hi]; simp [go_sem]
    · rw [show leastTo ns 0 = W.topN from rfl, W.topN_lo]; simp [go_sem]
    · simp [go_sem]
    · simp [go_sem]
  case round =>
    clear d0 d1 g0 g1 hB
    obtain ⟨k, hk, rfl, c0, c1, f0, f1, d0, d1, g0, g1, hB⟩ := hrel
    by_cases hkn : k < ns.length
    · obtain ⟨b, off, rfl, x0, x1⟩ := (hw.below hB).at_ hkn
      have HW := Lib.hid hw; clear hw
      have c0' := alc c0
      have c1' := alc c1
      by_cases hs : ns.getD k 0 < leastTo ns k
      · have HS := Lib.hid hs
        have HL := Lib.hid (W.leastTo_hit hs)
        clear hs
        generalize ns.getD k 0 = m at *
        generalize leastTo ns k = L at *
        go_wp2_with fail
        refine (cmp_less m L HS.out _).mono ?_
        rintro e w2 ⟨rfl, h2⟩
        have hA := btr (alb (w := wr) _) h2
        have y0 := kept (p := ⟨wr.heap.size, 0, none⟩) (x := .int .u64 (hi m : Nat)) (by simp [go_sem]) h2
        have y1 := kept (p := ⟨wr.heap.size, 1, none⟩) (x := .int .u64 (lo m : Nat)) (by simp [go_sem]) h2
        replace f0 := keptf c0 f0 hA
        replace f1 := keptf c1 f1 hA
        replace g0 := keptf d0 g0 hA
        replace g1 := keptf d1 g1 hA
        replace c0 := kept c0 hA
        replace c1 := kept c1 hA
        replace d0 := kept d0 hA
        replace d1 := kept d1 hA
        replace hB := btr hB hA
        clear hA h2 x0 x1 c0' c1'
        go_wp2
        go_roundw
        case rel =>
          have hz2 : w1.heap.size ≠ w.heap.size := by omega
          refine ⟨k + 1, by omega, by go_num, ?_, ?_, fzs (fzs f0), fzs (fzs f1), cfar hz2 (cfar hz2 d0), cfar hz2 (cfar hz2 d1), fzs (fzs g0), fzs (fzs g1), (hB.setCell (by simp; omega) _).setCell (by simp; omega) _⟩
          · rw [HL.out]; exact (two_set c0 c1).1
          · rw [HL.out]; exact (two_set c0 c1).2
        case measure => simp [intOf]; omega
      · have HS := Lib.hid hs
        have HL := Lib.hid (W.leastTo_miss hs)
        obtain ⟨cc, hc0, hc⟩ := cmp_fine (ns.getD k 0) (leastTo ns k) (by omega)
        have HC := Lib.hid hc; clear hc
        clear hs
        generalize ns.getD k 0 = m at *
        generalize leastTo ns k = L at *
        go_wp2_with fail
        refine (HC.out _).mono ?_
        rintro e w2 ⟨rfl, h2⟩
        have hA := btr (alb (w := wr) _) h2
        replace f0 := keptf c0 f0 hA
        replace f1 := keptf c1 f1 hA
        replace g0 := keptf d0 g0 hA
        replace g1 := keptf d1 g1 hA
        replace c0 := kept c0 hA
        replace c1 := kept c1 hA
        replace d0 := kept d0 hA
        replace d1 := kept d1 hA
        replace hB := btr hB hA
        clear hA h2 x0 x1 c0' c1'
        go_wp2
        go_roundw
        case rel => exact ⟨k + 1, by omega, by go_num, by rw [HL.out]; exact c0, by rw [HL.out]; exact c1, f0, f1, d0, d1, g0, g1, hB⟩
        case measure => simp [intOf]; omega
    · have hk2 : k = ns.length := by omega
      subst hk2
      clear hw
      go_wp2
      exact bodyPost_ret (v := .agg #[.int .u64 (hi (leastTo ns ns.length) : Nat), .int .u64 (lo (leastTo ns ns.length) : Nat)]) (by simp [results, Try.results21, go_sem, d0, d1]) rfl ⟨rfl, by
          repeat (first | exact hB | apply bal | (refine Below.setCell ?_ (by simp) _))⟩
end Go.Proofs.Ytapomicakmbcdaa
