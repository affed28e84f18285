/- Slices of wide numbers: how one that came in reads, and the contracts of Sum. -/
import Derived.Test.YtapomicakmbcdaaSmall
import Derived.Deep.SlicePairs
namespace Go.Proofs.Ytapomicakmbcdaa
open Go.RowKit
open W (hi lo addN addB subN subB cmpN dig MM tot)

/-- The slice at A holds these numbers, one behind the other. -/
def Wides (w : World) (A : Option Addr) (ns : List Nat) : Prop :=
  (∀ k, k < ns.length → ns.getD k 0 < MM) ∧ (0 < ns.length → ∃ b off, A = some ⟨b, off, none⟩ ∧ ∀ k, k < ns.length →
    w.cell? ⟨b, off + k * 2, none⟩ = some (.int .u64 (hi (ns.getD k 0) : Nat)) ∧ w.cell? ⟨b, off + k * 2 + 1, none⟩ = some (.int .u64 (lo (ns.getD k 0) : Nat)))
theorem Wides.below {w w1 : World} {A : Option Addr} {ns : List Nat} (h : Wides w A ns) (hb : Below w.heap.size w w1) : Wides w1 A ns :=
  ⟨h.1, fun hl => by
    obtain ⟨b, off, e, hc⟩ := h.2 hl
    exact ⟨b, off, e, fun k hk => ⟨kept (hc k hk).1 hb, kept (hc k hk).2 hb⟩⟩⟩
theorem Wides.at_ {w : World} {A : Option Addr} {ns : List Nat} (h : Wides w A ns) {k : Nat} (hk : k < ns.length) :
    ∃ b off, A = some ⟨b, off, none⟩ ∧ w.cell? ⟨b, off + k * 2, none⟩ = some (.int .u64 (hi (ns.getD k 0) : Nat)) ∧ w.cell? ⟨b, off + k * 2 + 1, none⟩ = some (.int .u64 (lo (ns.getD k 0) : Nat)) := by
  obtain ⟨b, off, e, hc⟩ := h.2 (by omega)
  exact ⟨b, off, e, (hc k hk).1, (hc k hk).2⟩

set_option maxHeartbeats 800000 in
theorem sum_any (A : Option Addr) (c : Nat) (ns : List Nat) (hn : ns.length ≤ 200) (w : World) (hw : Wides w A ns) :
    Calls Try.prog 19 #[.slice A ns.length c] w fun e w' =>
      e = .returned (.tuple #[.agg #[.int .u64 (hi (W.sumN ns) : Nat), .int .u64 (lo (W.sumN ns) : Nat)], .bool (W.sumB ns)]) ∧ Below w.heap.size w w' := by
  go_enter Try.func19, Try.ntmps19
  go_wp2
  go_loopw [12] (fun i wr => ∃ k : Nat, k ≤ ns.length ∧ i = .int .i64 (k : Int) ∧ Hid (tot (ns.take k) < MM) ∧ wr.cell? ⟨w.heap.size + 1, 0, none⟩ = some (.int .u64 (hi (tot (ns.take k)) : Nat)) ∧ wr.cell? ⟨w.heap.size + 1, 1, none⟩ = some (.int .u64 (lo (tot (ns.take k)) : Nat)) ∧
      wr.frozen? ⟨w.heap.size + 1, 0, none⟩ = false ∧ wr.frozen? ⟨w.heap.size + 1, 1, none⟩ = false ∧ wr.cell? ⟨w.heap.size, 0, none⟩ = some (.int .u64 0) ∧ wr.cell? ⟨w.heap.size, 1, none⟩ = some (.int .u64 0) ∧
      wr.frozen? ⟨w.heap.size, 0, none⟩ = false ∧ wr.frozen? ⟨w.heap.size, 1, none⟩ = false ∧ Below w.heap.size w wr)
    (fun i _ => ns.length - (intOf i).toNat)
  case atStart =>
    refine ⟨0, by omega, rfl, ?_, ?_, ?_, ?_, ?_, ?_, ?_, ?_, ?_, ?_⟩
    · show tot [] < MM; decide
    · simp [go_sem]; decide
    · simp [go_sem]; decide
    · simp [go_sem]
    · simp [go_sem]
    · simp [go_sem]
    · simp [go_sem]
    · simp [go_sem]
    · simp [go_sem]
    · repeat (first | exact Below.refl _ _ | apply bal)
  case round =>
    obtain ⟨k, hk, rfl, hlt, c0, c1, f0, f1, d0, d1, g0, g1, hB⟩ := hrel
    by_cases hkn : k < ns.length
    · obtain ⟨b, off, rfl, x0, x1⟩ := (hw.below hB).at_ hkn
      have HW := Lib.hid hw; clear hw
      have ht := Lib.hid (W.tot_take_succ ns k hkn)
      have hst := Lib.hid (W.sum_stops ns k hkn)
      have c0' := alc c0
      have c1' := alc c1
      by_cases hs : tot (ns.take k) + ns.getD k 0 < MM
      · have HS := Lib.hid hs; clear hs
        clear hlt hst
        generalize tot (ns.take k) = T at *
        generalize ns.getD k 0 = m at *
        go_wp2_with fail
        refine (add_ok_c T m HS.out _).mono ?_
        rintro e w1 ⟨rfl, hb1⟩
        have hA := btr (alb (w := wr) _) hb1
        replace f0 := keptf c0 f0 hA
        replace f1 := keptf c1 f1 hA
        replace g0 := keptf d0 g0 hA
        replace g1 := keptf d1 g1 hA
        replace c0 := kept c0 hA
        replace c1 := kept c1 hA
        replace d0 := kept d0 hA
        replace d1 := kept d1 hA
        replace hB := btr hB hA
        clear hA hb1 c0' c1' x0 x1
        have c0' := alc c0
        have c1' := alc c1
        have f0' := alf c0 f0
        have f1' := alf c1 f1
        go_wp2
        go_roundw
        case rel =>
          have hz : w.heap.size + 1 ≠ w.heap.size := by omega
          refine ⟨k + 1, by omega, by go_num, ?_, ?_, ?_, ?_, ?_, ?_, ?_, ?_, ?_, ?_⟩
          · rw [ht.out]; exact HS.out
          · rw [ht.out]; exact (two_set (c0' _) (c1' _)).1
          · rw [ht.out]; exact (two_set (c0' _) (c1' _)).2
          · exact fzs (fzs (f0' _))
          · exact fzs (fzs (f1' _))
          · exact cfar hz (cfar hz (alc d0 _))
          · exact cfar hz (cfar hz (alc d1 _))
          · exact fzs (fzs (alf d0 g0 _))
          · exact fzs (fzs (alf d1 g1 _))
          · exact ((bal hB _).setCell (by simp) _).setCell (by simp) _
        case measure => simp [intOf]; omega
      · have HN := Lib.hid (W.sumN_false (hst.out hs))
        have HF := Lib.hid (W.sumB_false (hst.out hs))
        have HS := Lib.hid hs; clear hs
        clear hlt hst
        generalize tot (ns.take k) = T at *
        generalize ns.getD k 0 = m at *
        go_wp2_with fail
        refine (add_no_c T m HS.out _).mono ?_
        rintro e w1 ⟨rfl, hb1⟩
        have hA := btr (alb (w := wr) _) hb1
        replace g0 := keptf d0 g0 hA
        replace g1 := keptf d1 g1 hA
        replace d0 := kept d0 hA
        replace d1 := kept d1 hA
        replace hB := btr hB hA
        clear hA hb1 c0' c1' x0 x1 c0 c1 f0 f1
        have d0' := alc d0
        have d1' := alc d1
        have g0' := alf d0 g0
        have g1' := alf d1 g1
        go_wp2
        exact bodyPost_ret (v := .tuple #[.agg #[.int .u64 0, .int .u64 0], .bool false]) (by simp [results, Try.results19, go_sem, d0', d1']) rfl ⟨by rw [HN.out, HF.out]; rfl, by
          repeat (first | exact hB | apply bal | (refine Below.setCell ?_ (by simp) _))⟩
    · have hk2 : k = ns.length := by omega
      have ht : tot (ns.take k) = tot ns := by rw [hk2, List.take_length]
      rw [ht] at c0 c1 hlt
      have HN := Lib.hid (W.sumN_true hlt.out)
      have HF := Lib.hid (W.sumB_true hlt.out)
      clear hk2 ht hlt hw
      generalize hT : tot ns = T at *
      clear hT
      go_wp2
      exact bodyPost_ret (v := .tuple #[.agg #[.int .u64 (hi T : Nat), .int .u64 (lo T : Nat)], .bool true]) (by simp [results, Try.results19, go_sem, d0, d1]) rfl ⟨by rw [HN.out, HF.out], by
          repeat (first | exact hB | apply bal | (refine Below.setCell ?_ (by simp) _))⟩
end Go.Proofs.Ytapomicakmbcdaa
