/- key.beginning, key.Low, key.High: the rows of so many bytes that begin so. -/
import Derived.Test.YtfofhnaomlcioaaRowb
import Derived.OwnWalk
import Derived.Laws.CopyOwn
namespace Go.Proofs.Ytfofhnaomlcioaa
open Go.RowKit
open W (hi lo dig MM M cmpN)

/-- A row that is owned and has no room to spare lies whole in its block. -/
theorem own_heap {w : World} {base g n : Nat} {xs : List Value} (h : w.ownsRow base 5 1 (.slice (some ⟨g, 0, none⟩) n n) n xs) : w.heap[g]? = some (.cells xs.toArray 5 (0, 0)) := by
  rcases h.2 with ⟨h', _⟩ | ⟨g', cap, cur, h', _, hg, _, _, hcs, htake⟩
  · simp at h'
  · simp only [Value.slice.injEq, Option.some.injEq, Addr.mk.injEq, and_true, true_and] at h'
    obtain ⟨rfl, rfl⟩ := h'
    rw [List.take_of_length_le (by rw [Array.length_toList, hcs]; exact Nat.le_refl _)] at htake
    rw [← htake]
    exact hg
theorem own_of {w : World} {base g n : Nat} {xs : List Value} (hg : w.heap[g]? = some (.cells xs.toArray 5 (0, 0))) (hb : base ≤ g) (hn : xs.length = n) (hm : n ≤ maxLen) :
    w.ownsRow base 5 1 (.slice (some ⟨g, 0, none⟩) n n) n xs :=
  ⟨by omega, .inr ⟨g, n, xs.toArray, rfl, hb, hg, Nat.le_refl _, hm, by simp [hn], by simp [← hn]⟩⟩
theorem made_zeros (k : Nat) : (madeCells #[Value.int .u8 0] k).toList = bvs (List.replicate k 0) := by
  apply List.ext_getElem?
  intro i
  by_cases h : i < k
  · simp [madeCells, bvs, h, Nat.mod_one]
  · rw [List.getElem?_eq_none (by simp [size_madeCells]; omega), List.getElem?_eq_none (by simp [bvs]; omega)]
theorem splice_fill (l : List UInt8) (k : Nat) (x : UInt8) : splice (bvs (List.replicate k 0)) 0 (bvs (l.take k)) = bvs (fillTo l k x (min l.length k)) := by
  unfold splice fillTo
  rw [bvs_append, bvs_append, bvs_length]
  simp [bvs]
  omega
theorem cl_cases (n : Int) : (n < 0 ∧ cl n = 0) ∨ (0 ≤ n ∧ n ≤ 24 ∧ n = ((cl n : Nat) : Int)) ∨ (24 < n ∧ cl n = 24) := by
  unfold cl
  omega

set_option maxHeartbeats 400000 in
theorem beginning_any (v : Value) (l : List UInt8) (n : Int) (x : UInt8) (w : World) (h : Byts w v l) :
    Calls Try.prog 29 #[v, .int .i64 n, .int .u8 ((x.toNat : Nat) : Int)] w fun e w' => ∃ v', e = .returned v' ∧ Byts w' v' (fillL l (cl n) x) ∧ Below w.heap.size w w' := by
  obtain ⟨i0, hi0, hz0, hz1, hz2⟩ := info_parts Try.info5
  have HSZ : Hid ((Try.prog.info? 5).map (·.size) = some 1) := by
    show (Try.prog.info? 5).map (·.size) = some 1
    rw [hi0]
    simp [hz1]
  obtain ⟨A, c, rfl, hc, h⟩ := h
  have H := Lib.hid h; clear h
  have HK := Lib.hid (cl_le n)
  have hcase := cl_cases n
  generalize cl n = k at *
  have hcase2 : (n < 0 ∧ Hid ((0 : Int) = (k : Int))) ∨ (0 ≤ n ∧ n ≤ 24 ∧ Hid (n = (k : Int))) ∨ (24 < n ∧ Hid ((24 : Int) = (k : Int))) := by
    rcases hcase with ⟨q1, q2⟩ | ⟨q1, q3, q2⟩ | ⟨q1, q2⟩
    · exact .inl ⟨q1, show (0 : Int) = (k : Int) by omega⟩
    · exact .inr (.inl ⟨q1, q3, q2⟩)
    · exact .inr (.inr ⟨q1, show (24 : Int) = (k : Int) by omega⟩)
  clear hcase
  rcases hcase2 with ⟨q1, HE⟩ | ⟨q1, q3, HE⟩ | ⟨q1, HE⟩
  all_goals
    go_enter Try.func29, Try.ntmps29
    go_wp2_with (first
      | (refine wpList_make_full _ rfl _ _ 22 rfl w.heap.size 5 i0 _ 1 Try.underlying22 hi0 hz0 hz1 _ _ _ _ k rfl rfl ?l1 ?l2 ?l3 ?l4 ?l5 ?_)
      | go_in)
    case l1 => exact HE.out
    case l2 => exact HE.out
    case l3 => have := HK.out; rw [hz2]; omega
    case l4 => have := HK.out; unfold maxLen; omega
    case l5 => exact Nat.le_refl _
    intro w1 hown hgrow
    have hB : Below w.heap.size w w1 := (Below.refl _ _).grown hgrow (Nat.le_refl _) (by intro g hg; cases hg)
    rw [made_zeros] at hown
    have HG := Lib.hid (own_heap hown)
    clear hown hgrow
    obtain ⟨cs, hcs⟩ : ∃ cs, cs = bvs (l.take k) := ⟨_, rfl⟩
    have HCS := Lib.hid hcs; clear hcs
    have hcl : cs.length = Nat.min l.length k := by rw [HCS.out, bvs_length]; simp [Nat.min_comm]
    obtain ⟨zs, hzs⟩ : ∃ zs, zs = bvs (List.replicate k 0) := ⟨_, rfl⟩
    have HZS := Lib.hid hzs
    rw [← hzs] at HG
    have hzl : zs.length = k := by rw [hzs, bvs_length]; simp
    clear hzs
    go_wp2_with (first
      | (refine wpList_copy_splice rfl _ _ 22 22 rfl 5 Try.underlying22 HSZ.out _ _ _ _ _ _ rfl rfl w.heap.size 0 zs 5 HG.out cs ?m1 ?m2 ?m3 ?m4 w.heap.size w ?m5 (Nat.le_refl _) ?_)
      | go_in)
    case m1 => exact hcl
    case m2 =>
      intro hpos
      obtain ⟨b, off, e, h2⟩ := H.out (Nat.lt_of_lt_of_le hpos (Nat.min_le_left _ _))
      refine ⟨_, e, fun j u hj => ?_⟩
      rw [HCS.out] at hj
      have hjl : j < (l.take k).length := by rw [← bvs_length]; exact (List.getElem?_eq_some_iff.1 hj).1
      rw [bvs_get _ j hjl] at hj
      have e : (⟨b, off, Option.none⟩ : Addr).add j = ⟨b, off + j, Option.none⟩ := by unfold Addr.add; split <;> simp_all
      rw [e, ← hj]
      have hjl2 : j < l.length := by simp at hjl; omega
      have := kept (h2 j hjl2) hB
      rw [this]
      simp
    case m3 => rw [hcl, hzl, Nat.zero_add]; exact Nat.min_le_right _ _
    case m4 => rw [HCS.out]; exact bvs_one _
    case m5 => exact hB
    intro w2 HG2 hB2
    have HG3 : Hid (w2.heap[w.heap.size]? = some (.cells (bvs (fillTo l k x (min l.length k))).toArray 5 (0, 0))) := by
      rw [← splice_fill l k x, ← HCS.out, ← HZS.out]
      exact HG2.out
    clear HG HG2 hB HZS hzl zs
    have HL := Lib.hid (fillTo_length l k x)
    have HS := Lib.hid (fillTo_step l k x)
    have HF := Lib.hid (fillTo_end l k x)
    have HFL := Lib.hid (fillL_length l k x)
    have hk2 := HK.out
    obtain ⟨m, hm⟩ : ∃ m, m = Nat.min l.length k := ⟨_, rfl⟩
    rw [← hm]
    have HM : Hid (m = min l.length k) := hm
    rw [← HM.out] at HG3
    clear hcl hm HCS
    go_wp2
    go_loopw [8] (fun i wr => ∃ j : Nat, m ≤ j ∧ j ≤ k ∧ i = .int .i64 (j : Int) ∧ wr.ownsRow w.heap.size 5 1 (.slice (some ⟨w.heap.size, 0, none⟩) k k) k (bvs (fillTo l k x j)) ∧ Below w.heap.size w wr) (fun i _ => k - (intOf i).toNat)
    case atStart =>
      have hmk : m ≤ k := by rw [HM.out]; exact Nat.min_le_right _ _
      exact ⟨m, Nat.le_refl _, hmk, rfl, own_of HG3.out (Nat.le_refl _) (by rw [bvs_length]; exact HL.out m (by rw [HM.out]; exact Nat.le_refl _) hmk) (by unfold maxLen; omega), hB2⟩
    case round =>
      obtain ⟨j, hj1, hj2, rfl, hown, hB⟩ := hrel
      by_cases hlt : j < k
      · have c0 := hown.cellAt j (by omega)
        have f0 := hown.frozenAt j
        have hl2 : (fillTo l k x j).length = k := HL.out j (by rw [← HM.out]; exact hj1) (by omega)
        rw [bvs_get _ _ (by omega)] at c0
        have HW := Lib.hid hown; clear hown
        have HS2 := Lib.hid (HS.out j (by rw [← HM.out]; exact hj1) hlt)
        obtain ⟨y, c1⟩ : ∃ y : Nat, wr.cell? ⟨w.heap.size, j, none⟩ = some (.int .u8 (y : Int)) := ⟨_, c0⟩
        clear c0 hl2
        go_wp2
        go_roundw
        case rel =>
          refine ⟨j + 1, by omega, by omega, by go_num, ?_, hB.setCell (Nat.le_refl _) _⟩
          have q := (HW.out.stored j (.int .u8 ((x.toNat : Nat) : Int))).1
          rw [← bvs_set, HS2.out] at q
          exact q
        case measure => simp [intOf]; omega
      · obtain rfl : j = k := by omega
        have HW := Lib.hid hown; clear hown
        go_wp2
        go_ret
        refine ⟨_, rfl, ?_, hB⟩
        have q := HW.out
        rw [HF.out] at q
        have hq := HFL.out
        refine Byts.own (base := w.heap.size) ?_
        rw [hq]
        exact q
theorem low_any (v : Value) (l : List UInt8) (n : Int) (w : World) (h : Byts w v l) :
    Calls Try.prog 12 #[v, .int .i64 n] w fun e w' => ∃ v', e = .returned v' ∧ Byts w' v' (fillL l (cl n) 0) ∧ Below w.heap.size w w' := by
  have H := Lib.hid (beginning_any v l n 0 w h)
  clear h
  go_enter Try.func12, Try.ntmps12
  go_wp2_with fail
  refine H.out.mono ?_
  rintro e w1 ⟨v1, rfl, hb, hB⟩
  go_wp2
  go_ret
  exact ⟨_, rfl, hb, hB⟩
theorem high_any (v : Value) (l : List UInt8) (n : Int) (w : World) (h : Byts w v l) :
    Calls Try.prog 14 #[v, .int .i64 n] w fun e w' => ∃ v', e = .returned v' ∧ Byts w' v' (fillL l (cl n) 255) ∧ Below w.heap.size w w' := by
  have H := Lib.hid (beginning_any v l n 255 w h)
  clear h
  go_enter Try.func14, Try.ntmps14
  go_wp2_with fail
  refine H.out.mono ?_
  rintro e w1 ⟨v1, rfl, hb, hB⟩
  go_wp2
  go_ret
  exact ⟨_, rfl, hb, hB⟩
end Go.Proofs.Ytfofhnaomlcioaa
