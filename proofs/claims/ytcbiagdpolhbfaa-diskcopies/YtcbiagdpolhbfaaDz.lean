/- disk.Sync. -/
import Derived.Test.YtcbiagdpolhbfaaDy
namespace Go.Proofs.Ytcbiagdpolhbfaa
open Go.RowKit
open D (St)

theorem sync_down {w : World} {p : Nat} (c3 : w.cell? ⟨p, 3, none⟩ = some (.bool true)) :
    Calls Try.prog 15 #[.pointer (some ⟨p, 0, none⟩)] w fun e w' => e = .returned (.int .i64 7) ∧ w' = w := by
  go_enter Try.func15, Try.ntmps15
  go_wp2
  go_ret
  exact ⟨rfl, rfl⟩
theorem sync_falls {w : World} {p : Nat} {R : World → Prop} (c3 : w.cell? ⟨p, 3, none⟩ = some (.bool false))
    (HA : Hid (Calls Try.prog 30 #[.pointer (some ⟨p, 0, none⟩)] w fun e w' => e = .returned (.int .i64 7) ∧ R w')) :
    Calls Try.prog 15 #[.pointer (some ⟨p, 0, none⟩)] w fun e w' => e = .returned (.int .i64 7) ∧ R w' := by
  go_enter Try.func15, Try.ntmps15
  go_wp2_with fail
  refine HA.out.mono ?_
  rintro e w1 ⟨rfl, hr⟩
  go_wp2
  go_ret
  exact ⟨rfl, hr⟩
/-- The writes laid so far. -/
def laid (s : St) (k : Nat) : St := { s with safe := D.lay s.safe (s.waits.take k) }
/-- A write that is taken out of the row into a variable of its own. -/
theorem laid_whole (w : World) (x : Nat × List UInt8) (hy : x.2.length = 512) (Z : Array Value) (hZ : Z.size = 513) :
    (w.alloc (.cells Z 75)).there w.heap.size 0 (wz x).size ∧ ((w.alloc (.cells Z 75)).setCells w.heap.size 0 (wz x).toList).rangeAt w.heap.size 0 (wcells x) ∧ Below w.heap.size w ((w.alloc (.cells Z 75)).setCells w.heap.size 0 (wz x).toList) ∧ w.heap.size < ((w.alloc (.cells Z 75)).setCells w.heap.size 0 (wz x).toList).heap.size := by
  have ht0 : (w.alloc (.cells Z 75)).there w.heap.size 0 513 := there_new w Z 75 513 hZ
  have e : (wz x).toList = wcells x := by simp [wz]
  refine ⟨by rw [wz_size hy]; exact ht0, ?_, ?_, ?_⟩
  · rw [e]
    exact World.rangeAt_setCells_same _ _ _ _ (by rw [wcells_length hy]; exact ht0)
  · exact (Keep.setCells (F := fun _ => False) (Keep.of_below (alb _)) (.inr (Nat.le_refl _)) 0 _).below (Nat.le_refl _) (fun _ h => h.elim)
  · rw [size_setCells]
    simp
theorem wz_one (x : Nat × List UInt8) : (wz x).all (·.oneCell') = true := all_oneCell_toArray (fun v hv => by
  rcases List.mem_cons.1 hv with rfl | hv
  · rfl
  · exact bvs_one _ v hv)
theorem info_wz {x : Nat × List UInt8} (h : x.2.length = 512) : (Try.prog.info? 75).map (·.size) = some (wz x).size := by rw [wz_size h]; exact Try.size75
theorem info_wc {x : Nat × List UInt8} (h : x.2.length = 512) : (Try.prog.info? 75).map (·.size) = some (wcells x).length := by rw [wcells_length h]; exact Try.size75

set_option maxRecDepth 100000 in
theorem sync_core {w : World} {p g : Nat} {wv : Value} {s : St} (c3 : w.cell? ⟨p, 3, none⟩ = some (.bool false))
    (HA : Hid (Calls Try.prog 30 #[.pointer (some ⟨p, 0, none⟩)] w fun e w' => e = .returned (.int .i64 0) ∧ Dsk w' p g wv s ∧ Keep (fp p g wv) w w')) :
    Calls Try.prog 15 #[.pointer (some ⟨p, 0, none⟩)] w fun e w' => e = .returned (.int .i64 0) ∧ Turned w w' p g wv { s with safe := D.lay s.safe s.waits, waits := [] } := by
  have hz := (zero_of_info Try.zero75).1
  have HZ := Lib.hid (wz_size (x := (0, D.zero)) List.length_replicate)
  generalize wz (0, D.zero) = Z at *
  go_enter Try.func15, Try.ntmps15
  go_wp2_with fail
  refine HA.out.mono ?_
  rintro e w1 ⟨rfl, hd1, hk1⟩
  have H1 := Lib.hid hd1
  have K1 := Lib.hid hk1
  obtain ⟨A, cap, rfl⟩ := wv_form hd1
  have c1 := hd1.c1
  have hm := hd1.nwaits
  clear hd1 hk1
  generalize hL : s.waits.length = L at *
  have HL := Lib.hid hL
  clear hL
  go_wp2
  go_loopw [20] (fun i wr => ∃ k : Nat, k ≤ L ∧ i = .int .i64 (k : Int) ∧ Hid (Dsk wr p g (.slice A L cap) (laid s k)) ∧ Hid (Keep (fp p g (.slice A L cap)) w wr)) (fun i _ => (L - intOf i).toNat)
  case atStart => exact ⟨0, Nat.zero_le _, rfl, H1.out, K1.out⟩
  case round =>
    obtain ⟨k, hk, rfl, HD, HK⟩ := hrel
    by_cases hkl : k < L
    · have HD' : Dsk wr p g (.slice A (laid s k).waits.length cap) (laid s k) := by
        show Dsk wr p g (.slice A s.waits.length cap) _
        rw [HL.out]
        exact HD.out
      obtain ⟨q, rfl, _, _, a3⟩ := HD'.waitAt k (by show k < s.waits.length; rw [HL.out]; exact hkl)
      have hkw : k < s.waits.length := by rw [HL.out]; exact hkl
      have HP := Lib.hid (HD.out.ok.place _ (List.getElem_mem (l := (laid s k).waits) hkw))
      have HY := Lib.hid (HD.out.ok.bytes _ (List.getElem_mem (l := (laid s k).waits) hkw))
      have HN : Hid (laid s (k + 1) = { laid s k with safe := (laid s k).safe.set (laid s k).waits[k].1 (laid s k).waits[k].2 }) := by
        unfold laid Hid
        rw [D.lay_take _ _ k hkw]
      have HR := Lib.hid a3
      clear HD' a3
      generalize (laid s k).waits[k] = x at *
      obtain ⟨ht, hr2, hb2, hl2⟩ := laid_whole wr x HY.out Z HZ.out
      have HT := Lib.hid ht
      have HR2 := Lib.hid hr2
      have HB2 := Lib.hid hb2
      clear ht hr2 hb2
      go_wp2_with (first
        | (refine wpList_load_mid rfl 75 _ rfl q (k * 513) rfl (wcells x) _ HR.out Try.underlying75 rfl (info_wc HY.out) ?_)
        | (refine wpList_store_mid rfl 75 _ _ rfl wr.heap.size 0 (wz x) rfl rfl HT.out (info_wz HY.out) (wz_one x) ?_))
      generalize (wr.alloc (.cells Z 75)).setCells wr.heap.size 0 (wz x).toList = w2 at *
      have HD2 := Lib.hid ((HD.out.below HB2.out).keep (F := fun _ => False) ((Keep.refl _ w2).drew) (fun _ _ h => h))
      obtain ⟨cc, c0⟩ := HD2.out.c0
      have C0 : Hid (w2.cell? ⟨p, 0, none⟩ = _) := c0
      have C5 : Hid (w2.cell? ⟨wr.heap.size, 0, none⟩ = some (.int .i64 ((x.1 : Nat) : Int))) := HR2.out 0 _ rfl
      have R5 : Hid (w2.rangeAt wr.heap.size 1 (bvs x.2)) := fun j v hv => by
        have := HR2.out (j + 1) v (by simpa [wcells] using hv)
        rwa [show 0 + (j + 1) = 1 + j by omega] at this
      have T5 := Lib.hid (there_blk (HD2.out.there x.1 HP.out) HY.out)
      have HD5 : Hid (Dsk (w2.drew.setCells g (x.1 * 512) (bvs x.2).toArray.toList) p g (.slice (some ⟨q, 0, none⟩) L cap) (laid s (k + 1))) := by
        rw [HN.out]
        exact HD2.out.setb x.1 x.2 HP.out HY.out
      have HK5 : Hid (Keep (fp p g (.slice (some ⟨q, 0, none⟩) L cap)) w (w2.drew.setCells g (x.1 * 512) (bvs x.2).toArray.toList)) :=
        Keep.setCells (HK.out.step HB2.out).drew (.inl (.inr (.inl rfl))) _ _
      have hS : Hid (Keep (fun _ => False) w2 w2.drew) := (Keep.refl _ _).drew
      have hlt := HP.out
      clear c0 hl2
      generalize (laid s k).safe.length = sl at *
      refine lz_start 10 9 (fun W => Keep (fun _ => False) w2 W) rfl (by kernel_rfl) ?_
      refine lz_take 0 24 (v := ?_) rfl rfl (by kernel_rfl) (by kernel_rfl) (by kernel_rfl) (by kernel_rfl) (fun _ _ _ _ _ h => h) (by rfl) hS.out (fun W hW => ?_) ?_
      rotate_left
      · go_simp; try rfl
      try simp only [Act.put, List.setIfInBounds_toArray, List.set_cons_zero, List.set_cons_succ]
      refine lz_take 1 25 (v := ?_) rfl rfl (by kernel_rfl) (by kernel_rfl) (by kernel_rfl) (by kernel_rfl) (fun _ _ _ _ _ h => h) (by rfl) hS.out (fun W hW => ?_) ?_
      rotate_left
      · go_simp; try rfl
      try simp only [Act.put, List.setIfInBounds_toArray, List.set_cons_zero, List.set_cons_succ]
      refine lz_take 2 26 (v := ?_) rfl rfl (by kernel_rfl) (by kernel_rfl) (by kernel_rfl) (by kernel_rfl) (fun _ _ _ _ _ h => h) (by rfl) hS.out (fun W hW => ?_) ?_
      rotate_left
      · go_simp; try rfl
      try simp only [Act.put, List.setIfInBounds_toArray, List.set_cons_zero, List.set_cons_succ]
      refine lz_take 3 27 (v := ?_) rfl rfl (by kernel_rfl) (by kernel_rfl) (by kernel_rfl) (by kernel_rfl) (fun _ _ _ _ _ h => h) (by rfl) hS.out (fun W hW => ?_) ?_
      rotate_left
      · have q0 := hW.cell C0.out (fun h => h); go_simp; try rfl
      try simp only [Act.put, List.setIfInBounds_toArray, List.set_cons_zero, List.set_cons_succ]
      refine lz_take 4 28 (v := ?_) rfl rfl (by kernel_rfl) (by kernel_rfl) (by kernel_rfl) (by kernel_rfl) (fun _ _ _ _ _ h => h) (by rfl) hS.out (fun W hW => ?_) ?_
      rotate_left
      · go_simp; try rfl
      try simp only [Act.put, List.setIfInBounds_toArray, List.set_cons_zero, List.set_cons_succ]
      refine lz_take 5 29 (v := ?_) rfl rfl (by kernel_rfl) (by kernel_rfl) (by kernel_rfl) (by kernel_rfl) (fun _ _ _ _ _ h => h) (by rfl) hS.out (fun W hW => ?_) ?_
      rotate_left
      · have q1 := hW.cell C5.out (fun h => h); go_simp; try rfl
      try simp only [Act.put, List.setIfInBounds_toArray, List.set_cons_zero, List.set_cons_succ]
      refine lz_take 6 30 (v := ?_) rfl rfl (by kernel_rfl) (by kernel_rfl) (by kernel_rfl) (by kernel_rfl) (fun _ _ _ _ _ h => h) (by rfl) hS.out (fun W hW => ?_) ?_
      rotate_left
      · go_simp; try rfl
      try simp only [Act.put, List.setIfInBounds_toArray, List.set_cons_zero, List.set_cons_succ]
      refine lz_take 7 31 (v := ?_) rfl rfl (by kernel_rfl) (by kernel_rfl) (by kernel_rfl) (by kernel_rfl) (fun _ _ _ _ _ h => h) (by rfl) hS.out (fun W hW => ?_) ?_
      rotate_left
      · refine run_load_mid 73 (.tmp 30) ?_ wr.heap.size 1 ?_ (bvs x.2) _ (range_keep R5.out hW (fun h => h)) Try.underlying73 rfl (info_blk HY.out) <;> rfl
      try simp only [Act.put, List.setIfInBounds_toArray, List.set_cons_zero, List.set_cons_succ]
      refine lz_op 8 rfl rfl (by kernel_rfl) (fun K hK => ?_)
      go_simp
      refine hK.out _ _ hS.out ?_
      clear hK K
      refine lz_end rfl rfl (by kernel_rfl) (by kernel_rfl) (fun K hK => ?_)
      refine wp_store_mid 73 _ _ rfl g (x.1 * 512) (bvs x.2).toArray rfl rfl T5.out (info_blkA HY.out) (one_blk x.2) ?_
      refine hK.out _ _ ?_
      clear hK K
      generalize w2.drew.setCells g (x.1 * 512) (bvs x.2).toArray.toList = w5 at *
      go_wp2
      go_roundw
      case rel => exact ⟨k + 1, by omega, by go_num, HD5, HK5⟩
      case measure => simp [intOf]; omega
    · obtain rfl : k = L := by omega
      clear hkl
      have HD' : Hid (Dsk wr p g (.slice A k cap) { s with safe := D.lay s.safe s.waits }) := by
        have := HD.out
        unfold laid at this
        rw [← HL.out, List.take_length] at this
        rwa [HL.out] at this
      have c1 := HD'.out.c1
      have f1 := HD'.out.fz 1
      have HD6 := Lib.hid (HD'.out.setc1 (.slice none 0 0) [] (World.ownsRow_nil _ _ _ _) (fun x hx => by simp at hx) (fun x hx => by simp at hx) (by simp [Value.ownBlock]) (by simp [Value.ownBlock]))
      have HK6 : Hid (Keep (fp p g (.slice A k cap)) w (wr.setCell ⟨p, 1, none⟩ (.slice none 0 0))) := Keep.setCell (p := ⟨p, 1, none⟩) HK.out (.inl (.inl rfl)) _
      go_wp2
      go_ret
      refine ⟨rfl, _, HD6.out, ?_, fun b hb => by simp [Value.ownBlock] at hb⟩
      rw [HL.out]
      exact HK6.out
theorem sync_any {w : World} {p g : Nat} {wv : Value} {s : St} (h : Dsk w p g wv s) :
    Calls Try.prog 15 #[.pointer (some ⟨p, 0, none⟩)] w fun e w' => e = .returned (.int .i64 (D.syncE s)) ∧ Turned w w' p g wv (D.sync s) := by
  have c3 := h.c3
  have HA := act_any h
  unfold D.sync D.syncE
  cases hd : s.down with
  | true =>
    rw [hd] at c3
    refine (sync_down c3).mono ?_
    rintro e w' ⟨rfl, rfl⟩
    exact ⟨rfl, wv, h, Keep.refl _ _, fun b hb => .inl hb⟩
  | false =>
    rw [hd] at c3
    by_cases h0 : s.fuse = 0
    · have e1 : D.ans s = 7 := by simp [D.ans, h0]
      have e2 : D.act s = { s with down := true } := by simp [D.act, h0]
      rw [e1, e2] at HA
      simp only [Bool.false_eq_true, if_false, if_pos h0, e1]
      refine (sync_falls c3 HA).mono ?_
      rintro e w' ⟨rfl, hd', hk⟩
      exact ⟨rfl, wv, hd', hk, fun b hb => .inl hb⟩
    · have e1 : D.ans s = 0 := by simp [D.ans, h0]
      rw [e1] at HA
      simp only [Bool.false_eq_true, if_false, if_neg h0, e1]
      refine (sync_core c3 HA).mono ?_
      rintro e w' ⟨rfl, ht⟩
      rw [D.act_safe, D.act_waits] at ht
      exact ⟨rfl, ht⟩
end Go.Proofs.Ytcbiagdpolhbfaa
