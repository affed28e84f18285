/- disk.Write, walked. -/
import Derived.Test.YtcbiagdpolhbfaaDw
namespace Go.Proofs.Ytcbiagdpolhbfaa
open Go.RowKit
open D (St)

set_option maxRecDepth 100000 in
theorem write_core {w : World} {p g : Nat} {wv bv : Value} {s : St} {n : Nat} {y : List UInt8} (H : Hid (Dsk w p g wv s)) (c3 : w.cell? ⟨p, 3, none⟩ = some (.bool false)) (HY : Hid (y.length = 512)) (HV : Hid (Byts w bv y)) (hn : n < s.safe.length)
    (h1 : s.waits.length ≤ 1000000) (h2 : s.writes ≤ 1000000)
    (HH : Hid (Calls Try.prog 29 #[.pointer (some ⟨p, 0, none⟩), .int .i64 (n : Int)] w fun e w' => e = .returned (.bool true) ∧ w' = w)) :
    Calls Try.prog 13 #[.pointer (some ⟨p, 0, none⟩), .int .i64 (n : Int), bv] w fun e w' => ∃ wv', e = .returned (.int .i64 (D.ans s)) ∧ Dsk w' p g wv' (D.act (D.put s n y)) ∧ Keep (fp p g wv) w w' ∧ (∀ b, wv'.ownBlock = some b → wv.ownBlock = some b ∨ w.heap.size ≤ b) := by
  obtain ⟨A, c, rfl, hc, hcell0⟩ := HV.out
  obtain ⟨b, off, rfl, hcell⟩ := hcell0 (by rw [HY.out]; decide)
  have hz := (zero_of_info Try.zero75).1
  have hset : (wz (0, D.zero)).setIfInBounds 0 (.int .i64 (n : Int)) = wz (n, D.zero) := by kernel_rfl
  have hzs : (wz (0, D.zero)).size = 513 := by kernel_rfl
  have hne : ¬ wz (0, D.zero) = #[] := fun e => by rw [e] at hzs; simp at hzs
  have HO : Hid ((wz (n, D.zero)).all (·.oneCell') = true) := all_oneCell_toArray (fun v hv => by
    rcases List.mem_cons.1 hv with rfl | hv
    · rfl
    · exact bvs_one _ v hv)
  have HW := Lib.hid (laid_write w n y HY.out (wz (0, D.zero)) (wz (n, D.zero)) hzs rfl (c := c) hcell)
  clear hcell hc hcell0
  rw [HY.out]
  generalize wz (0, D.zero) = Z at *
  generalize wz (n, D.zero) = ZN at *
  have HT : Hid ((w.alloc (.cells Z 75)).there w.heap.size 0 ZN.size) := by
    have e : ZN.size = 513 := by rw [← hset]; simp [hzs]
    rw [e]
    exact there_new w Z 75 513 hzs
  have HI : Hid ((Try.prog.info? 75).map (·.size) = some ZN.size) := by
    have e : ZN.size = 513 := by rw [← hset]; simp [hzs]
    rw [e]
    exact Try.size75
  obtain ⟨w3, hcopy, hr, hb3, hlt⟩ := HW.out
  have HR := Lib.hid hr
  clear hr HW
  go_enter Try.func13, Try.ntmps13
  go_wp2_with fail
  refine HH.out.mono ?_
  rintro e w1 ⟨rfl, rfl⟩
  go_wp2_with (first
    | (refine wpList_store_mid rfl 75 _ _ rfl w1.heap.size 0 ZN rfl rfl HT.out HI.out HO.out ?_)
    | fail)
  have HD := Lib.hid (H.out.below hb3)
  have HC1 := Lib.hid HD.out.c1
  have HN1 := Lib.hid HD.out.nep
  have HLT := Lib.hid HD.out.lt
  have HWL : Hid (¬ wv.ownBlock = some w1.heap.size) := fun e => by
    have := H.out.lt w1.heap.size (.inr (.inr e))
    omega
  have hS : Hid (Keep (fun b => wv.ownBlock = some b) w3 w3.drew) := (Keep.refl _ _).drew
  refine lz_start 11 10 (fun W => Keep (fun b => wv.ownBlock = some b) w3 W) rfl (by kernel_rfl) ?_
  refine lz_take 0 25 (v := ?_) rfl rfl (by kernel_rfl) (by kernel_rfl) (by kernel_rfl) (by kernel_rfl) (fun _ _ _ _ _ h => h) (by rfl) hS.out (fun W hW => ?_) ?_
  rotate_left
  · go_simp; try rfl
  try simp only [Act.put, List.setIfInBounds_toArray, List.set_cons_zero, List.set_cons_succ]
  refine lz_take 1 26 (v := ?_) rfl rfl (by kernel_rfl) (by kernel_rfl) (by kernel_rfl) (by kernel_rfl) (fun _ _ _ _ _ h => h) (by rfl) hS.out (fun W hW => ?_) ?_
  rotate_left
  · go_simp; try rfl
  try simp only [Act.put, List.setIfInBounds_toArray, List.set_cons_zero, List.set_cons_succ]
  refine lz_take 2 27 (v := ?_) rfl rfl (by kernel_rfl) (by kernel_rfl) (by kernel_rfl) (by kernel_rfl) (fun _ _ _ _ _ h => h) (by rfl) hS.out (fun W hW => ?_) ?_
  rotate_left
  · go_simp; try rfl
  try simp only [Act.put, List.setIfInBounds_toArray, List.set_cons_zero, List.set_cons_succ]
  refine lz_take 3 28 (v := ?_) rfl rfl (by kernel_rfl) (by kernel_rfl) (by kernel_rfl) (by kernel_rfl) (fun _ _ _ _ _ h => h) (by rfl) hS.out (fun W hW => ?_) ?_
  rotate_left
  · go_simp; try rfl
  try simp only [Act.put, List.setIfInBounds_toArray, List.set_cons_zero, List.set_cons_succ]
  refine lz_take 4 29 (v := ?_) rfl rfl (by kernel_rfl) (by kernel_rfl) (by kernel_rfl) (by kernel_rfl) (fun _ _ _ _ _ h => h) (by rfl) hS.out (fun W hW => ?_) ?_
  rotate_left
  · have q := hW.cell HC1.out HN1.out; go_simp; try rfl
  try simp only [Act.put, List.setIfInBounds_toArray, List.set_cons_zero, List.set_cons_succ]
  refine lz_take 5 30 (v := ?_) rfl rfl (by kernel_rfl) (by kernel_rfl) (by kernel_rfl) (by kernel_rfl) (fun _ _ _ _ _ h => h) (by rfl) hS.out (fun W hW => ?_) ?_
  rotate_left
  · refine run_load_mid 75 (.tmp 7) ?_ w1.heap.size 0 ?_ (wcells (n, y)) _ (range_keep HR.out hW HWL.out) Try.underlying75 rfl (by rw [wcells_length HY.out]; exact Try.size75) <;> rfl
  try simp only [Act.put, List.setIfInBounds_toArray, List.set_cons_zero, List.set_cons_succ]
  refine lz_op 6 rfl rfl (by kernel_rfl) (fun K hK => ?_)
  refine wp_buildSlice_one 63 75 _ rfl (wcells (n, y)) _ rfl Try.underlying63 (by rw [wcells_length HY.out]; exact Try.zero75) (by rw [wcells_length HY.out]; decide) (by rw [wcells_length HY.out]; decide) ?_
  refine hK.out _ _ ((Keep.refl _ _).drew.alloc _) ?_
  clear hK K
  show Lz _ _ _ _ _ _ _ (Act.put _ (some 31) _) _
  try simp only [Act.put, List.setIfInBounds_toArray, List.set_cons_zero, List.set_cons_succ]
  obtain ⟨i0, hi0, hz0, hz1, hz2⟩ := info_parts Try.infoZ75
  have HOW := Lib.hid (own_keep (F := fun _ => False) HD.out.waits ((Keep.refl _ w3).drew.alloc (.cells (wcells (n, y)).toArray 75)) (fun _ _ h => h))
  refine lz_op 7 rfl rfl (by kernel_rfl) (fun K hK => ?_)
  refine wp_append_own2 _ _ 63 rfl 75 i0 _ 513 520 Try.underlying63 hi0 hz0 hz1 hz2 (wz_size (x := (0, D.zero)) List.length_replicate) (by decide) wv s.waits.length (wall s.waits) rfl HOW.out ⟨w3.heap.size, 0, none⟩ 1 1 (wcells (n, y)) rfl (by rw [wcells_length HY.out]) ?c2 ?c3 ?c4 ?c5 ?_
  case c2 =>
    intro j u hj
    rw [Addr.add_mid]
    show (w3.drew.alloc _).cell? ⟨w3.drew.heap.size, 0 + j, none⟩ = _
    rw [World.cell?_alloc_at _ _ _ _ rfl]
    simpa using hj
  case c3 =>
    intro u hu
    rcases List.mem_cons.1 hu with rfl | hu
    · rfl
    · exact bvs_one _ u hu
  case c4 => unfold maxLen; omega
  case c5 => omega
  intro wv2 w4 hown hgrow hblk
  have HK4 : Hid (Keep (fun b => wv.ownBlock = some b) w3 w4) := ((Keep.refl _ _).drew.alloc _).grown hgrow (fun k hk => .inl hk)
  have HBK : Hid (∀ b, wv2.ownBlock = some b → wv.ownBlock = some b ∨ w3.heap.size ≤ b) := fun b hb => (hblk b hb).imp id (fun q => Nat.le_trans (by simp [go_sem]) q)
  have hx : wall s.waits ++ wcells (n, y) = wall (s.waits ++ [(n, y)]) := by rw [wall_append]; simp [wall]
  obtain ⟨g2, cap2, rfl⟩ := Go.Joins.ownsRow_form hown (by omega)
  have HD5 := Lib.hid (HD.out.relay HK4.out HD.out.nep HD.out.neg (.slice (some ⟨g2, 0, none⟩) (s.waits.length + 1) cap2) (s.waits ++ [(n, y)]) (by rw [← hx, List.length_append]; exact hown)
    (fun x hx => by
      rcases List.mem_append.1 hx with hx | hx
      · exact HD.out.ok.place x hx
      · rw [List.mem_singleton.1 hx]; exact hn) (fun x hx => by
      rcases List.mem_append.1 hx with hx | hx
      · exact HD.out.ok.bytes x hx
      · rw [List.mem_singleton.1 hx]; exact HY.out)
    (fun e => by
      rcases HBK.out p e with q | q
      · exact HD.out.nep q
      · have := HD.out.plt; omega) (fun e => by
      rcases HBK.out g e with q | q
      · exact HD.out.neg q
      · have := HD.out.glt; omega))
  have HK5 : Hid (Keep (fp p g wv) w3 (w4.setCell ⟨p, 1, none⟩ (.slice (some ⟨g2, 0, none⟩) (s.waits.length + 1) cap2))) := Keep.setCell (p := ⟨p, 1, none⟩) (HK4.out.mono (fun k _ q => .inr (.inr q))) (.inl (.inl rfl)) _
  have k1 := HK4.out.cell HC1.out HN1.out
  have f1 : w4.frozen? ⟨p, 1, none⟩ = false := (HK4.out.frozen HC1.out HN1.out).trans (HD.out.fz 1)
  clear hown hgrow hblk hx HOW
  refine hK.out _ _ HK4.out ?_
  clear hK K
  show Lz _ _ _ _ _ _ _ (Act.put _ (some 32) _) _
  try simp only [Act.put, List.setIfInBounds_toArray, List.set_cons_zero, List.set_cons_succ]
  refine lz_op 8 rfl rfl (by kernel_rfl) (fun K hK => ?_)
  go_simp
  refine hK.out _ _ HK4.out ?_
  clear hK K
  refine lz_op 9 rfl rfl (by kernel_rfl) (fun K hK => ?_)
  go_simp
  refine hK.out _ _ HK4.out ?_
  clear hK K
  refine lz_end rfl rfl (by kernel_rfl) (by kernel_rfl) (fun K hK => ?_)
  go_simp
  refine hK.out _ _ ?_
  clear hK K k1 f1
  generalize w4.setCell ⟨p, 1, none⟩ (.slice (some ⟨g2, 0, none⟩) (s.waits.length + 1) cap2) = w5 at *
  have k4 := HD5.out.c4
  have f4 := HD5.out.fz 4
  have q4 : IntKind.i64.wrap ((s.writes : Int) + 1) = (s.writes : Int) + 1 := by rw [IntKind.wrap_i64]; omega
  have HD6 := Lib.hid (HD5.out.setc4 (s.writes + 1))
  have e6 : ((s.writes + 1 : Nat) : Int) = (s.writes : Int) + 1 := by omega
  rw [e6] at HD6
  clear e6
  have HK6 : Hid (Keep (fp p g wv) w3 (w5.setCell ⟨p, 4, none⟩ (.int .i64 ((s.writes : Int) + 1)))) := Keep.setCell (p := ⟨p, 4, none⟩) HK5.out (.inl (.inl rfl)) _
  go_wp2_with fail
  generalize w5.setCell ⟨p, 4, none⟩ (.int .i64 ((s.writes : Int) + 1)) = w6 at *
  refine (act_any HD6.out).mono ?_
  rintro e w7 ⟨rfl, hd7, hk7⟩
  have HF : Hid (Keep (fp p g wv) w1 w7) := (Keep.of_below hb3 : Keep (fp p g wv) w1 w3).trans (HK6.out.trans hk7 (fun i hi => by
    rcases hi with q | q | q
    · exact .inl (.inl q)
    · exact .inl (.inr (.inl q))
    · exact (HBK.out i q).imp (fun q => .inr (.inr q)) id)) (fun i hi => .inl hi)
  have HD7 := Lib.hid hd7
  clear hd7 hk7
  go_wp2
  go_ret
  exact ⟨_, rfl, HD7.out, HF.out, fun b hb => (HBK.out b hb).imp id (fun q => Nat.le_trans hb3.size q)⟩
end Go.Proofs.Ytcbiagdpolhbfaa
