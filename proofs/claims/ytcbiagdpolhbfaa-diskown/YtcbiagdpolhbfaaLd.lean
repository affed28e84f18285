/- The chapter's example, walked: fixed. -/
import Derived.Test.YtcbiagdpolhbfaaLc
namespace Go.Proofs.Ytcbiagdpolhbfaa
open Go.RowKit
open D (St)

theorem Try.zero61 : (Try.prog.info? 61).map (fun i => (i.zero, i.size)) = some (some (.agg #[.int .i64 0, .int .i64 0]), 2) := by kernel_rfl
set_option maxRecDepth 100000 in
set_option maxHeartbeats 1000000 in
theorem fixed_any (w : World) : Calls Try.prog 8 #[] w fun e w' => e = .returned (.bool true) ∧ Below w.heap.size w w' := by
  obtain ⟨i0, hi0, hz0, hz1, hz2⟩ := info_parts Try.info5
  have hz61 := (zero_of_info Try.zero61).1
  obtain ⟨y1, hy1⟩ : ∃ y, Hid (fullL 1 7 = y ∧ y.length = 512) := ⟨_, rfl, fullL_length 1 7⟩
  obtain ⟨y2, hy2⟩ : ∃ y, Hid (fullL 2 7 = y ∧ y.length = 512) := ⟨_, rfl, fullL_length 2 7⟩
  go_enter Try.func8, Try.ntmps8
  go_wp2_with fail
  refine (new_own 8 w (by decide) (by decide)).mono ?_
  rintro e w1 ⟨p, g, rfl, ho, hb⟩
  have HO := Lib.hid ho
  have HB := Lib.hid hb
  clear ho hb
  go_wp2_with fail
  refine (fuse_own HO.out HB.out.size 1 (by decide)).mono ?_
  rintro e w2 ⟨rfl, ho, hb⟩
  have HO2 : Hid (OwnD w2 p g exA w.heap.size) := ho
  have HB2 := Lib.hid (HB.out.trans hb)
  clear ho hb HO HB
  go_wp2_with fail
  refine (full_any 1 7 (by decide) w2).mono ?_
  rintro e w3 ⟨g1, rfl, ho, hb⟩
  rw [hy1.out.1] at ho
  have HV := Lib.hid (Byts.own (l := y1) (by rw [hy1.out.2]; exact ho))
  have HO3 := Lib.hid (HO2.out.below hb)
  have HB3 := Lib.hid (btr HB2.out hb)
  clear ho hb HO2 HB2
  go_wp2_with fail
  refine (write_own HO3.out HB3.out.size 3 _ y1 HV.out (exF y1 hy1.out.2).1 (exF y1 hy1.out.2).2.1).mono ?_
  rintro e w4 ⟨he, ho, hb⟩
  rw [exE1 y1 hy1.out.2] at he
  subst he
  have HO4 : Hid (OwnD w4 p g (exB y1) w.heap.size) := ho
  have HB4 := Lib.hid (HB3.out.trans hb)
  clear ho hb HO3 HB3 HV
  go_wp2_with fail
  refine (full_any 2 7 (by decide) w4).mono ?_
  rintro e w5 ⟨g2, rfl, ho, hb⟩
  rw [hy2.out.1] at ho
  have HV := Lib.hid (Byts.own (l := y2) (by rw [hy2.out.2]; exact ho))
  have HO5 := Lib.hid (HO4.out.below hb)
  have HB5 := Lib.hid (btr HB4.out hb)
  clear ho hb HO4 HB4
  go_wp2_with fail
  refine (write_own HO5.out HB5.out.size 4 _ y2 HV.out (exF y1 hy1.out.2).2.2.1 (exF y1 hy1.out.2).2.2.2).mono ?_
  rintro e w6 ⟨he, ho, hb⟩
  rw [exE2 y1 y2 hy1.out.2 hy2.out.2] at he
  subst he
  have HO6 : Hid (OwnD w6 p g (exC y1 y2) w.heap.size) := ho
  have HB6 := Lib.hid (HB5.out.trans hb)
  clear ho hb HO5 HB5 HV
  have HA := Lib.hid (alb (w := w6) (.cells #[.int .i64 0, .int .i64 512] 61))
  have HLL : Hid (Losses (w6.alloc (.cells #[.int .i64 0, .int .i64 512] 61)) (.slice (some ⟨w6.heap.size, 0, none⟩) 1 1) [(0, 512)]) := by
    refine ⟨_, _, rfl, Nat.le_refl _, fun _ => ⟨w6.heap.size, 0, rfl, fun j hj => ?_⟩⟩
    obtain rfl : j = 0 := by simpa using hj
    have hr := range_lit w6 [.int .i64 0, .int .i64 512] 61 _ rfl
    exact ⟨hr 0 _ rfl, hr 1 _ rfl⟩
  go_wp2_with fail
  generalize hw7 : w6.alloc (.cells #[.int .i64 0, .int .i64 512] 61) = w7 at *
  have HO7 := Lib.hid (HO6.out.below HA.out)
  have HB7 := Lib.hid (btr HB6.out HA.out)
  refine (crash_own HO6.out HA.out HB7.out.size _ [(0, 512)] HLL.out (fun _ k hk => .inl (by have e : w6.heap.size = k := Option.some.inj hk; omega))).mono ?_
  rintro e w8 ⟨rfl, ho, hb⟩
  have HO8 : Hid (OwnD w8 p g (exD y1 y2) w.heap.size) := ho
  have HB8 := Lib.hid (HB7.out.trans hb)
  clear ho hb HO7 HB7 HLL HO6 HB6 HA hw7
  go_wp2_with fail
  refine (read_own HO8.out 3).mono ?_
  rintro e w9 ⟨v1, rfl, ho, hb⟩
  rw [(exR1 y1 y2 hy1.out.2 hy2.out.2).2] at ho
  rw [(exR1 y1 y2 hy1.out.2 hy2.out.2).1]
  have HV1 := Lib.hid (Byts.own ho)
  have HO9 := Lib.hid (HO8.out.below hb)
  have HB9 := Lib.hid (btr HB8.out hb)
  clear ho hb HO8 HB8
  go_wp2_with fail
  refine (read_own HO9.out 4).mono ?_
  rintro e w10 ⟨v2, rfl, ho, hb⟩
  rw [(exR2 y1 y2 hy1.out.2 hy2.out.2).2] at ho
  rw [(exR2 y1 y2 hy1.out.2 hy2.out.2).1]
  have HV2 := Lib.hid (Byts.own ho)
  have HV3 := Lib.hid (HV1.out.below hb)
  have HB10 := Lib.hid (btr HB9.out hb)
  clear ho hb HO9 HB9 HV1
  go_wp2
  have hS : Hid (Below w10.heap.size w10 w10.drew) := (Below.refl _ _).drew
  refine lz_start 29 1000 (fun W => Below w10.heap.size w10 W) rfl (by kernel_rfl) ?_
  refine lz_take 0 41 (v := ?_) rfl rfl (by kernel_rfl) (by kernel_rfl) (by kernel_rfl) (by kernel_rfl) (fun _ _ _ _ _ h => h) (by rfl) hS.out (fun W hW => ?_) ?_
  rotate_left
  · go_simp; try rfl
  try simp only [Act.put, List.setIfInBounds_toArray, List.set_cons_zero, List.set_cons_succ]
  refine lz_take 1 42 (v := ?_) rfl rfl (by kernel_rfl) (by kernel_rfl) (by kernel_rfl) (by kernel_rfl) (fun _ _ _ _ _ h => h) (by rfl) hS.out (fun W hW => ?_) ?_
  rotate_left
  · go_simp; try rfl
  try simp only [Act.put, List.setIfInBounds_toArray, List.set_cons_zero, List.set_cons_succ]
  refine lz_take 2 43 (v := ?_) rfl rfl (by kernel_rfl) (by kernel_rfl) (by kernel_rfl) (by kernel_rfl) (fun _ _ _ _ _ h => h) (by rfl) hS.out (fun W hW => ?_) ?_
  rotate_left
  · go_simp; try rfl
  try simp only [Act.put, List.setIfInBounds_toArray, List.set_cons_zero, List.set_cons_succ]
  refine lz_take 3 44 (v := ?_) rfl rfl (by kernel_rfl) (by kernel_rfl) (by kernel_rfl) (by kernel_rfl) (fun _ _ _ _ _ h => h) (by rfl) hS.out (fun W hW => ?_) ?_
  rotate_left
  · go_simp; try rfl
  try simp only [Act.put, List.setIfInBounds_toArray, List.set_cons_zero, List.set_cons_succ]
  refine lz_take 4 45 (v := ?_) rfl rfl (by kernel_rfl) (by kernel_rfl) (by kernel_rfl) (by kernel_rfl) (fun _ _ _ _ _ h => h) (by rfl) hS.out (fun W hW => ?_) ?_
  rotate_left
  · go_simp; try rfl
  try simp only [Act.put, List.setIfInBounds_toArray, List.set_cons_zero, List.set_cons_succ]
  refine lz_take 5 46 (v := ?_) rfl rfl (by kernel_rfl) (by kernel_rfl) (by kernel_rfl) (by kernel_rfl) (fun _ _ _ _ _ h => h) (by rfl) hS.out (fun W hW => ?_) ?_
  rotate_left
  · go_simp; try rfl
  try simp only [Act.put, List.setIfInBounds_toArray, List.set_cons_zero, List.set_cons_succ]
  refine lz_take 6 47 (v := ?_) rfl rfl (by kernel_rfl) (by kernel_rfl) (by kernel_rfl) (by kernel_rfl) (fun _ _ _ _ _ h => h) (by rfl) hS.out (fun W hW => ?_) ?_
  rotate_left
  · go_simp; try rfl
  try simp only [Act.put, List.setIfInBounds_toArray, List.set_cons_zero, List.set_cons_succ]
  refine lz_take 7 48 (v := ?_) rfl rfl (by kernel_rfl) (by kernel_rfl) (by kernel_rfl) (by kernel_rfl) (fun _ _ _ _ _ h => h) (by rfl) hS.out (fun W hW => ?_) ?_
  rotate_left
  · go_simp; try rfl
  try simp only [Act.put, List.setIfInBounds_toArray, List.set_cons_zero, List.set_cons_succ]
  refine lz_take 8 49 (v := ?_) rfl rfl (by kernel_rfl) (by kernel_rfl) (by kernel_rfl) (by kernel_rfl) (fun _ _ _ _ _ h => h) (by rfl) hS.out (fun W hW => ?_) ?_
  rotate_left
  · go_simp; try rfl
  try simp only [Act.put, List.setIfInBounds_toArray, List.set_cons_zero, List.set_cons_succ]
  refine lz_take 9 50 (v := ?_) rfl rfl (by kernel_rfl) (by kernel_rfl) (by kernel_rfl) (by kernel_rfl) (fun _ _ _ _ _ h => h) (by rfl) hS.out (fun W hW => ?_) ?_
  rotate_left
  · go_simp; try rfl
  try simp only [Act.put, List.setIfInBounds_toArray, List.set_cons_zero, List.set_cons_succ]
  refine lz_take 10 51 (v := ?_) rfl rfl (by kernel_rfl) (by kernel_rfl) (by kernel_rfl) (by kernel_rfl) (fun _ _ _ _ _ h => h) (by rfl) hS.out (fun W hW => ?_) ?_
  rotate_left
  · go_simp; try rfl
  try simp only [Act.put, List.setIfInBounds_toArray, List.set_cons_zero, List.set_cons_succ]
  refine lz_take 11 52 (v := ?_) rfl rfl (by kernel_rfl) (by kernel_rfl) (by kernel_rfl) (by kernel_rfl) (fun _ _ _ _ _ h => h) (by rfl) hS.out (fun W hW => ?_) ?_
  rotate_left
  · go_simp; try rfl
  try simp only [Act.put, List.setIfInBounds_toArray, List.set_cons_zero, List.set_cons_succ]
  refine lz_take 12 53 (v := ?_) rfl rfl (by kernel_rfl) (by kernel_rfl) (by kernel_rfl) (by kernel_rfl) (fun _ _ _ _ _ h => h) (by rfl) hS.out (fun W hW => ?_) ?_
  rotate_left
  · go_simp; try rfl
  try simp only [Act.put, List.setIfInBounds_toArray, List.set_cons_zero, List.set_cons_succ]
  refine lz_take 13 54 (v := ?_) rfl rfl (by kernel_rfl) (by kernel_rfl) (by kernel_rfl) (by kernel_rfl) (fun _ _ _ _ _ h => h) (by rfl) hS.out (fun W hW => ?_) ?_
  rotate_left
  · go_simp; try rfl
  try simp only [Act.put, List.setIfInBounds_toArray, List.set_cons_zero, List.set_cons_succ]
  refine lz_take 14 55 (v := ?_) rfl rfl (by kernel_rfl) (by kernel_rfl) (by kernel_rfl) (by kernel_rfl) (fun _ _ _ _ _ h => h) (by rfl) hS.out (fun W hW => ?_) ?_
  rotate_left
  · go_simp; try rfl
  try simp only [Act.put, List.setIfInBounds_toArray, List.set_cons_zero, List.set_cons_succ]
  refine lz_take 15 56 (v := ?_) rfl rfl (by kernel_rfl) (by kernel_rfl) (by kernel_rfl) (by kernel_rfl) (fun _ _ _ _ _ h => h) (by rfl) hS.out (fun W hW => ?_) ?_
  rotate_left
  · go_simp; try rfl
  try simp only [Act.put, List.setIfInBounds_toArray, List.set_cons_zero, List.set_cons_succ]
  refine lz_take 16 57 (v := ?_) rfl rfl (by kernel_rfl) (by kernel_rfl) (by kernel_rfl) (by kernel_rfl) (fun _ _ _ _ _ h => h) (by rfl) hS.out (fun W hW => ?_) ?_
  rotate_left
  · have q0 := (HV3.out.below hW).conv; go_simp; try rfl
  try simp only [Act.put, List.setIfInBounds_toArray, List.set_cons_zero, List.set_cons_succ]
  refine lz_opg 17 rfl (by rfl) (by kernel_rfl) (fun K hK => ?_)
  go_simp
  refine (full_any 1 7 (by decide) w10.drew).mono ?_
  rintro e w11 ⟨g3, rfl, ho, hb⟩
  rw [hy1.out.1] at ho
  have HV4 := Lib.hid (Byts.own (l := y1) (by rw [hy1.out.2]; exact ho))
  have hS11 : Hid (Below w10.heap.size w10 w11) := btr (Below.refl _ w10).drew hb
  refine hK.out _ _ hS11.out ?_
  clear hK K hS ho hb
  have hS := hS11
  refine lz_now (T := fun W => Below w10.heap.size w10 W ∧ Below w11.heap.size w11 W) (fun _ h => h.1) ?_
  have hS : Hid (Below w10.heap.size w10 w11 ∧ Below w11.heap.size w11 w11) := ⟨hS11.out, Below.refl _ _⟩
  refine lz_take 18 59 (v := ?_) rfl rfl (by kernel_rfl) (by kernel_rfl) (by kernel_rfl) (by kernel_rfl) (fun _ _ _ _ _ h => h) (by rfl) hS.out (fun W hW => ?_) ?_
  rotate_left
  · have q0 := (HV4.out.below hW.2).conv; go_simp; try rfl
  try simp only [Act.put, List.setIfInBounds_toArray, List.set_cons_zero, List.set_cons_succ]
  refine lz_take 19 60 (v := ?_) rfl rfl (by kernel_rfl) (by kernel_rfl) (by kernel_rfl) (by kernel_rfl) (fun _ _ _ _ _ h => h) (by rfl) hS.out (fun W hW => ?_) ?_
  rotate_left
  · go_simp; try rfl
  try simp only [Act.put, List.setIfInBounds_toArray, List.set_cons_zero, List.set_cons_succ]
  refine lz_take 20 61 (v := ?_) rfl rfl (by kernel_rfl) (by kernel_rfl) (by kernel_rfl) (by kernel_rfl) (fun _ _ _ _ _ h => h) (by rfl) hS.out (fun W hW => ?_) ?_
  rotate_left
  · go_simp; try rfl
  try simp only [Act.put, List.setIfInBounds_toArray, List.set_cons_zero, List.set_cons_succ]
  refine lz_take 21 62 (v := ?_) rfl rfl (by kernel_rfl) (by kernel_rfl) (by kernel_rfl) (by kernel_rfl) (fun _ _ _ _ _ h => h) (by rfl) hS.out (fun W hW => ?_) ?_
  rotate_left
  · go_simp; try rfl
  try simp only [Act.put, List.setIfInBounds_toArray, List.set_cons_zero, List.set_cons_succ]
  refine lz_take 22 63 (v := ?_) rfl rfl (by kernel_rfl) (by kernel_rfl) (by kernel_rfl) (by kernel_rfl) (fun _ _ _ _ _ h => h) (by rfl) hS.out (fun W hW => ?_) ?_
  rotate_left
  · go_simp; try rfl
  try simp only [Act.put, List.setIfInBounds_toArray, List.set_cons_zero, List.set_cons_succ]
  refine lz_take 23 64 (v := ?_) rfl rfl (by kernel_rfl) (by kernel_rfl) (by kernel_rfl) (by kernel_rfl) (fun _ _ _ _ _ h => h) (by rfl) hS.out (fun W hW => ?_) ?_
  rotate_left
  · have q0 := (HV2.out.below hW.1).conv; go_simp; try rfl
  try simp only [Act.put, List.setIfInBounds_toArray, List.set_cons_zero, List.set_cons_succ]
  obtain ⟨w12, hrun, ho, hg⟩ := run_make_full (P := Try.prog) w11 0 44 5 i0 _ 1 Try.underlying44 hi0 hz0 hz1 .i64 .i64 512 (by rw [hz2]; decide) (by decide) (Nat.zero_le _)
  have hrun' : (Instr.makeSlice 44 (.int .i64 512) (.int .i64 512)).run Try.prog w11 = .ok (.slice (some ⟨w11.heap.size, 0, none⟩) 512 512) w12 := hrun
  have HV5 : Hid (Byts w12 (.slice (some ⟨w11.heap.size, 0, none⟩) 512 512) D.zero) := by
    have e : (madeCells #[Value.int .u8 0] 512).toList = bvs D.zero := made_zeros 512
    refine Byts.own (base := 0) ?_ |> fun (h : Byts w12 (.slice (some ⟨w11.heap.size, 0, none⟩) 512 512) D.zero) => h
    rw [zero_length, ← e]
    exact ho
  have HB12 : Hid (Below w11.heap.size w11 w12) := (Below.refl _ _).grown hg (Nat.le_refl _) (fun k h => by cases h)
  clear hrun ho hg
  refine lz_opg 24 rfl (by rfl) (by kernel_rfl) (fun K hK => ?_)
  go_simp
  refine hK.out _ _ ⟨btr hS11.out HB12.out, HB12.out⟩ ?_
  clear hK K hS
  clear hrun'
  refine lz_now (T := fun W => (Below w10.heap.size w10 W ∧ Below w11.heap.size w11 W) ∧ Below w12.heap.size w12 W) (fun _ h => h.1) ?_
  have hS : Hid ((Below w10.heap.size w10 w12 ∧ Below w11.heap.size w11 w12) ∧ Below w12.heap.size w12 w12) := ⟨⟨btr hS11.out HB12.out, HB12.out⟩, Below.refl _ _⟩
  refine lz_take 25 66 (v := ?_) rfl rfl (by kernel_rfl) (by kernel_rfl) (by kernel_rfl) (by kernel_rfl) (fun _ _ _ _ _ h => h) (by rfl) hS.out (fun W hW => ?_) ?_
  rotate_left
  · have q0 := (HV5.out.below hW.2).conv; go_simp; try rfl
  try simp only [Act.put, List.setIfInBounds_toArray, List.set_cons_zero, List.set_cons_succ]
  refine lz_take 26 67 (v := ?_) rfl rfl (by kernel_rfl) (by kernel_rfl) (by kernel_rfl) (by kernel_rfl) (fun _ _ _ _ _ h => h) (by rfl) hS.out (fun W hW => ?_) ?_
  rotate_left
  · go_simp; try rfl
  try simp only [Act.put, List.setIfInBounds_toArray, List.set_cons_zero, List.set_cons_succ]
  refine lz_take 27 68 (v := ?_) rfl rfl (by kernel_rfl) (by kernel_rfl) (by kernel_rfl) (by kernel_rfl) (fun _ _ _ _ _ h => h) (by rfl) hS.out (fun W hW => ?_) ?_
  rotate_left
  · go_simp; try rfl
  try simp only [Act.put, List.setIfInBounds_toArray, List.set_cons_zero, List.set_cons_succ]
  refine lz_take 28 0 (v := ?_) rfl rfl (by kernel_rfl) (by kernel_rfl) (by kernel_rfl) (by kernel_rfl) (fun _ _ _ _ _ h => h) (by rfl) hS.out (fun W hW => ?_) ?_
  rotate_left
  · go_simp; try rfl
  try simp only [Act.put, List.setIfInBounds_toArray, List.set_cons_zero]
  refine lz_done (by kernel_rfl) ?_
  go_wp2
  go_ret
  exact ⟨rfl, btr HB10.out (btr hS11.out HB12.out)⟩
end Go.Proofs.Ytcbiagdpolhbfaa
