/- disk.Crash. -/
import Derived.Test.YtcbiagdpolhbfaaDp
namespace Go.Proofs.Ytcbiagdpolhbfaa
open Go.RowKit
open D (St)

/-- What is left so far. -/
def gone (s : St) (l : List (Int × Int)) (k : Nat) : St := { s with safe := D.left s.safe (s.waits.take k) (l.take k) }

set_option maxRecDepth 100000 in
set_option maxHeartbeats 1600000 in
theorem crash_core {w : World} {p g : Nat} {wv : Value} {s : St} {l : List (Int × Int)} {B : Option Addr} {lc M : Nat} (H : Hid (Dsk w p g wv s)) (HV : Hid (Losses w (.slice B l.length lc) l)) (HF : Hid (0 < l.length → ∀ k, (Value.slice B l.length lc).ownBlock = some k → ¬ fp p g wv k))
    (hM : (l.length ≤ s.waits.length ∧ Hid (l.length = M)) ∨ (s.waits.length < l.length ∧ Hid (s.waits.length = M))) (HQ : Hid (M ≤ l.length ∧ M ≤ s.waits.length ∧ (s.waits.length ≤ M ∨ l.length ≤ M))) :
    Calls Try.prog 18 #[.pointer (some ⟨p, 0, none⟩), .slice B l.length lc] w fun e w' => e = .returned (.tuple #[]) ∧ Turned w w' p g wv (D.crash s l) := by
  have hz := (zero_of_info Try.zero75).1
  have HZ := Lib.hid (wz_size (x := (0, D.zero)) List.length_replicate)
  generalize wz (0, D.zero) = Z at *
  obtain ⟨A, cap, rfl⟩ := wv_form H.out
  have c1 := H.out.c1
  have hm := H.out.nwaits
  generalize hL : s.waits.length = L at *
  have HL := Lib.hid hL
  clear hL
  generalize hN : l.length = N at *
  have HN := Lib.hid hN
  clear hN
  rcases hM with ⟨hle, HM⟩ | ⟨hle, HM⟩
  all_goals
    go_enter Try.func18, Try.ntmps18
    go_wp2
    go_loopw [16] (fun i wr => ∃ k : Nat, k ≤ M ∧ i = .int .i64 (k : Int) ∧ Hid (Dsk wr p g (.slice A L cap) (gone s l k)) ∧ Hid (Keep (fp p g (.slice A L cap)) w wr)) (fun i _ => (M - intOf i).toNat)
    case atStart => exact ⟨0, Nat.zero_le _, rfl, H.out, Keep.refl _ _⟩
    case round =>
      obtain ⟨k, hk, rfl, HD, HK⟩ := hrel
      by_cases hkl : k < M
      · have hkl1 : k < N := by have := HQ.out; omega
        have hkl2 : k < L := by have := HQ.out; omega
        have hkw : k < s.waits.length := by rw [HL.out]; exact hkl2
        have hkn : k < l.length := by rw [HN.out]; exact hkl1
        have HD' : Dsk wr p g (.slice A (gone s l k).waits.length cap) (gone s l k) := by
          show Dsk wr p g (.slice A s.waits.length cap) _
          rw [HL.out]
          exact HD.out
        obtain ⟨q, rfl, _, _, a3⟩ := HD'.waitAt k hkw
        have HP := Lib.hid (HD.out.ok.place _ (List.getElem_mem (l := (gone s l k).waits) hkw))
        have HY := Lib.hid (HD.out.ok.bytes _ (List.getElem_mem (l := (gone s l k).waits) hkw))
        have HG : Hid (gone s l (k + 1) = { gone s l k with safe := D.give (gone s l k).safe (gone s l k).waits[k] l[k] }) := by
          unfold gone Hid
          rw [D.left_take _ _ _ k hkw hkn]
        obtain ⟨_, _, e0, _, hcl0⟩ := HV.out.keep HK.out (fun h => HF.out (by rw [← HN.out]; exact h))
        obtain ⟨b, off, e1, hcl⟩ := hcl0 (by omega)
        simp only [Value.slice.injEq] at e0
        obtain ⟨rfl, -, -⟩ := e0
        subst e1
        obtain ⟨l0, l1⟩ := hcl k hkn
        have HR := Lib.hid a3
        clear HD' a3 hcl hcl0
        generalize (gone s l k).waits[k] = x at *
        generalize l[k] = y at *
        obtain ⟨y0, y1⟩ := y
        obtain ⟨ht, hr2, hb2, hl2⟩ := laid_whole wr x HY.out Z HZ.out
        have HT := Lib.hid ht
        have HR2 := Lib.hid hr2
        have HB2 := Lib.hid hb2
        have c1 := HD.out.c1
        have L0 := Lib.hid (kept l0 hb2)
        have L1 := Lib.hid (kept l1 hb2)
        clear ht hr2 hb2 l0 l1
        go_wp2_with (first
          | (refine wpList_load_mid rfl 75 _ rfl q (k * 513) rfl (wcells x) _ HR.out Try.underlying75 rfl (info_wc HY.out) ?_)
          | (refine wpList_store_mid rfl 75 _ _ rfl wr.heap.size 0 (wz x) rfl rfl HT.out (info_wz HY.out) (wz_one x) ?_))
        generalize (wr.alloc (.cells Z 75)).setCells wr.heap.size 0 (wz x).toList = w2 at *
        have hS : Hid (Keep (fun _ => False) w2 w2.drew) := (Keep.refl _ _).drew
        refine lz_start 14 1000 (fun W => Keep (fun _ => False) w2 W) rfl (by kernel_rfl) ?_
        refine lz_take 0 26 (v := ?_) rfl rfl (by kernel_rfl) (by kernel_rfl) (by kernel_rfl) (by kernel_rfl) (fun _ _ _ _ _ h => h) (by rfl) hS.out (fun W hW => ?_) ?_
        rotate_left
        · go_simp; try rfl
        try simp only [Act.put, List.setIfInBounds_toArray, List.set_cons_zero, List.set_cons_succ]
        refine lz_take 1 27 (v := ?_) rfl rfl (by kernel_rfl) (by kernel_rfl) (by kernel_rfl) (by kernel_rfl) (fun _ _ _ _ _ h => h) (by rfl) hS.out (fun W hW => ?_) ?_
        rotate_left
        · go_simp; try rfl
        try simp only [Act.put, List.setIfInBounds_toArray, List.set_cons_zero, List.set_cons_succ]
        refine lz_take 2 28 (v := ?_) rfl rfl (by kernel_rfl) (by kernel_rfl) (by kernel_rfl) (by kernel_rfl) (fun _ _ _ _ _ h => h) (by rfl) hS.out (fun W hW => ?_) ?_
        rotate_left
        · go_simp; try rfl
        try simp only [Act.put, List.setIfInBounds_toArray, List.set_cons_zero, List.set_cons_succ]
        refine lz_take 3 29 (v := ?_) rfl rfl (by kernel_rfl) (by kernel_rfl) (by kernel_rfl) (by kernel_rfl) (fun _ _ _ _ _ h => h) (by rfl) hS.out (fun W hW => ?_) ?_
        rotate_left
        · go_simp; try rfl
        try simp only [Act.put, List.setIfInBounds_toArray, List.set_cons_zero, List.set_cons_succ]
        refine lz_take 4 30 (v := ?_) rfl rfl (by kernel_rfl) (by kernel_rfl) (by kernel_rfl) (by kernel_rfl) (fun _ _ _ _ _ h => h) (by rfl) hS.out (fun W hW => ?_) ?_
        rotate_left
        · have q0 := hW.cell L0.out (fun h => h); go_simp; try rfl
        try simp only [Act.put, List.setIfInBounds_toArray, List.set_cons_zero, List.set_cons_succ]
        refine lz_take 6 32 (v := ?_) rfl rfl (by kernel_rfl) (by kernel_rfl) (by kernel_rfl) (by kernel_rfl) (fun _ _ _ _ _ h => h) (by rfl) hS.out (fun W hW => ?_) ?_
        rotate_left
        · go_simp; try rfl
        try simp only [Act.put, List.setIfInBounds_toArray, List.set_cons_zero, List.set_cons_succ]
        refine lz_take 7 33 (v := ?_) rfl rfl (by kernel_rfl) (by kernel_rfl) (by kernel_rfl) (by kernel_rfl) (fun _ _ _ _ _ h => h) (by rfl) hS.out (fun W hW => ?_) ?_
        rotate_left
        · go_simp; try rfl
        try simp only [Act.put, List.setIfInBounds_toArray, List.set_cons_zero, List.set_cons_succ]
        refine lz_take 8 34 (v := ?_) rfl rfl (by kernel_rfl) (by kernel_rfl) (by kernel_rfl) (by kernel_rfl) (fun _ _ _ _ _ h => h) (by rfl) hS.out (fun W hW => ?_) ?_
        rotate_left
        · go_simp; try rfl
        try simp only [Act.put, List.setIfInBounds_toArray, List.set_cons_zero, List.set_cons_succ]
        refine lz_take 9 35 (v := ?_) rfl rfl (by kernel_rfl) (by kernel_rfl) (by kernel_rfl) (by kernel_rfl) (fun _ _ _ _ _ h => h) (by rfl) hS.out (fun W hW => ?_) ?_
        rotate_left
        · go_simp; try rfl
        try simp only [Act.put, List.setIfInBounds_toArray, List.set_cons_zero, List.set_cons_succ]
        refine lz_take 10 36 (v := ?_) rfl rfl (by kernel_rfl) (by kernel_rfl) (by kernel_rfl) (by kernel_rfl) (fun _ _ _ _ _ h => h) (by rfl) hS.out (fun W hW => ?_) ?_
        rotate_left
        · have q0 := hW.cell L1.out (fun h => h); go_simp; try rfl
        try simp only [Act.put, List.setIfInBounds_toArray, List.set_cons_zero, List.set_cons_succ]
        refine lz_op 5 rfl rfl (by kernel_rfl) (fun K hK => ?_)
        go_simp
        refine (within_any y0 _).mono ?_
        rintro e w3 ⟨rfl, rfl⟩
        refine hK.out _ _ hS.out ?_
        clear hK K
        refine lz_op 11 rfl rfl (by kernel_rfl) (fun K hK => ?_)
        go_simp
        refine (within_any y1 _).mono ?_
        rintro e w3 ⟨rfl, rfl⟩
        refine hK.out _ _ hS.out ?_
        clear hK K
        refine lz_take 12 6 (v := ?_) rfl rfl (by kernel_rfl) (by kernel_rfl) (by kernel_rfl) (by kernel_rfl) (fun _ _ _ _ _ h => h) (by rfl) hS.out (fun W hW => ?_) ?_
        rotate_left
        · go_simp; try rfl
        try simp only [Act.put, List.setIfInBounds_toArray, List.set_cons_zero, List.set_cons_succ]
        refine lz_take 13 7 (v := ?_) rfl rfl (by kernel_rfl) (by kernel_rfl) (by kernel_rfl) (by kernel_rfl) (fun _ _ _ _ _ h => h) (by rfl) hS.out (fun W hW => ?_) ?_
        rotate_left
        · go_simp; try rfl
        try simp only [Act.put, List.setIfInBounds_toArray, List.set_cons_zero, List.set_cons_succ]
        refine lz_done (by kernel_rfl) ?_
        have HD2 := Lib.hid ((HD.out.below HB2.out).keep (F := fun _ => False) ((Keep.refl _ w2).drew) (fun _ _ h => h))
        obtain ⟨cc, c0⟩ := HD2.out.c0
        have C0 := Lib.hid c0
        have C5 : Hid (w2.cell? ⟨wr.heap.size, 0, none⟩ = some (.int .i64 ((x.1 : Nat) : Int))) := HR2.out 0 _ rfl
        have R5 : Hid (w2.rangeAt wr.heap.size 1 (bvs x.2)) := fun j v hv => by
          have := HR2.out (j + 1) v (by simpa [wcells] using hv)
          rwa [show 0 + (j + 1) = 1 + j by omega] at this
        have HK2 := Lib.hid ((HK.out.step HB2.out).drew)
        have T0 := Lib.hid (D.bnd_le y1)
        have HG2 : Hid (gone s l (k + 1) = { gone s l k with safe := (gone s l k).safe.set x.1 (D.part ((gone s l k).safe.getD x.1 []) x.2 (D.bnd y0) (D.bnd y1)) }) := HG.out
        clear c0 hl2 hS HG
        generalize D.bnd y0 = f at *
        generalize D.bnd y1 = t at *
        by_cases hft : f < t
        · have HD3 := Lib.hid (HD2.out.keep (F := fun _ => False) ((Keep.refl _ w2.drew).drew) (fun _ _ h => h))
          have NE1 := Lib.hid HD2.out.ne
          have NE2 : Hid (¬ wr.heap.size = g) := fun e => by have := HD.out.glt; omega
          have hS : Hid (Keep (fun b => b = g) w2.drew w2.drew.drew) := (Keep.refl _ _).drew
          have hlt := HP.out
          have ht := T0.out
          go_wp2
          refine lz_start 15 1000 (fun W => Keep (fun b => b = g) w2.drew W) rfl (by kernel_rfl) ?_
          refine lz_take 0 41 (v := ?_) rfl rfl (by kernel_rfl) (by kernel_rfl) (by kernel_rfl) (by kernel_rfl) (fun _ _ _ _ _ h => h) (by rfl) hS.out (fun W hW => ?_) ?_
          rotate_left
          · go_simp; try rfl
          try simp only [Act.put, List.setIfInBounds_toArray, List.set_cons_zero, List.set_cons_succ]
          refine lz_take 1 42 (v := ?_) rfl rfl (by kernel_rfl) (by kernel_rfl) (by kernel_rfl) (by kernel_rfl) (fun _ _ _ _ _ h => h) (by rfl) hS.out (fun W hW => ?_) ?_
          rotate_left
          · go_simp; try rfl
          try simp only [Act.put, List.setIfInBounds_toArray, List.set_cons_zero, List.set_cons_succ]
          refine lz_take 2 43 (v := ?_) rfl rfl (by kernel_rfl) (by kernel_rfl) (by kernel_rfl) (by kernel_rfl) (fun _ _ _ _ _ h => h) (by rfl) hS.out (fun W hW => ?_) ?_
          rotate_left
          · go_simp; try rfl
          try simp only [Act.put, List.setIfInBounds_toArray, List.set_cons_zero, List.set_cons_succ]
          refine lz_take 3 44 (v := ?_) rfl rfl (by kernel_rfl) (by kernel_rfl) (by kernel_rfl) (by kernel_rfl) (fun _ _ _ _ _ h => h) (by rfl) hS.out (fun W hW => ?_) ?_
          rotate_left
          · have q0 := hW.cell C0.out NE1.out; go_simp; try rfl
          try simp only [Act.put, List.setIfInBounds_toArray, List.set_cons_zero, List.set_cons_succ]
          refine lz_take 4 45 (v := ?_) rfl rfl (by kernel_rfl) (by kernel_rfl) (by kernel_rfl) (by kernel_rfl) (fun _ _ _ _ _ h => h) (by rfl) hS.out (fun W hW => ?_) ?_
          rotate_left
          · go_simp; try rfl
          try simp only [Act.put, List.setIfInBounds_toArray, List.set_cons_zero, List.set_cons_succ]
          refine lz_take 5 46 (v := ?_) rfl rfl (by kernel_rfl) (by kernel_rfl) (by kernel_rfl) (by kernel_rfl) (fun _ _ _ _ _ h => h) (by rfl) hS.out (fun W hW => ?_) ?_
          rotate_left
          · have q1 := hW.cell (w := w2.drew) C5.out NE2.out; go_simp; try rfl
          try simp only [Act.put, List.setIfInBounds_toArray, List.set_cons_zero, List.set_cons_succ]
          refine lz_take 6 47 (v := ?_) rfl rfl (by kernel_rfl) (by kernel_rfl) (by kernel_rfl) (by kernel_rfl) (fun _ _ _ _ _ h => h) (by rfl) hS.out (fun W hW => ?_) ?_
          rotate_left
          · go_simp; try rfl
          try simp only [Act.put, List.setIfInBounds_toArray, List.set_cons_zero, List.set_cons_succ]
          refine lz_take 7 48 (v := ?_) rfl rfl (by kernel_rfl) (by kernel_rfl) (by kernel_rfl) (by kernel_rfl) (fun _ _ _ _ _ h => h) (by rfl) hS.out (fun W hW => ?_) ?_
          rotate_left
          · go_simp; try rfl
          try simp only [Act.put, List.setIfInBounds_toArray, List.set_cons_zero, List.set_cons_succ]
          refine lz_take 8 49 (v := ?_) rfl rfl (by kernel_rfl) (by kernel_rfl) (by kernel_rfl) (by kernel_rfl) (fun _ _ _ _ _ h => h) (by rfl) hS.out (fun W hW => ?_) ?_
          rotate_left
          · go_simp; try rfl
          try simp only [Act.put, List.setIfInBounds_toArray, List.set_cons_zero, List.set_cons_succ]
          refine lz_take 9 50 (v := ?_) rfl rfl (by kernel_rfl) (by kernel_rfl) (by kernel_rfl) (by kernel_rfl) (fun _ _ _ _ _ h => h) (by rfl) hS.out (fun W hW => ?_) ?_
          rotate_left
          · have q1 := run_cutBlock W g (x.1 * 512) f t hft ht; go_simp; try rfl
          try simp only [Act.put, List.setIfInBounds_toArray, List.set_cons_zero, List.set_cons_succ]
          refine lz_take 10 51 (v := ?_) rfl rfl (by kernel_rfl) (by kernel_rfl) (by kernel_rfl) (by kernel_rfl) (fun _ _ _ _ _ h => h) (by rfl) hS.out (fun W hW => ?_) ?_
          rotate_left
          · go_simp; try rfl
          try simp only [Act.put, List.setIfInBounds_toArray, List.set_cons_zero, List.set_cons_succ]
          refine lz_take 11 52 (v := ?_) rfl rfl (by kernel_rfl) (by kernel_rfl) (by kernel_rfl) (by kernel_rfl) (fun _ _ _ _ _ h => h) (by rfl) hS.out (fun W hW => ?_) ?_
          rotate_left
          · go_simp; try rfl
          try simp only [Act.put, List.setIfInBounds_toArray, List.set_cons_zero, List.set_cons_succ]
          refine lz_take 12 53 (v := ?_) rfl rfl (by kernel_rfl) (by kernel_rfl) (by kernel_rfl) (by kernel_rfl) (fun _ _ _ _ _ h => h) (by rfl) hS.out (fun W hW => ?_) ?_
          rotate_left
          · go_simp; try rfl
          try simp only [Act.put, List.setIfInBounds_toArray, List.set_cons_zero, List.set_cons_succ]
          refine lz_take 13 54 (v := ?_) rfl rfl (by kernel_rfl) (by kernel_rfl) (by kernel_rfl) (by kernel_rfl) (fun _ _ _ _ _ h => h) (by rfl) hS.out (fun W hW => ?_) ?_
          rotate_left
          · have q1 := run_cutBlock W wr.heap.size 1 f t hft ht; go_simp; try rfl
          try simp only [Act.put, List.setIfInBounds_toArray, List.set_cons_zero, List.set_cons_succ]
          refine lz_op 14 rfl rfl (by kernel_rfl) (fun K hK => ?_)
          refine wp_copy_cells _ _ 44 44 5 rfl g (x.1 * 512 + f) (t - f) (512 - f) ⟨wr.heap.size, 1 + f, none⟩ (t - f) (512 - f) (bvs ((x.2.drop f).take (t - f))) rfl rfl Try.underlying44 (by kernel_rfl) ?d1 ?d2 ?d3 (bvs_one _) ?_
          case d1 =>
            rw [bvs_length]
            have := HY.out
            simp
            omega
          case d2 =>
            intro j v hv
            rw [Addr.add_mid]
            have hj : j < t - f := by
              have := (List.getElem?_eq_some_iff.1 hv).1
              rw [bvs_length] at this
              simp at this
              omega
            have := R5.out (f + j) v (by rw [← hv, bvs_getq, bvs_getq, List.getElem?_take_of_lt hj, List.getElem?_drop])
            rwa [show 1 + (f + j) = 1 + f + j by omega] at this
          case d3 =>
            intro j hj
            rw [bvs_length] at hj
            have hj : j < t - f := by
              simp at hj
              omega
            have := HD3.out.there x.1 HP.out (f + j) (by omega)
            rwa [show x.1 * 512 + (f + j) = x.1 * 512 + f + j by omega] at this
          have HD5 : Hid (Dsk (w2.drew.drew.setCells g (x.1 * 512 + f) (bvs ((x.2.drop f).take (t - f)))) p g (.slice (some ⟨q, 0, none⟩) L cap) (gone s l (k + 1))) := by
            rw [HG2.out]
            exact HD3.out.setpart x.1 x.2 HP.out HY.out f t hft ht
          have HK5 : Hid (Keep (fp p g (.slice (some ⟨q, 0, none⟩) L cap)) w (w2.drew.drew.setCells g (x.1 * 512 + f) (bvs ((x.2.drop f).take (t - f))))) :=
            Keep.setCells HK2.out.drew (.inl (.inr (.inl rfl))) _ _
          have HS5 : Hid (Keep (fun b => b = g) w2.drew (w2.drew.drew.setCells g (x.1 * 512 + f) (bvs ((x.2.drop f).take (t - f))))) := Keep.setCells (F := fun b => b = g) (Keep.refl _ _).drew (.inl rfl) _ _
          refine hK.out _ _ HS5.out ?_
          clear hK K
          refine lz_done (by kernel_rfl) ?_
          generalize w2.drew.drew.setCells g (x.1 * 512 + f) (bvs ((x.2.drop f).take (t - f))) = w5 at *
          go_wp2
          go_roundw
          case rel => exact ⟨k + 1, by omega, by go_num, HD5, HK5⟩
          case measure => simp [intOf]; omega
        · have HD5 : Hid (Dsk w2.drew p g (.slice (some ⟨q, 0, none⟩) L cap) (gone s l (k + 1))) := by
            have e : (gone s l k).safe.set x.1 (D.part ((gone s l k).safe.getD x.1 []) x.2 f t) = (gone s l k).safe := by
              unfold D.part
              rw [if_neg hft]
              have e2 : (gone s l k).safe.getD x.1 [] = (gone s l k).safe[x.1]'HP.out := by simp [List.getD, HP.out]
              rw [e2]
              exact List.set_getElem_self HP.out
            rw [HG2.out, e]
            exact HD2.out
          generalize w2.drew = w5 at *
          go_wp2
          go_roundw
          case rel => exact ⟨k + 1, by omega, by go_num, HD5, HK2⟩
          case measure => simp [intOf]; omega
      · obtain rfl : k = M := by omega
        have HD' : Hid (Dsk wr p g (.slice A L cap) { s with safe := D.left s.safe s.waits l }) := by
          have := HD.out
          unfold gone at this
          rw [D.left_min _ _ _ k (by have := HQ.out; have := HN.out; have := HL.out; omega)] at this
          exact this
        have HD6 := Lib.hid (((HD'.out.setc1 (.slice none 0 0) [] (World.ownsRow_nil _ _ _ _) (fun x hx => by simp at hx) (fun x hx => by simp at hx) (by simp [Value.ownBlock]) (by simp [Value.ownBlock])).setc2 (-1) (by decide) (by decide)).setc3 false)
        have c1 := HD'.out.c1
        have c2 := HD'.out.c2
        have c3 := HD'.out.c3
        have f1 := HD'.out.fz 1
        have f2 := HD'.out.fz 2
        have f3 := HD'.out.fz 3
        have HK6 : Hid (Keep (fp p g (.slice A L cap)) w (((wr.setCell ⟨p, 1, none⟩ (.slice none 0 0)).setCell ⟨p, 2, none⟩ (.int .i64 (-1))).setCell ⟨p, 3, none⟩ (.bool false))) := Keep.setCell (p := ⟨p, 3, none⟩) (Keep.setCell (p := ⟨p, 2, none⟩) (Keep.setCell (p := ⟨p, 1, none⟩) HK.out (.inl (.inl rfl)) _) (.inl (.inl rfl)) _) (.inl (.inl rfl)) _
        clear hkl
        first
          | (have hx : ¬ k < N := by have := HM.out; omega)
          | (have hx : ¬ k < L := by have := HM.out; omega)
        go_wp2
        go_end0
        refine ⟨rfl, _, HD6.out, ?_, fun b hb => by simp [Value.ownBlock] at hb⟩
        exact HK6.out
/-- Crash at every row of losses that lies elsewhere. -/
theorem crash_any {w : World} {p g : Nat} {wv : Value} {s : St} (h : Dsk w p g wv s) (lv : Value) (l : List (Int × Int)) (hl : Losses w lv l) (hf : 0 < l.length → ∀ k, lv.ownBlock = some k → ¬ fp p g wv k) :
    Calls Try.prog 18 #[.pointer (some ⟨p, 0, none⟩), lv] w fun e w' => e = .returned (.tuple #[]) ∧ Turned w w' p g wv (D.crash s l) := by
  obtain ⟨B, lc, rfl, hc⟩ := hl
  by_cases hle : l.length ≤ s.waits.length
  · exact crash_core (M := l.length) h ⟨B, lc, rfl, hc⟩ hf (.inl ⟨hle, rfl⟩) ⟨Nat.le_refl _, hle, .inr (Nat.le_refl _)⟩
  · exact crash_core (M := s.waits.length) h ⟨B, lc, rfl, hc⟩ hf (.inr ⟨by omega, rfl⟩) ⟨by omega, Nat.le_refl _, .inl (Nat.le_refl _)⟩
end Go.Proofs.Ytcbiagdpolhbfaa
