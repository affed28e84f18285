/- node.said: an inner node's parts. -/
import Derived.Test.YtceoelemlokelaaHn
namespace Go.Proofs.Ytceoelemlokelaa
open Go.RowKit

theorem kidsI_next (B : List UInt8) (i : Nat) : N.kidsI B (i + 1) = N.kidsI B i ++ [((valL ((B.drop (2 + i * 4)).take 4) : Nat) : Int)] := by simp [N.kidsI, List.range_succ]
theorem keysI_next (B : List UInt8) (a i k : Nat) : N.keysI B a (i + 1) k = N.keysI B a i k ++ [(B.drop (a + i * k)).take k] := by simp [N.keysI, List.range_succ]
set_option maxHeartbeats 3200000 in
theorem nsaid_inner (w : World) (lb b0 c d k : Nat) (v : Int) (B : List UInt8) (hB : Hid (2 + c * 4 + d * k ≤ B.length)) (hBm : Hid (B.length ≤ 1000)) (hc : c ≤ 498) (hcd : c = d + 1) (hk : k ≤ 24) (HL : Hid (Lf w lb b0 (B.drop 2))) (l1 : Hid (lb < w.heap.size)) (l2 : Hid (b0 < w.heap.size)) :
    Calls Try.prog 34 #[.func (Fn.func 43) #[] #[.pointer (some ⟨lb, 0, none⟩)], .int .u8 4, .int .i64 (c : Int), .int .i64 (k : Int), .int .i64 v] w fun e w' =>
      ∃ kv vv pv, e = .returned (nodv false kv vv pv) ∧ (∀ W, Keep (fun i => i < w.heap.size) w' W → NV W kv vv pv ⟨false, N.keysI B (2 + c * 4) d k, [], N.kidsI B c⟩) ∧ Keep (fun k => k = lb) w w' := by
  obtain ⟨i0, hi0, hz0, hz1, hz2⟩ := info_parts Try.info29
  obtain ⟨j0, hj0, hy0, hy1, hy2⟩ := info_parts Try.info63
  have hcd1 : (c : Int) - 1 = (d : Int) := by omega
  clear hcd
  have HS0 : Hid (Sd w ((w.alloc (.cells #[.bool false, .slice none 0 0, .slice none 0 0, .slice none 0 0] 28)).alloc (.cells #[.bool false, .slice none 0 0, .slice none 0 0, .slice none 0 0] 28)) lb b0 false (.slice none 0 0) (.slice none 0 0) (.slice none 0 0) [] [] [] [] [] (B.drop 2)) := by
    have e1 : (w.alloc (.cells #[.bool false, .slice none 0 0, .slice none 0 0, .slice none 0 0] 28)).heap.size = w.heap.size + 1 := World.size_alloc _ _
    have g := Gx.made (w.alloc (.cells #[.bool false, .slice none 0 0, .slice none 0 0, .slice none 0 0] 28)) 28 29 false (w.heap.size + 2) (by rw [e1])
    rw [e1] at g
    have hb := bal (alb (w := w) (.cells #[.bool false, .slice none 0 0, .slice none 0 0, .slice none 0 0] 28)) (.cells #[.bool false, .slice none 0 0, .slice none 0 0, .slice none 0 0] 28)
    refine ⟨g, ?_, Els.nil _ _, Els.nil _ _, HL.out.below hb, Keep.of_below hb, l1.out, l2.out⟩
    refine ((alb _).block _ (by rw [e1]; omega)).trans ?_
    show (w.heap.push _)[w.heap.size]? = _
    simp
  go_enter Try.func34, Try.ntmps34
  go_wp2_with fail
  generalize (w.alloc (.cells #[.bool false, .slice none 0 0, .slice none 0 0, .slice none 0 0] 28)).alloc (.cells #[.bool false, .slice none 0 0, .slice none 0 0, .slice none 0 0] 28) = w1 at *
  go_loopg [39] c (fun g s39 wr => ∃ (i : Nat) (pv : Value), s39 = .int .i64 (i : Int) ∧ i ≤ c ∧ c - i ≤ g ∧ Hid (Sd w wr lb b0 false (.slice none 0 0) (.slice none 0 0) pv [] [] [] [] (N.kidsI B i) (B.drop (2 + i * 4))))
  case atStart => exact ⟨0, _, rfl, by omega, by omega, by simpa [N.kidsI] using HS0⟩
  case round =>
    obtain ⟨i, pv, rfl, h1, h2, HS⟩ := hrel
    clear HS0
    by_cases hi : i < c
    · have hz : (i : Int) < (c : Int) := by omega
      have hroom : Hid (2 + i * 4 + 4 ≤ B.length) := by
        have := hB.out
        show _ ≤ _
        omega
      obtain ⟨kv, hkv⟩ : ∃ kv, kv = Value.slice none 0 0 := ⟨_, rfl⟩
      obtain ⟨vv, hvv⟩ : ∃ vv, vv = Value.slice none 0 0 := ⟨_, rfl⟩
      have HKV := Lib.hid hkv
      have HVV := Lib.hid hvv
      have HSg : Hid (Sd w wr lb b0 false kv vv pv [] [] [] [] (N.kidsI B i) (B.drop (2 + i * 4))) := by
        rw [hkv, hvv]
        exact HS
      clear HS hkv hvv
      go_wp2_with fail
      have HNB : Hid (∀ W', Keep (fun i => i = lb ∨ pv.ownBlock = some i) wr W' → Nb W' (w.heap.size + 1) false kv vv pv) := HSg.out.nbs (fun i q => HSg.out.far2 i q)
      have hS : Hid (Keep (fun i => i = lb ∨ pv.ownBlock = some i) wr wr.drew) := (Keep.refl _ _).drew
      refine lz_start 9 8 (fun W' => Keep (fun i => i = lb ∨ pv.ownBlock = some i) wr W') rfl (by kernel_rfl) ?_
      refine lz_take 0 41 (v := ?_) rfl rfl (by kernel_rfl) (by kernel_rfl) (by kernel_rfl) (by kernel_rfl) (fun _ _ _ _ _ h => h) (by rfl) hS.out (fun W hW => ?_) ?_
      rotate_left
      · obtain ⟨q0, q1, q2, q3⟩ := HNB.out _ hW; go_simp; try rfl
      try simp only [Act.put, List.setIfInBounds_toArray, List.set_cons_zero, List.set_cons_succ]
      refine lz_take 1 42 (v := ?_) rfl rfl (by kernel_rfl) (by kernel_rfl) (by kernel_rfl) (by kernel_rfl) (fun _ _ _ _ _ h => h) (by rfl) hS.out (fun W hW => ?_) ?_
      rotate_left
      · obtain ⟨q0, q1, q2, q3⟩ := HNB.out _ hW; go_simp; try rfl
      try simp only [Act.put, List.setIfInBounds_toArray, List.set_cons_zero, List.set_cons_succ]
      refine lz_take 2 43 (v := ?_) rfl rfl (by kernel_rfl) (by kernel_rfl) (by kernel_rfl) (by kernel_rfl) (fun _ _ _ _ _ h => h) (by rfl) hS.out (fun W hW => ?_) ?_
      rotate_left
      · go_simp; try rfl
      try simp only [Act.put, List.setIfInBounds_toArray, List.set_cons_zero, List.set_cons_succ]
      have HS1 := Lib.hid (HSg.out.below (Below.refl _ wr).drew)
      have hsz := HS1.out.size
      have k1 : Hid (Keep (fun i => i = lb ∨ pv.ownBlock = some i) wr wr.drew) := hS.out
      clear hS HNB
      generalize wr.drew = u at *
      refine lz_op 3 rfl rfl (by kernel_rfl) (fun K hK => ?_)
      go_simp
      refine (ntake1_any u lb b0 4 _ HS1.out.lf (by rw [List.length_drop]; have := hroom.out; omega) (by rw [List.length_drop]; have := hBm.out; omega)).mono ?_
      rintro e w2 ⟨rfl, hbk, hlf, hkp⟩
      have HS2 := Lib.hid (HS1.out.keep hlf hkp)
      have HBK := Lib.hid hbk
      have k2 : Hid (Keep (fun i => i = lb ∨ pv.ownBlock = some i) wr w2) := k1.out.trans hkp (fun i q => .inl (.inl q))
      refine hK.out _ _ k2.out ?_
      clear hK K hbk hlf hkp k1 HS1
      generalize u.heap.size = g2 at *
      try simp only [Act.put, List.setIfInBounds_toArray, List.set_cons_zero, List.set_cons_succ]
      refine lz_op 4 rfl rfl (by kernel_rfl) (fun K hK => ?_)
      go_simp
      have hl4 : ((B.drop (2 + i * 4)).take 4).length = 4 := (by rw [List.length_take, List.length_drop]; have := hroom.out; omega)
      have hby : Byts w2 (.slice (some ⟨g2, 0, none⟩) 4 4) ((B.drop (2 + i * 4)).take 4) := by
        have := HBK.out.byts
        rw [hl4] at this
        exact this
      refine (nnumber_core w2 g2 0 4 4 _ (by omega) (Lib.hid hl4) (Lib.hid hby)).mono ?_
      rintro e w3 ⟨rfl, rfl⟩
      refine hK.out _ _ k2.out ?_
      clear hK K hby hl4 HBK
      obtain ⟨z, hz4⟩ : ∃ z, z = valL ((B.drop (2 + i * 4)).take 4) := ⟨_, rfl⟩
      rw [← hz4]
      have HZ := Lib.hid hz4
      clear hz4
      try simp only [Act.put, List.setIfInBounds_toArray, List.set_cons_zero, List.set_cons_succ]
      refine lz_op 5 rfl rfl (by kernel_rfl) (fun K hK => ?_)
      go_simp
      refine hK.out _ _ (k2.out.alloc _) ?_
      clear hK K
      try simp only [Act.put, List.setIfInBounds_toArray, List.set_cons_zero, List.set_cons_succ]
      refine lz_op 6 rfl rfl (by kernel_rfl) (fun K hK => ?_)
      refine wp_append_own2 _ _ 26 rfl 63 j0 _ 1 4 Try.underlying26 hj0 hy0 hy1 hy2 rfl (by decide) pv (us (N.kidsI B i)).length (us (N.kidsI B i)) rfl (HS2.out.gx.o2.alloc _) ⟨w2.heap.size, 0, none⟩ 1 1 [.int .u32 (z : Int)] rfl rfl ?c2 ?c3 ?c4 ?c5 ?_
      case c2 =>
        intro j y hj
        have hjz : j = 0 := by
          have := (List.getElem?_eq_some_iff.1 hj).1
          simp at this
          omega
        subst hjz
        simp at hj
        rw [← hj]
        exact (Boxed.new _ _ _).cell
      case c3 =>
        intro y hy
        rw [List.mem_singleton.1 hy]
        rfl
      case c4 => rw [us_length, N.len_kidsI]; unfold maxLen; omega
      case c5 => rw [us_length, N.len_kidsI]; omega
      intro v5 w5 ho5 hg5 hf5
      obtain ⟨g5, cap5, rfl⟩ := ownsRow_succ ho5
      have k5 : Hid (Keep (fun i => i = lb ∨ pv.ownBlock = some i) wr w5) := (k2.out.alloc _).grown hg5 (fun k hk => .inl (.inr hk))
      obtain ⟨nb5, fz5, hs5⟩ := HS2.out.kid (z := (z : Int)) hg5 (by rw [List.length_append]; exact ho5) hf5
      have f5 := fz5 3
      obtain ⟨q0, q1, q2, q3⟩ := nb5
      have HS5 := Lib.hid hs5
      refine hK.out _ _ k5.out ?_
      have hS := k5
      clear hK K ho5 hg5 hf5 fz5 hs5 k2 k5
      show Lz _ _ _ _ _ _ _ (Act.put _ (some 47) _) _
      try simp only [Act.put, List.setIfInBounds_toArray, List.set_cons_zero, List.set_cons_succ]
      refine lz_take 7 48 (v := ?_) rfl rfl (by kernel_rfl) (by kernel_rfl) (by kernel_rfl) (by kernel_rfl) (fun _ _ _ _ _ h => h) (by rfl) hS.out (fun W hW => ?_) ?_
      rotate_left
      · go_simp; try rfl
      try simp only [Act.put, List.setIfInBounds_toArray, List.set_cons_zero, List.set_cons_succ]
      refine lz_end rfl rfl (by kernel_rfl) (by kernel_rfl) (fun K hK => ?_)
      go_simp
      refine hK.out _ _ ?_
      clear hK K hS q0 q1 q2 q3 f5 HS2
      generalize w5.setCell ⟨w.heap.size + 1, 3, none⟩ (.slice (some ⟨g5, 0, none⟩) ((us (N.kidsI B i)).length + 1) cap5) = w6 at *
      generalize Value.slice (some ⟨g5, 0, none⟩) ((us (N.kidsI B i)).length + 1) cap5 = pv5 at *
      have HSK : Hid (Sd w w6 lb b0 false (.slice none 0 0) (.slice none 0 0) pv5 [] [] [] [] (N.kidsI B (i + 1)) (B.drop (2 + (i + 1) * 4))) := by
        have := HS5.out
        rw [List.drop_drop, HKV.out, HVV.out, HZ.out] at this
        rw [kidsI_next, Nat.add_mul i 1, Nat.one_mul, ← Nat.add_assoc]
        exact this
      clear HS5 HSg
      go_wp2
      go_roundg (c - (i + 1))
      case measure => omega
      case rel => exact ⟨i + 1, _, by go_num, by omega, by omega, HSK⟩
    · have hz : ¬ (i : Int) < (c : Int) := by omega
      obtain rfl : i = c := by omega
      clear hz hi h2 h1
      go_wp2_with fail
      generalize hpL : B.drop (2 + i * 4) = BL at *
      have HBL := Lib.hid hpL
      clear hpL
      generalize hps : N.kidsI B i = ps at *
      have HPS := Lib.hid hps
      clear hps
      go_loopg [52] d (fun g s52 wr => ∃ (j : Nat) (kv : Value) (xs : List Value), s52 = .int .i64 (j : Int) ∧ j ≤ d ∧ d - j ≤ g ∧ Hid (Sd w wr lb b0 false kv (.slice none 0 0) pv xs [] (N.keysI B (2 + i * 4) j k) [] ps (B.drop (2 + i * 4 + j * k))))
      case atStart => exact ⟨0, _, [], rfl, by omega, by omega, by rw [Nat.zero_mul, Nat.add_zero, HBL.out]; exact HS⟩
      case round =>
        obtain ⟨j, kv, xs, rfl, j1, j2, HS2⟩ := hrel
        clear HS
        by_cases hj : j < d
        · have hz : (j : Int) < (d : Int) := by omega
          have hroom : Hid (2 + i * 4 + j * k + k ≤ B.length) := by
            have a1 : (j + 1) * k ≤ d * k := Nat.mul_le_mul_right _ (by omega)
            have a2 : (j + 1) * k = j * k + k := by rw [Nat.add_mul, Nat.one_mul]
            have := hB.out
            show _ ≤ _
            omega
          obtain ⟨vv, hvv⟩ : ∃ vv, vv = Value.slice none 0 0 := ⟨_, rfl⟩
          have HVV := Lib.hid hvv
          have HSg : Hid (Sd w wr lb b0 false kv vv pv xs [] (N.keysI B (2 + i * 4) j k) [] ps (B.drop (2 + i * 4 + j * k))) := by
            rw [hvv]
            exact HS2
          clear HS2 hvv
          go_wp2_with fail
          have HNB : Hid (∀ W', Keep (fun i => i = lb ∨ kv.ownBlock = some i) wr W' → Nb W' (w.heap.size + 1) false kv vv pv) := HSg.out.nbs (fun i q => HSg.out.far0 i q)
          have hS : Hid (Keep (fun i => i = lb ∨ kv.ownBlock = some i) wr wr.drew) := (Keep.refl _ _).drew
          refine lz_start 9 8 (fun W' => Keep (fun i => i = lb ∨ kv.ownBlock = some i) wr W') rfl (by kernel_rfl) ?_
          refine lz_take 0 54 (v := ?_) rfl rfl (by kernel_rfl) (by kernel_rfl) (by kernel_rfl) (by kernel_rfl) (fun _ _ _ _ _ h => h) (by rfl) hS.out (fun W hW => ?_) ?_
          rotate_left
          · obtain ⟨q0, q1, q2, q3⟩ := HNB.out _ hW; go_simp; try rfl
          try simp only [Act.put, List.setIfInBounds_toArray, List.set_cons_zero, List.set_cons_succ]
          refine lz_take 1 55 (v := ?_) rfl rfl (by kernel_rfl) (by kernel_rfl) (by kernel_rfl) (by kernel_rfl) (fun _ _ _ _ _ h => h) (by rfl) hS.out (fun W hW => ?_) ?_
          rotate_left
          · obtain ⟨q0, q1, q2, q3⟩ := HNB.out _ hW; go_simp; try rfl
          try simp only [Act.put, List.setIfInBounds_toArray, List.set_cons_zero, List.set_cons_succ]
          refine lz_take 2 56 (v := ?_) rfl rfl (by kernel_rfl) (by kernel_rfl) (by kernel_rfl) (by kernel_rfl) (fun _ _ _ _ _ h => h) (by rfl) hS.out (fun W hW => ?_) ?_
          rotate_left
          · go_simp; try rfl
          try simp only [Act.put, List.setIfInBounds_toArray, List.set_cons_zero, List.set_cons_succ]
          refine lz_take 3 57 (v := ?_) rfl rfl (by kernel_rfl) (by kernel_rfl) (by kernel_rfl) (by kernel_rfl) (fun _ _ _ _ _ h => h) (by rfl) hS.out (fun W hW => ?_) ?_
          rotate_left
          · go_simp; try rfl
          try simp only [Act.put, List.setIfInBounds_toArray, List.set_cons_zero, List.set_cons_succ]
          have HS1 := Lib.hid (HSg.out.below (Below.refl _ wr).drew)
          have hsz := HS1.out.size
          have k1 : Hid (Keep (fun i => i = lb ∨ kv.ownBlock = some i) wr wr.drew) := hS.out
          clear hS HNB
          generalize wr.drew = u at *
          refine lz_op 4 rfl rfl (by kernel_rfl) (fun K hK => ?_)
          go_simp
          refine (ntake1_any u lb b0 k _ HS1.out.lf (by rw [List.length_drop]; have := hroom.out; omega) (by rw [List.length_drop]; have := hBm.out; omega)).mono ?_
          rintro e w2 ⟨rfl, hbk, hlf, hkp⟩
          have HS2 := Lib.hid (HS1.out.keep hlf hkp)
          have HBK := Lib.hid hbk
          have k2 : Hid (Keep (fun i => i = lb ∨ kv.ownBlock = some i) wr w2) := k1.out.trans hkp (fun i q => .inl (.inl q))
          refine hK.out _ _ k2.out ?_
          clear hK K hbk hlf hkp k1 HS1
          generalize u.heap.size = g2 at *
          try simp only [Act.put, List.setIfInBounds_toArray, List.set_cons_zero, List.set_cons_succ]
          refine lz_op 5 rfl rfl (by kernel_rfl) (fun K hK => ?_)
          go_simp
          refine hK.out _ _ (k2.out.alloc _) ?_
          clear hK K
          try simp only [Act.put, List.setIfInBounds_toArray, List.set_cons_zero, List.set_cons_succ]
          refine lz_op 6 rfl rfl (by kernel_rfl) (fun K hK => ?_)
          refine wp_append_own2 _ _ 25 rfl 29 i0 _ 1 24 Try.underlying25 hi0 hz0 hz1 hz2 rfl (by decide) kv xs.length xs rfl (HS2.out.gx.o0.alloc _) ⟨w2.heap.size, 0, none⟩ 1 1 [.slice (some ⟨g2, 0, none⟩) k k] rfl rfl ?c2 ?c3 ?c4 ?c5 ?_
          case c2 =>
            intro j y hj
            have hj0 : j = 0 := by
              have := (List.getElem?_eq_some_iff.1 hj).1
              simp at this
              omega
            subst hj0
            simp at hj
            rw [← hj]
            exact (Boxed.new _ _ _).cell
          case c3 =>
            intro y hy
            rw [List.mem_singleton.1 hy]
            rfl
          case c4 => rw [HSg.out.e0.1, N.len_keysI]; unfold maxLen; omega
          case c5 => rw [HSg.out.e0.1, N.len_keysI]; omega
          intro v5 w5 ho5 hg5 hf5
          obtain ⟨g5, cap5, rfl⟩ := ownsRow_succ ho5
          have k5 : Hid (Keep (fun i => i = lb ∨ kv.ownBlock = some i) wr w5) := (k2.out.alloc _).grown hg5 (fun k hk => .inl (.inr hk))
          obtain ⟨nb5, fz5, hs5⟩ := HS2.out.key (n := k) HBK.out (by rw [List.length_take, List.length_drop]; have := hroom.out; omega) (by omega) hg5 (by rw [List.length_append]; exact ho5) hf5
          have f5 := fz5 1
          obtain ⟨q0, q1, q2, q3⟩ := nb5
          have HS5 := Lib.hid hs5
          refine hK.out _ _ k5.out ?_
          have hS := k5
          clear hK K ho5 hg5 hf5 fz5 hs5 k2 k5
          show Lz _ _ _ _ _ _ _ (Act.put _ (some 60) _) _
          try simp only [Act.put, List.setIfInBounds_toArray, List.set_cons_zero, List.set_cons_succ]
          refine lz_take 7 61 (v := ?_) rfl rfl (by kernel_rfl) (by kernel_rfl) (by kernel_rfl) (by kernel_rfl) (fun _ _ _ _ _ h => h) (by rfl) hS.out (fun W hW => ?_) ?_
          rotate_left
          · go_simp; try rfl
          try simp only [Act.put, List.setIfInBounds_toArray, List.set_cons_zero, List.set_cons_succ]
          refine lz_end rfl rfl (by kernel_rfl) (by kernel_rfl) (fun K hK => ?_)
          go_simp
          refine hK.out _ _ ?_
          clear hK K hS q0 q1 q2 q3 f5 HBK HS2
          generalize w5.setCell ⟨w.heap.size + 1, 1, none⟩ (.slice (some ⟨g5, 0, none⟩) (xs.length + 1) cap5) = w6 at *
          generalize Value.slice (some ⟨g5, 0, none⟩) (xs.length + 1) cap5 = kv5 at *
          have HSK : Hid (Sd w w6 lb b0 false kv5 (.slice none 0 0) pv (xs ++ [Value.slice (some ⟨g2, 0, none⟩) k k]) [] (N.keysI B (2 + i * 4) (j + 1) k) [] ps (B.drop (2 + i * 4 + (j + 1) * k))) := by
            have := HS5.out
            rw [List.drop_drop, HVV.out] at this
            rw [keysI_next, Nat.add_mul j 1, Nat.one_mul, ← Nat.add_assoc]
            exact this
          clear HS5 HSg
          go_wp2
          go_roundg (d - (j + 1))
          case measure => omega
          case rel => exact ⟨j + 1, _, _, by go_num, by omega, by omega, HSK⟩
        · have hz : ¬ (j : Int) < (d : Int) := by omega
          obtain rfl : j = d := by omega
          obtain ⟨q0, q1, q2, q3⟩ := HS2.out.gx.nb
          obtain ⟨r0, r1, r2, r3⟩ : Nb wr w.heap.size false (.slice none 0 0) (.slice none 0 0) (.slice none 0 0) := ⟨by rw [cell_of_heap HS2.out.rb]; rfl, by rw [cell_of_heap HS2.out.rb]; rfl, by rw [cell_of_heap HS2.out.rb]; rfl, by rw [cell_of_heap HS2.out.rb]; rfl⟩
          have fr := fun j => frozen_of_heap HS2.out.rb j
          have fr0 := fr 0
          have fr1 := fr 1
          have fr2 := fr 2
          have fr3 := fr 3
          obtain ⟨A1, d1, rfl, _⟩ := HS2.out.e0.brs HS2.out.gx.o0
          obtain ⟨A3, d3, rfl, _⟩ : Nums wr pv ps := Nums.own (base := 0) (by have := HS2.out.gx.o2; rw [us_length] at this; exact this)
          clear fr
          go_wp2_with fail
          have hz1 := heap_set (heap_set (heap_set (heap_set HS2.out.rb 0 (.bool false)) 1 (.slice A1 (N.keysI B (2 + i * 4) j k).length d1)) 2 (.slice none 0 0)) 3 (.slice A3 ps.length d3)
          have HFIN := Lib.hid (HS2.out.fin (.bool false) (.slice A1 (N.keysI B (2 + i * 4) j k).length d1) (.slice none 0 0) (.slice A3 ps.length d3))
          generalize (((wr.setCell ⟨w.heap.size, 0, none⟩ (.bool false)).setCell ⟨w.heap.size, 1, none⟩ (.slice A1 (N.keysI B (2 + i * 4) j k).length d1)).setCell ⟨w.heap.size, 2, none⟩ (.slice none 0 0)).setCell ⟨w.heap.size, 3, none⟩ (.slice A3 ps.length d3) = wf at *
          have z0 := cell_of_heap hz1 0
          have z1 := cell_of_heap hz1 1
          have z2 := cell_of_heap hz1 2
          have z3 := cell_of_heap hz1 3
          simp at z0 z1 z2 z3
          refine bodyPost_ret (v := .agg #[.bool false, .slice A1 (N.keysI B (2 + i * 4) j k).length d1, .slice none 0 0, .slice A3 ps.length d3]) (by simp [results, Try.results34, go_sem, z0, z1, z2, z3]) rfl ⟨_, _, _, rfl, ?_, HFIN.out.2⟩
          rw [HPS.out]
          exact HFIN.out.1
end Go.Proofs.Ytceoelemlokelaa
