/- The document's own Read, of inner nodes. -/
import Derived.Test.YtceoelemlokelaaHw
namespace Go.Proofs.Ytceoelemlokelaa
open Go.RowKit

set_option maxRecDepth 100000 in
set_option maxHeartbeats 12800000 in
theorem refread_inner (w : World) (n k v : Nat) (a bb : Int) (l : List UInt8) (RN : N.Nd) (RE : Nat) (hn2 : 2 ≤ n) (hn5 : n ≤ 500) (hk1 : 1 ≤ k) (hk : k ≤ 24) (HL : Hid (l.length = n)) (ha0 : a ≠ 0)
    (HNQ : Hid (N.readOK 4 l k v = false → RN = N.zero ∧ RE = 2)) (HYQ : Hid (N.readOK 4 l k v = true → RN = N.parse false l (N.count l) k v ∧ RE = 0))
    (C0 : Hid (∀ W, Calls Try.prog 8 #[.int .i64 (k : Int), .int .i64 (v : Int)] W fun e w' => e = .returned (.tuple #[.int .i64 a, .int .i64 bb]) ∧ Below W.heap.size W w')) :
    Calls Try.prog 18 #[.int .u8 4, .string (str l), .int .i64 (k : Int), .int .i64 (v : Int)] w fun e w' => ∃ kv vv pv, e = .returned (.tuple #[nodv RN.leaf kv vv pv, .int .i64 (RE : Int)]) ∧ RV w' kv vv pv RN ∧ Below w.heap.size w w' := by
  obtain ⟨i0, hi0, hz0, hz1, hz2⟩ := info_parts Try.info9
  obtain ⟨j0, hj0, hy0, hy1, hy2⟩ := info_parts Try.info63
  obtain ⟨sl, hsl⟩ : ∃ sl, sl = str l := ⟨_, rfl⟩
  have hsz : sl.size = n := by rw [hsl, str_size]; exact HL.out
  have GX : Hid (∀ j (h : j < sl.size), ((sl[j]).toNat : Nat) = (l.getD j 0).toNat) := fun j h => by
    subst hsl
    rw [str_size] at h
    simp [str, List.getD, h]
    rfl
  rw [← hsl]
  have HSL := Lib.hid hsl
  clear hsl
  have hct := count_at l (by rw [HL.out]; exact hn2)
  have g0 := GX.out 0 (by omega)
  have g1 := GX.out 1 (by omega)
  obtain ⟨x0, hx0⟩ : ∃ x, x = (l.getD 0 0).toNat := ⟨_, rfl⟩
  obtain ⟨x1, hx1⟩ : ∃ x, x = (l.getD 1 0).toNat := ⟨_, rfl⟩
  have hx08 : x0 < 256 := by rw [hx0]; exact (l.getD 0 0).toNat_lt
  have hx18 : x1 < 256 := by rw [hx1]; exact (l.getD 1 0).toNat_lt
  rw [← hx0] at g0 hct
  rw [← hx1] at g1 hct
  obtain ⟨ct, hc⟩ : ∃ ct, ct = N.count l := ⟨_, rfl⟩
  have hcz : (x0 : Int) * 256 + (x1 : Int) = (ct : Int) := by rw [hc, hct]; omega
  have hctm : ct < 65536 := by rw [hc, hct]; omega
  have HCT := Lib.hid hc
  rw [← hc] at HYQ
  clear hx0 hx1 hct hc GX
  have ga : (a == 0) = false := by simpa using ha0
  clear ha0
  have g2 : ¬ (n : Int) < 2 := by omega
  have g3 : ¬ 500 < (n : Int) := by omega
  have HRZ0 : Hid ((w.alloc (.cells #[.bool false, .slice none 0 0, .slice none 0 0, .slice none 0 0] 38)).heap[w.heap.size]? = some (.cells #[.bool false, .slice none 0 0, .slice none 0 0, .slice none 0 0] 38 (0, 0))) := heap_new _ _
  have HA : Hid (Below w.heap.size w (w.alloc (.cells #[.bool false, .slice none 0 0, .slice none 0 0, .slice none 0 0] 38))) := alb _
  go_enter Try.func18, Try.ntmps18
  go_wp2_with fail
  generalize w.alloc (.cells #[.bool false, .slice none 0 0, .slice none 0 0, .slice none 0 0] 38) = w1 at *
  refine (C0.out w1).mono ?_
  rintro e w3 ⟨rfl, hb3⟩
  have HB3 : Hid (Below w.heap.size w w3) := btr HA.out hb3
  have HRZ3 : Hid (w3.heap[w.heap.size]? = some (.cells #[.bool false, .slice none 0 0, .slice none 0 0, .slice none 0 0] 38 (0, 0))) := (hb3.block _ (Array.getElem?_eq_some_iff.1 HRZ0.out).1).trans HRZ0.out
  clear hb3 C0 HA HRZ0
  go_wp2_with fail
  go_quiet (fail)
  have HB4 : Hid (Below w.heap.size w (w3.drewN nq)) := bdn HB3.out nq
  have HRZ4 : Hid ((w3.drewN nq).heap[w.heap.size]? = some (.cells #[.bool false, .slice none 0 0, .slice none 0 0, .slice none 0 0] 38 (0, 0))) := HRZ3.out
  clear HB3 HRZ3
  generalize w3.drewN nq = w4 at *
  have HS0 : Hid (Qd w (w4.alloc (.cells #[.bool false, .slice none 0 0, .slice none 0 0, .slice none 0 0] 38)) w4.heap.size false (.slice none 0 0) (.slice none 0 0) (.slice none 0 0) [] [] []) := by
    have hlt : w.heap.size < w4.heap.size := (Array.getElem?_eq_some_iff.1 HRZ4.out).1
    exact ⟨Gx.made w4 38 9 false (w4.heap.size + 1) rfl, ((alb _).block _ hlt).trans HRZ4.out, bal HB4.out _, hlt⟩
  go_wp2_with fail
  generalize w4.alloc (.cells #[.bool false, .slice none 0 0, .slice none 0 0, .slice none 0 0] 38) = w5 at *
  generalize w4.heap.size = b at *
  clear HB4 HRZ4
  go_loopg [14, 16] ct (fun g s14 s16 wr => ∃ (i at_ : Nat) (kv vv pv : Value), s16 = .int .i64 (i : Int) ∧ i ≤ ct ∧ ct - i ≤ g ∧ s14 = .int .i64 (at_ : Int) ∧ at_ ≤ n ∧ Hid (at_ = 2 + i * 4) ∧ Hid (Qd w wr b false kv vv pv [] [] (N.kidsI l i)))
  case atStart => exact ⟨0, 2, _, _, _, rfl, by omega, by omega, rfl, by omega, by show 2 = _; omega, by simpa [N.kidsI] using HS0⟩
  case round =>
    obtain ⟨i, at_, kv, vv, pv, rfl, h1, h2, rfl, h3, EA, HS⟩ := hrel
    clear HS0
    obtain ⟨e1, he1⟩ : ∃ e, e = at_ + 4 := ⟨_, rfl⟩
    have ha1 : (at_ : Int) + 4 = (e1 : Int) := by omega
    have hw1 := wrap_i64_nat e1 (by omega)
    have HE1 := Lib.hid he1
    clear he1
    have hcase : (i < ct ∧ e1 ≤ n) ∨ ((i < ct ∧ ¬ e1 ≤ n) ∨ ¬ i < ct) := by omega
    rcases hcase with ⟨hi, hf⟩ | hx
    · have hz : (i : Int) < (ct : Int) := by omega
      have hf2 : (e1 : Int) ≤ (n : Int) := by omega
      have hx1 : sl.extract at_ e1 = str ((l.drop at_).take 4) := by
        rw [HSL.out, str_extract, HE1.out, Nat.add_sub_cancel_left]
      have hl1 : at_ ≤ e1 := by have := HE1.out; omega
      have hl1z : (at_ : Int) ≤ (e1 : Int) := by omega
      have hle1 : Hid (i ≤ 65536) := by show i ≤ 65536; omega
      have HNUM := Lib.hid (fun W => number_any ((l.drop at_).take 4) (by rw [List.length_take]; omega) W)
      obtain ⟨sx, hsx⟩ : ∃ sx, sx = str ((l.drop at_).take 4) := ⟨_, rfl⟩
      obtain ⟨x, hxv⟩ : ∃ x, x = valL ((l.drop at_).take 4) := ⟨_, rfl⟩
      rw [← hsx] at hx1 HNUM
      rw [← hxv] at HNUM
      have HXV := Lib.hid hxv
      clear hsx hxv
      go_wp2_with fail
      have HFAR := Lib.hid HS.out.far2
      have hS : Hid (Keep (fun i => pv.ownBlock = some i) wr wr.drew) := (Keep.refl _ _).drew
      refine lz_start 12 11 (fun W' => Keep (fun i => pv.ownBlock = some i) wr W') rfl (by kernel_rfl) ?_
      refine lz_take 0 119 (v := ?_) rfl rfl (by kernel_rfl) (by kernel_rfl) (by kernel_rfl) (by kernel_rfl) (fun _ _ _ _ _ h => h) (by rfl) hS.out (fun W hW => ?_) ?_
      rotate_left
      · obtain ⟨o0, o1, o2, o3⟩ := HFAR.out _ hW; go_simp; try rfl
      try simp only [Act.put, List.setIfInBounds_toArray, List.set_cons_zero, List.set_cons_succ]
      refine lz_take 1 120 (v := ?_) rfl rfl (by kernel_rfl) (by kernel_rfl) (by kernel_rfl) (by kernel_rfl) (fun _ _ _ _ _ h => h) (by rfl) hS.out (fun W hW => ?_) ?_
      rotate_left
      · obtain ⟨o0, o1, o2, o3⟩ := HFAR.out _ hW; go_simp; try rfl
      try simp only [Act.put, List.setIfInBounds_toArray, List.set_cons_zero, List.set_cons_succ]
      refine lz_take 2 121 (v := ?_) rfl rfl (by kernel_rfl) (by kernel_rfl) (by kernel_rfl) (by kernel_rfl) (fun _ _ _ _ _ h => h) (by rfl) hS.out (fun W hW => ?_) ?_
      rotate_left
      · obtain ⟨o0, o1, o2, o3⟩ := HFAR.out _ hW; go_simp; try rfl
      try simp only [Act.put, List.setIfInBounds_toArray, List.set_cons_zero, List.set_cons_succ]
      refine lz_take 3 122 (v := ?_) rfl rfl (by kernel_rfl) (by kernel_rfl) (by kernel_rfl) (by kernel_rfl) (fun _ _ _ _ _ h => h) (by rfl) hS.out (fun W hW => ?_) ?_
      rotate_left
      · obtain ⟨o0, o1, o2, o3⟩ := HFAR.out _ hW; go_simp; try rfl
      try simp only [Act.put, List.setIfInBounds_toArray, List.set_cons_zero, List.set_cons_succ]
      refine lz_take 4 123 (v := ?_) rfl rfl (by kernel_rfl) (by kernel_rfl) (by kernel_rfl) (by kernel_rfl) (fun _ _ _ _ _ h => h) (by rfl) hS.out (fun W hW => ?_) ?_
      rotate_left
      · obtain ⟨o0, o1, o2, o3⟩ := HFAR.out _ hW; go_simp; try rfl
      try simp only [Act.put, List.setIfInBounds_toArray, List.set_cons_zero, List.set_cons_succ]
      refine lz_take 5 124 (v := ?_) rfl rfl (by kernel_rfl) (by kernel_rfl) (by kernel_rfl) (by kernel_rfl) (fun _ _ _ _ _ h => h) (by rfl) hS.out (fun W hW => ?_) ?_
      rotate_left
      · obtain ⟨o0, o1, o2, o3⟩ := HFAR.out _ hW; go_simp; try rfl
      try simp only [Act.put, List.setIfInBounds_toArray, List.set_cons_zero, List.set_cons_succ]
      refine lz_take 6 125 (v := ?_) rfl rfl (by kernel_rfl) (by kernel_rfl) (by kernel_rfl) (by kernel_rfl) (fun _ _ _ _ _ h => h) (by rfl) hS.out (fun W hW => ?_) ?_
      rotate_left
      · obtain ⟨o0, o1, o2, o3⟩ := HFAR.out _ hW; go_simp; try rfl
      try simp only [Act.put, List.setIfInBounds_toArray, List.set_cons_zero, List.set_cons_succ]
      have HS1 := Lib.hid (HS.out.below (Below.refl _ wr).drew)
      have hsz := HS1.out.size
      have k2 := hS
      clear hS
      generalize wr.drew = u at *
      refine lz_op 7 rfl rfl (by kernel_rfl) (fun K hK => ?_)
      go_simp
      refine (HNUM.out u).mono ?_
      rintro e u2 ⟨rfl, rfl⟩
      refine hK.out _ _ k2.out ?_
      clear hK K
      try simp only [Act.put, List.setIfInBounds_toArray, List.set_cons_zero, List.set_cons_succ]
      refine lz_op 8 rfl rfl (by kernel_rfl) (fun K hK => ?_)
      go_simp
      refine hK.out _ _ (k2.out.alloc _) ?_
      clear hK K
      try simp only [Act.put, List.setIfInBounds_toArray, List.set_cons_zero, List.set_cons_succ]
      refine lz_op 9 rfl rfl (by kernel_rfl) (fun K hK => ?_)
      refine wp_append_own2 _ _ 26 rfl 63 j0 _ 1 4 Try.underlying26 hj0 hy0 hy1 hy2 rfl (by decide) pv (us (N.kidsI l i)).length (us (N.kidsI l i)) rfl (HS1.out.gx.o2.alloc _) ⟨u.heap.size, 0, none⟩ 1 1 [.int .u32 (x : Int)] rfl rfl ?c2 ?c3 ?c4 ?c5 ?_
      case c2 =>
        intro j y hj
        have hjz : j = 0 := by
          have := (List.getElem?_eq_some_iff.1 hj).1
          simp at this
          omega
        subst hjz
        simp at hj
        rw [← hj]
        exact (Boxed.new _ _ _).cell
      case c3 =>
        intro y hy
        rw [List.mem_singleton.1 hy]
        rfl
      case c4 => have := hle1.out; rw [us_length, N.len_kidsI]; unfold maxLen; omega
      case c5 => have := hle1.out; rw [us_length, N.len_kidsI]; omega
      intro v5 w5 ho5 hg5 hf5
      obtain ⟨g5, cap5, rfl⟩ := ownsRow_succ ho5
      have k5 : Hid (Keep (fun i => pv.ownBlock = some i) wr w5) := (k2.out.alloc _).grown hg5 (fun k hk => .inl hk)
      obtain ⟨nb5, fz5, hs5⟩ := HS1.out.kid (z := (x : Int)) hg5 (by rw [List.length_append]; exact ho5) hf5
      have f5 := fz5 3
      obtain ⟨q0, q1, q2, q3⟩ := nb5
      have HS5 := Lib.hid hs5
      refine hK.out _ _ k5.out ?_
      have hS := k5
      clear hK K ho5 hg5 hf5 fz5 hs5 k2 k5
      show Lz _ _ _ _ _ _ _ (Act.put _ (some 128) _) _
      try simp only [Act.put, List.setIfInBounds_toArray, List.set_cons_zero, List.set_cons_succ]
      refine lz_take 10 129 (v := ?_) rfl rfl (by kernel_rfl) (by kernel_rfl) (by kernel_rfl) (by kernel_rfl) (fun _ _ _ _ _ h => h) (by rfl) hS.out (fun W hW => ?_) ?_
      rotate_left
      · go_simp; try rfl
      try simp only [Act.put, List.setIfInBounds_toArray, List.set_cons_zero, List.set_cons_succ]
      refine lz_end rfl rfl (by kernel_rfl) (by kernel_rfl) (fun K hK => ?_)
      go_simp
      refine hK.out _ _ ?_
      clear hK K hS q0 q1 q2 q3 f5 HS1 HS HFAR
      generalize w5.setCell ⟨b, 3, none⟩ (.slice (some ⟨g5, 0, none⟩) ((us (N.kidsI l i)).length + 1) cap5) = w6 at *
      generalize Value.slice (some ⟨g5, 0, none⟩) ((us (N.kidsI l i)).length + 1) cap5 = pv5 at *
      have HSK : Hid (Qd w w6 b false kv vv pv5 [] [] (N.kidsI l (i + 1))) := by
        rw [kidsI_next, ← EA.out, ← HXV.out]
        exact HS5
      have EA2 : Hid (e1 = 2 + (i + 1) * 4) := by
        have := EA.out
        have := HE1.out
        show _ = _
        omega
      clear HS5 EA HNUM
      go_wp2
      go_roundg (ct - (i + 1))
      case measure => omega
      case rel => exact ⟨i + 1, e1, _, _, _, by go_num, by omega, by omega, by first | rfl | go_num, by omega, EA2, HSK⟩
    · rcases hx with ⟨hi, hf⟩ | hi
      · have hz : (i : Int) < (ct : Int) := by omega
        have hf2 : ¬ (e1 : Int) ≤ (n : Int) := by omega
        have HXX : Hid (¬ (i < N.count l ∧ 2 + i * 4 + 4 ≤ l.length)) := by
          have := EA.out
          have q1 := HE1.out
          rw [← HCT.out, HL.out]
          show ¬ _
          omega
        have hi6 : Hid (i ≤ 65536) := by show i ≤ 65536; omega
        have him : Hid (i ≤ N.count l) := by rw [← HCT.out]; exact h1
        go_wp2_with fail
        clear hz hi hf hf2 ha1 hw1 h1 h2 HE1
        go_loopg [14, 17] ct (fun g s14 s17 wr => ∃ (j at_ : Nat) (kv vv pv : Value), s17 = .int .i64 ((j : Int) + 1) ∧ j ≤ ct ∧ (j ≤ ct - 1) ∧ ct - j ≤ g ∧ s14 = .int .i64 (at_ : Int) ∧ at_ ≤ n ∧ Hid (at_ = 2 + i * 4 + j * k) ∧ Hid (Qd w wr b false kv vv pv (N.keysI l (2 + i * 4) j k) [] (N.kidsI l i)))
        case atStart => exact ⟨0, at_, kv, vv, pv, rfl, by omega, by omega, by omega, rfl, h3, by have := EA.out; show at_ = _; omega, by simpa [N.keysI] using HS⟩
        case round =>
          clear HS EA h3
          obtain ⟨j, at_, kv, vv, pv, rfl, j1, j3, j2, rfl, h3, EA, HS⟩ := hrel
          obtain ⟨e1, he1⟩ : ∃ e, e = at_ + k := ⟨_, rfl⟩
          have ha1 : (at_ : Int) + (k : Int) = (e1 : Int) := by omega
          have hw1 := wrap_i64_nat e1 (by omega)
          have HE1 := Lib.hid he1
          clear he1
          have hcase : (j + 1 < ct ∧ e1 ≤ n) ∨ ((j + 1 < ct ∧ ¬ e1 ≤ n) ∨ ¬ j + 1 < ct) := by omega
          rcases hcase with ⟨hj, hf⟩ | hx
          · have hz : (j : Int) + 1 < (ct : Int) := by omega
            have hf2 : (e1 : Int) ≤ (n : Int) := by omega
            have hx1 : sl.extract at_ e1 = str ((l.drop at_).take k) := by
              rw [HSL.out, str_extract, HE1.out, Nat.add_sub_cancel_left]
            have hl1 : at_ ≤ e1 := by have := HE1.out; omega
            have hl1z : (at_ : Int) ≤ (e1 : Int) := by omega
            have hle1 : Hid (j ≤ 65536) := by show j ≤ 65536; omega
            obtain ⟨sx, hsx⟩ : ∃ sx, sx = str ((l.drop at_).take k) := ⟨_, rfl⟩
            rw [← hsx] at hx1
            have HSX := Lib.hid hsx
            clear hsx
            go_wp2_with fail
            have HFAR := Lib.hid HS.out.far0
            have hS : Hid (Keep (fun i => kv.ownBlock = some i) wr wr.drew) := (Keep.refl _ _).drew
            refine lz_start 12 11 (fun W' => Keep (fun i => kv.ownBlock = some i) wr W') rfl (by kernel_rfl) ?_
            refine lz_take 0 145 (v := ?_) rfl rfl (by kernel_rfl) (by kernel_rfl) (by kernel_rfl) (by kernel_rfl) (fun _ _ _ _ _ h => h) (by rfl) hS.out (fun W hW => ?_) ?_
            rotate_left
            · obtain ⟨o0, o1, o2, o3⟩ := HFAR.out _ hW; go_simp; try rfl
            try simp only [Act.put, List.setIfInBounds_toArray, List.set_cons_zero, List.set_cons_succ]
            refine lz_take 1 146 (v := ?_) rfl rfl (by kernel_rfl) (by kernel_rfl) (by kernel_rfl) (by kernel_rfl) (fun _ _ _ _ _ h => h) (by rfl) hS.out (fun W hW => ?_) ?_
            rotate_left
            · obtain ⟨o0, o1, o2, o3⟩ := HFAR.out _ hW; go_simp; try rfl
            try simp only [Act.put, List.setIfInBounds_toArray, List.set_cons_zero, List.set_cons_succ]
            refine lz_take 2 147 (v := ?_) rfl rfl (by kernel_rfl) (by kernel_rfl) (by kernel_rfl) (by kernel_rfl) (fun _ _ _ _ _ h => h) (by rfl) hS.out (fun W hW => ?_) ?_
            rotate_left
            · obtain ⟨o0, o1, o2, o3⟩ := HFAR.out _ hW; go_simp; try rfl
            try simp only [Act.put, List.setIfInBounds_toArray, List.set_cons_zero, List.set_cons_succ]
            refine lz_take 3 148 (v := ?_) rfl rfl (by kernel_rfl) (by kernel_rfl) (by kernel_rfl) (by kernel_rfl) (fun _ _ _ _ _ h => h) (by rfl) hS.out (fun W hW => ?_) ?_
            rotate_left
            · obtain ⟨o0, o1, o2, o3⟩ := HFAR.out _ hW; go_simp; try rfl
            try simp only [Act.put, List.setIfInBounds_toArray, List.set_cons_zero, List.set_cons_succ]
            refine lz_take 4 149 (v := ?_) rfl rfl (by kernel_rfl) (by kernel_rfl) (by kernel_rfl) (by kernel_rfl) (fun _ _ _ _ _ h => h) (by rfl) hS.out (fun W hW => ?_) ?_
            rotate_left
            · obtain ⟨o0, o1, o2, o3⟩ := HFAR.out _ hW; go_simp; try rfl
            try simp only [Act.put, List.setIfInBounds_toArray, List.set_cons_zero, List.set_cons_succ]
            refine lz_take 5 150 (v := ?_) rfl rfl (by kernel_rfl) (by kernel_rfl) (by kernel_rfl) (by kernel_rfl) (fun _ _ _ _ _ h => h) (by rfl) hS.out (fun W hW => ?_) ?_
            rotate_left
            · obtain ⟨o0, o1, o2, o3⟩ := HFAR.out _ hW; go_simp; try rfl
            try simp only [Act.put, List.setIfInBounds_toArray, List.set_cons_zero, List.set_cons_succ]
            refine lz_take 6 151 (v := ?_) rfl rfl (by kernel_rfl) (by kernel_rfl) (by kernel_rfl) (by kernel_rfl) (fun _ _ _ _ _ h => h) (by rfl) hS.out (fun W hW => ?_) ?_
            rotate_left
            · obtain ⟨o0, o1, o2, o3⟩ := HFAR.out _ hW; go_simp; try rfl
            try simp only [Act.put, List.setIfInBounds_toArray, List.set_cons_zero, List.set_cons_succ]
            refine lz_take 7 152 (v := ?_) rfl rfl (by kernel_rfl) (by kernel_rfl) (by kernel_rfl) (by kernel_rfl) (fun _ _ _ _ _ h => h) (by rfl) hS.out (fun W hW => ?_) ?_
            rotate_left
            · obtain ⟨o0, o1, o2, o3⟩ := HFAR.out _ hW; go_simp; try rfl
            try simp only [Act.put, List.setIfInBounds_toArray, List.set_cons_zero, List.set_cons_succ]
            have HS1 := Lib.hid (HS.out.below (Below.refl _ wr).drew)
            have hsz := HS1.out.size
            have k2 := hS
            clear hS
            generalize wr.drew = u at *
            refine lz_op 8 rfl rfl (by kernel_rfl) (fun K hK => ?_)
            go_simp
            refine hK.out _ _ (k2.out.alloc _) ?_
            clear hK K
            try simp only [Act.put, List.setIfInBounds_toArray, List.set_cons_zero, List.set_cons_succ]
            refine lz_op 9 rfl rfl (by kernel_rfl) (fun K hK => ?_)
            refine wp_append_own2 _ _ 36 rfl 9 i0 _ 1 16 Try.underlying36 hi0 hz0 hz1 hz2 rfl (by decide) kv (svs (N.keysI l (2 + i * 4) j k)).length (svs (N.keysI l (2 + i * 4) j k)) rfl (HS1.out.gx.o0.alloc _) ⟨u.heap.size, 0, none⟩ 1 1 [.string sx] rfl rfl ?c2 ?c3 ?c4 ?c5 ?_
            case c2 =>
              intro j y hj
              have hjz : j = 0 := by
                have := (List.getElem?_eq_some_iff.1 hj).1
                simp at this
                omega
              subst hjz
              simp at hj
              rw [← hj]
              exact (Boxed.new _ _ _).cell
            case c3 =>
              intro y hy
              rw [List.mem_singleton.1 hy]
              rfl
            case c4 => have := hle1.out; rw [svs_length, N.len_keysI]; unfold maxLen; omega
            case c5 => have := hle1.out; rw [svs_length, N.len_keysI]; omega
            intro v5 w5 ho5 hg5 hf5
            obtain ⟨g5, cap5, rfl⟩ := ownsRow_succ ho5
            have k5 : Hid (Keep (fun i => kv.ownBlock = some i) wr w5) := (k2.out.alloc _).grown hg5 (fun k hk => .inl hk)
            rw [HSX.out] at ho5
            obtain ⟨nb5, fz5, hs5⟩ := HS1.out.key hg5 (by rw [List.length_append]; exact ho5) hf5
            have f5 := fz5 1
            obtain ⟨q0, q1, q2, q3⟩ := nb5
            have HS5 := Lib.hid hs5
            refine hK.out _ _ k5.out ?_
            have hS := k5
            clear hK K ho5 hg5 hf5 fz5 hs5 k2 k5
            show Lz _ _ _ _ _ _ _ (Act.put _ (some 154) _) _
            try simp only [Act.put, List.setIfInBounds_toArray, List.set_cons_zero, List.set_cons_succ]
            refine lz_take 10 155 (v := ?_) rfl rfl (by kernel_rfl) (by kernel_rfl) (by kernel_rfl) (by kernel_rfl) (fun _ _ _ _ _ h => h) (by rfl) hS.out (fun W hW => ?_) ?_
            rotate_left
            · go_simp; try rfl
            try simp only [Act.put, List.setIfInBounds_toArray, List.set_cons_zero, List.set_cons_succ]
            refine lz_end rfl rfl (by kernel_rfl) (by kernel_rfl) (fun K hK => ?_)
            go_simp
            refine hK.out _ _ ?_
            clear hK K hS q0 q1 q2 q3 f5 HS1 HS HFAR
            generalize w5.setCell ⟨b, 1, none⟩ (.slice (some ⟨g5, 0, none⟩) ((svs (N.keysI l (2 + i * 4) j k)).length + 1) cap5) = w6 at *
            generalize Value.slice (some ⟨g5, 0, none⟩) ((svs (N.keysI l (2 + i * 4) j k)).length + 1) cap5 = kv5 at *
            have HSK : Hid (Qd w w6 b false kv5 vv pv (N.keysI l (2 + i * 4) (j + 1) k) [] (N.kidsI l i)) := by
              rw [keysI_next, ← EA.out]
              exact HS5
            have EA2 : Hid (e1 = 2 + i * 4 + (j + 1) * k) := by
              have := EA.out
              have := HE1.out
              have e : (j + 1) * k = j * k + k := by rw [Nat.add_mul, Nat.one_mul]
              show _ = _
              omega
            clear HS5 EA
            go_wp2
            go_roundg (ct - (j + 1))
            case measure => omega
            case rel => exact ⟨j + 1, e1, _, _, _, by go_num, by omega, by omega, by omega, by first | rfl | go_num, by omega, EA2, HSK⟩
          · have HYY : Hid (¬ (j + 1 < N.count l ∧ 2 + i * 4 + j * k + k ≤ l.length)) := by
              have := EA.out
              have q1 := HE1.out
              rw [← HCT.out, HL.out, ← this]
              show ¬ _
              omega
            have hjm : Hid (j ≤ N.count l - 1) := by rw [← HCT.out]; exact j3
            have hln : Hid (2 ≤ l.length) := by rw [HL.out]; exact hn2
            have hj6 : Hid (j ≤ 65536) := by show j ≤ 65536; omega
            obtain ⟨p0, p1, p2, p3⟩ := HS.out.gx.nb
            rcases hx with ⟨hj, hf⟩ | hj
            · have hz : (j : Int) + 1 < (ct : Int) := by omega
              have hf2 : ¬ (e1 : Int) ≤ (n : Int) := by omega
              go_wp2_with fail
              have HRV := Lib.hid (HS.out.rv (Keep.refl (fun i => i = w.heap.size) wr))
              obtain ⟨nd, hnd⟩ : ∃ nd, nd = (⟨false, N.keysI l (2 + i * 4) j k, [], N.kidsI l i⟩ : N.Nd) := ⟨_, rfl⟩
              have HTK : Hid ((N.took nd l (k : Int) (v : Int) = N.readOK 4 l k v) ∧ (N.readOK 4 l k v = true → nd = N.parse false l ct k v)) := by
                rw [hnd]
                exact by rw [HCT.out]; exact N.ref_inner l i j k v hln.out him.out HXX.out hjm.out HYY.out
              have HWR := Lib.hid (refwrite_any wr (⟨false, N.keysI l (2 + i * 4) j k, [], N.kidsI l i⟩ : N.Nd) kv vv pv (k : Int) (v : Int) HRV.out (N.rg_kidsI l i) (by show (N.keysI l (2 + i * 4) j k).length ≤ _; rw [N.len_keysI]; have := hj6.out; omega) (by simp) (by show (N.kidsI l i).length ≤ _; rw [N.len_kidsI]; have := hi6.out; omega) (fun bb hbb => by obtain ⟨jj, _, rfl⟩ := List.mem_map.1 hbb; rw [List.length_take]; omega))
              have hlf : nd.leaf = false := by rw [hnd]
              rw [← hnd] at HWR
              simp only [hlf] at HWR
              have HQF : Hid (∀ W x0 x1 x2 x3, W = ((((wr.setCell ⟨w.heap.size, 0, none⟩ x0).setCell ⟨w.heap.size, 1, none⟩ x1).setCell ⟨w.heap.size, 2, none⟩ x2).setCell ⟨w.heap.size, 3, none⟩ x3) → True) := fun _ _ _ _ _ _ => trivial
              clear HQF
              have HND := Lib.hid hnd
              have Hfalse := Lib.hid hlf
              clear hnd hlf HRV
              unfold nodv at HWR
              refine HWR.out.mono ?_
              rintro e w5 ⟨rfl, hb5⟩
              have HS5 := Lib.hid (HS.out.below hb5)
              obtain ⟨K, hK⟩ : ∃ K, K = N.wK nd (k : Int) (v : Int) := ⟨_, rfl⟩
              obtain ⟨E, hE⟩ : ∃ E, E = N.wE nd (k : Int) (v : Int) := ⟨_, rfl⟩
              obtain ⟨BB, hBB⟩ : ∃ BB, BB = N.wB nd (k : Int) (v : Int) := ⟨_, rfl⟩
              have HT2 : Hid (N.took nd l (k : Int) (v : Int) = (decide (E = 0) && decide (BB = l))) := by show _ = _; rw [hE, hBB]; rfl
              rw [← hK, ← hE, ← hBB]
              clear hK hE hBB hb5 HWR
              obtain ⟨p0, p1, p2, p3⟩ := HS5.out.gx.nb
              have HBZ : Hid (Below w.heap.size w w5) := HS5.out.kp
              have HRZ := Lib.hid HS5.out.rb
              obtain ⟨r0, r1, r2, r3⟩ : Nb w5 w.heap.size false (.slice none 0 0) (.slice none 0 0) (.slice none 0 0) := ⟨by rw [cell_of_heap HRZ.out]; rfl, by rw [cell_of_heap HRZ.out]; rfl, by rw [cell_of_heap HRZ.out]; rfl, by rw [cell_of_heap HRZ.out]; rfl⟩
              have fr0 := frozen_of_heap HRZ.out 0
              have fr1 := frozen_of_heap HRZ.out 1
              have fr2 := frozen_of_heap HRZ.out 2
              have fr3 := frozen_of_heap HRZ.out 3
              obtain ⟨Y1, e1, rfl, _⟩ : Sts w5 kv (N.keysI l (2 + i * 4) j k) := Sts.own (base := 0) (by have := HS5.out.gx.o0; rw [svs_length] at this; exact this)
              obtain ⟨Y2, e2, rfl, _⟩ : Sts w5 vv ([] : List (List UInt8)) := Sts.own (base := 0) (by have := HS5.out.gx.o1; rw [svs_length] at this; exact this)
              obtain ⟨Y3, e3, rfl, _⟩ : Nums w5 pv (N.kidsI l i) := Nums.own (base := 0) (by have := HS5.out.gx.o2; rw [us_length] at this; exact this)
              generalize hl1 : (N.keysI l (2 + i * 4) j k).length = y1 at *
              generalize hl2 : ([] : List (List UInt8)).length = y2 at *
              generalize hl3 : (N.kidsI l i).length = y3 at *
              clear hl1 hl2 hl3
              obtain ⟨sB, hsB⟩ : ∃ sB, sB = str BB := ⟨_, rfl⟩
              rw [← hsB]
              have HSB := Lib.hid hsB
              clear hsB
              by_cases hE : E = 0
              · subst hE
                by_cases hq : BB = l
                · have hok : N.readOK 4 l k v = true := by rw [← HTK.out.1, HT2.out, hq]; simp
                  have hss : sB = sl := by rw [HSB.out, HSL.out, hq]
                  subst hss
                  have HY := Lib.hid (HYQ.out hok)
                  have HPE := Lib.hid (HTK.out.2 hok)
                  clear hok hq HT2 HTK HNQ HYQ
                  go_wp2
                  obtain ⟨f1, f2⟩ := rq_fin HRZ.out HBZ.out (.bool false) (.slice Y1 y1 e1) (.slice Y2 y2 e2) (.slice Y3 y3 e3)
                  have f3 := HS5.out.fin (.bool false) (.slice Y1 y1 e1) (.slice Y2 y2 e2) (.slice Y3 y3 e3)
                  have z0 := cell_of_heap f1 0
                  have z1 := cell_of_heap f1 1
                  have z2 := cell_of_heap f1 2
                  have z3 := cell_of_heap f1 3
                  simp at z0 z1 z2 z3
                  have HF2 := Lib.hid f2
                  have HF3 := Lib.hid f3
                  clear f1 f2 f3
                  generalize (((w5.setCell ⟨w.heap.size, 0, none⟩ (.bool false)).setCell ⟨w.heap.size, 1, none⟩ (.slice Y1 y1 e1)).setCell ⟨w.heap.size, 2, none⟩ (.slice Y2 y2 e2)).setCell ⟨w.heap.size, 3, none⟩ (.slice Y3 y3 e3) = wf at *
                  refine bodyPost_ret (v := .tuple #[.agg #[.bool false, .slice Y1 y1 e1, .slice Y2 y2 e2, .slice Y3 y3 e3], .int .i64 0]) (by simp [results, Try.results18, go_sem, z0, z1, z2, z3]) rfl ⟨.slice Y1 y1 e1, .slice Y2 y2 e2, .slice Y3 y3 e3, ?_, ?_, HF2.out⟩
                  · rw [HY.out.1, HY.out.2, ← HPE.out, Hfalse.out]
                    rfl
                  · rw [HY.out.1, ← HPE.out, HND.out]
                    exact HF3.out
                · have hok : N.readOK 4 l k v = false := by rw [← HTK.out.1, HT2.out, decide_eq_false hq]; rfl
                  have hne : (sB.toList == sl.toList) = false := by rw [HSB.out, HSL.out, str_eq, decide_eq_false hq]
                  have HNO := Lib.hid (HNQ.out hok)
                  clear hok hq HT2 HTK HNQ HYQ
                  go_wp2
                  obtain ⟨f1, f2⟩ := rq_fin HRZ.out HBZ.out (.bool false) (.slice none 0 0) (.slice none 0 0) (.slice none 0 0)
                  have z0 := cell_of_heap f1 0
                  have z1 := cell_of_heap f1 1
                  have z2 := cell_of_heap f1 2
                  have z3 := cell_of_heap f1 3
                  simp at z0 z1 z2 z3
                  have HF2 := Lib.hid f2
                  clear f1 f2
                  generalize (((w5.setCell ⟨w.heap.size, 0, none⟩ (.bool false)).setCell ⟨w.heap.size, 1, none⟩ (.slice none 0 0)).setCell ⟨w.heap.size, 2, none⟩ (.slice none 0 0)).setCell ⟨w.heap.size, 3, none⟩ (.slice none 0 0) = wf at *
                  refine bodyPost_ret (v := .tuple #[.agg #[.bool false, .slice none 0 0, .slice none 0 0, .slice none 0 0], .int .i64 2]) (by simp [results, Try.results18, go_sem, z0, z1, z2, z3]) rfl ⟨.slice none 0 0, .slice none 0 0, .slice none 0 0, ?_, ?_, HF2.out⟩
                  · rw [HNO.out.1, HNO.out.2]
                    rfl
                  · rw [HNO.out.1]
                    exact ⟨Sts.nil _, Sts.nil _, Nums.nil _⟩
              · have hne : ((E : Int) != 0) = true := by rw [bne_iff_ne]; omega
                have hok : N.readOK 4 l k v = false := by rw [← HTK.out.1, HT2.out, decide_eq_false hE]; rfl
                have HNO := Lib.hid (HNQ.out hok)
                clear hok hE HT2 HTK HNQ HYQ
                go_wp2
                obtain ⟨f1, f2⟩ := rq_fin HRZ.out HBZ.out (.bool false) (.slice none 0 0) (.slice none 0 0) (.slice none 0 0)
                have z0 := cell_of_heap f1 0
                have z1 := cell_of_heap f1 1
                have z2 := cell_of_heap f1 2
                have z3 := cell_of_heap f1 3
                simp at z0 z1 z2 z3
                have HF2 := Lib.hid f2
                clear f1 f2
                generalize (((w5.setCell ⟨w.heap.size, 0, none⟩ (.bool false)).setCell ⟨w.heap.size, 1, none⟩ (.slice none 0 0)).setCell ⟨w.heap.size, 2, none⟩ (.slice none 0 0)).setCell ⟨w.heap.size, 3, none⟩ (.slice none 0 0) = wf at *
                refine bodyPost_ret (v := .tuple #[.agg #[.bool false, .slice none 0 0, .slice none 0 0, .slice none 0 0], .int .i64 2]) (by simp [results, Try.results18, go_sem, z0, z1, z2, z3]) rfl ⟨.slice none 0 0, .slice none 0 0, .slice none 0 0, ?_, ?_, HF2.out⟩
                · rw [HNO.out.1, HNO.out.2]
                  rfl
                · rw [HNO.out.1]
                  exact ⟨Sts.nil _, Sts.nil _, Nums.nil _⟩
            · have hz : ¬ (j : Int) + 1 < (ct : Int) := by omega
              go_wp2_with fail
              have HRV := Lib.hid (HS.out.rv (Keep.refl (fun i => i = w.heap.size) wr))
              obtain ⟨nd, hnd⟩ : ∃ nd, nd = (⟨false, N.keysI l (2 + i * 4) j k, [], N.kidsI l i⟩ : N.Nd) := ⟨_, rfl⟩
              have HTK : Hid ((N.took nd l (k : Int) (v : Int) = N.readOK 4 l k v) ∧ (N.readOK 4 l k v = true → nd = N.parse false l ct k v)) := by
                rw [hnd]
                exact by rw [HCT.out]; exact N.ref_inner l i j k v hln.out him.out HXX.out hjm.out HYY.out
              have HWR := Lib.hid (refwrite_any wr (⟨false, N.keysI l (2 + i * 4) j k, [], N.kidsI l i⟩ : N.Nd) kv vv pv (k : Int) (v : Int) HRV.out (N.rg_kidsI l i) (by show (N.keysI l (2 + i * 4) j k).length ≤ _; rw [N.len_keysI]; have := hj6.out; omega) (by simp) (by show (N.kidsI l i).length ≤ _; rw [N.len_kidsI]; have := hi6.out; omega) (fun bb hbb => by obtain ⟨jj, _, rfl⟩ := List.mem_map.1 hbb; rw [List.length_take]; omega))
              have hlf : nd.leaf = false := by rw [hnd]
              rw [← hnd] at HWR
              simp only [hlf] at HWR
              have HQF : Hid (∀ W x0 x1 x2 x3, W = ((((wr.setCell ⟨w.heap.size, 0, none⟩ x0).setCell ⟨w.heap.size, 1, none⟩ x1).setCell ⟨w.heap.size, 2, none⟩ x2).setCell ⟨w.heap.size, 3, none⟩ x3) → True) := fun _ _ _ _ _ _ => trivial
              clear HQF
              have HND := Lib.hid hnd
              have Hfalse := Lib.hid hlf
              clear hnd hlf HRV
              unfold nodv at HWR
              refine HWR.out.mono ?_
              rintro e w5 ⟨rfl, hb5⟩
              have HS5 := Lib.hid (HS.out.below hb5)
              obtain ⟨K, hK⟩ : ∃ K, K = N.wK nd (k : Int) (v : Int) := ⟨_, rfl⟩
              obtain ⟨E, hE⟩ : ∃ E, E = N.wE nd (k : Int) (v : Int) := ⟨_, rfl⟩
              obtain ⟨BB, hBB⟩ : ∃ BB, BB = N.wB nd (k : Int) (v : Int) := ⟨_, rfl⟩
              have HT2 : Hid (N.took nd l (k : Int) (v : Int) = (decide (E = 0) && decide (BB = l))) := by show _ = _; rw [hE, hBB]; rfl
              rw [← hK, ← hE, ← hBB]
              clear hK hE hBB hb5 HWR
              obtain ⟨p0, p1, p2, p3⟩ := HS5.out.gx.nb
              have HBZ : Hid (Below w.heap.size w w5) := HS5.out.kp
              have HRZ := Lib.hid HS5.out.rb
              obtain ⟨r0, r1, r2, r3⟩ : Nb w5 w.heap.size false (.slice none 0 0) (.slice none 0 0) (.slice none 0 0) := ⟨by rw [cell_of_heap HRZ.out]; rfl, by rw [cell_of_heap HRZ.out]; rfl, by rw [cell_of_heap HRZ.out]; rfl, by rw [cell_of_heap HRZ.out]; rfl⟩
              have fr0 := frozen_of_heap HRZ.out 0
              have fr1 := frozen_of_heap HRZ.out 1
              have fr2 := frozen_of_heap HRZ.out 2
              have fr3 := frozen_of_heap HRZ.out 3
              obtain ⟨Y1, e1, rfl, _⟩ : Sts w5 kv (N.keysI l (2 + i * 4) j k) := Sts.own (base := 0) (by have := HS5.out.gx.o0; rw [svs_length] at this; exact this)
              obtain ⟨Y2, e2, rfl, _⟩ : Sts w5 vv ([] : List (List UInt8)) := Sts.own (base := 0) (by have := HS5.out.gx.o1; rw [svs_length] at this; exact this)
              obtain ⟨Y3, e3, rfl, _⟩ : Nums w5 pv (N.kidsI l i) := Nums.own (base := 0) (by have := HS5.out.gx.o2; rw [us_length] at this; exact this)
              generalize hl1 : (N.keysI l (2 + i * 4) j k).length = y1 at *
              generalize hl2 : ([] : List (List UInt8)).length = y2 at *
              generalize hl3 : (N.kidsI l i).length = y3 at *
              clear hl1 hl2 hl3
              obtain ⟨sB, hsB⟩ : ∃ sB, sB = str BB := ⟨_, rfl⟩
              rw [← hsB]
              have HSB := Lib.hid hsB
              clear hsB
              by_cases hE : E = 0
              · subst hE
                by_cases hq : BB = l
                · have hok : N.readOK 4 l k v = true := by rw [← HTK.out.1, HT2.out, hq]; simp
                  have hss : sB = sl := by rw [HSB.out, HSL.out, hq]
                  subst hss
                  have HY := Lib.hid (HYQ.out hok)
                  have HPE := Lib.hid (HTK.out.2 hok)
                  clear hok hq HT2 HTK HNQ HYQ
                  go_wp2
                  obtain ⟨f1, f2⟩ := rq_fin HRZ.out HBZ.out (.bool false) (.slice Y1 y1 e1) (.slice Y2 y2 e2) (.slice Y3 y3 e3)
                  have f3 := HS5.out.fin (.bool false) (.slice Y1 y1 e1) (.slice Y2 y2 e2) (.slice Y3 y3 e3)
                  have z0 := cell_of_heap f1 0
                  have z1 := cell_of_heap f1 1
                  have z2 := cell_of_heap f1 2
                  have z3 := cell_of_heap f1 3
                  simp at z0 z1 z2 z3
                  have HF2 := Lib.hid f2
                  have HF3 := Lib.hid f3
                  clear f1 f2 f3
                  generalize (((w5.setCell ⟨w.heap.size, 0, none⟩ (.bool false)).setCell ⟨w.heap.size, 1, none⟩ (.slice Y1 y1 e1)).setCell ⟨w.heap.size, 2, none⟩ (.slice Y2 y2 e2)).setCell ⟨w.heap.size, 3, none⟩ (.slice Y3 y3 e3) = wf at *
                  refine bodyPost_ret (v := .tuple #[.agg #[.bool false, .slice Y1 y1 e1, .slice Y2 y2 e2, .slice Y3 y3 e3], .int .i64 0]) (by simp [results, Try.results18, go_sem, z0, z1, z2, z3]) rfl ⟨.slice Y1 y1 e1, .slice Y2 y2 e2, .slice Y3 y3 e3, ?_, ?_, HF2.out⟩
                  · rw [HY.out.1, HY.out.2, ← HPE.out, Hfalse.out]
                    rfl
                  · rw [HY.out.1, ← HPE.out, HND.out]
                    exact HF3.out
                · have hok : N.readOK 4 l k v = false := by rw [← HTK.out.1, HT2.out, decide_eq_false hq]; rfl
                  have hne : (sB.toList == sl.toList) = false := by rw [HSB.out, HSL.out, str_eq, decide_eq_false hq]
                  have HNO := Lib.hid (HNQ.out hok)
                  clear hok hq HT2 HTK HNQ HYQ
                  go_wp2
                  obtain ⟨f1, f2⟩ := rq_fin HRZ.out HBZ.out (.bool false) (.slice none 0 0) (.slice none 0 0) (.slice none 0 0)
                  have z0 := cell_of_heap f1 0
                  have z1 := cell_of_heap f1 1
                  have z2 := cell_of_heap f1 2
                  have z3 := cell_of_heap f1 3
                  simp at z0 z1 z2 z3
                  have HF2 := Lib.hid f2
                  clear f1 f2
                  generalize (((w5.setCell ⟨w.heap.size, 0, none⟩ (.bool false)).setCell ⟨w.heap.size, 1, none⟩ (.slice none 0 0)).setCell ⟨w.heap.size, 2, none⟩ (.slice none 0 0)).setCell ⟨w.heap.size, 3, none⟩ (.slice none 0 0) = wf at *
                  refine bodyPost_ret (v := .tuple #[.agg #[.bool false, .slice none 0 0, .slice none 0 0, .slice none 0 0], .int .i64 2]) (by simp [results, Try.results18, go_sem, z0, z1, z2, z3]) rfl ⟨.slice none 0 0, .slice none 0 0, .slice none 0 0, ?_, ?_, HF2.out⟩
                  · rw [HNO.out.1, HNO.out.2]
                    rfl
                  · rw [HNO.out.1]
                    exact ⟨Sts.nil _, Sts.nil _, Nums.nil _⟩
              · have hne : ((E : Int) != 0) = true := by rw [bne_iff_ne]; omega
                have hok : N.readOK 4 l k v = false := by rw [← HTK.out.1, HT2.out, decide_eq_false hE]; rfl
                have HNO := Lib.hid (HNQ.out hok)
                clear hok hE HT2 HTK HNQ HYQ
                go_wp2
                obtain ⟨f1, f2⟩ := rq_fin HRZ.out HBZ.out (.bool false) (.slice none 0 0) (.slice none 0 0) (.slice none 0 0)
                have z0 := cell_of_heap f1 0
                have z1 := cell_of_heap f1 1
                have z2 := cell_of_heap f1 2
                have z3 := cell_of_heap f1 3
                simp at z0 z1 z2 z3
                have HF2 := Lib.hid f2
                clear f1 f2
                generalize (((w5.setCell ⟨w.heap.size, 0, none⟩ (.bool false)).setCell ⟨w.heap.size, 1, none⟩ (.slice none 0 0)).setCell ⟨w.heap.size, 2, none⟩ (.slice none 0 0)).setCell ⟨w.heap.size, 3, none⟩ (.slice none 0 0) = wf at *
                refine bodyPost_ret (v := .tuple #[.agg #[.bool false, .slice none 0 0, .slice none 0 0, .slice none 0 0], .int .i64 2]) (by simp [results, Try.results18, go_sem, z0, z1, z2, z3]) rfl ⟨.slice none 0 0, .slice none 0 0, .slice none 0 0, ?_, ?_, HF2.out⟩
                · rw [HNO.out.1, HNO.out.2]
                  rfl
                · rw [HNO.out.1]
                  exact ⟨Sts.nil _, Sts.nil _, Nums.nil _⟩
      · have hz : ¬ (i : Int) < (ct : Int) := by omega
        have HXX : Hid (¬ (i < N.count l ∧ 2 + i * 4 + 4 ≤ l.length)) := by
          have := EA.out
          have q1 := HE1.out
          rw [← HCT.out, HL.out]
          show ¬ _
          omega
        have hi6 : Hid (i ≤ 65536) := by show i ≤ 65536; omega
        have him : Hid (i ≤ N.count l) := by rw [← HCT.out]; exact h1
        go_wp2_with fail
        clear hz hi ha1 hw1 h1 h2 HE1
        go_loopg [14, 17] ct (fun g s14 s17 wr => ∃ (j at_ : Nat) (kv vv pv : Value), s17 = .int .i64 ((j : Int) + 1) ∧ j ≤ ct ∧ (j ≤ ct - 1) ∧ ct - j ≤ g ∧ s14 = .int .i64 (at_ : Int) ∧ at_ ≤ n ∧ Hid (at_ = 2 + i * 4 + j * k) ∧ Hid (Qd w wr b false kv vv pv (N.keysI l (2 + i * 4) j k) [] (N.kidsI l i)))
        case atStart => exact ⟨0, at_, kv, vv, pv, rfl, by omega, by omega, by omega, rfl, h3, by have := EA.out; show at_ = _; omega, by simpa [N.keysI] using HS⟩
        case round =>
          clear HS EA h3
          obtain ⟨j, at_, kv, vv, pv, rfl, j1, j3, j2, rfl, h3, EA, HS⟩ := hrel
          obtain ⟨e1, he1⟩ : ∃ e, e = at_ + k := ⟨_, rfl⟩
          have ha1 : (at_ : Int) + (k : Int) = (e1 : Int) := by omega
          have hw1 := wrap_i64_nat e1 (by omega)
          have HE1 := Lib.hid he1
          clear he1
          have hcase : (j + 1 < ct ∧ e1 ≤ n) ∨ ((j + 1 < ct ∧ ¬ e1 ≤ n) ∨ ¬ j + 1 < ct) := by omega
          rcases hcase with ⟨hj, hf⟩ | hx
          · have hz : (j : Int) + 1 < (ct : Int) := by omega
            have hf2 : (e1 : Int) ≤ (n : Int) := by omega
            have hx1 : sl.extract at_ e1 = str ((l.drop at_).take k) := by
              rw [HSL.out, str_extract, HE1.out, Nat.add_sub_cancel_left]
            have hl1 : at_ ≤ e1 := by have := HE1.out; omega
            have hl1z : (at_ : Int) ≤ (e1 : Int) := by omega
            have hle1 : Hid (j ≤ 65536) := by show j ≤ 65536; omega
            obtain ⟨sx, hsx⟩ : ∃ sx, sx = str ((l.drop at_).take k) := ⟨_, rfl⟩
            rw [← hsx] at hx1
            have HSX := Lib.hid hsx
            clear hsx
            go_wp2_with fail
            have HFAR := Lib.hid HS.out.far0
            have hS : Hid (Keep (fun i => kv.ownBlock = some i) wr wr.drew) := (Keep.refl _ _).drew
            refine lz_start 12 11 (fun W' => Keep (fun i => kv.ownBlock = some i) wr W') rfl (by kernel_rfl) ?_
            refine lz_take 0 145 (v := ?_) rfl rfl (by kernel_rfl) (by kernel_rfl) (by kernel_rfl) (by kernel_rfl) (fun _ _ _ _ _ h => h) (by rfl) hS.out (fun W hW => ?_) ?_
            rotate_left
            · obtain ⟨o0, o1, o2, o3⟩ := HFAR.out _ hW; go_simp; try rfl
            try simp only [Act.put, List.setIfInBounds_toArray, List.set_cons_zero, List.set_cons_succ]
            refine lz_take 1 146 (v := ?_) rfl rfl (by kernel_rfl) (by kernel_rfl) (by kernel_rfl) (by kernel_rfl) (fun _ _ _ _ _ h => h) (by rfl) hS.out (fun W hW => ?_) ?_
            rotate_left
            · obtain ⟨o0, o1, o2, o3⟩ := HFAR.out _ hW; go_simp; try rfl
            try simp only [Act.put, List.setIfInBounds_toArray, List.set_cons_zero, List.set_cons_succ]
            refine lz_take 2 147 (v := ?_) rfl rfl (by kernel_rfl) (by kernel_rfl) (by kernel_rfl) (by kernel_rfl) (fun _ _ _ _ _ h => h) (by rfl) hS.out (fun W hW => ?_) ?_
            rotate_left
            · obtain ⟨o0, o1, o2, o3⟩ := HFAR.out _ hW; go_simp; try rfl
            try simp only [Act.put, List.setIfInBounds_toArray, List.set_cons_zero, List.set_cons_succ]
            refine lz_take 3 148 (v := ?_) rfl rfl (by kernel_rfl) (by kernel_rfl) (by kernel_rfl) (by kernel_rfl) (fun _ _ _ _ _ h => h) (by rfl) hS.out (fun W hW => ?_) ?_
            rotate_left
            · obtain ⟨o0, o1, o2, o3⟩ := HFAR.out _ hW; go_simp; try rfl
            try simp only [Act.put, List.setIfInBounds_toArray, List.set_cons_zero, List.set_cons_succ]
            refine lz_take 4 149 (v := ?_) rfl rfl (by kernel_rfl) (by kernel_rfl) (by kernel_rfl) (by kernel_rfl) (fun _ _ _ _ _ h => h) (by rfl) hS.out (fun W hW => ?_) ?_
            rotate_left
            · obtain ⟨o0, o1, o2, o3⟩ := HFAR.out _ hW; go_simp; try rfl
            try simp only [Act.put, List.setIfInBounds_toArray, List.set_cons_zero, List.set_cons_succ]
            refine lz_take 5 150 (v := ?_) rfl rfl (by kernel_rfl) (by kernel_rfl) (by kernel_rfl) (by kernel_rfl) (fun _ _ _ _ _ h => h) (by rfl) hS.out (fun W hW => ?_) ?_
            rotate_left
            · obtain ⟨o0, o1, o2, o3⟩ := HFAR.out _ hW; go_simp; try rfl
            try simp only [Act.put, List.setIfInBounds_toArray, List.set_cons_zero, List.set_cons_succ]
            refine lz_take 6 151 (v := ?_) rfl rfl (by kernel_rfl) (by kernel_rfl) (by kernel_rfl) (by kernel_rfl) (fun _ _ _ _ _ h => h) (by rfl) hS.out (fun W hW => ?_) ?_
            rotate_left
            · obtain ⟨o0, o1, o2, o3⟩ := HFAR.out _ hW; go_simp; try rfl
            try simp only [Act.put, List.setIfInBounds_toArray, List.set_cons_zero, List.set_cons_succ]
            refine lz_take 7 152 (v := ?_) rfl rfl (by kernel_rfl) (by kernel_rfl) (by kernel_rfl) (by kernel_rfl) (fun _ _ _ _ _ h => h) (by rfl) hS.out (fun W hW => ?_) ?_
            rotate_left
            · obtain ⟨o0, o1, o2, o3⟩ := HFAR.out _ hW; go_simp; try rfl
            try simp only [Act.put, List.setIfInBounds_toArray, List.set_cons_zero, List.set_cons_succ]
            have HS1 := Lib.hid (HS.out.below (Below.refl _ wr).drew)
            have hsz := HS1.out.size
            have k2 := hS
            clear hS
            generalize wr.drew = u at *
            refine lz_op 8 rfl rfl (by kernel_rfl) (fun K hK => ?_)
            go_simp
            refine hK.out _ _ (k2.out.alloc _) ?_
            clear hK K
            try simp only [Act.put, List.setIfInBounds_toArray, List.set_cons_zero, List.set_cons_succ]
            refine lz_op 9 rfl rfl (by kernel_rfl) (fun K hK => ?_)
            refine wp_append_own2 _ _ 36 rfl 9 i0 _ 1 16 Try.underlying36 hi0 hz0 hz1 hz2 rfl (by decide) kv (svs (N.keysI l (2 + i * 4) j k)).length (svs (N.keysI l (2 + i * 4) j k)) rfl (HS1.out.gx.o0.alloc _) ⟨u.heap.size, 0, none⟩ 1 1 [.string sx] rfl rfl ?c2 ?c3 ?c4 ?c5 ?_
            case c2 =>
              intro j y hj
              have hjz : j = 0 := by
                have := (List.getElem?_eq_some_iff.1 hj).1
                simp at this
                omega
              subst hjz
              simp at hj
              rw [← hj]
              exact (Boxed.new _ _ _).cell
            case c3 =>
              intro y hy
              rw [List.mem_singleton.1 hy]
              rfl
            case c4 => have := hle1.out; rw [svs_length, N.len_keysI]; unfold maxLen; omega
            case c5 => have := hle1.out; rw [svs_length, N.len_keysI]; omega
            intro v5 w5 ho5 hg5 hf5
            obtain ⟨g5, cap5, rfl⟩ := ownsRow_succ ho5
            have k5 : Hid (Keep (fun i => kv.ownBlock = some i) wr w5) := (k2.out.alloc _).grown hg5 (fun k hk => .inl hk)
            rw [HSX.out] at ho5
            obtain ⟨nb5, fz5, hs5⟩ := HS1.out.key hg5 (by rw [List.length_append]; exact ho5) hf5
            have f5 := fz5 1
            obtain ⟨q0, q1, q2, q3⟩ := nb5
            have HS5 := Lib.hid hs5
            refine hK.out _ _ k5.out ?_
            have hS := k5
            clear hK K ho5 hg5 hf5 fz5 hs5 k2 k5
            show Lz _ _ _ _ _ _ _ (Act.put _ (some 154) _) _
            try simp only [Act.put, List.setIfInBounds_toArray, List.set_cons_zero, List.set_cons_succ]
            refine lz_take 10 155 (v := ?_) rfl rfl (by kernel_rfl) (by kernel_rfl) (by kernel_rfl) (by kernel_rfl) (fun _ _ _ _ _ h => h) (by rfl) hS.out (fun W hW => ?_) ?_
            rotate_left
            · go_simp; try rfl
            try simp only [Act.put, List.setIfInBounds_toArray, List.set_cons_zero, List.set_cons_succ]
            refine lz_end rfl rfl (by kernel_rfl) (by kernel_rfl) (fun K hK => ?_)
            go_simp
            refine hK.out _ _ ?_
            clear hK K hS q0 q1 q2 q3 f5 HS1 HS HFAR
            generalize w5.setCell ⟨b, 1, none⟩ (.slice (some ⟨g5, 0, none⟩) ((svs (N.keysI l (2 + i * 4) j k)).length + 1) cap5) = w6 at *
            generalize Value.slice (some ⟨g5, 0, none⟩) ((svs (N.keysI l (2 + i * 4) j k)).length + 1) cap5 = kv5 at *
            have HSK : Hid (Qd w w6 b false kv5 vv pv (N.keysI l (2 + i * 4) (j + 1) k) [] (N.kidsI l i)) := by
              rw [keysI_next, ← EA.out]
              exact HS5
            have EA2 : Hid (e1 = 2 + i * 4 + (j + 1) * k) := by
              have := EA.out
              have := HE1.out
              have e : (j + 1) * k = j * k + k := by rw [Nat.add_mul, Nat.one_mul]
              show _ = _
              omega
            clear HS5 EA
            go_wp2
            go_roundg (ct - (j + 1))
            case measure => omega
            case rel => exact ⟨j + 1, e1, _, _, _, by go_num, by omega, by omega, by omega, by first | rfl | go_num, by omega, EA2, HSK⟩
          · have HYY : Hid (¬ (j + 1 < N.count l ∧ 2 + i * 4 + j * k + k ≤ l.length)) := by
              have := EA.out
              have q1 := HE1.out
              rw [← HCT.out, HL.out, ← this]
              show ¬ _
              omega
            have hjm : Hid (j ≤ N.count l - 1) := by rw [← HCT.out]; exact j3
            have hln : Hid (2 ≤ l.length) := by rw [HL.out]; exact hn2
            have hj6 : Hid (j ≤ 65536) := by show j ≤ 65536; omega
            obtain ⟨p0, p1, p2, p3⟩ := HS.out.gx.nb
            rcases hx with ⟨hj, hf⟩ | hj
            · have hz : (j : Int) + 1 < (ct : Int) := by omega
              have hf2 : ¬ (e1 : Int) ≤ (n : Int) := by omega
              go_wp2_with fail
              have HRV := Lib.hid (HS.out.rv (Keep.refl (fun i => i = w.heap.size) wr))
              obtain ⟨nd, hnd⟩ : ∃ nd, nd = (⟨false, N.keysI l (2 + i * 4) j k, [], N.kidsI l i⟩ : N.Nd) := ⟨_, rfl⟩
              have HTK : Hid ((N.took nd l (k : Int) (v : Int) = N.readOK 4 l k v) ∧ (N.readOK 4 l k v = true → nd = N.parse false l ct k v)) := by
                rw [hnd]
                exact by rw [HCT.out]; exact N.ref_inner l i j k v hln.out him.out HXX.out hjm.out HYY.out
              have HWR := Lib.hid (refwrite_any wr (⟨false, N.keysI l (2 + i * 4) j k, [], N.kidsI l i⟩ : N.Nd) kv vv pv (k : Int) (v : Int) HRV.out (N.rg_kidsI l i) (by show (N.keysI l (2 + i * 4) j k).length ≤ _; rw [N.len_keysI]; have := hj6.out; omega) (by simp) (by show (N.kidsI l i).length ≤ _; rw [N.len_kidsI]; have := hi6.out; omega) (fun bb hbb => by obtain ⟨jj, _, rfl⟩ := List.mem_map.1 hbb; rw [List.length_take]; omega))
              have hlf : nd.leaf = false := by rw [hnd]
              rw [← hnd] at HWR
              simp only [hlf] at HWR
              have HQF : Hid (∀ W x0 x1 x2 x3, W = ((((wr.setCell ⟨w.heap.size, 0, none⟩ x0).setCell ⟨w.heap.size, 1, none⟩ x1).setCell ⟨w.heap.size, 2, none⟩ x2).setCell ⟨w.heap.size, 3, none⟩ x3) → True) := fun _ _ _ _ _ _ => trivial
              clear HQF
              have HND := Lib.hid hnd
              have Hfalse := Lib.hid hlf
              clear hnd hlf HRV
              unfold nodv at HWR
              refine HWR.out.mono ?_
              rintro e w5 ⟨rfl, hb5⟩
              have HS5 := Lib.hid (HS.out.below hb5)
              obtain ⟨K, hK⟩ : ∃ K, K = N.wK nd (k : Int) (v : Int) := ⟨_, rfl⟩
              obtain ⟨E, hE⟩ : ∃ E, E = N.wE nd (k : Int) (v : Int) := ⟨_, rfl⟩
              obtain ⟨BB, hBB⟩ : ∃ BB, BB = N.wB nd (k : Int) (v : Int) := ⟨_, rfl⟩
              have HT2 : Hid (N.took nd l (k : Int) (v : Int) = (decide (E = 0) && decide (BB = l))) := by show _ = _; rw [hE, hBB]; rfl
              rw [← hK, ← hE, ← hBB]
              clear hK hE hBB hb5 HWR
              obtain ⟨p0, p1, p2, p3⟩ := HS5.out.gx.nb
              have HBZ : Hid (Below w.heap.size w w5) := HS5.out.kp
              have HRZ := Lib.hid HS5.out.rb
              obtain ⟨r0, r1, r2, r3⟩ : Nb w5 w.heap.size false (.slice none 0 0) (.slice none 0 0) (.slice none 0 0) := ⟨by rw [cell_of_heap HRZ.out]; rfl, by rw [cell_of_heap HRZ.out]; rfl, by rw [cell_of_heap HRZ.out]; rfl, by rw [cell_of_heap HRZ.out]; rfl⟩
              have fr0 := frozen_of_heap HRZ.out 0
              have fr1 := frozen_of_heap HRZ.out 1
              have fr2 := frozen_of_heap HRZ.out 2
              have fr3 := frozen_of_heap HRZ.out 3
              obtain ⟨Y1, e1, rfl, _⟩ : Sts w5 kv (N.keysI l (2 + i * 4) j k) := Sts.own (base := 0) (by have := HS5.out.gx.o0; rw [svs_length] at this; exact this)
              obtain ⟨Y2, e2, rfl, _⟩ : Sts w5 vv ([] : List (List UInt8)) := Sts.own (base := 0) (by have := HS5.out.gx.o1; rw [svs_length] at this; exact this)
              obtain ⟨Y3, e3, rfl, _⟩ : Nums w5 pv (N.kidsI l i) := Nums.own (base := 0) (by have := HS5.out.gx.o2; rw [us_length] at this; exact this)
              generalize hl1 : (N.keysI l (2 + i * 4) j k).length = y1 at *
              generalize hl2 : ([] : List (List UInt8)).length = y2 at *
              generalize hl3 : (N.kidsI l i).length = y3 at *
              clear hl1 hl2 hl3
              obtain ⟨sB, hsB⟩ : ∃ sB, sB = str BB := ⟨_, rfl⟩
              rw [← hsB]
              have HSB := Lib.hid hsB
              clear hsB
              by_cases hE : E = 0
              · subst hE
                by_cases hq : BB = l
                · have hok : N.readOK 4 l k v = true := by rw [← HTK.out.1, HT2.out, hq]; simp
                  have hss : sB = sl := by rw [HSB.out, HSL.out, hq]
                  subst hss
                  have HY := Lib.hid (HYQ.out hok)
                  have HPE := Lib.hid (HTK.out.2 hok)
                  clear hok hq HT2 HTK HNQ HYQ
                  go_wp2
                  obtain ⟨f1, f2⟩ := rq_fin HRZ.out HBZ.out (.bool false) (.slice Y1 y1 e1) (.slice Y2 y2 e2) (.slice Y3 y3 e3)
                  have f3 := HS5.out.fin (.bool false) (.slice Y1 y1 e1) (.slice Y2 y2 e2) (.slice Y3 y3 e3)
                  have z0 := cell_of_heap f1 0
                  have z1 := cell_of_heap f1 1
                  have z2 := cell_of_heap f1 2
                  have z3 := cell_of_heap f1 3
                  simp at z0 z1 z2 z3
                  have HF2 := Lib.hid f2
                  have HF3 := Lib.hid f3
                  clear f1 f2 f3
                  generalize (((w5.setCell ⟨w.heap.size, 0, none⟩ (.bool false)).setCell ⟨w.heap.size, 1, none⟩ (.slice Y1 y1 e1)).setCell ⟨w.heap.size, 2, none⟩ (.slice Y2 y2 e2)).setCell ⟨w.heap.size, 3, none⟩ (.slice Y3 y3 e3) = wf at *
                  refine bodyPost_ret (v := .tuple #[.agg #[.bool false, .slice Y1 y1 e1, .slice Y2 y2 e2, .slice Y3 y3 e3], .int .i64 0]) (by simp [results, Try.results18, go_sem, z0, z1, z2, z3]) rfl ⟨.slice Y1 y1 e1, .slice Y2 y2 e2, .slice Y3 y3 e3, ?_, ?_, HF2.out⟩
                  · rw [HY.out.1, HY.out.2, ← HPE.out, Hfalse.out]
                    rfl
                  · rw [HY.out.1, ← HPE.out, HND.out]
                    exact HF3.out
                · have hok : N.readOK 4 l k v = false := by rw [← HTK.out.1, HT2.out, decide_eq_false hq]; rfl
                  have hne : (sB.toList == sl.toList) = false := by rw [HSB.out, HSL.out, str_eq, decide_eq_false hq]
                  have HNO := Lib.hid (HNQ.out hok)
                  clear hok hq HT2 HTK HNQ HYQ
                  go_wp2
                  obtain ⟨f1, f2⟩ := rq_fin HRZ.out HBZ.out (.bool false) (.slice none 0 0) (.slice none 0 0) (.slice none 0 0)
                  have z0 := cell_of_heap f1 0
                  have z1 := cell_of_heap f1 1
                  have z2 := cell_of_heap f1 2
                  have z3 := cell_of_heap f1 3
                  simp at z0 z1 z2 z3
                  have HF2 := Lib.hid f2
                  clear f1 f2
                  generalize (((w5.setCell ⟨w.heap.size, 0, none⟩ (.bool false)).setCell ⟨w.heap.size, 1, none⟩ (.slice none 0 0)).setCell ⟨w.heap.size, 2, none⟩ (.slice none 0 0)).setCell ⟨w.heap.size, 3, none⟩ (.slice none 0 0) = wf at *
                  refine bodyPost_ret (v := .tuple #[.agg #[.bool false, .slice none 0 0, .slice none 0 0, .slice none 0 0], .int .i64 2]) (by simp [results, Try.results18, go_sem, z0, z1, z2, z3]) rfl ⟨.slice none 0 0, .slice none 0 0, .slice none 0 0, ?_, ?_, HF2.out⟩
                  · rw [HNO.out.1, HNO.out.2]
                    rfl
                  · rw [HNO.out.1]
                    exact ⟨Sts.nil _, Sts.nil _, Nums.nil _⟩
              · have hne : ((E : Int) != 0) = true := by rw [bne_iff_ne]; omega
                have hok : N.readOK 4 l k v = false := by rw [← HTK.out.1, HT2.out, decide_eq_false hE]; rfl
                have HNO := Lib.hid (HNQ.out hok)
                clear hok hE HT2 HTK HNQ HYQ
                go_wp2
                obtain ⟨f1, f2⟩ := rq_fin HRZ.out HBZ.out (.bool false) (.slice none 0 0) (.slice none 0 0) (.slice none 0 0)
                have z0 := cell_of_heap f1 0
                have z1 := cell_of_heap f1 1
                have z2 := cell_of_heap f1 2
                have z3 := cell_of_heap f1 3
                simp at z0 z1 z2 z3
                have HF2 := Lib.hid f2
                clear f1 f2
                generalize (((w5.setCell ⟨w.heap.size, 0, none⟩ (.bool false)).setCell ⟨w.heap.size, 1, none⟩ (.slice none 0 0)).setCell ⟨w.heap.size, 2, none⟩ (.slice none 0 0)).setCell ⟨w.heap.size, 3, none⟩ (.slice none 0 0) = wf at *
                refine bodyPost_ret (v := .tuple #[.agg #[.bool false, .slice none 0 0, .slice none 0 0, .slice none 0 0], .int .i64 2]) (by simp [results, Try.results18, go_sem, z0, z1, z2, z3]) rfl ⟨.slice none 0 0, .slice none 0 0, .slice none 0 0, ?_, ?_, HF2.out⟩
                · rw [HNO.out.1, HNO.out.2]
                  rfl
                · rw [HNO.out.1]
                  exact ⟨Sts.nil _, Sts.nil _, Nums.nil _⟩
            · have hz : ¬ (j : Int) + 1 < (ct : Int) := by omega
              go_wp2_with fail
              have HRV := Lib.hid (HS.out.rv (Keep.refl (fun i => i = w.heap.size) wr))
              obtain ⟨nd, hnd⟩ : ∃ nd, nd = (⟨false, N.keysI l (2 + i * 4) j k, [], N.kidsI l i⟩ : N.Nd) := ⟨_, rfl⟩
              have HTK : Hid ((N.took nd l (k : Int) (v : Int) = N.readOK 4 l k v) ∧ (N.readOK 4 l k v = true → nd = N.parse false l ct k v)) := by
                rw [hnd]
                exact by rw [HCT.out]; exact N.ref_inner l i j k v hln.out him.out HXX.out hjm.out HYY.out
              have HWR := Lib.hid (refwrite_any wr (⟨false, N.keysI l (2 + i * 4) j k, [], N.kidsI l i⟩ : N.Nd) kv vv pv (k : Int) (v : Int) HRV.out (N.rg_kidsI l i) (by show (N.keysI l (2 + i * 4) j k).length ≤ _; rw [N.len_keysI]; have := hj6.out; omega) (by simp) (by show (N.kidsI l i).length ≤ _; rw [N.len_kidsI]; have := hi6.out; omega) (fun bb hbb => by obtain ⟨jj, _, rfl⟩ := List.mem_map.1 hbb; rw [List.length_take]; omega))
              have hlf : nd.leaf = false := by rw [hnd]
              rw [← hnd] at HWR
              simp only [hlf] at HWR
              have HQF : Hid (∀ W x0 x1 x2 x3, W = ((((wr.setCell ⟨w.heap.size, 0, none⟩ x0).setCell ⟨w.heap.size, 1, none⟩ x1).setCell ⟨w.heap.size, 2, none⟩ x2).setCell ⟨w.heap.size, 3, none⟩ x3) → True) := fun _ _ _ _ _ _ => trivial
              clear HQF
              have HND := Lib.hid hnd
              have Hfalse := Lib.hid hlf
              clear hnd hlf HRV
              unfold nodv at HWR
              refine HWR.out.mono ?_
              rintro e w5 ⟨rfl, hb5⟩
              have HS5 := Lib.hid (HS.out.below hb5)
              obtain ⟨K, hK⟩ : ∃ K, K = N.wK nd (k : Int) (v : Int) := ⟨_, rfl⟩
              obtain ⟨E, hE⟩ : ∃ E, E = N.wE nd (k : Int) (v : Int) := ⟨_, rfl⟩
              obtain ⟨BB, hBB⟩ : ∃ BB, BB = N.wB nd (k : Int) (v : Int) := ⟨_, rfl⟩
              have HT2 : Hid (N.took nd l (k : Int) (v : Int) = (decide (E = 0) && decide (BB = l))) := by show _ = _; rw [hE, hBB]; rfl
              rw [← hK, ← hE, ← hBB]
              clear hK hE hBB hb5 HWR
              obtain ⟨p0, p1, p2, p3⟩ := HS5.out.gx.nb
              have HBZ : Hid (Below w.heap.size w w5) := HS5.out.kp
              have HRZ := Lib.hid HS5.out.rb
              obtain ⟨r0, r1, r2, r3⟩ : Nb w5 w.heap.size false (.slice none 0 0) (.slice none 0 0) (.slice none 0 0) := ⟨by rw [cell_of_heap HRZ.out]; rfl, by rw [cell_of_heap HRZ.out]; rfl, by rw [cell_of_heap HRZ.out]; rfl, by rw [cell_of_heap HRZ.out]; rfl⟩
              have fr0 := frozen_of_heap HRZ.out 0
              have fr1 := frozen_of_heap HRZ.out 1
              have fr2 := frozen_of_heap HRZ.out 2
              have fr3 := frozen_of_heap HRZ.out 3
              obtain ⟨Y1, e1, rfl, _⟩ : Sts w5 kv (N.keysI l (2 + i * 4) j k) := Sts.own (base := 0) (by have := HS5.out.gx.o0; rw [svs_length] at this; exact this)
              obtain ⟨Y2, e2, rfl, _⟩ : Sts w5 vv ([] : List (List UInt8)) := Sts.own (base := 0) (by have := HS5.out.gx.o1; rw [svs_length] at this; exact this)
              obtain ⟨Y3, e3, rfl, _⟩ : Nums w5 pv (N.kidsI l i) := Nums.own (base := 0) (by have := HS5.out.gx.o2; rw [us_length] at this; exact this)
              generalize hl1 : (N.keysI l (2 + i * 4) j k).length = y1 at *
              generalize hl2 : ([] : List (List UInt8)).length = y2 at *
              generalize hl3 : (N.kidsI l i).length = y3 at *
              clear hl1 hl2 hl3
              obtain ⟨sB, hsB⟩ : ∃ sB, sB = str BB := ⟨_, rfl⟩
              rw [← hsB]
              have HSB := Lib.hid hsB
              clear hsB
              by_cases hE : E = 0
              · subst hE
                by_cases hq : BB = l
                · have hok : N.readOK 4 l k v = true := by rw [← HTK.out.1, HT2.out, hq]; simp
                  have hss : sB = sl := by rw [HSB.out, HSL.out, hq]
                  subst hss
                  have HY := Lib.hid (HYQ.out hok)
                  have HPE := Lib.hid (HTK.out.2 hok)
                  clear hok hq HT2 HTK HNQ HYQ
                  go_wp2
                  obtain ⟨f1, f2⟩ := rq_fin HRZ.out HBZ.out (.bool false) (.slice Y1 y1 e1) (.slice Y2 y2 e2) (.slice Y3 y3 e3)
                  have f3 := HS5.out.fin (.bool false) (.slice Y1 y1 e1) (.slice Y2 y2 e2) (.slice Y3 y3 e3)
                  have z0 := cell_of_heap f1 0
                  have z1 := cell_of_heap f1 1
                  have z2 := cell_of_heap f1 2
                  have z3 := cell_of_heap f1 3
                  simp at z0 z1 z2 z3
                  have HF2 := Lib.hid f2
                  have HF3 := Lib.hid f3
                  clear f1 f2 f3
                  generalize (((w5.setCell ⟨w.heap.size, 0, none⟩ (.bool false)).setCell ⟨w.heap.size, 1, none⟩ (.slice Y1 y1 e1)).setCell ⟨w.heap.size, 2, none⟩ (.slice Y2 y2 e2)).setCell ⟨w.heap.size, 3, none⟩ (.slice Y3 y3 e3) = wf at *
                  refine bodyPost_ret (v := .tuple #[.agg #[.bool false, .slice Y1 y1 e1, .slice Y2 y2 e2, .slice Y3 y3 e3], .int .i64 0]) (by simp [results, Try.results18, go_sem, z0, z1, z2, z3]) rfl ⟨.slice Y1 y1 e1, .slice Y2 y2 e2, .slice Y3 y3 e3, ?_, ?_, HF2.out⟩
                  · rw [HY.out.1, HY.out.2, ← HPE.out, Hfalse.out]
                    rfl
                  · rw [HY.out.1, ← HPE.out, HND.out]
                    exact HF3.out
                · have hok : N.readOK 4 l k v = false := by rw [← HTK.out.1, HT2.out, decide_eq_false hq]; rfl
                  have hne : (sB.toList == sl.toList) = false := by rw [HSB.out, HSL.out, str_eq, decide_eq_false hq]
                  have HNO := Lib.hid (HNQ.out hok)
                  clear hok hq HT2 HTK HNQ HYQ
                  go_wp2
                  obtain ⟨f1, f2⟩ := rq_fin HRZ.out HBZ.out (.bool false) (.slice none 0 0) (.slice none 0 0) (.slice none 0 0)
                  have z0 := cell_of_heap f1 0
                  have z1 := cell_of_heap f1 1
                  have z2 := cell_of_heap f1 2
                  have z3 := cell_of_heap f1 3
                  simp at z0 z1 z2 z3
                  have HF2 := Lib.hid f2
                  clear f1 f2
                  generalize (((w5.setCell ⟨w.heap.size, 0, none⟩ (.bool false)).setCell ⟨w.heap.size, 1, none⟩ (.slice none 0 0)).setCell ⟨w.heap.size, 2, none⟩ (.slice none 0 0)).setCell ⟨w.heap.size, 3, none⟩ (.slice none 0 0) = wf at *
                  refine bodyPost_ret (v := .tuple #[.agg #[.bool false, .slice none 0 0, .slice none 0 0, .slice none 0 0], .int .i64 2]) (by simp [results, Try.results18, go_sem, z0, z1, z2, z3]) rfl ⟨.slice none 0 0, .slice none 0 0, .slice none 0 0, ?_, ?_, HF2.out⟩
                  · rw [HNO.out.1, HNO.out.2]
                    rfl
                  · rw [HNO.out.1]
                    exact ⟨Sts.nil _, Sts.nil _, Nums.nil _⟩
              · have hne : ((E : Int) != 0) = true := by rw [bne_iff_ne]; omega
                have hok : N.readOK 4 l k v = false := by rw [← HTK.out.1, HT2.out, decide_eq_false hE]; rfl
                have HNO := Lib.hid (HNQ.out hok)
                clear hok hE HT2 HTK HNQ HYQ
                go_wp2
                obtain ⟨f1, f2⟩ := rq_fin HRZ.out HBZ.out (.bool false) (.slice none 0 0) (.slice none 0 0) (.slice none 0 0)
                have z0 := cell_of_heap f1 0
                have z1 := cell_of_heap f1 1
                have z2 := cell_of_heap f1 2
                have z3 := cell_of_heap f1 3
                simp at z0 z1 z2 z3
                have HF2 := Lib.hid f2
                clear f1 f2
                generalize (((w5.setCell ⟨w.heap.size, 0, none⟩ (.bool false)).setCell ⟨w.heap.size, 1, none⟩ (.slice none 0 0)).setCell ⟨w.heap.size, 2, none⟩ (.slice none 0 0)).setCell ⟨w.heap.size, 3, none⟩ (.slice none 0 0) = wf at *
                refine bodyPost_ret (v := .tuple #[.agg #[.bool false, .slice none 0 0, .slice none 0 0, .slice none 0 0], .int .i64 2]) (by simp [results, Try.results18, go_sem, z0, z1, z2, z3]) rfl ⟨.slice none 0 0, .slice none 0 0, .slice none 0 0, ?_, ?_, HF2.out⟩
                · rw [HNO.out.1, HNO.out.2]
                  rfl
                · rw [HNO.out.1]
                  exact ⟨Sts.nil _, Sts.nil _, Nums.nil _⟩
end Go.Proofs.Ytceoelemlokelaa
