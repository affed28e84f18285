/- node.said: a leaf's parts. -/
import Derived.Test.YtceoelemlokelaaHm
import Derived.RangeFuncBox
namespace Go.Proofs.Ytceoelemlokelaa
open Go.RowKit

theorem Sd.nbs {w wr : World} {lb b0 : Nat} {lf : Bool} {kv vv pv : Value} {xs ys : List Value} {ks vs : List (List UInt8)} {ps : List Int} {l : List UInt8} {F : Nat → Prop} (h : Sd w wr lb b0 lf kv vv pv xs ys ks vs ps l) (hF : ∀ i, F i → i ≠ w.heap.size + 1) :
    ∀ W', Keep F wr W' → Nb W' (w.heap.size + 1) lf kv vv pv := fun W' hW => by
  obtain ⟨q0, q1, q2, q3⟩ := h.gx.nb
  exact ⟨hW.cell q0 (fun q => hF _ q rfl), hW.cell q1 (fun q => hF _ q rfl), hW.cell q2 (fun q => hF _ q rfl), hW.cell q3 (fun q => hF _ q rfl)⟩
theorem Sd.far0 {w wr : World} {lb b0 : Nat} {lf : Bool} {kv vv pv : Value} {xs ys : List Value} {ks vs : List (List UInt8)} {ps : List Int} {l : List UInt8} (h : Sd w wr lb b0 lf kv vv pv xs ys ks vs ps l) (i : Nat) (q : i = lb ∨ kv.ownBlock = some i) : i ≠ w.heap.size + 1 := by
  have := h.l1
  rcases q with q | q
  · omega
  · have := h.gx.l0 i q; omega
theorem Sd.far1 {w wr : World} {lb b0 : Nat} {lf : Bool} {kv vv pv : Value} {xs ys : List Value} {ks vs : List (List UInt8)} {ps : List Int} {l : List UInt8} (h : Sd w wr lb b0 lf kv vv pv xs ys ks vs ps l) (i : Nat) (q : i = lb ∨ vv.ownBlock = some i) : i ≠ w.heap.size + 1 := by
  have := h.l1
  rcases q with q | q
  · omega
  · have := h.gx.l1 i q; omega
theorem Sd.far2 {w wr : World} {lb b0 : Nat} {lf : Bool} {kv vv pv : Value} {xs ys : List Value} {ks vs : List (List UInt8)} {ps : List Int} {l : List UInt8} (h : Sd w wr lb b0 lf kv vv pv xs ys ks vs ps l) (i : Nat) (q : i = lb ∨ pv.ownBlock = some i) : i ≠ w.heap.size + 1 := by
  have := h.l1
  rcases q with q | q
  · omega
  · have := h.gx.l2 i q; omega
/-- The node that was made, wherever what is older turns. -/
theorem Sd.nv {w wr W : World} {lb b0 : Nat} {lf : Bool} {kv vv pv : Value} {xs ys : List Value} {ks vs : List (List UInt8)} {ps : List Int} {l : List UInt8} (h : Sd w wr lb b0 lf kv vv pv xs ys ks vs ps l) (k : Keep (fun i => i ≤ w.heap.size) wr W) : NV W kv vv pv ⟨lf, ks, vs, ps⟩ := by
  have n8 : ∀ i, i ≤ w.heap.size → w.heap.size + 2 ≤ i → ∀ cur, wr.heap[i]? ≠ some (.cells cur 5 (0, 0)) := fun i e q => by omega
  have lo : ∀ (v : Value), (∀ k, v.ownBlock = some k → w.heap.size + 2 ≤ k) → ∀ i, v.ownBlock = some i → ¬ i ≤ w.heap.size := fun v hv i hi e => by
    have := hv i hi
    omega
  exact ⟨(h.e0.keep k n8).brs (own_keep h.gx.o0 k (lo _ h.gx.l0)), (h.e1.keep k n8).brs (own_keep h.gx.o1 k (lo _ h.gx.l1)), Nums.own (base := 0) (by have := own_keep h.gx.o2 k (lo _ h.gx.l2); rw [us_length] at this; exact this)⟩
/-- The result is laid; all else stays. -/
theorem Sd.fin {w wr : World} {lb b0 : Nat} {lf : Bool} {kv vv pv : Value} {xs ys : List Value} {ks vs : List (List UInt8)} {ps : List Int} {l : List UInt8} (h : Sd w wr lb b0 lf kv vv pv xs ys ks vs ps l) (x0 x1 x2 x3 : Value) :
    (∀ W, Keep (fun i => i < w.heap.size) ((((wr.setCell ⟨w.heap.size, 0, none⟩ x0).setCell ⟨w.heap.size, 1, none⟩ x1).setCell ⟨w.heap.size, 2, none⟩ x2).setCell ⟨w.heap.size, 3, none⟩ x3) W → NV W kv vv pv ⟨lf, ks, vs, ps⟩) ∧
    Keep (fun k => k = lb) w ((((wr.setCell ⟨w.heap.size, 0, none⟩ x0).setCell ⟨w.heap.size, 1, none⟩ x1).setCell ⟨w.heap.size, 2, none⟩ x2).setCell ⟨w.heap.size, 3, none⟩ x3) := by
  have k : Keep (fun k => k = w.heap.size) wr ((((wr.setCell ⟨w.heap.size, 0, none⟩ x0).setCell ⟨w.heap.size, 1, none⟩ x1).setCell ⟨w.heap.size, 2, none⟩ x2).setCell ⟨w.heap.size, 3, none⟩ x3) :=
    (((((Keep.refl (fun k => k = w.heap.size) wr).setCell (p := ⟨w.heap.size, 0, none⟩) (.inl rfl) x0).setCell (p := ⟨w.heap.size, 1, none⟩) (.inl rfl) x1).setCell (p := ⟨w.heap.size, 2, none⟩) (.inl rfl) x2).setCell (p := ⟨w.heap.size, 3, none⟩) (.inl rfl) x3)
  generalize (((wr.setCell ⟨w.heap.size, 0, none⟩ x0).setCell ⟨w.heap.size, 1, none⟩ x1).setCell ⟨w.heap.size, 2, none⟩ x2).setCell ⟨w.heap.size, 3, none⟩ x3 = wf at *
  refine ⟨fun W hW => h.nv ((k.mono (fun i _ (e : i = w.heap.size) => show i ≤ w.heap.size by omega)).trans hW (fun i (e : i < w.heap.size) => .inl (show i ≤ w.heap.size by omega))), h.kp.trans k (fun i e => .inr (by have e : i = w.heap.size := e; omega))⟩
theorem keysL_next (B : List UInt8) (i k v : Nat) : N.keysL B (i + 1) k v = N.keysL B i k v ++ [(B.drop (2 + i * (k + v))).take k] := by simp [N.keysL, List.range_succ]
theorem valsL_next (B : List UInt8) (i k v : Nat) : N.valsL B (i + 1) k v = N.valsL B i k v ++ [(B.drop (2 + i * (k + v) + k)).take v] := by simp [N.valsL, List.range_succ]
theorem drop_next (B : List UInt8) (i s : Nat) : (B.drop (2 + i * s)).drop s = B.drop (2 + (i + 1) * s) := by
  rw [List.drop_drop, Nat.add_mul, Nat.one_mul, Nat.add_assoc]
set_option maxHeartbeats 3200000 in
theorem nsaid_leaf (w : World) (lb b0 c k v : Nat) (B : List UInt8) (hB : Hid (2 + c * (k + v) ≤ B.length)) (hBm : Hid (B.length ≤ 1000)) (hc : c ≤ 498) (hk : k ≤ 24) (hv : v ≤ 108) (HL : Hid (Lf w lb b0 (B.drop 2))) (l1 : Hid (lb < w.heap.size)) (l2 : Hid (b0 < w.heap.size)) :
    Calls Try.prog 34 #[.func (Fn.func 43) #[] #[.pointer (some ⟨lb, 0, none⟩)], .int .u8 3, .int .i64 (c : Int), .int .i64 (k : Int), .int .i64 (v : Int)] w fun e w' =>
      ∃ kv vv pv, e = .returned (nodv true kv vv pv) ∧ (∀ W, Keep (fun i => i < w.heap.size) w' W → NV W kv vv pv (N.parse true B c k v)) ∧ Keep (fun k => k = lb) w w' := by
  obtain ⟨i0, hi0, hz0, hz1, hz2⟩ := info_parts Try.info29
  have HS0 : Hid (Sd w ((w.alloc (.cells #[.bool false, .slice none 0 0, .slice none 0 0, .slice none 0 0] 28)).alloc (.cells #[.bool true, .slice none 0 0, .slice none 0 0, .slice none 0 0] 28)) lb b0 true (.slice none 0 0) (.slice none 0 0) (.slice none 0 0) [] [] [] [] [] (B.drop 2)) := by
    have e1 : (w.alloc (.cells #[.bool false, .slice none 0 0, .slice none 0 0, .slice none 0 0] 28)).heap.size = w.heap.size + 1 := World.size_alloc _ _
    have g := Gx.made (w.alloc (.cells #[.bool false, .slice none 0 0, .slice none 0 0, .slice none 0 0] 28)) 28 29 true (w.heap.size + 2) (by rw [e1])
    rw [e1] at g
    have hb := bal (alb (w := w) (.cells #[.bool false, .slice none 0 0, .slice none 0 0, .slice none 0 0] 28)) (.cells #[.bool true, .slice none 0 0, .slice none 0 0, .slice none 0 0] 28)
    refine ⟨g, ?_, Els.nil _ _, Els.nil _ _, HL.out.below hb, Keep.of_below hb, l1.out, l2.out⟩
    refine ((alb _).block _ (by rw [e1]; omega)).trans ?_
    show (w.heap.push _)[w.heap.size]? = _
    simp
  go_enter Try.func34, Try.ntmps34
  go_wp2_with fail
  generalize (w.alloc (.cells #[.bool false, .slice none 0 0, .slice none 0 0, .slice none 0 0] 28)).alloc (.cells #[.bool true, .slice none 0 0, .slice none 0 0, .slice none 0 0] 28) = w1 at *
  go_loopg [18] c (fun g s18 wr => ∃ (i : Nat) (kv vv pv : Value) (xs ys : List Value), s18 = .int .i64 (i : Int) ∧ i ≤ c ∧ c - i ≤ g ∧ Hid (Sd w wr lb b0 true kv vv pv xs ys (N.keysL B i k v) (N.valsL B i k v) [] (B.drop (2 + i * (k + v)))))
  case atStart => exact ⟨0, _, _, _, [], [], rfl, by omega, by omega, by simpa [N.keysL, N.valsL] using HS0⟩
  case round =>
    obtain ⟨i, kv, vv, pv, xs, ys, rfl, h1, h2, HS⟩ := hrel
    clear HS0
    by_cases hi : i < c
    · have hz : (i : Int) < (c : Int) := by omega
      have hroom : Hid (2 + i * (k + v) + (k + v) ≤ B.length) := by
        have a1 : (i + 1) * (k + v) ≤ c * (k + v) := Nat.mul_le_mul_right _ (by omega)
        have a2 : (i + 1) * (k + v) = i * (k + v) + (k + v) := by rw [Nat.add_mul, Nat.one_mul]
        have := hB.out
        show _ ≤ _
        omega
      go_wp2_with fail
      have HNB : Hid (∀ W', Keep (fun i => i = lb ∨ kv.ownBlock = some i) wr W' → Nb W' (w.heap.size + 1) true kv vv pv) := HS.out.nbs (fun i q => HS.out.far0 i q)
      have hS : Hid (Keep (fun i => i = lb ∨ kv.ownBlock = some i) wr wr.drew) := (Keep.refl _ _).drew
      refine lz_start 9 8 (fun W' => Keep (fun i => i = lb ∨ kv.ownBlock = some i) wr W') rfl (by kernel_rfl) ?_
      refine lz_take 0 20 (v := ?_) rfl rfl (by kernel_rfl) (by kernel_rfl) (by kernel_rfl) (by kernel_rfl) (fun _ _ _ _ _ h => h) (by rfl) hS.out (fun W hW => ?_) ?_
      rotate_left
      · obtain ⟨q0, q1, q2, q3⟩ := HNB.out _ hW; go_simp; try rfl
      try simp only [Act.put, List.setIfInBounds_toArray, List.set_cons_zero, List.set_cons_succ]
      refine lz_take 1 21 (v := ?_) rfl rfl (by kernel_rfl) (by kernel_rfl) (by kernel_rfl) (by kernel_rfl) (fun _ _ _ _ _ h => h) (by rfl) hS.out (fun W hW => ?_) ?_
      rotate_left
      · obtain ⟨q0, q1, q2, q3⟩ := HNB.out _ hW; go_simp; try rfl
      try simp only [Act.put, List.setIfInBounds_toArray, List.set_cons_zero, List.set_cons_succ]
      refine lz_take 2 22 (v := ?_) rfl rfl (by kernel_rfl) (by kernel_rfl) (by kernel_rfl) (by kernel_rfl) (fun _ _ _ _ _ h => h) (by rfl) hS.out (fun W hW => ?_) ?_
      rotate_left
      · go_simp; try rfl
      try simp only [Act.put, List.setIfInBounds_toArray, List.set_cons_zero, List.set_cons_succ]
      refine lz_take 3 23 (v := ?_) rfl rfl (by kernel_rfl) (by kernel_rfl) (by kernel_rfl) (by kernel_rfl) (fun _ _ _ _ _ h => h) (by rfl) hS.out (fun W hW => ?_) ?_
      rotate_left
      · go_simp; try rfl
      try simp only [Act.put, List.setIfInBounds_toArray, List.set_cons_zero, List.set_cons_succ]
      have HS1 := Lib.hid (HS.out.below (Below.refl _ wr).drew)
      have hsz := HS1.out.size
      have k1 : Hid (Keep (fun i => i = lb ∨ kv.ownBlock = some i) wr wr.drew) := hS.out
      clear hS HNB
      generalize wr.drew = u at *
      refine lz_op 4 rfl rfl (by kernel_rfl) (fun K hK => ?_)
      go_simp
      refine (ntake1_any u lb b0 k _ HS1.out.lf (by rw [List.length_drop]; have := hroom.out; omega) (by rw [List.length_drop]; have := hBm.out; omega)).mono ?_
      rintro e w2 ⟨rfl, hbk, hlf, hkp⟩
      have HS2 := Lib.hid (HS1.out.keep hlf hkp)
      have HBK := Lib.hid hbk
      have k2 : Hid (Keep (fun i => i = lb ∨ kv.ownBlock = some i) wr w2) := k1.out.trans hkp (fun i q => .inl (.inl q))
      refine hK.out _ _ k2.out ?_
      clear hK K hbk hlf hkp k1 HS1
      generalize u.heap.size = g2 at *
      try simp only [Act.put, List.setIfInBounds_toArray, List.set_cons_zero, List.set_cons_succ]
      refine lz_op 5 rfl rfl (by kernel_rfl) (fun K hK => ?_)
      go_simp
      refine hK.out _ _ (k2.out.alloc _) ?_
      clear hK K
      try simp only [Act.put, List.setIfInBounds_toArray, List.set_cons_zero, List.set_cons_succ]
      refine lz_op 6 rfl rfl (by kernel_rfl) (fun K hK => ?_)
      refine wp_append_own2 _ _ 25 rfl 29 i0 _ 1 24 Try.underlying25 hi0 hz0 hz1 hz2 rfl (by decide) kv xs.length xs rfl (HS2.out.gx.o0.alloc _) ⟨w2.heap.size, 0, none⟩ 1 1 [.slice (some ⟨g2, 0, none⟩) k k] rfl rfl ?c2 ?c3 ?c4 ?c5 ?_
      case c2 =>
        intro j y hj
        have hj0 : j = 0 := by
          have := (List.getElem?_eq_some_iff.1 hj).1
          simp at this
          omega
        subst hj0
        simp at hj
        rw [← hj]
        exact (Boxed.new _ _ _).cell
      case c3 =>
        intro y hy
        rw [List.mem_singleton.1 hy]
        rfl
      case c4 => rw [HS.out.e0.1, N.len_keysL]; unfold maxLen; omega
      case c5 => rw [HS.out.e0.1, N.len_keysL]; omega
      intro v5 w5 ho5 hg5 hf5
      obtain ⟨g5, cap5, rfl⟩ := ownsRow_succ ho5
      have k5 : Hid (Keep (fun i => i = lb ∨ kv.ownBlock = some i) wr w5) := (k2.out.alloc _).grown hg5 (fun k hk => .inl (.inr hk))
      obtain ⟨nb5, fz5, hs5⟩ := HS2.out.key (n := k) HBK.out (by rw [List.length_take, List.length_drop]; have := hroom.out; omega) (by omega) hg5 (by rw [List.length_append]; exact ho5) hf5
      have f5 := fz5 1
      obtain ⟨q0, q1, q2, q3⟩ := nb5
      have HS5 := Lib.hid hs5
      refine hK.out _ _ k5.out ?_
      have hS := k5
      clear hK K ho5 hg5 hf5 fz5 hs5 k2 k5
      show Lz _ _ _ _ _ _ _ (Act.put _ (some 26) _) _
      try simp only [Act.put, List.setIfInBounds_toArray, List.set_cons_zero, List.set_cons_succ]
      refine lz_take 7 27 (v := ?_) rfl rfl (by kernel_rfl) (by kernel_rfl) (by kernel_rfl) (by kernel_rfl) (fun _ _ _ _ _ h => h) (by rfl) hS.out (fun W hW => ?_) ?_
      rotate_left
      · go_simp; try rfl
      try simp only [Act.put, List.setIfInBounds_toArray, List.set_cons_zero, List.set_cons_succ]
      refine lz_end rfl rfl (by kernel_rfl) (by kernel_rfl) (fun K hK => ?_)
      go_simp
      refine hK.out _ _ ?_
      clear hK K hS q0 q1 q2 q3 f5 HBK HS2
      generalize w5.setCell ⟨w.heap.size + 1, 1, none⟩ (.slice (some ⟨g5, 0, none⟩) (xs.length + 1) cap5) = w6 at *
      generalize Value.slice (some ⟨g5, 0, none⟩) (xs.length + 1) cap5 = kv5 at *
      have HSK : Hid (Sd w w6 lb b0 true kv5 vv pv (xs ++ [Value.slice (some ⟨g2, 0, none⟩) k k]) ys (N.keysL B (i + 1) k v) (N.valsL B i k v) [] (B.drop (2 + i * (k + v) + k))) := by
        have := HS5.out
        rw [List.drop_drop] at this
        rw [keysL_next]
        exact this
      clear HS5 HS
      generalize xs ++ [Value.slice (some ⟨g2, 0, none⟩) k k] = xs5 at *
      go_wp2_with fail
      have HNB : Hid (∀ W', Keep (fun i => i = lb ∨ vv.ownBlock = some i) w6 W' → Nb W' (w.heap.size + 1) true kv5 vv pv) := HSK.out.nbs (fun i q => HSK.out.far1 i q)
      have hS : Hid (Keep (fun i => i = lb ∨ vv.ownBlock = some i) w6 w6.drew) := (Keep.refl _ _).drew
      refine lz_start 9 8 (fun W' => Keep (fun i => i = lb ∨ vv.ownBlock = some i) w6 W') rfl (by kernel_rfl) ?_
      refine lz_take 0 28 (v := ?_) rfl rfl (by kernel_rfl) (by kernel_rfl) (by kernel_rfl) (by kernel_rfl) (fun _ _ _ _ _ h => h) (by rfl) hS.out (fun W hW => ?_) ?_
      rotate_left
      · obtain ⟨q0, q1, q2, q3⟩ := HNB.out _ hW; go_simp; try rfl
      try simp only [Act.put, List.setIfInBounds_toArray, List.set_cons_zero, List.set_cons_succ]
      refine lz_take 1 29 (v := ?_) rfl rfl (by kernel_rfl) (by kernel_rfl) (by kernel_rfl) (by kernel_rfl) (fun _ _ _ _ _ h => h) (by rfl) hS.out (fun W hW => ?_) ?_
      rotate_left
      · obtain ⟨q0, q1, q2, q3⟩ := HNB.out _ hW; go_simp; try rfl
      try simp only [Act.put, List.setIfInBounds_toArray, List.set_cons_zero, List.set_cons_succ]
      refine lz_take 2 30 (v := ?_) rfl rfl (by kernel_rfl) (by kernel_rfl) (by kernel_rfl) (by kernel_rfl) (fun _ _ _ _ _ h => h) (by rfl) hS.out (fun W hW => ?_) ?_
      rotate_left
      · go_simp; try rfl
      try simp only [Act.put, List.setIfInBounds_toArray, List.set_cons_zero, List.set_cons_succ]
      refine lz_take 3 31 (v := ?_) rfl rfl (by kernel_rfl) (by kernel_rfl) (by kernel_rfl) (by kernel_rfl) (fun _ _ _ _ _ h => h) (by rfl) hS.out (fun W hW => ?_) ?_
      rotate_left
      · go_simp; try rfl
      try simp only [Act.put, List.setIfInBounds_toArray, List.set_cons_zero, List.set_cons_succ]
      have HS1 := Lib.hid (HSK.out.below (Below.refl _ w6).drew)
      have hsz := HS1.out.size
      have k1 : Hid (Keep (fun i => i = lb ∨ vv.ownBlock = some i) w6 w6.drew) := hS.out
      clear hS HNB
      generalize w6.drew = u at *
      refine lz_op 4 rfl rfl (by kernel_rfl) (fun K hK => ?_)
      go_simp
      refine (ntake1_any u lb b0 v _ HS1.out.lf (by rw [List.length_drop]; have := hroom.out; omega) (by rw [List.length_drop]; have := hBm.out; omega)).mono ?_
      rintro e w2 ⟨rfl, hbk, hlf, hkp⟩
      have HS2 := Lib.hid (HS1.out.keep hlf hkp)
      have HBK := Lib.hid hbk
      have k2 : Hid (Keep (fun i => i = lb ∨ vv.ownBlock = some i) w6 w2) := k1.out.trans hkp (fun i q => .inl (.inl q))
      refine hK.out _ _ k2.out ?_
      clear hK K hbk hlf hkp k1 HS1
      generalize u.heap.size = g2 at *
      try simp only [Act.put, List.setIfInBounds_toArray, List.set_cons_zero, List.set_cons_succ]
      refine lz_op 5 rfl rfl (by kernel_rfl) (fun K hK => ?_)
      go_simp
      refine hK.out _ _ (k2.out.alloc _) ?_
      clear hK K
      try simp only [Act.put, List.setIfInBounds_toArray, List.set_cons_zero, List.set_cons_succ]
      refine lz_op 6 rfl rfl (by kernel_rfl) (fun K hK => ?_)
      refine wp_append_own2 _ _ 25 rfl 29 i0 _ 1 24 Try.underlying25 hi0 hz0 hz1 hz2 rfl (by decide) vv ys.length ys rfl (HS2.out.gx.o1.alloc _) ⟨w2.heap.size, 0, none⟩ 1 1 [.slice (some ⟨g2, 0, none⟩) v v] rfl rfl ?c2 ?c3 ?c4 ?c5 ?_
      case c2 =>
        intro j y hj
        have hj0 : j = 0 := by
          have := (List.getElem?_eq_some_iff.1 hj).1
          simp at this
          omega
        subst hj0
        simp at hj
        rw [← hj]
        exact (Boxed.new _ _ _).cell
      case c3 =>
        intro y hy
        rw [List.mem_singleton.1 hy]
        rfl
      case c4 => rw [HSK.out.e1.1, N.len_valsL]; unfold maxLen; omega
      case c5 => rw [HSK.out.e1.1, N.len_valsL]; omega
      intro v5 w5 ho5 hg5 hf5
      obtain ⟨g5, cap5, rfl⟩ := ownsRow_succ ho5
      have k5 : Hid (Keep (fun i => i = lb ∨ vv.ownBlock = some i) w6 w5) := (k2.out.alloc _).grown hg5 (fun k hk => .inl (.inr hk))
      obtain ⟨nb5, fz5, hs5⟩ := HS2.out.val (n := v) HBK.out (by rw [List.length_take, List.length_drop]; have := hroom.out; omega) (by omega) hg5 (by rw [List.length_append]; exact ho5) hf5
      have f5 := fz5 2
      obtain ⟨q0, q1, q2, q3⟩ := nb5
      have HS5 := Lib.hid hs5
      refine hK.out _ _ k5.out ?_
      have hS := k5
      clear hK K ho5 hg5 hf5 fz5 hs5 k2 k5
      show Lz _ _ _ _ _ _ _ (Act.put _ (some 34) _) _
      try simp only [Act.put, List.setIfInBounds_toArray, List.set_cons_zero, List.set_cons_succ]
      refine lz_take 7 35 (v := ?_) rfl rfl (by kernel_rfl) (by kernel_rfl) (by kernel_rfl) (by kernel_rfl) (fun _ _ _ _ _ h => h) (by rfl) hS.out (fun W hW => ?_) ?_
      rotate_left
      · go_simp; try rfl
      try simp only [Act.put, List.setIfInBounds_toArray, List.set_cons_zero, List.set_cons_succ]
      refine lz_end rfl rfl (by kernel_rfl) (by kernel_rfl) (fun K hK => ?_)
      go_simp
      refine hK.out _ _ ?_
      clear hK K hS q0 q1 q2 q3 f5 HBK HS2
      generalize w5.setCell ⟨w.heap.size + 1, 2, none⟩ (.slice (some ⟨g5, 0, none⟩) (ys.length + 1) cap5) = w7 at *
      generalize Value.slice (some ⟨g5, 0, none⟩) (ys.length + 1) cap5 = vv5 at *
      have HSV : Hid (Sd w w7 lb b0 true kv5 vv5 pv xs5 (ys ++ [Value.slice (some ⟨g2, 0, none⟩) v v]) (N.keysL B (i + 1) k v) (N.valsL B (i + 1) k v) [] (B.drop (2 + (i + 1) * (k + v)))) := by
        have := HS5.out
        rw [List.drop_drop] at this
        have e : 2 + i * (k + v) + k + v = 2 + (i + 1) * (k + v) := by rw [Nat.add_mul i 1, Nat.one_mul]; omega
        rw [e] at this
        rw [valsL_next]
        exact this
      clear HS5 HSK
      go_wp2
      go_roundg (c - (i + 1))
      case measure => omega
      case rel => exact ⟨i + 1, _, _, _, _, _, by go_num, by omega, by omega, HSV⟩
    · have hz : ¬ (i : Int) < (c : Int) := by omega
      obtain rfl : i = c := by omega
      obtain ⟨q0, q1, q2, q3⟩ := HS.out.gx.nb
      obtain ⟨r0, r1, r2, r3⟩ : Nb wr w.heap.size false (.slice none 0 0) (.slice none 0 0) (.slice none 0 0) := ⟨by rw [cell_of_heap HS.out.rb]; rfl, by rw [cell_of_heap HS.out.rb]; rfl, by rw [cell_of_heap HS.out.rb]; rfl, by rw [cell_of_heap HS.out.rb]; rfl⟩
      have fr := fun j => frozen_of_heap HS.out.rb j
      have fr0 := fr 0
      have fr1 := fr 1
      have fr2 := fr 2
      have fr3 := fr 3
      obtain ⟨A1, d1, rfl, _⟩ := HS.out.e0.brs HS.out.gx.o0
      obtain ⟨A2, d2, rfl, _⟩ := HS.out.e1.brs HS.out.gx.o1
      obtain ⟨A3, d3, rfl, _⟩ := Nums.own (l := []) HS.out.gx.o2
      clear fr
      go_wp2_with fail
      have hz1 := heap_set (heap_set (heap_set (heap_set HS.out.rb 0 (.bool true)) 1 (.slice A1 (N.keysL B i k v).length d1)) 2 (.slice A2 (N.valsL B i k v).length d2)) 3 (.slice A3 0 d3)
      have HFIN := Lib.hid (HS.out.fin (.bool true) (.slice A1 (N.keysL B i k v).length d1) (.slice A2 (N.valsL B i k v).length d2) (.slice A3 0 d3))
      generalize (((wr.setCell ⟨w.heap.size, 0, none⟩ (.bool true)).setCell ⟨w.heap.size, 1, none⟩ (.slice A1 (N.keysL B i k v).length d1)).setCell ⟨w.heap.size, 2, none⟩ (.slice A2 (N.valsL B i k v).length d2)).setCell ⟨w.heap.size, 3, none⟩ (.slice A3 0 d3) = wf at *
      have z0 := cell_of_heap hz1 0
      have z1 := cell_of_heap hz1 1
      have z2 := cell_of_heap hz1 2
      have z3 := cell_of_heap hz1 3
      simp at z0 z1 z2 z3
      refine bodyPost_ret (v := .agg #[.bool true, .slice A1 (N.keysL B i k v).length d1, .slice A2 (N.valsL B i k v).length d2, .slice A3 0 d3]) (by simp [results, Try.results34, go_sem, z0, z1, z2, z3]) rfl ⟨_, _, _, rfl, ?_, HFIN.out.2⟩
      have := HFIN.out.1
      unfold N.parse
      rw [if_pos rfl]
      exact this
end Go.Proofs.Ytceoelemlokelaa
