/- NodeCaps: a round of its loop. -/
import Derived.Test.YtceoelemlokelaaIf
namespace Go.Proofs.Ytceoelemlokelaa
open Go.RowKit

/-- make, as an operation. -/
theorem wp_make_full {P : Program} {w : World} {o : Oper} {a : Act} {K : Act → World → Prop} {Q : Exit → Act → World → Prop} (l c : Operand) (t : TypeId) (hop : o.op = Op.makeSlice t l c)
    (base : Nat) (e : TypeId) (i : TypeInfo) (z : Value) (size : Nat) (h1 : P.underlying t = some (.slice e)) (h2 : P.info? e = some i) (h3 : i.zero = some z) (h4 : i.size = size)
    (kl kc : IntKind) (L C : Int) (n : Nat) (hl : a.eval l = .int kl L) (hc : a.eval c = .int kc C) (hL : L = (n : Int)) (hC : C = (n : Int)) (b2 : i.bytes * n ≤ 281474976710656) (b3 : n ≤ maxLen) (b4 : base ≤ w.heap.size)
    (h : ∀ w', w'.ownsRow base e size (.slice (some ⟨w.heap.size, 0, none⟩) n n) n (madeCells z.cells (n * size)).toList → w.grownBy w' none → K (a.put o.dst (.slice (some ⟨w.heap.size, 0, none⟩) n n)) w') : o.wp P a w K Q := by
  obtain ⟨w', hrun, r1, r2⟩ := run_make_full (P := P) w base t e i z size h1 h2 h3 h4 kl kc n b2 b3 b4
  subst hL
  subst hC
  unfold Oper.wp
  simp [execOp, hop, hl, hc, hrun, Result.andThen]
  exact h w' r1 r2
set_option maxRecDepth 100000 in
set_option maxHeartbeats 12800000 in
theorem caps_core (w : World) (k v : Int) (a bb kn vn : Nat) (hk : k = (kn : Int)) (hv : v = (vn : Int)) (hk1 : 1 ≤ kn) (hk2 : kn ≤ 24) (hv2 : vn ≤ 108) (ha3 : 1 ≤ a) (ha : a ≤ 498) (HCA : Hid (N.capA k v = a)) (HCB0 : Hid (N.capB k v = bb)) :
    Calls Try.prog 3 #[.int .i64 (kn : Int), .int .i64 (vn : Int)] w fun e w' => e = .returned (.bool true) ∧ Below w.heap.size w w' := by
  obtain ⟨i0, hi0, hz0, hz1, hz2⟩ := info_parts Try.info29
  obtain ⟨r0, hr0, hp0, hp1, hp2⟩ := info_parts Try.info5
  have HC1 := Lib.hid (fun W => ncaps_any k v W)
  have HC2 := Lib.hid (fun W => refcaps_any k v W)
  have HMO := Lib.hid (caps_more k v a kn vn HCA.out)
  have HRI := Lib.hid (caps_right k v a kn vn hk hv HCA.out ha3 ha hk1)
  rw [HCA.out, HCB0.out, hk, hv] at HC1 HC2
  rw [hk, hv] at HMO HRI
  have hne : ((a : Int) != (a : Int)) = false := by simp
  have hne2 : ((bb : Int) != (bb : Int)) = false := by simp
  have ha0 : ((a : Int) == 0) = false := by rw [beq_eq_false_iff_ne]; omega
  clear hk hv HCA HCB0 k v
  go_enter Try.func3, Try.ntmps3
  go_wp2_with fail
  refine (HC1.out w).mono ?_
  rintro e w1 ⟨rfl, hb1⟩
  have HB1 := Lib.hid hb1
  clear hb1
  go_wp2_with fail
  refine (HC2.out w1).mono ?_
  rintro e w2 ⟨rfl, hb2⟩
  have HB2 := Lib.hid (btr HB1.out hb2)
  clear hb2 HB1 HC1 HC2
  have HS0 : Hid (Cd w (w2.alloc (.cells #[.bool true, .slice none 0 0, .slice none 0 0, .slice none 0 0] 28)) w2.heap.size (.slice none 0 0) (.slice none 0 0) [] [] (keysC kn 0) (valsC vn 0)) :=
    ⟨Gx.made w2 28 29 true (w2.heap.size + 1) rfl, Els.nil _ _, Els.nil _ _, bal HB2.out _, HB2.out.size⟩
  go_wp2_with fail
  generalize w2.alloc (.cells #[.bool true, .slice none 0 0, .slice none 0 0, .slice none 0 0] 28) = w3 at *
  generalize w2.heap.size = b at *
  go_loopg [39] (a + 1) (fun g s39 wr => ∃ (i : Nat) (kv vv : Value) (xs ys : List Value), s39 = .int .i64 (i : Int) ∧ i ≤ a + 1 ∧ a + 1 - i ≤ g ∧ Hid (Cd w wr b kv vv xs ys (keysC kn i) (valsC vn i)))
  case atStart => exact ⟨0, _, _, [], [], rfl, by omega, by omega, HS0⟩
  case round =>
    obtain ⟨i, kv, vv, xs, ys, rfl, h1, h2, HS⟩ := hrel
    clear HS0 HB2
    by_cases hi : i < a + 1
    · have hz : (i : Int) < (a : Int) + 1 := by omega
      go_wp2_with (first
        | (refine wpList_make_full _ rfl _ _ 29 rfl wr.heap.size 5 r0 _ 1 Try.underlying29 hr0 hp0 hp1 _ _ _ _ kn rfl rfl ?l1 ?l2 ?l3 ?l4 ?l5 ?_)
        | go_in)
      case l1 => rfl
      case l2 => rfl
      case l3 => rw [hp2]; omega
      case l4 => unfold maxLen; omega
      case l5 => exact Nat.le_refl _
      intro w4 hown hgrow
      have hb4 : Below wr.heap.size wr w4 := (Below.refl _ _).grown hgrow (Nat.le_refl _) (by intro g hg; cases hg)
      rw [made_zeros] at hown
      have HX0 : Hid (Bk w4 wr.heap.size (List.replicate kn 0)) := Bk.of_own (by simp) (by omega) hown
      have HBW := Lib.hid hb4
      have HKG : Hid (∀ k, kv.ownBlock = some k → k ≠ wr.heap.size) := fun k q => by have := (HS.out.gx.o0.lt k q).2; omega
      have HVG : Hid (∀ k, vv.ownBlock = some k → k ≠ wr.heap.size) := fun k q => by have := (HS.out.gx.o1.lt k q).2; omega
      have HGB : Hid (b + 1 ≤ wr.heap.size) := HS.out.size
      clear hown hgrow hb4
      obtain ⟨gx, hgx⟩ : ∃ g, g = wr.heap.size := ⟨_, rfl⟩
      have HGX := Lib.hid hgx
      rw [← hgx] at HX0 HKG HVG HGB ⊢
      clear hgx
      have c0 := HX0.out.cell 0 (by simp; omega)
      have fz := HX0.out.frozen 0
      obtain ⟨y0, hy0⟩ : ∃ y, y = (UInt8.ofNat i).toNat := ⟨_, rfl⟩
      obtain ⟨y1, hy1⟩ : ∃ y, y = (UInt8.ofNat (i / 256)).toNat := ⟨_, rfl⟩
      have e0 : (i : Int) % 256 = (y0 : Int) := by rw [hy0, UInt8.toNat_ofNat']; omega
      have e1 : (i : Int) / 256 = (y1 : Int) := by rw [hy1, UInt8.toNat_ofNat']; omega
      have HS1 : Hid (Bk (w4.setCell ⟨gx, 0, none⟩ (.int .u8 (y0 : Int))) gx ((List.replicate kn 0).set 0 (UInt8.ofNat i))) := by
        rw [hy0]
        exact HX0.out.set 0 (UInt8.ofNat i)
      have HY1 := Lib.hid hy1
      have HY0 := Lib.hid hy0
      clear hy0 hy1
      obtain ⟨d, hd⟩ : ∃ d, decide (1 < (kn : Int)) = d := ⟨_, rfl⟩
      have HDD := Lib.hid hd
      have hkp : 0 < kn := by omega
      generalize hzz : ((List.replicate kn (0 : UInt8)).getD 0 0).toNat = z0 at *
      clear hzz
      go_upto_if 49 with fail
      clear hd c0 fz
      have HB5 : Hid (Below wr.heap.size wr (w4.setCell ⟨gx, 0, none⟩ (.int .u8 (y0 : Int)))) := ((Keep.of_below (F := fun _ => False) HBW.out).setCell (p := ⟨gx, 0, none⟩) (.inr (by rw [HGX.out]; exact Nat.le_refl _)) _).below (Nat.le_refl _) (fun _ q => q.elim)
      generalize w4.setCell ⟨gx, 0, none⟩ (.int .u8 (y0 : Int)) = w5 at *
      go_cut [11] from 50 to 72 (fun x wc => x = .slice (some ⟨gx, 0, none⟩) kn kn ∧ Hid (Bk wc gx (xK kn i)) ∧ Hid (Below wr.heap.size wr wc))
      case first =>
        cases d with
        | true =>
          have hk1 : 1 < kn := by
            have := of_decide_eq_true HDD.out
            omega
          have c0 := HS1.out.cell 0 (by simp; omega)
          have c1 := HS1.out.cell 1 (by simp; omega)
          have f0 := HS1.out.frozen 0
          have f1 := HS1.out.frozen 1
          have hk1z : 1 < (kn : Int) := by omega
          have HS2 : Hid (Bk ((w5.setCell ⟨gx, 0, none⟩ (.int .u8 (y1 : Int))).setCell ⟨gx, 1, none⟩ (.int .u8 (y0 : Int))) gx (xK kn i)) := by
            have h := (HS1.out.set 0 (UInt8.ofNat (i / 256))).set 1 (UInt8.ofNat i)
            rw [← HY1.out, ← HY0.out] at h
            have e : (((List.replicate kn (0 : UInt8)).set 0 (UInt8.ofNat i)).set 0 (UInt8.ofNat (i / 256))).set 1 (UInt8.ofNat i) = xK kn i := by
              obtain ⟨m, rfl⟩ : ∃ m, kn = m + 2 := ⟨kn - 2, by omega⟩
              unfold xK
              rw [if_neg (by omega)]
              simp [List.replicate_succ]
            rw [e] at h
            exact h
          have HB6 : Hid (Below wr.heap.size wr ((w5.setCell ⟨gx, 0, none⟩ (.int .u8 (y1 : Int))).setCell ⟨gx, 1, none⟩ (.int .u8 (y0 : Int)))) := (((Keep.of_below (F := fun _ => False) HB5.out).setCell (p := ⟨gx, 0, none⟩) (.inr (by rw [HGX.out]; exact Nat.le_refl _)) _).setCell (p := ⟨gx, 1, none⟩) (.inr (by rw [HGX.out]; exact Nat.le_refl _)) _).below (Nat.le_refl _) (fun _ q => q.elim)
          generalize hzz : (((List.replicate kn (0 : UInt8)).set 0 (UInt8.ofNat i)).getD 0 0).toNat = z1 at *
          generalize hzy : (((List.replicate kn (0 : UInt8)).set 0 (UInt8.ofNat i)).getD 1 0).toNat = z2 at *
          clear hzz hzy
          go_wp2
          go_meet
          exact ⟨rfl, HS2, HB6⟩
        | false =>
          have hk1 : kn = 1 := by
            have := of_decide_eq_false HDD.out
            omega
          have HS2 : Hid (Bk w5 gx (xK kn i)) := by
            have h := HS1.out
            subst hk1
            exact h
          clear hk1
          go_wp2
          go_meet
          exact ⟨rfl, HS2, HB5⟩
      case rest =>
        obtain ⟨rfl, HX, HBC⟩ := hcut
        have HC := Lib.hid (HS.out.below HBC.out)
        have HKL : Hid (∀ k, kv.ownBlock = some k → k < wc.heap.size) := fun k q => by have := (HC.out.gx.o0.lt k q).2; exact this
        have HVL : Hid (∀ k, vv.ownBlock = some k → k < wc.heap.size) := fun k q => by have := (HC.out.gx.o1.lt k q).2; exact this
        have hgb := HGB.out
        clear HS HBC HS1 HB5 HBW HX0 HDD HY0 HY1 e0 e1
        go_wp2_with fail
        have HNB : Hid (∀ W', Keep (fun i => kv.ownBlock = some i ∨ vv.ownBlock = some i) wc W' → Nb W' b true kv vv (.slice none 0 0)) := fun W' hW => nb_keep HC.out.gx.nb hW (fun q => by
          have := HC.out.size
          rcases q with q | q
          · have := HC.out.gx.l0 b q; omega
          · have := HC.out.gx.l1 b q; omega)
        have HS : Hid (Keep (fun i => kv.ownBlock = some i ∨ vv.ownBlock = some i) wc wc.drew) := (Keep.refl _ _).drew
        refine ly_start 15 [12, 13, 14] (fun W' => Keep (fun i => kv.ownBlock = some i ∨ vv.ownBlock = some i) wc W') rfl (by kernel_rfl) ?_
        refine ly_take 0 59 (v := ?_) rfl rfl (by kernel_rfl) (by kernel_rfl) (by kernel_rfl) (by kernel_rfl) (by kernel_rfl) (fun _ _ _ _ _ h => h) (by rfl) HS.out (fun W hW => ?_) ?_
        rotate_left
        · obtain ⟨o0, o1, o2, o3⟩ := HNB.out _ hW; go_simp; try rfl
        try simp only [Act.put, List.setIfInBounds_toArray, List.set_cons_zero, List.set_cons_succ]
        refine ly_take 1 60 (v := ?_) rfl rfl (by kernel_rfl) (by kernel_rfl) (by kernel_rfl) (by kernel_rfl) (by kernel_rfl) (fun _ _ _ _ _ h => h) (by rfl) HS.out (fun W hW => ?_) ?_
        rotate_left
        · obtain ⟨o0, o1, o2, o3⟩ := HNB.out _ hW; go_simp; try rfl
        try simp only [Act.put, List.setIfInBounds_toArray, List.set_cons_zero, List.set_cons_succ]
        refine ly_take 2 61 (v := ?_) rfl rfl (by kernel_rfl) (by kernel_rfl) (by kernel_rfl) (by kernel_rfl) (by kernel_rfl) (fun _ _ _ _ _ h => h) (by rfl) HS.out (fun W hW => ?_) ?_
        rotate_left
        · obtain ⟨o0, o1, o2, o3⟩ := HNB.out _ hW; go_simp; try rfl
        try simp only [Act.put, List.setIfInBounds_toArray, List.set_cons_zero, List.set_cons_succ]
        refine ly_take 5 64 (v := ?_) rfl rfl (by kernel_rfl) (by kernel_rfl) (by kernel_rfl) (by kernel_rfl) (by kernel_rfl) (fun _ _ _ _ _ h => h) (by rfl) HS.out (fun W hW => ?_) ?_
        rotate_left
        · obtain ⟨o0, o1, o2, o3⟩ := HNB.out _ hW; go_simp; try rfl
        try simp only [Act.put, List.setIfInBounds_toArray, List.set_cons_zero, List.set_cons_succ]
        refine ly_take 6 65 (v := ?_) rfl rfl (by kernel_rfl) (by kernel_rfl) (by kernel_rfl) (by kernel_rfl) (by kernel_rfl) (fun _ _ _ _ _ h => h) (by rfl) HS.out (fun W hW => ?_) ?_
        rotate_left
        · obtain ⟨o0, o1, o2, o3⟩ := HNB.out _ hW; go_simp; try rfl
        try simp only [Act.put, List.setIfInBounds_toArray, List.set_cons_zero, List.set_cons_succ]
        refine ly_take 7 66 (v := ?_) rfl rfl (by kernel_rfl) (by kernel_rfl) (by kernel_rfl) (by kernel_rfl) (by kernel_rfl) (fun _ _ _ _ _ h => h) (by rfl) HS.out (fun W hW => ?_) ?_
        rotate_left
        · obtain ⟨o0, o1, o2, o3⟩ := HNB.out _ hW; go_simp; try rfl
        try simp only [Act.put, List.setIfInBounds_toArray, List.set_cons_zero, List.set_cons_succ]
        have HBL : Hid (Below wc.heap.size wc wc.drew) := (Below.refl _ _).drew
        have HKK : Hid (Keep (fun i => kv.ownBlock = some i) wc wc.drew) := (Keep.refl _ _).drew
        replace HX := Lib.hid (HX.out.below HBL.out)
        clear HS HNB
        generalize wc.drew = v0 at *
        refine ly_two 3 8 rfl rfl rfl rfl (by kernel_rfl) (fun K hK => ?_) (fun K hK => ?_)
        · go_simp
          have hb : Below v0.heap.size v0 (v0.alloc (.cells #[Value.slice (some ⟨gx, 0, none⟩) kn kn] 29)) := alb _
          have hnew : (v0.alloc (.cells #[Value.slice (some ⟨gx, 0, none⟩) kn kn] 29)).cell? ⟨v0.heap.size, 0, none⟩ = some (Value.slice (some ⟨gx, 0, none⟩) kn kn) := (Boxed.new _ _ _).cell
          have hge : wc.heap.size ≤ v0.heap.size := HKK.out.size
          generalize v0.alloc (.cells #[Value.slice (some ⟨gx, 0, none⟩) kn kn] 29) = v1 at *
          generalize v0.heap.size = a3 at hnew hge ⊢
          have HN : Hid (wc.heap.size ≤ a3 ∧ v1.cell? ⟨a3, 0, none⟩ = some (Value.slice (some ⟨gx, 0, none⟩) kn kn)) := ⟨hge, hnew⟩
          replace HX := Lib.hid (HX.out.below hb)
          have H3 := HN
          replace HKK := Lib.hid (HKK.out.step hb)
          replace HBL := Lib.hid (btr HBL.out hb)
          have HS : Hid (Keep (fun i => kv.ownBlock = some i ∨ vv.ownBlock = some i) wc v1) := HKK.out.mono (fun _ _ q => .inl q)
          refine hK.out _ _ (fun _ => HS.out) ?_
          clear hK K hb hnew hge HN
          try simp only [Act.put, List.setIfInBounds_toArray, List.set_cons_zero, List.set_cons_succ]
          clear HS
          refine ly_two 4 8 rfl rfl rfl rfl (by kernel_rfl) (fun K hK => ?_) (fun K hK => ?_)
          · refine wp_append_own2 _ _ 25 rfl 29 i0 _ 1 24 Try.underlying25 hi0 hz0 hz1 hz2 rfl (by decide) kv xs.length xs rfl (own_keep HC.out.gx.o0 (Keep.of_below (F := fun _ => False) HBL.out) (fun _ _ q => q)) ⟨a3, 0, none⟩ 1 1 [Value.slice (some ⟨gx, 0, none⟩) kn kn] rfl rfl ?c2 ?c3 ?c4 ?c5 ?_
            case c2 =>
              intro j y hj
              have hjz : j = 0 := by
                have := (List.getElem?_eq_some_iff.1 hj).1
                simp at this
                omega
              subst hjz
              simp at hj
              rw [← hj]
              exact H3.out.2
            case c3 =>
              intro y hy
              rw [List.mem_singleton.1 hy]
              rfl
            case c4 => rw [HC.out.e0.1, keysC_length]; unfold maxLen; omega
            case c5 => rw [HC.out.e0.1, keysC_length]; omega
            intro kv5 v2 ho5 hg5 hf5
            obtain ⟨g5, cap5, rfl⟩ := ownsRow_succ ho5
            have hk : Keep (fun i => kv.ownBlock = some i) v1 v2 := (Keep.refl _ _).grown hg5 (fun k hk => .inl hk)
            replace HX : Hid (Bk v2 gx (xK kn i)) := ⟨(hk.block gx HX.out.lt (fun q => HKG.out gx q rfl)).trans HX.out.1, HX.out.2⟩
            have H4 := Lib.hid ho5
            have H4F : Hid (∀ k, (Value.slice (some ⟨g5, 0, none⟩) (xs.length + 1) cap5).ownBlock = some k → kv.ownBlock = some k ∨ wc.heap.size ≤ k) := fun k q => by
              rcases hf5 k q with q | q
              · exact .inl q
              · exact .inr (Nat.le_trans HKK.out.size q)
            replace HKK := Lib.hid (HKK.out.trans hk (fun i q => .inl q))
            have HS : Hid (Keep (fun i => kv.ownBlock = some i ∨ vv.ownBlock = some i) wc v2) := HKK.out.mono (fun _ _ q => .inl q)
            refine hK.out _ _ (fun _ => HS.out) ?_
            clear hK K hk ho5 hg5 hf5
            show Ly _ _ _ _ _ _ _ (Act.put _ (some 63) _) _
            try simp only [Act.put, List.setIfInBounds_toArray, List.set_cons_zero, List.set_cons_succ]
            refine ly_take 11 70 (v := ?_) rfl rfl (by kernel_rfl) (by kernel_rfl) (by kernel_rfl) (by kernel_rfl) (by kernel_rfl) (fun _ _ _ _ _ h => h) (by rfl) HS.out (fun W hW => ?_) ?_
            rotate_left
            · go_simp; try rfl
            try simp only [Act.put, List.setIfInBounds_toArray, List.set_cons_zero, List.set_cons_succ]
            clear HS
            refine ly_one 8 rfl rfl (by kernel_rfl) (fun K hK => ?_)
            refine wp_make_full _ _ 29 rfl v2.heap.size 5 r0 _ 1 Try.underlying29 hr0 hp0 hp1 _ _ _ _ vn rfl rfl rfl rfl ?m1 ?m2 (Nat.le_refl _) ?_
            case m1 => rw [hp2]; omega
            case m2 => unfold maxLen; omega
            intro v3 hown hgrow
            rw [Nat.mul_one, show (Value.int IntKind.u8 0).cells = #[Value.int .u8 0] from rfl, made_zeros] at hown
            have hb : Below v2.heap.size v2 v3 := (Below.refl _ _).grown hgrow (Nat.le_refl _) (by intro g hg; cases hg)
            have hbk : Bk v3 v2.heap.size (List.replicate vn 0) := Bk.of_own (by simp) (by omega) hown
            have hge : wc.heap.size ≤ v2.heap.size := HKK.out.size
            have HN : Hid (wc.heap.size ≤ v2.heap.size ∧ Bk v3 v2.heap.size (List.replicate vn 0)) := ⟨hge, hbk⟩
            replace HX := Lib.hid (HX.out.below hb)
            replace H4 := Lib.hid (own_keep H4.out (Keep.of_below (F := fun _ => False) hb) (fun _ _ q => q))
            replace HKK := Lib.hid (HKK.out.step hb)
            have HS : Hid (Keep (fun i => kv.ownBlock = some i ∨ vv.ownBlock = some i) wc v3) := HKK.out.mono (fun _ _ q => .inl q)
            refine hK.out _ _ (fun _ => HS.out) ?_
            clear hK K hb hbk hge hown hgrow
            generalize v2.heap.size = g8 at *
            have H8 := HN
            clear HN
            show Ly _ _ _ _ _ _ _ (Act.put _ (some 67) _) _
            try simp only [Act.put, List.setIfInBounds_toArray, List.set_cons_zero, List.set_cons_succ]
            clear HS
            refine ly_one 9 rfl rfl (by kernel_rfl) (fun K hK => ?_)
            go_simp
            have hb : Below v3.heap.size v3 (v3.alloc (.cells #[Value.slice (some ⟨g8, 0, none⟩) vn vn] 29)) := alb _
            have hnew : (v3.alloc (.cells #[Value.slice (some ⟨g8, 0, none⟩) vn vn] 29)).cell? ⟨v3.heap.size, 0, none⟩ = some (Value.slice (some ⟨g8, 0, none⟩) vn vn) := (Boxed.new _ _ _).cell
            have hge : wc.heap.size ≤ v3.heap.size := HKK.out.size
            generalize v3.alloc (.cells #[Value.slice (some ⟨g8, 0, none⟩) vn vn] 29) = v4 at *
            generalize v3.heap.size = a9 at hnew hge ⊢
            have HN : Hid (wc.heap.size ≤ a9 ∧ v4.cell? ⟨a9, 0, none⟩ = some (Value.slice (some ⟨g8, 0, none⟩) vn vn)) := ⟨hge, hnew⟩
            replace HX := Lib.hid (HX.out.below hb)
            replace H4 := Lib.hid (own_keep H4.out (Keep.of_below (F := fun _ => False) hb) (fun _ _ q => q))
            replace H8 : Hid (wc.heap.size ≤ g8 ∧ Bk v4 g8 (List.replicate vn 0)) := ⟨H8.out.1, H8.out.2.below hb⟩
            have H9 := HN
            replace HKK := Lib.hid (HKK.out.step hb)
            have HS : Hid (Keep (fun i => kv.ownBlock = some i ∨ vv.ownBlock = some i) wc v4) := HKK.out.mono (fun _ _ q => .inl q)
            refine hK.out _ _ (fun _ => HS.out) ?_
            clear hK K hb hnew hge HN
            try simp only [Act.put, List.setIfInBounds_toArray, List.set_cons_zero, List.set_cons_succ]
            clear HS
            refine ly_one 10 rfl rfl (by kernel_rfl) (fun K hK => ?_)
            refine wp_append_own2 _ _ 25 rfl 29 i0 _ 1 24 Try.underlying25 hi0 hz0 hz1 hz2 rfl (by decide) vv ys.length ys rfl (own_keep HC.out.gx.o1 HKK.out (fun k h1 h2 => HC.out.gx.d01 k h2 h1)) ⟨a9, 0, none⟩ 1 1 [.slice (some ⟨g8, 0, none⟩) vn vn] rfl rfl ?c2 ?c3 ?c4 ?c5 ?_
            case c2 =>
              intro j y hj
              have hjz : j = 0 := by
                have := (List.getElem?_eq_some_iff.1 hj).1
                simp at this
                omega
              subst hjz
              simp at hj
              rw [← hj]
              exact H9.out.2
            case c3 =>
              intro y hy
              rw [List.mem_singleton.1 hy]
              rfl
            case c4 => rw [HC.out.e1.1, valsC_length]; unfold maxLen; omega
            case c5 => rw [HC.out.e1.1, valsC_length]; omega
            intro vv5 v5 ho6 hg6 hf6
            obtain ⟨g6, cap6, rfl⟩ := ownsRow_succ ho6
            have hk : Keep (fun i => vv.ownBlock = some i) v4 v5 := (Keep.refl _ _).grown hg6 (fun k hk => .inl hk)
            have hx : Bk v5 gx (xK kn i) := ⟨(hk.block gx HX.out.lt (fun q => HVG.out gx q rfl)).trans HX.out.1, HX.out.2⟩
            have hy : Bk v5 g8 (List.replicate vn 0) := ⟨(hk.block g8 H8.out.2.lt (fun q => by have := HVL.out g8 q; have := H8.out.1; omega)).trans H8.out.2.1, H8.out.2.2⟩
            have o4 := own_keep H4.out hk (fun k h1 h2 => by
              rcases H4F.out k h1 with q | q
              · exact HC.out.gx.d01 k q h2
              · have := HVL.out k h2; omega)
            have f6 : ∀ k, (Value.slice (some ⟨g6, 0, none⟩) (ys.length + 1) cap6).ownBlock = some k → vv.ownBlock = some k ∨ wc.heap.size ≤ k := fun k q => by
              rcases hf6 k q with q | q
              · exact .inl q
              · exact .inr (Nat.le_trans HKK.out.size q)
            have d5 : ∀ k, (Value.slice (some ⟨g5, 0, none⟩) (xs.length + 1) cap5).ownBlock = some k → (Value.slice (some ⟨g6, 0, none⟩) (ys.length + 1) cap6).ownBlock = some k → False := fun k h1 h2 => by
              rcases hf6 k h2 with q | q
              · rcases H4F.out k h1 with r | r
                · exact HC.out.gx.d01 k r q
                · have := HVL.out k q; omega
              · have := (H4.out.lt k h1).2; omega
            have KK := (HKK.out.mono (G := fun i => kv.ownBlock = some i ∨ vv.ownBlock = some i) (fun _ _ q => .inl q)).trans hk (fun i q => .inl (.inr q))
            have hsz := HC.out.size
            have HCB := Lib.hid (HC.out.both KK hx (xK_length kn i hk1) (by omega) hy (by simp) (by have := H8.out.1; omega) o4 H4F.out ho6 f6 d5)
            have hbox : v5.heap[b]? = some (.cells #[.bool true, kv, vv, .slice none 0 0] 28 (0, 0)) := (KK.block b HC.out.gx.blt (fun q => by
              rcases q with q | q
              · have := HC.out.gx.l0 b q; omega
              · have := HC.out.gx.l1 b q; omega)).trans HC.out.gx.box
            have q1 := cell_of_heap hbox 1
            have q2 := cell_of_heap hbox 2
            simp at q1 q2
            have fz1 := frozen_of_heap hbox 1
            have fz2 := frozen_of_heap hbox 2
            refine hK.out _ _ (fun _ => KK) ?_
            clear hK K hk hx hy o4 f6 d5 KK ho6 hg6 hf6 hbox
            show Ly _ _ _ _ _ _ _ (Act.put _ (some 69) _) _
            try simp only [Act.put, List.setIfInBounds_toArray, List.set_cons_zero, List.set_cons_succ]
            refine ly_free 12 rfl rfl (by kernel_rfl) (by simp) (fun K hK => ?_)
            go_simp
            refine hK.out _ _ ?_
            clear hK K
            try simp only [Act.put, List.setIfInBounds_toArray, List.set_cons_zero, List.set_cons_succ]
            refine ly_free 13 rfl rfl (by kernel_rfl) (by simp) (fun K hK => ?_)
            go_simp
            refine hK.out _ _ ?_
            clear hK K
            try simp only [Act.put, List.setIfInBounds_toArray, List.set_cons_zero, List.set_cons_succ]
            refine ly_free 14 rfl rfl (by kernel_rfl) (by simp) (fun K hK => ?_)
            go_simp
            refine hK.out _ _ ?_
            clear hK K
            refine ly_done (by kernel_rfl) ?_
            generalize (v5.setCell ⟨b, 1, none⟩ (.slice (some ⟨g5, 0, none⟩) (xs.length + 1) cap5)).setCell ⟨b, 2, none⟩ (.slice (some ⟨g6, 0, none⟩) (ys.length + 1) cap6) = wz at *
            clear q1 q2 fz1 fz2 HX H3 H4 H4F H8 H9 HKK
            rw [← keysC_next, ← valsC_next] at HCB
            go_wp2
            go_roundg (a + 1 - (i + 1))
            case measure => omega
            case rel => exact ⟨i + 1, _, _, _, _, by go_num, by omega, by omega, HCB⟩
          · refine wp_make_full _ _ 29 rfl v1.heap.size 5 r0 _ 1 Try.underlying29 hr0 hp0 hp1 _ _ _ _ vn rfl rfl rfl rfl ?m1 ?m2 (Nat.le_refl _) ?_
            case m1 => rw [hp2]; omega
            case m2 => unfold maxLen; omega
            intro v6 hown hgrow
            rw [Nat.mul_one, show (Value.int IntKind.u8 0).cells = #[Value.int .u8 0] from rfl, made_zeros] at hown
            have hb : Below v1.heap.size v1 v6 := (Below.refl _ _).grown hgrow (Nat.le_refl _) (by intro g hg; cases hg)
            have hbk : Bk v6 v1.heap.size (List.replicate vn 0) := Bk.of_own (by simp) (by omega) hown
            have hge : wc.heap.size ≤ v1.heap.size := HKK.out.size
            have HN : Hid (wc.heap.size ≤ v1.heap.size ∧ Bk v6 v1.heap.size (List.replicate vn 0)) := ⟨hge, hbk⟩
            replace HX := Lib.hid (HX.out.below hb)
            replace H3 : Hid (wc.heap.size ≤ a3 ∧ v6.cell? ⟨a3, 0, none⟩ = some (Value.slice (some ⟨gx, 0, none⟩) kn kn)) := ⟨H3.out.1, kept H3.out.2 hb⟩
            replace HKK := Lib.hid (HKK.out.step hb)
            replace HBL := Lib.hid (btr HBL.out hb)
            have HS : Hid (Keep (fun i => kv.ownBlock = some i ∨ vv.ownBlock = some i) wc v6) := HKK.out.mono (fun _ _ q => .inl q)
            refine hK.out _ _ (fun _ => HS.out) ?_
            clear hK K hb hbk hge hown hgrow
            generalize v1.heap.size = g8 at *
            have H8 := HN
            clear HN
            show Ly _ _ _ _ _ _ _ (Act.put _ (some 67) _) _
            try simp only [Act.put, List.setIfInBounds_toArray, List.set_cons_zero, List.set_cons_succ]
            clear HS
            refine ly_two 4 9 rfl rfl rfl rfl (by kernel_rfl) (fun K hK => ?_) (fun K hK => ?_)
            · refine wp_append_own2 _ _ 25 rfl 29 i0 _ 1 24 Try.underlying25 hi0 hz0 hz1 hz2 rfl (by decide) kv xs.length xs rfl (own_keep HC.out.gx.o0 (Keep.of_below (F := fun _ => False) HBL.out) (fun _ _ q => q)) ⟨a3, 0, none⟩ 1 1 [Value.slice (some ⟨gx, 0, none⟩) kn kn] rfl rfl ?c2 ?c3 ?c4 ?c5 ?_
              case c2 =>
                intro j y hj
                have hjz : j = 0 := by
                  have := (List.getElem?_eq_some_iff.1 hj).1
                  simp at this
                  omega
                subst hjz
                simp at hj
                rw [← hj]
                exact H3.out.2
              case c3 =>
                intro y hy
                rw [List.mem_singleton.1 hy]
                rfl
              case c4 => rw [HC.out.e0.1, keysC_length]; unfold maxLen; omega
              case c5 => rw [HC.out.e0.1, keysC_length]; omega
              intro kv5 v7 ho5 hg5 hf5
              obtain ⟨g5, cap5, rfl⟩ := ownsRow_succ ho5
              have hk : Keep (fun i => kv.ownBlock = some i) v6 v7 := (Keep.refl _ _).grown hg5 (fun k hk => .inl hk)
              replace HX : Hid (Bk v7 gx (xK kn i)) := ⟨(hk.block gx HX.out.lt (fun q => HKG.out gx q rfl)).trans HX.out.1, HX.out.2⟩
              replace H8 : Hid (wc.heap.size ≤ g8 ∧ Bk v7 g8 (List.replicate vn 0)) := ⟨H8.out.1, (hk.block g8 H8.out.2.lt (fun q => by have := HKL.out g8 q; have := H8.out.1; omega)).trans H8.out.2.1, H8.out.2.2⟩
              have H4 := Lib.hid ho5
              have H4F : Hid (∀ k, (Value.slice (some ⟨g5, 0, none⟩) (xs.length + 1) cap5).ownBlock = some k → kv.ownBlock = some k ∨ wc.heap.size ≤ k) := fun k q => by
                rcases hf5 k q with q | q
                · exact .inl q
                · exact .inr (Nat.le_trans HKK.out.size q)
              replace HKK := Lib.hid (HKK.out.trans hk (fun i q => .inl q))
              have HS : Hid (Keep (fun i => kv.ownBlock = some i ∨ vv.ownBlock = some i) wc v7) := HKK.out.mono (fun _ _ q => .inl q)
              refine hK.out _ _ (fun _ => HS.out) ?_
              clear hK K hk ho5 hg5 hf5
              show Ly _ _ _ _ _ _ _ (Act.put _ (some 63) _) _
              try simp only [Act.put, List.setIfInBounds_toArray, List.set_cons_zero, List.set_cons_succ]
              refine ly_take 11 70 (v := ?_) rfl rfl (by kernel_rfl) (by kernel_rfl) (by kernel_rfl) (by kernel_rfl) (by kernel_rfl) (fun _ _ _ _ _ h => h) (by rfl) HS.out (fun W hW => ?_) ?_
              rotate_left
              · go_simp; try rfl
              try simp only [Act.put, List.setIfInBounds_toArray, List.set_cons_zero, List.set_cons_succ]
              clear HS
              refine ly_one 9 rfl rfl (by kernel_rfl) (fun K hK => ?_)
              go_simp
              have hb : Below v7.heap.size v7 (v7.alloc (.cells #[Value.slice (some ⟨g8, 0, none⟩) vn vn] 29)) := alb _
              have hnew : (v7.alloc (.cells #[Value.slice (some ⟨g8, 0, none⟩) vn vn] 29)).cell? ⟨v7.heap.size, 0, none⟩ = some (Value.slice (some ⟨g8, 0, none⟩) vn vn) := (Boxed.new _ _ _).cell
              have hge : wc.heap.size ≤ v7.heap.size := HKK.out.size
              generalize v7.alloc (.cells #[Value.slice (some ⟨g8, 0, none⟩) vn vn] 29) = v8 at *
              generalize v7.heap.size = a9 at hnew hge ⊢
              have HN : Hid (wc.heap.size ≤ a9 ∧ v8.cell? ⟨a9, 0, none⟩ = some (Value.slice (some ⟨g8, 0, none⟩) vn vn)) := ⟨hge, hnew⟩
              replace HX := Lib.hid (HX.out.below hb)
              replace H4 := Lib.hid (own_keep H4.out (Keep.of_below (F := fun _ => False) hb) (fun _ _ q => q))
              replace H8 : Hid (wc.heap.size ≤ g8 ∧ Bk v8 g8 (List.replicate vn 0)) := ⟨H8.out.1, H8.out.2.below hb⟩
              have H9 := HN
              replace HKK := Lib.hid (HKK.out.step hb)
              have HS : Hid (Keep (fun i => kv.ownBlock = some i ∨ vv.ownBlock = some i) wc v8) := HKK.out.mono (fun _ _ q => .inl q)
              refine hK.out _ _ (fun _ => HS.out) ?_
              clear hK K hb hnew hge HN
              try simp only [Act.put, List.setIfInBounds_toArray, List.set_cons_zero, List.set_cons_succ]
              clear HS
              refine ly_one 10 rfl rfl (by kernel_rfl) (fun K hK => ?_)
              refine wp_append_own2 _ _ 25 rfl 29 i0 _ 1 24 Try.underlying25 hi0 hz0 hz1 hz2 rfl (by decide) vv ys.length ys rfl (own_keep HC.out.gx.o1 HKK.out (fun k h1 h2 => HC.out.gx.d01 k h2 h1)) ⟨a9, 0, none⟩ 1 1 [.slice (some ⟨g8, 0, none⟩) vn vn] rfl rfl ?c2 ?c3 ?c4 ?c5 ?_
              case c2 =>
                intro j y hj
                have hjz : j = 0 := by
                  have := (List.getElem?_eq_some_iff.1 hj).1
                  simp at this
                  omega
                subst hjz
                simp at hj
                rw [← hj]
                exact H9.out.2
              case c3 =>
                intro y hy
                rw [List.mem_singleton.1 hy]
                rfl
              case c4 => rw [HC.out.e1.1, valsC_length]; unfold maxLen; omega
              case c5 => rw [HC.out.e1.1, valsC_length]; omega
              intro vv5 v9 ho6 hg6 hf6
              obtain ⟨g6, cap6, rfl⟩ := ownsRow_succ ho6
              have hk : Keep (fun i => vv.ownBlock = some i) v8 v9 := (Keep.refl _ _).grown hg6 (fun k hk => .inl hk)
              have hx : Bk v9 gx (xK kn i) := ⟨(hk.block gx HX.out.lt (fun q => HVG.out gx q rfl)).trans HX.out.1, HX.out.2⟩
              have hy : Bk v9 g8 (List.replicate vn 0) := ⟨(hk.block g8 H8.out.2.lt (fun q => by have := HVL.out g8 q; have := H8.out.1; omega)).trans H8.out.2.1, H8.out.2.2⟩
              have o4 := own_keep H4.out hk (fun k h1 h2 => by
                rcases H4F.out k h1 with q | q
                · exact HC.out.gx.d01 k q h2
                · have := HVL.out k h2; omega)
              have f6 : ∀ k, (Value.slice (some ⟨g6, 0, none⟩) (ys.length + 1) cap6).ownBlock = some k → vv.ownBlock = some k ∨ wc.heap.size ≤ k := fun k q => by
                rcases hf6 k q with q | q
                · exact .inl q
                · exact .inr (Nat.le_trans HKK.out.size q)
              have d5 : ∀ k, (Value.slice (some ⟨g5, 0, none⟩) (xs.length + 1) cap5).ownBlock = some k → (Value.slice (some ⟨g6, 0, none⟩) (ys.length + 1) cap6).ownBlock = some k → False := fun k h1 h2 => by
                rcases hf6 k h2 with q | q
                · rcases H4F.out k h1 with r | r
                  · exact HC.out.gx.d01 k r q
                  · have := HVL.out k q; omega
                · have := (H4.out.lt k h1).2; omega
              have KK := (HKK.out.mono (G := fun i => kv.ownBlock = some i ∨ vv.ownBlock = some i) (fun _ _ q => .inl q)).trans hk (fun i q => .inl (.inr q))
              have hsz := HC.out.size
              have HCB := Lib.hid (HC.out.both KK hx (xK_length kn i hk1) (by omega) hy (by simp) (by have := H8.out.1; omega) o4 H4F.out ho6 f6 d5)
              have hbox : v9.heap[b]? = some (.cells #[.bool true, kv, vv, .slice none 0 0] 28 (0, 0)) := (KK.block b HC.out.gx.blt (fun q => by
                rcases q with q | q
                · have := HC.out.gx.l0 b q; omega
                · have := HC.out.gx.l1 b q; omega)).trans HC.out.gx.box
              have q1 := cell_of_heap hbox 1
              have q2 := cell_of_heap hbox 2
              simp at q1 q2
              have fz1 := frozen_of_heap hbox 1
              have fz2 := frozen_of_heap hbox 2
              refine hK.out _ _ (fun _ => KK) ?_
              clear hK K hk hx hy o4 f6 d5 KK ho6 hg6 hf6 hbox
              show Ly _ _ _ _ _ _ _ (Act.put _ (some 69) _) _
              try simp only [Act.put, List.setIfInBounds_toArray, List.set_cons_zero, List.set_cons_succ]
              refine ly_free 12 rfl rfl (by kernel_rfl) (by simp) (fun K hK => ?_)
              go_simp
              refine hK.out _ _ ?_
              clear hK K
              try simp only [Act.put, List.setIfInBounds_toArray, List.set_cons_zero, List.set_cons_succ]
              refine ly_free 13 rfl rfl (by kernel_rfl) (by simp) (fun K hK => ?_)
              go_simp
              refine hK.out _ _ ?_
              clear hK K
              try simp only [Act.put, List.setIfInBounds_toArray, List.set_cons_zero, List.set_cons_succ]
              refine ly_free 14 rfl rfl (by kernel_rfl) (by simp) (fun K hK => ?_)
              go_simp
              refine hK.out _ _ ?_
              clear hK K
              refine ly_done (by kernel_rfl) ?_
              generalize (v9.setCell ⟨b, 1, none⟩ (.slice (some ⟨g5, 0, none⟩) (xs.length + 1) cap5)).setCell ⟨b, 2, none⟩ (.slice (some ⟨g6, 0, none⟩) (ys.length + 1) cap6) = wz at *
              clear q1 q2 fz1 fz2 HX H3 H4 H4F H8 H9 HKK
              rw [← keysC_next, ← valsC_next] at HCB
              go_wp2
              go_roundg (a + 1 - (i + 1))
              case measure => omega
              case rel => exact ⟨i + 1, _, _, _, _, by go_num, by omega, by omega, HCB⟩
            · go_simp
              have hb : Below v6.heap.size v6 (v6.alloc (.cells #[Value.slice (some ⟨g8, 0, none⟩) vn vn] 29)) := alb _
              have hnew : (v6.alloc (.cells #[Value.slice (some ⟨g8, 0, none⟩) vn vn] 29)).cell? ⟨v6.heap.size, 0, none⟩ = some (Value.slice (some ⟨g8, 0, none⟩) vn vn) := (Boxed.new _ _ _).cell
              have hge : wc.heap.size ≤ v6.heap.size := HKK.out.size
              generalize v6.alloc (.cells #[Value.slice (some ⟨g8, 0, none⟩) vn vn] 29) = v10 at *
              generalize v6.heap.size = a9 at hnew hge ⊢
              have HN : Hid (wc.heap.size ≤ a9 ∧ v10.cell? ⟨a9, 0, none⟩ = some (Value.slice (some ⟨g8, 0, none⟩) vn vn)) := ⟨hge, hnew⟩
              replace HX := Lib.hid (HX.out.below hb)
              replace H3 : Hid (wc.heap.size ≤ a3 ∧ v10.cell? ⟨a3, 0, none⟩ = some (Value.slice (some ⟨gx, 0, none⟩) kn kn)) := ⟨H3.out.1, kept H3.out.2 hb⟩
              replace H8 : Hid (wc.heap.size ≤ g8 ∧ Bk v10 g8 (List.replicate vn 0)) := ⟨H8.out.1, H8.out.2.below hb⟩
              have H9 := HN
              replace HKK := Lib.hid (HKK.out.step hb)
              replace HBL := Lib.hid (btr HBL.out hb)
              have HS : Hid (Keep (fun i => kv.ownBlock = some i ∨ vv.ownBlock = some i) wc v10) := HKK.out.mono (fun _ _ q => .inl q)
              refine hK.out _ _ (fun _ => HS.out) ?_
              clear hK K hb hnew hge HN
              try simp only [Act.put, List.setIfInBounds_toArray, List.set_cons_zero, List.set_cons_succ]
              clear HS
              refine ly_one 4 rfl rfl (by kernel_rfl) (fun K hK => ?_)
              refine wp_append_own2 _ _ 25 rfl 29 i0 _ 1 24 Try.underlying25 hi0 hz0 hz1 hz2 rfl (by decide) kv xs.length xs rfl (own_keep HC.out.gx.o0 (Keep.of_below (F := fun _ => False) HBL.out) (fun _ _ q => q)) ⟨a3, 0, none⟩ 1 1 [Value.slice (some ⟨gx, 0, none⟩) kn kn] rfl rfl ?c2 ?c3 ?c4 ?c5 ?_
              case c2 =>
                intro j y hj
                have hjz : j = 0 := by
                  have := (List.getElem?_eq_some_iff.1 hj).1
                  simp at this
                  omega
                subst hjz
                simp at hj
                rw [← hj]
                exact H3.out.2
              case c3 =>
                intro y hy
                rw [List.mem_singleton.1 hy]
                rfl
              case c4 => rw [HC.out.e0.1, keysC_length]; unfold maxLen; omega
              case c5 => rw [HC.out.e0.1, keysC_length]; omega
              intro kv5 v11 ho5 hg5 hf5
              obtain ⟨g5, cap5, rfl⟩ := ownsRow_succ ho5
              have hk : Keep (fun i => kv.ownBlock = some i) v10 v11 := (Keep.refl _ _).grown hg5 (fun k hk => .inl hk)
              replace HX : Hid (Bk v11 gx (xK kn i)) := ⟨(hk.block gx HX.out.lt (fun q => HKG.out gx q rfl)).trans HX.out.1, HX.out.2⟩
              replace H8 : Hid (wc.heap.size ≤ g8 ∧ Bk v11 g8 (List.replicate vn 0)) := ⟨H8.out.1, (hk.block g8 H8.out.2.lt (fun q => by have := HKL.out g8 q; have := H8.out.1; omega)).trans H8.out.2.1, H8.out.2.2⟩
              replace H9 : Hid (wc.heap.size ≤ a9 ∧ v11.cell? ⟨a9, 0, none⟩ = some (.slice (some ⟨g8, 0, none⟩) vn vn)) := ⟨H9.out.1, hk.cell H9.out.2 (fun q => by have := HKL.out a9 q; have := H9.out.1; omega)⟩
              have H4 := Lib.hid ho5
              have H4F : Hid (∀ k, (Value.slice (some ⟨g5, 0, none⟩) (xs.length + 1) cap5).ownBlock = some k → kv.ownBlock = some k ∨ wc.heap.size ≤ k) := fun k q => by
                rcases hf5 k q with q | q
                · exact .inl q
                · exact .inr (Nat.le_trans HKK.out.size q)
              replace HKK := Lib.hid (HKK.out.trans hk (fun i q => .inl q))
              have HS : Hid (Keep (fun i => kv.ownBlock = some i ∨ vv.ownBlock = some i) wc v11) := HKK.out.mono (fun _ _ q => .inl q)
              refine hK.out _ _ (fun _ => HS.out) ?_
              clear hK K hk ho5 hg5 hf5
              show Ly _ _ _ _ _ _ _ (Act.put _ (some 63) _) _
              try simp only [Act.put, List.setIfInBounds_toArray, List.set_cons_zero, List.set_cons_succ]
              refine ly_take 11 70 (v := ?_) rfl rfl (by kernel_rfl) (by kernel_rfl) (by kernel_rfl) (by kernel_rfl) (by kernel_rfl) (fun _ _ _ _ _ h => h) (by rfl) HS.out (fun W hW => ?_) ?_
              rotate_left
              · go_simp; try rfl
              try simp only [Act.put, List.setIfInBounds_toArray, List.set_cons_zero, List.set_cons_succ]
              clear HS
              refine ly_one 10 rfl rfl (by kernel_rfl) (fun K hK => ?_)
              refine wp_append_own2 _ _ 25 rfl 29 i0 _ 1 24 Try.underlying25 hi0 hz0 hz1 hz2 rfl (by decide) vv ys.length ys rfl (own_keep HC.out.gx.o1 HKK.out (fun k h1 h2 => HC.out.gx.d01 k h2 h1)) ⟨a9, 0, none⟩ 1 1 [.slice (some ⟨g8, 0, none⟩) vn vn] rfl rfl ?c2 ?c3 ?c4 ?c5 ?_
              case c2 =>
                intro j y hj
                have hjz : j = 0 := by
                  have := (List.getElem?_eq_some_iff.1 hj).1
                  simp at this
                  omega
                subst hjz
                simp at hj
                rw [← hj]
                exact H9.out.2
              case c3 =>
                intro y hy
                rw [List.mem_singleton.1 hy]
                rfl
              case c4 => rw [HC.out.e1.1, valsC_length]; unfold maxLen; omega
              case c5 => rw [HC.out.e1.1, valsC_length]; omega
              intro vv5 v12 ho6 hg6 hf6
              obtain ⟨g6, cap6, rfl⟩ := ownsRow_succ ho6
              have hk : Keep (fun i => vv.ownBlock = some i) v11 v12 := (Keep.refl _ _).grown hg6 (fun k hk => .inl hk)
              have hx : Bk v12 gx (xK kn i) := ⟨(hk.block gx HX.out.lt (fun q => HVG.out gx q rfl)).trans HX.out.1, HX.out.2⟩
              have hy : Bk v12 g8 (List.replicate vn 0) := ⟨(hk.block g8 H8.out.2.lt (fun q => by have := HVL.out g8 q; have := H8.out.1; omega)).trans H8.out.2.1, H8.out.2.2⟩
              have o4 := own_keep H4.out hk (fun k h1 h2 => by
                rcases H4F.out k h1 with q | q
                · exact HC.out.gx.d01 k q h2
                · have := HVL.out k h2; omega)
              have f6 : ∀ k, (Value.slice (some ⟨g6, 0, none⟩) (ys.length + 1) cap6).ownBlock = some k → vv.ownBlock = some k ∨ wc.heap.size ≤ k := fun k q => by
                rcases hf6 k q with q | q
                · exact .inl q
                · exact .inr (Nat.le_trans HKK.out.size q)
              have d5 : ∀ k, (Value.slice (some ⟨g5, 0, none⟩) (xs.length + 1) cap5).ownBlock = some k → (Value.slice (some ⟨g6, 0, none⟩) (ys.length + 1) cap6).ownBlock = some k → False := fun k h1 h2 => by
                rcases hf6 k h2 with q | q
                · rcases H4F.out k h1 with r | r
                  · exact HC.out.gx.d01 k r q
                  · have := HVL.out k q; omega
                · have := (H4.out.lt k h1).2; omega
              have KK := (HKK.out.mono (G := fun i => kv.ownBlock = some i ∨ vv.ownBlock = some i) (fun _ _ q => .inl q)).trans hk (fun i q => .inl (.inr q))
              have hsz := HC.out.size
              have HCB := Lib.hid (HC.out.both KK hx (xK_length kn i hk1) (by omega) hy (by simp) (by have := H8.out.1; omega) o4 H4F.out ho6 f6 d5)
              have hbox : v12.heap[b]? = some (.cells #[.bool true, kv, vv, .slice none 0 0] 28 (0, 0)) := (KK.block b HC.out.gx.blt (fun q => by
                rcases q with q | q
                · have := HC.out.gx.l0 b q; omega
                · have := HC.out.gx.l1 b q; omega)).trans HC.out.gx.box
              have q1 := cell_of_heap hbox 1
              have q2 := cell_of_heap hbox 2
              simp at q1 q2
              have fz1 := frozen_of_heap hbox 1
              have fz2 := frozen_of_heap hbox 2
              refine hK.out _ _ (fun _ => KK) ?_
              clear hK K hk hx hy o4 f6 d5 KK ho6 hg6 hf6 hbox
              show Ly _ _ _ _ _ _ _ (Act.put _ (some 69) _) _
              try simp only [Act.put, List.setIfInBounds_toArray, List.set_cons_zero, List.set_cons_succ]
              refine ly_free 12 rfl rfl (by kernel_rfl) (by simp) (fun K hK => ?_)
              go_simp
              refine hK.out _ _ ?_
              clear hK K
              try simp only [Act.put, List.setIfInBounds_toArray, List.set_cons_zero, List.set_cons_succ]
              refine ly_free 13 rfl rfl (by kernel_rfl) (by simp) (fun K hK => ?_)
              go_simp
              refine hK.out _ _ ?_
              clear hK K
              try simp only [Act.put, List.setIfInBounds_toArray, List.set_cons_zero, List.set_cons_succ]
              refine ly_free 14 rfl rfl (by kernel_rfl) (by simp) (fun K hK => ?_)
              go_simp
              refine hK.out _ _ ?_
              clear hK K
              refine ly_done (by kernel_rfl) ?_
              generalize (v12.setCell ⟨b, 1, none⟩ (.slice (some ⟨g5, 0, none⟩) (xs.length + 1) cap5)).setCell ⟨b, 2, none⟩ (.slice (some ⟨g6, 0, none⟩) (ys.length + 1) cap6) = wz at *
              clear q1 q2 fz1 fz2 HX H3 H4 H4F H8 H9 HKK
              rw [← keysC_next, ← valsC_next] at HCB
              go_wp2
              go_roundg (a + 1 - (i + 1))
              case measure => omega
              case rel => exact ⟨i + 1, _, _, _, _, by go_num, by omega, by omega, HCB⟩
        · refine wp_make_full _ _ 29 rfl v0.heap.size 5 r0 _ 1 Try.underlying29 hr0 hp0 hp1 _ _ _ _ vn rfl rfl rfl rfl ?m1 ?m2 (Nat.le_refl _) ?_
          case m1 => rw [hp2]; omega
          case m2 => unfold maxLen; omega
          intro v13 hown hgrow
          rw [Nat.mul_one, show (Value.int IntKind.u8 0).cells = #[Value.int .u8 0] from rfl, made_zeros] at hown
          have hb : Below v0.heap.size v0 v13 := (Below.refl _ _).grown hgrow (Nat.le_refl _) (by intro g hg; cases hg)
          have hbk : Bk v13 v0.heap.size (List.replicate vn 0) := Bk.of_own (by simp) (by omega) hown
          have hge : wc.heap.size ≤ v0.heap.size := HKK.out.size
          have HN : Hid (wc.heap.size ≤ v0.heap.size ∧ Bk v13 v0.heap.size (List.replicate vn 0)) := ⟨hge, hbk⟩
          replace HX := Lib.hid (HX.out.below hb)
          replace HKK := Lib.hid (HKK.out.step hb)
          replace HBL := Lib.hid (btr HBL.out hb)
          have HS : Hid (Keep (fun i => kv.ownBlock = some i ∨ vv.ownBlock = some i) wc v13) := HKK.out.mono (fun _ _ q => .inl q)
          refine hK.out _ _ (fun _ => HS.out) ?_
          clear hK K hb hbk hge hown hgrow
          generalize v0.heap.size = g8 at *
          have H8 := HN
          clear HN
          show Ly _ _ _ _ _ _ _ (Act.put _ (some 67) _) _
          try simp only [Act.put, List.setIfInBounds_toArray, List.set_cons_zero, List.set_cons_succ]
          clear HS
          refine ly_two 3 9 rfl rfl rfl rfl (by kernel_rfl) (fun K hK => ?_) (fun K hK => ?_)
          · go_simp
            have hb : Below v13.heap.size v13 (v13.alloc (.cells #[Value.slice (some ⟨gx, 0, none⟩) kn kn] 29)) := alb _
            have hnew : (v13.alloc (.cells #[Value.slice (some ⟨gx, 0, none⟩) kn kn] 29)).cell? ⟨v13.heap.size, 0, none⟩ = some (Value.slice (some ⟨gx, 0, none⟩) kn kn) := (Boxed.new _ _ _).cell
            have hge : wc.heap.size ≤ v13.heap.size := HKK.out.size
            generalize v13.alloc (.cells #[Value.slice (some ⟨gx, 0, none⟩) kn kn] 29) = v14 at *
            generalize v13.heap.size = a3 at hnew hge ⊢
            have HN : Hid (wc.heap.size ≤ a3 ∧ v14.cell? ⟨a3, 0, none⟩ = some (Value.slice (some ⟨gx, 0, none⟩) kn kn)) := ⟨hge, hnew⟩
            replace HX := Lib.hid (HX.out.below hb)
            replace H8 : Hid (wc.heap.size ≤ g8 ∧ Bk v14 g8 (List.replicate vn 0)) := ⟨H8.out.1, H8.out.2.below hb⟩
            have H3 := HN
            replace HKK := Lib.hid (HKK.out.step hb)
            replace HBL := Lib.hid (btr HBL.out hb)
            have HS : Hid (Keep (fun i => kv.ownBlock = some i ∨ vv.ownBlock = some i) wc v14) := HKK.out.mono (fun _ _ q => .inl q)
            refine hK.out _ _ (fun _ => HS.out) ?_
            clear hK K hb hnew hge HN
            try simp only [Act.put, List.setIfInBounds_toArray, List.set_cons_zero, List.set_cons_succ]
            clear HS
            refine ly_two 4 9 rfl rfl rfl rfl (by kernel_rfl) (fun K hK => ?_) (fun K hK => ?_)
            · refine wp_append_own2 _ _ 25 rfl 29 i0 _ 1 24 Try.underlying25 hi0 hz0 hz1 hz2 rfl (by decide) kv xs.length xs rfl (own_keep HC.out.gx.o0 (Keep.of_below (F := fun _ => False) HBL.out) (fun _ _ q => q)) ⟨a3, 0, none⟩ 1 1 [Value.slice (some ⟨gx, 0, none⟩) kn kn] rfl rfl ?c2 ?c3 ?c4 ?c5 ?_
              case c2 =>
                intro j y hj
                have hjz : j = 0 := by
                  have := (List.getElem?_eq_some_iff.1 hj).1
                  simp at this
                  omega
                subst hjz
                simp at hj
                rw [← hj]
                exact H3.out.2
              case c3 =>
                intro y hy
                rw [List.mem_singleton.1 hy]
                rfl
              case c4 => rw [HC.out.e0.1, keysC_length]; unfold maxLen; omega
              case c5 => rw [HC.out.e0.1, keysC_length]; omega
              intro kv5 v15 ho5 hg5 hf5
              obtain ⟨g5, cap5, rfl⟩ := ownsRow_succ ho5
              have hk : Keep (fun i => kv.ownBlock = some i) v14 v15 := (Keep.refl _ _).grown hg5 (fun k hk => .inl hk)
              replace HX : Hid (Bk v15 gx (xK kn i)) := ⟨(hk.block gx HX.out.lt (fun q => HKG.out gx q rfl)).trans HX.out.1, HX.out.2⟩
              replace H8 : Hid (wc.heap.size ≤ g8 ∧ Bk v15 g8 (List.replicate vn 0)) := ⟨H8.out.1, (hk.block g8 H8.out.2.lt (fun q => by have := HKL.out g8 q; have := H8.out.1; omega)).trans H8.out.2.1, H8.out.2.2⟩
              have H4 := Lib.hid ho5
              have H4F : Hid (∀ k, (Value.slice (some ⟨g5, 0, none⟩) (xs.length + 1) cap5).ownBlock = some k → kv.ownBlock = some k ∨ wc.heap.size ≤ k) := fun k q => by
                rcases hf5 k q with q | q
                · exact .inl q
                · exact .inr (Nat.le_trans HKK.out.size q)
              replace HKK := Lib.hid (HKK.out.trans hk (fun i q => .inl q))
              have HS : Hid (Keep (fun i => kv.ownBlock = some i ∨ vv.ownBlock = some i) wc v15) := HKK.out.mono (fun _ _ q => .inl q)
              refine hK.out _ _ (fun _ => HS.out) ?_
              clear hK K hk ho5 hg5 hf5
              show Ly _ _ _ _ _ _ _ (Act.put _ (some 63) _) _
              try simp only [Act.put, List.setIfInBounds_toArray, List.set_cons_zero, List.set_cons_succ]
              refine ly_take 11 70 (v := ?_) rfl rfl (by kernel_rfl) (by kernel_rfl) (by kernel_rfl) (by kernel_rfl) (by kernel_rfl) (fun _ _ _ _ _ h => h) (by rfl) HS.out (fun W hW => ?_) ?_
              rotate_left
              · go_simp; try rfl
              try simp only [Act.put, List.setIfInBounds_toArray, List.set_cons_zero, List.set_cons_succ]
              clear HS
              refine ly_one 9 rfl rfl (by kernel_rfl) (fun K hK => ?_)
              go_simp
              have hb : Below v15.heap.size v15 (v15.alloc (.cells #[Value.slice (some ⟨g8, 0, none⟩) vn vn] 29)) := alb _
              have hnew : (v15.alloc (.cells #[Value.slice (some ⟨g8, 0, none⟩) vn vn] 29)).cell? ⟨v15.heap.size, 0, none⟩ = some (Value.slice (some ⟨g8, 0, none⟩) vn vn) := (Boxed.new _ _ _).cell
              have hge : wc.heap.size ≤ v15.heap.size := HKK.out.size
              generalize v15.alloc (.cells #[Value.slice (some ⟨g8, 0, none⟩) vn vn] 29) = v16 at *
              generalize v15.heap.size = a9 at hnew hge ⊢
              have HN : Hid (wc.heap.size ≤ a9 ∧ v16.cell? ⟨a9, 0, none⟩ = some (Value.slice (some ⟨g8, 0, none⟩) vn vn)) := ⟨hge, hnew⟩
              replace HX := Lib.hid (HX.out.below hb)
              replace H4 := Lib.hid (own_keep H4.out (Keep.of_below (F := fun _ => False) hb) (fun _ _ q => q))
              replace H8 : Hid (wc.heap.size ≤ g8 ∧ Bk v16 g8 (List.replicate vn 0)) := ⟨H8.out.1, H8.out.2.below hb⟩
              have H9 := HN
              replace HKK := Lib.hid (HKK.out.step hb)
              have HS : Hid (Keep (fun i => kv.ownBlock = some i ∨ vv.ownBlock = some i) wc v16) := HKK.out.mono (fun _ _ q => .inl q)
              refine hK.out _ _ (fun _ => HS.out) ?_
              clear hK K hb hnew hge HN
              try simp only [Act.put, List.setIfInBounds_toArray, List.set_cons_zero, List.set_cons_succ]
              clear HS
              refine ly_one 10 rfl rfl (by kernel_rfl) (fun K hK => ?_)
              refine wp_append_own2 _ _ 25 rfl 29 i0 _ 1 24 Try.underlying25 hi0 hz0 hz1 hz2 rfl (by decide) vv ys.length ys rfl (own_keep HC.out.gx.o1 HKK.out (fun k h1 h2 => HC.out.gx.d01 k h2 h1)) ⟨a9, 0, none⟩ 1 1 [.slice (some ⟨g8, 0, none⟩) vn vn] rfl rfl ?c2 ?c3 ?c4 ?c5 ?_
              case c2 =>
                intro j y hj
                have hjz : j = 0 := by
                  have := (List.getElem?_eq_some_iff.1 hj).1
                  simp at this
                  omega
                subst hjz
                simp at hj
                rw [← hj]
                exact H9.out.2
              case c3 =>
                intro y hy
                rw [List.mem_singleton.1 hy]
                rfl
              case c4 => rw [HC.out.e1.1, valsC_length]; unfold maxLen; omega
              case c5 => rw [HC.out.e1.1, valsC_length]; omega
              intro vv5 v17 ho6 hg6 hf6
              obtain ⟨g6, cap6, rfl⟩ := ownsRow_succ ho6
              have hk : Keep (fun i => vv.ownBlock = some i) v16 v17 := (Keep.refl _ _).grown hg6 (fun k hk => .inl hk)
              have hx : Bk v17 gx (xK kn i) := ⟨(hk.block gx HX.out.lt (fun q => HVG.out gx q rfl)).trans HX.out.1, HX.out.2⟩
              have hy : Bk v17 g8 (List.replicate vn 0) := ⟨(hk.block g8 H8.out.2.lt (fun q => by have := HVL.out g8 q; have := H8.out.1; omega)).trans H8.out.2.1, H8.out.2.2⟩
              have o4 := own_keep H4.out hk (fun k h1 h2 => by
                rcases H4F.out k h1 with q | q
                · exact HC.out.gx.d01 k q h2
                · have := HVL.out k h2; omega)
              have f6 : ∀ k, (Value.slice (some ⟨g6, 0, none⟩) (ys.length + 1) cap6).ownBlock = some k → vv.ownBlock = some k ∨ wc.heap.size ≤ k := fun k q => by
                rcases hf6 k q with q | q
                · exact .inl q
                · exact .inr (Nat.le_trans HKK.out.size q)
              have d5 : ∀ k, (Value.slice (some ⟨g5, 0, none⟩) (xs.length + 1) cap5).ownBlock = some k → (Value.slice (some ⟨g6, 0, none⟩) (ys.length + 1) cap6).ownBlock = some k → False := fun k h1 h2 => by
                rcases hf6 k h2 with q | q
                · rcases H4F.out k h1 with r | r
                  · exact HC.out.gx.d01 k r q
                  · have := HVL.out k q; omega
                · have := (H4.out.lt k h1).2; omega
              have KK := (HKK.out.mono (G := fun i => kv.ownBlock = some i ∨ vv.ownBlock = some i) (fun _ _ q => .inl q)).trans hk (fun i q => .inl (.inr q))
              have hsz := HC.out.size
              have HCB := Lib.hid (HC.out.both KK hx (xK_length kn i hk1) (by omega) hy (by simp) (by have := H8.out.1; omega) o4 H4F.out ho6 f6 d5)
              have hbox : v17.heap[b]? = some (.cells #[.bool true, kv, vv, .slice none 0 0] 28 (0, 0)) := (KK.block b HC.out.gx.blt (fun q => by
                rcases q with q | q
                · have := HC.out.gx.l0 b q; omega
                · have := HC.out.gx.l1 b q; omega)).trans HC.out.gx.box
              have q1 := cell_of_heap hbox 1
              have q2 := cell_of_heap hbox 2
              simp at q1 q2
              have fz1 := frozen_of_heap hbox 1
              have fz2 := frozen_of_heap hbox 2
              refine hK.out _ _ (fun _ => KK) ?_
              clear hK K hk hx hy o4 f6 d5 KK ho6 hg6 hf6 hbox
              show Ly _ _ _ _ _ _ _ (Act.put _ (some 69) _) _
              try simp only [Act.put, List.setIfInBounds_toArray, List.set_cons_zero, List.set_cons_succ]
              refine ly_free 12 rfl rfl (by kernel_rfl) (by simp) (fun K hK => ?_)
              go_simp
              refine hK.out _ _ ?_
              clear hK K
              try simp only [Act.put, List.setIfInBounds_toArray, List.set_cons_zero, List.set_cons_succ]
              refine ly_free 13 rfl rfl (by kernel_rfl) (by simp) (fun K hK => ?_)
              go_simp
              refine hK.out _ _ ?_
              clear hK K
              try simp only [Act.put, List.setIfInBounds_toArray, List.set_cons_zero, List.set_cons_succ]
              refine ly_free 14 rfl rfl (by kernel_rfl) (by simp) (fun K hK => ?_)
              go_simp
              refine hK.out _ _ ?_
              clear hK K
              refine ly_done (by kernel_rfl) ?_
              generalize (v17.setCell ⟨b, 1, none⟩ (.slice (some ⟨g5, 0, none⟩) (xs.length + 1) cap5)).setCell ⟨b, 2, none⟩ (.slice (some ⟨g6, 0, none⟩) (ys.length + 1) cap6) = wz at *
              clear q1 q2 fz1 fz2 HX H3 H4 H4F H8 H9 HKK
              rw [← keysC_next, ← valsC_next] at HCB
              go_wp2
              go_roundg (a + 1 - (i + 1))
              case measure => omega
              case rel => exact ⟨i + 1, _, _, _, _, by go_num, by omega, by omega, HCB⟩
            · go_simp
              have hb : Below v14.heap.size v14 (v14.alloc (.cells #[Value.slice (some ⟨g8, 0, none⟩) vn vn] 29)) := alb _
              have hnew : (v14.alloc (.cells #[Value.slice (some ⟨g8, 0, none⟩) vn vn] 29)).cell? ⟨v14.heap.size, 0, none⟩ = some (Value.slice (some ⟨g8, 0, none⟩) vn vn) := (Boxed.new _ _ _).cell
              have hge : wc.heap.size ≤ v14.heap.size := HKK.out.size
              generalize v14.alloc (.cells #[Value.slice (some ⟨g8, 0, none⟩) vn vn] 29) = v18 at *
              generalize v14.heap.size = a9 at hnew hge ⊢
              have HN : Hid (wc.heap.size ≤ a9 ∧ v18.cell? ⟨a9, 0, none⟩ = some (Value.slice (some ⟨g8, 0, none⟩) vn vn)) := ⟨hge, hnew⟩
              replace HX := Lib.hid (HX.out.below hb)
              replace H3 : Hid (wc.heap.size ≤ a3 ∧ v18.cell? ⟨a3, 0, none⟩ = some (Value.slice (some ⟨gx, 0, none⟩) kn kn)) := ⟨H3.out.1, kept H3.out.2 hb⟩
              replace H8 : Hid (wc.heap.size ≤ g8 ∧ Bk v18 g8 (List.replicate vn 0)) := ⟨H8.out.1, H8.out.2.below hb⟩
              have H9 := HN
              replace HKK := Lib.hid (HKK.out.step hb)
              replace HBL := Lib.hid (btr HBL.out hb)
              have HS : Hid (Keep (fun i => kv.ownBlock = some i ∨ vv.ownBlock = some i) wc v18) := HKK.out.mono (fun _ _ q => .inl q)
              refine hK.out _ _ (fun _ => HS.out) ?_
              clear hK K hb hnew hge HN
              try simp only [Act.put, List.setIfInBounds_toArray, List.set_cons_zero, List.set_cons_succ]
              clear HS
              refine ly_one 4 rfl rfl (by kernel_rfl) (fun K hK => ?_)
              refine wp_append_own2 _ _ 25 rfl 29 i0 _ 1 24 Try.underlying25 hi0 hz0 hz1 hz2 rfl (by decide) kv xs.length xs rfl (own_keep HC.out.gx.o0 (Keep.of_below (F := fun _ => False) HBL.out) (fun _ _ q => q)) ⟨a3, 0, none⟩ 1 1 [Value.slice (some ⟨gx, 0, none⟩) kn kn] rfl rfl ?c2 ?c3 ?c4 ?c5 ?_
              case c2 =>
                intro j y hj
                have hjz : j = 0 := by
                  have := (List.getElem?_eq_some_iff.1 hj).1
                  simp at this
                  omega
                subst hjz
                simp at hj
                rw [← hj]
                exact H3.out.2
              case c3 =>
                intro y hy
                rw [List.mem_singleton.1 hy]
                rfl
              case c4 => rw [HC.out.e0.1, keysC_length]; unfold maxLen; omega
              case c5 => rw [HC.out.e0.1, keysC_length]; omega
              intro kv5 v19 ho5 hg5 hf5
              obtain ⟨g5, cap5, rfl⟩ := ownsRow_succ ho5
              have hk : Keep (fun i => kv.ownBlock = some i) v18 v19 := (Keep.refl _ _).grown hg5 (fun k hk => .inl hk)
              replace HX : Hid (Bk v19 gx (xK kn i)) := ⟨(hk.block gx HX.out.lt (fun q => HKG.out gx q rfl)).trans HX.out.1, HX.out.2⟩
              replace H8 : Hid (wc.heap.size ≤ g8 ∧ Bk v19 g8 (List.replicate vn 0)) := ⟨H8.out.1, (hk.block g8 H8.out.2.lt (fun q => by have := HKL.out g8 q; have := H8.out.1; omega)).trans H8.out.2.1, H8.out.2.2⟩
              replace H9 : Hid (wc.heap.size ≤ a9 ∧ v19.cell? ⟨a9, 0, none⟩ = some (.slice (some ⟨g8, 0, none⟩) vn vn)) := ⟨H9.out.1, hk.cell H9.out.2 (fun q => by have := HKL.out a9 q; have := H9.out.1; omega)⟩
              have H4 := Lib.hid ho5
              have H4F : Hid (∀ k, (Value.slice (some ⟨g5, 0, none⟩) (xs.length + 1) cap5).ownBlock = some k → kv.ownBlock = some k ∨ wc.heap.size ≤ k) := fun k q => by
                rcases hf5 k q with q | q
                · exact .inl q
                · exact .inr (Nat.le_trans HKK.out.size q)
              replace HKK := Lib.hid (HKK.out.trans hk (fun i q => .inl q))
              have HS : Hid (Keep (fun i => kv.ownBlock = some i ∨ vv.ownBlock = some i) wc v19) := HKK.out.mono (fun _ _ q => .inl q)
              refine hK.out _ _ (fun _ => HS.out) ?_
              clear hK K hk ho5 hg5 hf5
              show Ly _ _ _ _ _ _ _ (Act.put _ (some 63) _) _
              try simp only [Act.put, List.setIfInBounds_toArray, List.set_cons_zero, List.set_cons_succ]
              refine ly_take 11 70 (v := ?_) rfl rfl (by kernel_rfl) (by kernel_rfl) (by kernel_rfl) (by kernel_rfl) (by kernel_rfl) (fun _ _ _ _ _ h => h) (by rfl) HS.out (fun W hW => ?_) ?_
              rotate_left
              · go_simp; try rfl
              try simp only [Act.put, List.setIfInBounds_toArray, List.set_cons_zero, List.set_cons_succ]
              clear HS
              refine ly_one 10 rfl rfl (by kernel_rfl) (fun K hK => ?_)
              refine wp_append_own2 _ _ 25 rfl 29 i0 _ 1 24 Try.underlying25 hi0 hz0 hz1 hz2 rfl (by decide) vv ys.length ys rfl (own_keep HC.out.gx.o1 HKK.out (fun k h1 h2 => HC.out.gx.d01 k h2 h1)) ⟨a9, 0, none⟩ 1 1 [.slice (some ⟨g8, 0, none⟩) vn vn] rfl rfl ?c2 ?c3 ?c4 ?c5 ?_
              case c2 =>
                intro j y hj
                have hjz : j = 0 := by
                  have := (List.getElem?_eq_some_iff.1 hj).1
                  simp at this
                  omega
                subst hjz
                simp at hj
                rw [← hj]
                exact H9.out.2
              case c3 =>
                intro y hy
                rw [List.mem_singleton.1 hy]
                rfl
              case c4 => rw [HC.out.e1.1, valsC_length]; unfold maxLen; omega
              case c5 => rw [HC.out.e1.1, valsC_length]; omega
              intro vv5 v20 ho6 hg6 hf6
              obtain ⟨g6, cap6, rfl⟩ := ownsRow_succ ho6
              have hk : Keep (fun i => vv.ownBlock = some i) v19 v20 := (Keep.refl _ _).grown hg6 (fun k hk => .inl hk)
              have hx : Bk v20 gx (xK kn i) := ⟨(hk.block gx HX.out.lt (fun q => HVG.out gx q rfl)).trans HX.out.1, HX.out.2⟩
              have hy : Bk v20 g8 (List.replicate vn 0) := ⟨(hk.block g8 H8.out.2.lt (fun q => by have := HVL.out g8 q; have := H8.out.1; omega)).trans H8.out.2.1, H8.out.2.2⟩
              have o4 := own_keep H4.out hk (fun k h1 h2 => by
                rcases H4F.out k h1 with q | q
                · exact HC.out.gx.d01 k q h2
                · have := HVL.out k h2; omega)
              have f6 : ∀ k, (Value.slice (some ⟨g6, 0, none⟩) (ys.length + 1) cap6).ownBlock = some k → vv.ownBlock = some k ∨ wc.heap.size ≤ k := fun k q => by
                rcases hf6 k q with q | q
                · exact .inl q
                · exact .inr (Nat.le_trans HKK.out.size q)
              have d5 : ∀ k, (Value.slice (some ⟨g5, 0, none⟩) (xs.length + 1) cap5).ownBlock = some k → (Value.slice (some ⟨g6, 0, none⟩) (ys.length + 1) cap6).ownBlock = some k → False := fun k h1 h2 => by
                rcases hf6 k h2 with q | q
                · rcases H4F.out k h1 with r | r
                  · exact HC.out.gx.d01 k r q
                  · have := HVL.out k q; omega
                · have := (H4.out.lt k h1).2; omega
              have KK := (HKK.out.mono (G := fun i => kv.ownBlock = some i ∨ vv.ownBlock = some i) (fun _ _ q => .inl q)).trans hk (fun i q => .inl (.inr q))
              have hsz := HC.out.size
              have HCB := Lib.hid (HC.out.both KK hx (xK_length kn i hk1) (by omega) hy (by simp) (by have := H8.out.1; omega) o4 H4F.out ho6 f6 d5)
              have hbox : v20.heap[b]? = some (.cells #[.bool true, kv, vv, .slice none 0 0] 28 (0, 0)) := (KK.block b HC.out.gx.blt (fun q => by
                rcases q with q | q
                · have := HC.out.gx.l0 b q; omega
                · have := HC.out.gx.l1 b q; omega)).trans HC.out.gx.box
              have q1 := cell_of_heap hbox 1
              have q2 := cell_of_heap hbox 2
              simp at q1 q2
              have fz1 := frozen_of_heap hbox 1
              have fz2 := frozen_of_heap hbox 2
              refine hK.out _ _ (fun _ => KK) ?_
              clear hK K hk hx hy o4 f6 d5 KK ho6 hg6 hf6 hbox
              show Ly _ _ _ _ _ _ _ (Act.put _ (some 69) _) _
              try simp only [Act.put, List.setIfInBounds_toArray, List.set_cons_zero, List.set_cons_succ]
              refine ly_free 12 rfl rfl (by kernel_rfl) (by simp) (fun K hK => ?_)
              go_simp
              refine hK.out _ _ ?_
              clear hK K
              try simp only [Act.put, List.setIfInBounds_toArray, List.set_cons_zero, List.set_cons_succ]
              refine ly_free 13 rfl rfl (by kernel_rfl) (by simp) (fun K hK => ?_)
              go_simp
              refine hK.out _ _ ?_
              clear hK K
              try simp only [Act.put, List.setIfInBounds_toArray, List.set_cons_zero, List.set_cons_succ]
              refine ly_free 14 rfl rfl (by kernel_rfl) (by simp) (fun K hK => ?_)
              go_simp
              refine hK.out _ _ ?_
              clear hK K
              refine ly_done (by kernel_rfl) ?_
              generalize (v20.setCell ⟨b, 1, none⟩ (.slice (some ⟨g5, 0, none⟩) (xs.length + 1) cap5)).setCell ⟨b, 2, none⟩ (.slice (some ⟨g6, 0, none⟩) (ys.length + 1) cap6) = wz at *
              clear q1 q2 fz1 fz2 HX H3 H4 H4F H8 H9 HKK
              rw [← keysC_next, ← valsC_next] at HCB
              go_wp2
              go_roundg (a + 1 - (i + 1))
              case measure => omega
              case rel => exact ⟨i + 1, _, _, _, _, by go_num, by omega, by omega, HCB⟩
          · go_simp
            have hb : Below v13.heap.size v13 (v13.alloc (.cells #[Value.slice (some ⟨g8, 0, none⟩) vn vn] 29)) := alb _
            have hnew : (v13.alloc (.cells #[Value.slice (some ⟨g8, 0, none⟩) vn vn] 29)).cell? ⟨v13.heap.size, 0, none⟩ = some (Value.slice (some ⟨g8, 0, none⟩) vn vn) := (Boxed.new _ _ _).cell
            have hge : wc.heap.size ≤ v13.heap.size := HKK.out.size
            generalize v13.alloc (.cells #[Value.slice (some ⟨g8, 0, none⟩) vn vn] 29) = v21 at *
            generalize v13.heap.size = a9 at hnew hge ⊢
            have HN : Hid (wc.heap.size ≤ a9 ∧ v21.cell? ⟨a9, 0, none⟩ = some (Value.slice (some ⟨g8, 0, none⟩) vn vn)) := ⟨hge, hnew⟩
            replace HX := Lib.hid (HX.out.below hb)
            replace H8 : Hid (wc.heap.size ≤ g8 ∧ Bk v21 g8 (List.replicate vn 0)) := ⟨H8.out.1, H8.out.2.below hb⟩
            have H9 := HN
            replace HKK := Lib.hid (HKK.out.step hb)
            replace HBL := Lib.hid (btr HBL.out hb)
            have HS : Hid (Keep (fun i => kv.ownBlock = some i ∨ vv.ownBlock = some i) wc v21) := HKK.out.mono (fun _ _ q => .inl q)
            refine hK.out _ _ (fun _ => HS.out) ?_
            clear hK K hb hnew hge HN
            try simp only [Act.put, List.setIfInBounds_toArray, List.set_cons_zero, List.set_cons_succ]
            clear HS
            refine ly_one 3 rfl rfl (by kernel_rfl) (fun K hK => ?_)
            go_simp
            have hb : Below v21.heap.size v21 (v21.alloc (.cells #[Value.slice (some ⟨gx, 0, none⟩) kn kn] 29)) := alb _
            have hnew : (v21.alloc (.cells #[Value.slice (some ⟨gx, 0, none⟩) kn kn] 29)).cell? ⟨v21.heap.size, 0, none⟩ = some (Value.slice (some ⟨gx, 0, none⟩) kn kn) := (Boxed.new _ _ _).cell
            have hge : wc.heap.size ≤ v21.heap.size := HKK.out.size
            generalize v21.alloc (.cells #[Value.slice (some ⟨gx, 0, none⟩) kn kn] 29) = v22 at *
            generalize v21.heap.size = a3 at hnew hge ⊢
            have HN : Hid (wc.heap.size ≤ a3 ∧ v22.cell? ⟨a3, 0, none⟩ = some (Value.slice (some ⟨gx, 0, none⟩) kn kn)) := ⟨hge, hnew⟩
            replace HX := Lib.hid (HX.out.below hb)
            replace H8 : Hid (wc.heap.size ≤ g8 ∧ Bk v22 g8 (List.replicate vn 0)) := ⟨H8.out.1, H8.out.2.below hb⟩
            replace H9 : Hid (wc.heap.size ≤ a9 ∧ v22.cell? ⟨a9, 0, none⟩ = some (.slice (some ⟨g8, 0, none⟩) vn vn)) := ⟨H9.out.1, kept H9.out.2 hb⟩
            have H3 := HN
            replace HKK := Lib.hid (HKK.out.step hb)
            replace HBL := Lib.hid (btr HBL.out hb)
            have HS : Hid (Keep (fun i => kv.ownBlock = some i ∨ vv.ownBlock = some i) wc v22) := HKK.out.mono (fun _ _ q => .inl q)
            refine hK.out _ _ (fun _ => HS.out) ?_
            clear hK K hb hnew hge HN
            try simp only [Act.put, List.setIfInBounds_toArray, List.set_cons_zero, List.set_cons_succ]
            clear HS
            refine ly_one 4 rfl rfl (by kernel_rfl) (fun K hK => ?_)
            refine wp_append_own2 _ _ 25 rfl 29 i0 _ 1 24 Try.underlying25 hi0 hz0 hz1 hz2 rfl (by decide) kv xs.length xs rfl (own_keep HC.out.gx.o0 (Keep.of_below (F := fun _ => False) HBL.out) (fun _ _ q => q)) ⟨a3, 0, none⟩ 1 1 [Value.slice (some ⟨gx, 0, none⟩) kn kn] rfl rfl ?c2 ?c3 ?c4 ?c5 ?_
            case c2 =>
              intro j y hj
              have hjz : j = 0 := by
                have := (List.getElem?_eq_some_iff.1 hj).1
                simp at this
                omega
              subst hjz
              simp at hj
              rw [← hj]
              exact H3.out.2
            case c3 =>
              intro y hy
              rw [List.mem_singleton.1 hy]
              rfl
            case c4 => rw [HC.out.e0.1, keysC_length]; unfold maxLen; omega
            case c5 => rw [HC.out.e0.1, keysC_length]; omega
            intro kv5 v23 ho5 hg5 hf5
            obtain ⟨g5, cap5, rfl⟩ := ownsRow_succ ho5
            have hk : Keep (fun i => kv.ownBlock = some i) v22 v23 := (Keep.refl _ _).grown hg5 (fun k hk => .inl hk)
            replace HX : Hid (Bk v23 gx (xK kn i)) := ⟨(hk.block gx HX.out.lt (fun q => HKG.out gx q rfl)).trans HX.out.1, HX.out.2⟩
            replace H8 : Hid (wc.heap.size ≤ g8 ∧ Bk v23 g8 (List.replicate vn 0)) := ⟨H8.out.1, (hk.block g8 H8.out.2.lt (fun q => by have := HKL.out g8 q; have := H8.out.1; omega)).trans H8.out.2.1, H8.out.2.2⟩
            replace H9 : Hid (wc.heap.size ≤ a9 ∧ v23.cell? ⟨a9, 0, none⟩ = some (.slice (some ⟨g8, 0, none⟩) vn vn)) := ⟨H9.out.1, hk.cell H9.out.2 (fun q => by have := HKL.out a9 q; have := H9.out.1; omega)⟩
            have H4 := Lib.hid ho5
            have H4F : Hid (∀ k, (Value.slice (some ⟨g5, 0, none⟩) (xs.length + 1) cap5).ownBlock = some k → kv.ownBlock = some k ∨ wc.heap.size ≤ k) := fun k q => by
              rcases hf5 k q with q | q
              · exact .inl q
              · exact .inr (Nat.le_trans HKK.out.size q)
            replace HKK := Lib.hid (HKK.out.trans hk (fun i q => .inl q))
            have HS : Hid (Keep (fun i => kv.ownBlock = some i ∨ vv.ownBlock = some i) wc v23) := HKK.out.mono (fun _ _ q => .inl q)
            refine hK.out _ _ (fun _ => HS.out) ?_
            clear hK K hk ho5 hg5 hf5
            show Ly _ _ _ _ _ _ _ (Act.put _ (some 63) _) _
            try simp only [Act.put, List.setIfInBounds_toArray, List.set_cons_zero, List.set_cons_succ]
            refine ly_take 11 70 (v := ?_) rfl rfl (by kernel_rfl) (by kernel_rfl) (by kernel_rfl) (by kernel_rfl) (by kernel_rfl) (fun _ _ _ _ _ h => h) (by rfl) HS.out (fun W hW => ?_) ?_
            rotate_left
            · go_simp; try rfl
            try simp only [Act.put, List.setIfInBounds_toArray, List.set_cons_zero, List.set_cons_succ]
            clear HS
            refine ly_one 10 rfl rfl (by kernel_rfl) (fun K hK => ?_)
            refine wp_append_own2 _ _ 25 rfl 29 i0 _ 1 24 Try.underlying25 hi0 hz0 hz1 hz2 rfl (by decide) vv ys.length ys rfl (own_keep HC.out.gx.o1 HKK.out (fun k h1 h2 => HC.out.gx.d01 k h2 h1)) ⟨a9, 0, none⟩ 1 1 [.slice (some ⟨g8, 0, none⟩) vn vn] rfl rfl ?c2 ?c3 ?c4 ?c5 ?_
            case c2 =>
              intro j y hj
              have hjz : j = 0 := by
                have := (List.getElem?_eq_some_iff.1 hj).1
                simp at this
                omega
              subst hjz
              simp at hj
              rw [← hj]
              exact H9.out.2
            case c3 =>
              intro y hy
              rw [List.mem_singleton.1 hy]
              rfl
            case c4 => rw [HC.out.e1.1, valsC_length]; unfold maxLen; omega
            case c5 => rw [HC.out.e1.1, valsC_length]; omega
            intro vv5 v24 ho6 hg6 hf6
            obtain ⟨g6, cap6, rfl⟩ := ownsRow_succ ho6
            have hk : Keep (fun i => vv.ownBlock = some i) v23 v24 := (Keep.refl _ _).grown hg6 (fun k hk => .inl hk)
            have hx : Bk v24 gx (xK kn i) := ⟨(hk.block gx HX.out.lt (fun q => HVG.out gx q rfl)).trans HX.out.1, HX.out.2⟩
            have hy : Bk v24 g8 (List.replicate vn 0) := ⟨(hk.block g8 H8.out.2.lt (fun q => by have := HVL.out g8 q; have := H8.out.1; omega)).trans H8.out.2.1, H8.out.2.2⟩
            have o4 := own_keep H4.out hk (fun k h1 h2 => by
              rcases H4F.out k h1 with q | q
              · exact HC.out.gx.d01 k q h2
              · have := HVL.out k h2; omega)
            have f6 : ∀ k, (Value.slice (some ⟨g6, 0, none⟩) (ys.length + 1) cap6).ownBlock = some k → vv.ownBlock = some k ∨ wc.heap.size ≤ k := fun k q => by
              rcases hf6 k q with q | q
              · exact .inl q
              · exact .inr (Nat.le_trans HKK.out.size q)
            have d5 : ∀ k, (Value.slice (some ⟨g5, 0, none⟩) (xs.length + 1) cap5).ownBlock = some k → (Value.slice (some ⟨g6, 0, none⟩) (ys.length + 1) cap6).ownBlock = some k → False := fun k h1 h2 => by
              rcases hf6 k h2 with q | q
              · rcases H4F.out k h1 with r | r
                · exact HC.out.gx.d01 k r q
                · have := HVL.out k q; omega
              · have := (H4.out.lt k h1).2; omega
            have KK := (HKK.out.mono (G := fun i => kv.ownBlock = some i ∨ vv.ownBlock = some i) (fun _ _ q => .inl q)).trans hk (fun i q => .inl (.inr q))
            have hsz := HC.out.size
            have HCB := Lib.hid (HC.out.both KK hx (xK_length kn i hk1) (by omega) hy (by simp) (by have := H8.out.1; omega) o4 H4F.out ho6 f6 d5)
            have hbox : v24.heap[b]? = some (.cells #[.bool true, kv, vv, .slice none 0 0] 28 (0, 0)) := (KK.block b HC.out.gx.blt (fun q => by
              rcases q with q | q
              · have := HC.out.gx.l0 b q; omega
              · have := HC.out.gx.l1 b q; omega)).trans HC.out.gx.box
            have q1 := cell_of_heap hbox 1
            have q2 := cell_of_heap hbox 2
            simp at q1 q2
            have fz1 := frozen_of_heap hbox 1
            have fz2 := frozen_of_heap hbox 2
            refine hK.out _ _ (fun _ => KK) ?_
            clear hK K hk hx hy o4 f6 d5 KK ho6 hg6 hf6 hbox
            show Ly _ _ _ _ _ _ _ (Act.put _ (some 69) _) _
            try simp only [Act.put, List.setIfInBounds_toArray, List.set_cons_zero, List.set_cons_succ]
            refine ly_free 12 rfl rfl (by kernel_rfl) (by simp) (fun K hK => ?_)
            go_simp
            refine hK.out _ _ ?_
            clear hK K
            try simp only [Act.put, List.setIfInBounds_toArray, List.set_cons_zero, List.set_cons_succ]
            refine ly_free 13 rfl rfl (by kernel_rfl) (by simp) (fun K hK => ?_)
            go_simp
            refine hK.out _ _ ?_
            clear hK K
            try simp only [Act.put, List.setIfInBounds_toArray, List.set_cons_zero, List.set_cons_succ]
            refine ly_free 14 rfl rfl (by kernel_rfl) (by simp) (fun K hK => ?_)
            go_simp
            refine hK.out _ _ ?_
            clear hK K
            refine ly_done (by kernel_rfl) ?_
            generalize (v24.setCell ⟨b, 1, none⟩ (.slice (some ⟨g5, 0, none⟩) (xs.length + 1) cap5)).setCell ⟨b, 2, none⟩ (.slice (some ⟨g6, 0, none⟩) (ys.length + 1) cap6) = wz at *
            clear q1 q2 fz1 fz2 HX H3 H4 H4F H8 H9 HKK
            rw [← keysC_next, ← valsC_next] at HCB
            go_wp2
            go_roundg (a + 1 - (i + 1))
            case measure => omega
            case rel => exact ⟨i + 1, _, _, _, _, by go_num, by omega, by omega, HCB⟩
    · have hz : ¬ (i : Int) < (a : Int) + 1 := by omega
      obtain rfl : i = a + 1 := by omega
      clear h1 h2
      have hlx : xs.length = a + 1 := by rw [HS.out.e0.1, keysC_length]
      have hly : ys.length = a + 1 := by rw [HS.out.e1.1, valsC_length]
      have HNV := Lib.hid (HS.out.nv)
      obtain ⟨ox, oy⟩ := And.intro HS.out.gx.o0 HS.out.gx.o1
      rw [hlx] at ox
      rw [hly] at oy
      obtain ⟨g1, p1, rfl⟩ := ownsRow_succ ox
      obtain ⟨g2, p2, rfl⟩ := ownsRow_succ oy
      have hp1 : a + 1 ≤ p1 := HS.out.cap0
      have hp2 : a + 1 ≤ p2 := HS.out.cap1
      clear ox oy hlx hly
      obtain ⟨k0, k1, k2, k3⟩ := HS.out.gx.nb
      go_wp2_with fail
      have HR1 := Lib.hid (nright_any wr _ _ _ _ (kn : Int) (vn : Int) HNV.out)
      rw [HMO.out] at HR1
      unfold nodv at HR1
      refine HR1.out.mono ?_
      rintro e w6 ⟨rfl, hb6⟩
      have HS6 := Lib.hid (HS.out.below hb6)
      clear k0 k1 k2 k3 hb6 HS HR1 HNV HMO
      have hcut1 := run_cutR g1 (a + 1) p1 a (by omega)
      have hcut2 := run_cutR g2 (a + 1) p2 a (by omega)
      go_wp2_with fail
      have HS : Hid (Nb w6.drew b true (.slice (some ⟨g1, 0, none⟩) (a + 1) p1) (.slice (some ⟨g2, 0, none⟩) (a + 1) p2) (.slice none 0 0)) := HS6.out.gx.nb.below (Below.refl _ w6).drew
      refine ly_start 12 [9, 10, 11] (fun W' => Nb W' b true (.slice (some ⟨g1, 0, none⟩) (a + 1) p1) (.slice (some ⟨g2, 0, none⟩) (a + 1) p2) (.slice none 0 0)) rfl (by kernel_rfl) ?_
      refine ly_take 0 77 (v := ?_) rfl rfl (by kernel_rfl) (by kernel_rfl) (by kernel_rfl) (by kernel_rfl) (by kernel_rfl) (fun _ _ _ _ _ h => h) (by rfl) HS.out (fun W hW => ?_) ?_
      rotate_left
      · obtain ⟨o0, o1, o2, o3⟩ := hW; go_simp; try rfl
      try simp only [Act.put, List.setIfInBounds_toArray, List.set_cons_zero, List.set_cons_succ]
      refine ly_take 1 78 (v := ?_) rfl rfl (by kernel_rfl) (by kernel_rfl) (by kernel_rfl) (by kernel_rfl) (by kernel_rfl) (fun _ _ _ _ _ h => h) (by rfl) HS.out (fun W hW => ?_) ?_
      rotate_left
      · obtain ⟨o0, o1, o2, o3⟩ := hW; go_simp; try rfl
      try simp only [Act.put, List.setIfInBounds_toArray, List.set_cons_zero, List.set_cons_succ]
      refine ly_take 2 79 (v := ?_) rfl rfl (by kernel_rfl) (by kernel_rfl) (by kernel_rfl) (by kernel_rfl) (by kernel_rfl) (fun _ _ _ _ _ h => h) (by rfl) HS.out (fun W hW => ?_) ?_
      rotate_left
      · obtain ⟨o0, o1, o2, o3⟩ := hW; go_simp; try rfl
      try simp only [Act.put, List.setIfInBounds_toArray, List.set_cons_zero, List.set_cons_succ]
      refine ly_take 3 80 (v := ?_) rfl rfl (by kernel_rfl) (by kernel_rfl) (by kernel_rfl) (by kernel_rfl) (by kernel_rfl) (fun _ _ _ _ _ h => h) (by rfl) HS.out (fun W hW => ?_) ?_
      rotate_left
      · obtain ⟨o0, o1, o2, o3⟩ := hW; go_simp; try rfl
      try simp only [Act.put, List.setIfInBounds_toArray, List.set_cons_zero, List.set_cons_succ]
      refine ly_take 4 81 (v := ?_) rfl rfl (by kernel_rfl) (by kernel_rfl) (by kernel_rfl) (by kernel_rfl) (by kernel_rfl) (fun _ _ _ _ _ h => h) (by rfl) HS.out (fun W hW => ?_) ?_
      rotate_left
      · obtain ⟨o0, o1, o2, o3⟩ := hW; go_simp; try rfl
      try simp only [Act.put, List.setIfInBounds_toArray, List.set_cons_zero, List.set_cons_succ]
      refine ly_take 5 82 (v := ?_) rfl rfl (by kernel_rfl) (by kernel_rfl) (by kernel_rfl) (by kernel_rfl) (by kernel_rfl) (fun _ _ _ _ _ h => h) (by rfl) HS.out (fun W hW => ?_) ?_
      rotate_left
      · obtain ⟨o0, o1, o2, o3⟩ := hW; go_simp; try rfl
      try simp only [Act.put, List.setIfInBounds_toArray, List.set_cons_zero, List.set_cons_succ]
      refine ly_pure 6 83 (v := ?_) rfl rfl (by kernel_rfl) (by kernel_rfl) (by kernel_rfl) (fun _ _ _ _ _ h => h) (by rfl) (fun W hW => ?_) ?_
      rotate_left
      · go_simp; try rfl
      try simp only [Act.put, List.setIfInBounds_toArray, List.set_cons_zero, List.set_cons_succ]
      refine ly_pure 7 84 (v := ?_) rfl rfl (by kernel_rfl) (by kernel_rfl) (by kernel_rfl) (fun _ _ _ _ _ h => h) (by rfl) (fun W hW => ?_) ?_
      rotate_left
      · go_simp; try rfl
      try simp only [Act.put, List.setIfInBounds_toArray, List.set_cons_zero, List.set_cons_succ]
      refine ly_take 8 85 (v := ?_) rfl rfl (by kernel_rfl) (by kernel_rfl) (by kernel_rfl) (by kernel_rfl) (by kernel_rfl) (fun _ _ _ _ _ h => h) (by rfl) HS.out (fun W hW => ?_) ?_
      rotate_left
      · obtain ⟨o0, o1, o2, o3⟩ := hW; go_simp; try rfl
      try simp only [Act.put, List.setIfInBounds_toArray, List.set_cons_zero, List.set_cons_succ]
      have HS7 := Lib.hid (HS6.out.below (Below.refl _ w6).drew)
      clear HS HS6 hcut1 hcut2
      generalize w6.drew = w7 at *
      have hbox := HS7.out.gx.box
      have q1 := cell_of_heap hbox 1
      have q2 := cell_of_heap hbox 2
      simp at q1 q2
      have fz1 := frozen_of_heap hbox 1
      have fz2 := frozen_of_heap hbox 2
      have HCU := Lib.hid (HS7.out.cut a (by omega) (.slice (some ⟨g1, 0, none⟩) a p1) (.slice (some ⟨g2, 0, none⟩) a p2))
      clear hbox HS7
      refine ly_free 9 rfl rfl (by kernel_rfl) (by simp) (fun K hK => ?_)
      go_simp
      refine hK.out _ _ ?_
      clear hK K
      try simp only [Act.put, List.setIfInBounds_toArray, List.set_cons_zero, List.set_cons_succ]
      refine ly_free 10 rfl rfl (by kernel_rfl) (by simp) (fun K hK => ?_)
      go_simp
      refine hK.out _ _ ?_
      clear hK K
      try simp only [Act.put, List.setIfInBounds_toArray, List.set_cons_zero, List.set_cons_succ]
      refine ly_free 11 rfl rfl (by kernel_rfl) (by simp) (fun K hK => ?_)
      go_simp
      refine hK.out _ _ ?_
      clear hK K
      refine ly_done (by kernel_rfl) ?_
      generalize (w7.setCell ⟨b, 1, none⟩ (.slice (some ⟨g1, 0, none⟩) a p1)).setCell ⟨b, 2, none⟩ (.slice (some ⟨g2, 0, none⟩) a p2) = wz at *
      clear q1 q2 fz1 fz2
      go_wp2_with fail
      refine (nfixed_any wz).mono ?_
      rintro e w8 ⟨rfl, hb8⟩
      obtain ⟨k0, k1, k2, k3⟩ := HCU.out.1.below hb8
      have HNZ : Hid (NV w8 (.slice (some ⟨g1, 0, none⟩) a p1) (.slice (some ⟨g2, 0, none⟩) a p2) (.slice none 0 0) ⟨true, keysC kn a, valsC vn a, []⟩) := HCU.out.2.1.below hb8
      have HB8 := Lib.hid (btr HCU.out.2.2 hb8)
      clear hb8 HCU
      by_cases hkn : kn = 1
      · have z1 : ((kn : Int) == 1) = true := by rw [beq_iff_eq]; omega
        by_cases h256 : 256 < a
        · have z2 : 256 < (a : Int) := by omega
          clear hkn
          go_wp2
          go_ret
          exact ⟨rfl, HB8.out⟩
        · have z2 : ¬ 256 < (a : Int) := by omega
          have hri := HRI.out (fun _ => by omega)
          have HR2 := Lib.hid (nright_any w8 _ _ _ _ (kn : Int) (vn : Int) HNZ.out)
          rw [hri] at HR2
          unfold nodv at HR2
          clear hkn h256 hri HRI
          go_wp2_with fail
          refine HR2.out.mono ?_
          rintro e w9 ⟨rfl, hb9⟩
          go_wp2
          go_ret
          exact ⟨rfl, btr HB8.out hb9⟩
      · have z1 : ((kn : Int) == 1) = false := by rw [beq_eq_false_iff_ne]; omega
        have hri := HRI.out (fun q => absurd q hkn)
        have HR2 := Lib.hid (nright_any w8 _ _ _ _ (kn : Int) (vn : Int) HNZ.out)
        rw [hri] at HR2
        unfold nodv at HR2
        clear hkn hri HRI
        go_wp2_with fail
        refine HR2.out.mono ?_
        rintro e w9 ⟨rfl, hb9⟩
        go_wp2
        go_ret
        exact ⟨rfl, btr HB8.out hb9⟩
theorem caps_any (w : World) (k v : Int) : Calls Try.prog 3 #[.int .i64 k, .int .i64 v] w fun e w' => e = .returned (.bool true) ∧ Below w.heap.size w w' := by
  by_cases h : 1 ≤ k ∧ k ≤ 24 ∧ 0 ≤ v ∧ v ≤ 108
  · obtain ⟨a, b, ea, eb, a3, b3, a4, b4, _⟩ := N.cap_law k v h
    obtain ⟨kn, rfl⟩ : ∃ kn : Nat, k = (kn : Int) := ⟨k.toNat, by omega⟩
    obtain ⟨vn, rfl⟩ : ∃ vn : Nat, v = (vn : Int) := ⟨v.toNat, by omega⟩
    exact caps_core w _ _ a b kn vn rfl rfl (by omega) (by omega) (by omega) (by omega) a4 (Lib.hid ea) (Lib.hid eb)
  · obtain ⟨e1, e2⟩ := N.cap_no h
    have HC1 := Lib.hid (fun W => ncaps_any k v W)
    have HC2 := Lib.hid (fun W => refcaps_any k v W)
    rw [e1, e2] at HC1 HC2
    clear h e1 e2
    go_enter Try.func3, Try.ntmps3
    go_wp2_with fail
    refine (HC1.out w).mono ?_
    rintro e w1 ⟨rfl, hb1⟩
    go_wp2_with fail
    refine (HC2.out w1).mono ?_
    rintro e w2 ⟨rfl, hb2⟩
    have HB2 := Lib.hid (btr hb1 hb2)
    clear hb1 hb2
    go_wp2_with fail
    refine (nfixed_any w2).mono ?_
    rintro e w3 ⟨rfl, hb3⟩
    go_wp2
    go_ret
    exact ⟨rfl, btr HB2.out hb3⟩
end Go.Proofs.Ytceoelemlokelaa
