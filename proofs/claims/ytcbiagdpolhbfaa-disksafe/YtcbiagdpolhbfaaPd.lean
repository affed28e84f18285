/- DiskCopies, walked. -/
import Derived.Test.YtcbiagdpolhbfaaPc
namespace Go.Proofs.Ytcbiagdpolhbfaa
open Go.RowKit
open D (St)

/-- A copy of the disk, and the document's in a variable of its own. -/
theorem Play.copied {wr w5 : World} {B C p g v p2 g2 v2 : Nat} {wv sv rw_ wv2 : Value} {s : St} (h : Play wr B p g v wv sv rw_ s) (hb : Below wr.heap.size wr w5) (hd : Dsk w5 p2 g2 wv2 s) (hf : ∀ b, fp p2 g2 wv2 b → C ≤ b) (hC : wr.heap.size ≤ C) (hv : wr.heap.size ≤ v2) (hv2 : ¬ fp p2 g2 wv2 v2) (hx : Box w5 v2 sv rw_ s.fuse s.down (s.writes : Int)) (hB : B ≤ wr.heap.size) :
    Play w5 B p g v wv sv rw_ s ∧ Play w5 B p2 g2 v2 wv2 sv rw_ s ∧ Apart p g v wv sv rw_ p2 g2 v2 wv2 sv rw_ := by
  have hl := h.lt
  have hm := h.below hb
  refine ⟨hm, ⟨⟨hd, hm.mix.rep, fun b q e => ?_⟩, fun b q => ?_, hv2, fun b q e => ?_, by omega, hx⟩, ⟨fun b q e => ?_, fun b q e => ?_⟩⟩
  · have := hl b (.inr q)
    have := hf b e
    omega
  · have := hf b q
    omega
  · have := hl b (.inr q)
    omega
  · have h1 := hl b (.inl q)
    rcases e with (e | e) | e
    · have := hf b e
      omega
    · omega
    · rcases q with q | q
      · exact h.mix.apart b e q
      · exact h.v2 b e q
  · have h1 := hl b e
    rcases q with q | q
    · have := hf b q
      omega
    · omega
theorem copies_first (A0 A1 A2 : Option Addr) (n0 c0 n1 c1 n2 c2 : Nat) (w : World) (h : (40 < n0) ∨ (n0 ≤ 40 ∧ 40 < n1) ∨ (n0 ≤ 40 ∧ n1 ≤ 40 ∧ 40 < n2)) :
    Calls Try.prog 5 #[.slice A0 n0 c0, .slice A1 n1 c1, .slice A2 n2 c2] w fun e w' => e = .returned (.bool true) ∧ Below w.heap.size w w' := by
  have hq : (decide (40 < (n0 : Int)) = true) ∨ (decide (40 < (n0 : Int)) = false ∧ decide (40 < (n1 : Int)) = true) ∨ (decide (40 < (n0 : Int)) = false ∧ decide (40 < (n1 : Int)) = false ∧ decide (40 < (n2 : Int)) = true) := by simp; omega
  clear h
  rcases hq with hq | ⟨hq, hq2⟩ | ⟨hq, hq2, hq3⟩
  all_goals
    go_enter Try.func5, Try.ntmps5
    go_wp2_with fail
    refine (fixed_any w).mono ?_
    rintro e w1 ⟨rfl, hb⟩
    go_wp2
    go_ret
    exact ⟨rfl, hb⟩

set_option maxRecDepth 100000 in
set_option maxHeartbeats 4000000 in
theorem copies_core (A0 A1 A2 : Option Addr) (n0 k0 n1 k1 n2 k2 : Nat) (os0 os1 os2 : List O) (w : World) (HO0 : Hid (Ops w (.slice A0 n0 k0) os0)) (HO1 : Hid (Ops w (.slice A1 n1 k1) os1)) (HO2 : Hid (Ops w (.slice A2 n2 k2) os2)) (HL0 : Hid (os0.length = n0)) (HL1 : Hid (os1.length = n1)) (HL2 : Hid (os2.length = n2)) (h0 : n0 ≤ 40) (h1 : n1 ≤ 40) (h2 : n2 ≤ 40) :
    Calls Try.prog 5 #[.slice A0 n0 k0, .slice A1 n1 k1, .slice A2 n2 k2] w fun e w' => e = .returned (.bool true) ∧ Below w.heap.size w w' := by
  have hz := (zero_of_info Try.zero31).1
  have hz38 := (zero_of_info Try.zero38).1
  have hq : decide (40 < (n0 : Int)) = false := by simp; omega
  have hq2 : decide (40 < (n1 : Int)) = false := by simp; omega
  have hq3 : decide (40 < (n2 : Int)) = false := by simp; omega
  go_enter Try.func5, Try.ntmps5
  go_wp2_with fail
  refine (new_any 9 w (by decide) (by decide)).mono ?_
  rintro e w1 ⟨p, g, rfl, ho, hb⟩
  have HO := Lib.hid ho
  have HB1 := Lib.hid hb
  clear ho hb
  go_wp2_with fail
  refine (refnew_any 9 w1 (by decide) (by decide)).mono ?_
  rintro e w2 ⟨sv, rfl, hr, hb, hs⟩
  obtain ⟨sA, sc, rfl⟩ := row_form hr.safe
  have HM2 : Hid (Mix w2 p g (.slice none 0 0) (.slice sA (D.new 9).safe.length sc) (.slice none 0 0) (D.new 9) (D.new 9)) := ⟨HO.out.1.below hb, hr, fun b q e => by
    have := HO.out.1.lt b e
    rcases q with q | q
    · have := hs b q
      omega
    · simp [Value.ownBlock] at q⟩
  have HB2 := Lib.hid (btr HB1.out hb)
  have HF2 : Hid (∀ b, fp p g (.slice none 0 0) b → w.heap.size ≤ b) := HO.out.2
  clear hr hb hs HO HB1
  unfold rv
  have e1 : (D.new 9).fuse = -1 := rfl
  have e2 : (D.new 9).down = false := rfl
  have e3 : (((D.new 9).writes : Nat) : Int) = 0 := rfl
  have e4 : (D.new 9).safe.length = 9 := by simp [D.new]
  rw [e4] at HM2
  rw [e1, e2, e3, e4]
  have HA3 := Lib.hid (alb (w := w2) (.cells #[.slice sA 9 sc, .slice none 0 0, .int .i64 (-1), .bool false, .int .i64 0] 31))
  have HP : Hid (Play (w2.alloc (.cells #[.slice sA 9 sc, .slice none 0 0, .int .i64 (-1), .bool false, .int .i64 0] 31)) w.heap.size p g w2.heap.size (.slice none 0 0) (.slice sA 9 sc) (.slice none 0 0) (D.new 9)) :=
    ⟨HM2.out.below HA3.out, HF2.out, fun q => by have := HM2.out.dsk.lt _ q; omega, fun b q e => by have := HM2.out.rep.lt b q; omega, HB2.out.size, Box.made w2 _ _ (-1) false 0 _ _ rfl⟩
  have HB3 := Lib.hid (btr HB2.out HA3.out)
  have HF3 : Hid (Few (D.new 9) 0) := by simp [Hid, Few, D.new]
  clear e1 e2 e3 e4 HM2 HF2 HB2 HA3
  go_wp2
  generalize w2.alloc (.cells #[.slice sA 9 sc, .slice none 0 0, .int .i64 (-1), .bool false, .int .i64 0] 31) = w3 at *
  generalize w2.heap.size = v at *
  generalize D.new 9 = s0 at *
  go_loopw [49] (fun i wr => ∃ (j : Nat) (s : St) (wv sv rw' : Value), j ≤ n0 ∧ i = .int .i64 (j : Int) ∧ Hid (Play wr w.heap.size p g v wv sv rw' s) ∧ Hid (Few s j) ∧ Hid (Below w.heap.size w wr)) (fun i _ => (n0 - intOf i).toNat)
  case atStart => exact ⟨0, s0, _, _, _, Nat.zero_le _, rfl, HP, HF3, HB3⟩
  case round =>
    clear HP HF3 HB3
    obtain ⟨j, s, wv, sv, rw', hj, rfl, HP, HF, HB⟩ := hrel
    by_cases hjn : j < n0
    · have hjl : j < os0.length := by rw [HL0.out]; exact hjn
      obtain ⟨b, off, lv, rfl, hr, hls, hoj, ⟨LA, lc, hlv⟩, hlt⟩ := HO0.out.get HB.out j hjl
      have HR := Lib.hid hr
      have HOK := Lib.hid hoj
      clear hr hoj
      generalize os0[j] = o at *
      obtain ⟨sA', sc', rfl⟩ := row_form HP.out.mix.rep.safe
      obtain ⟨rA, rc, rfl⟩ := row_form HP.out.mix.rep.waits
      have HLS := Lib.hid hls
      have HLF : Hid (0 < o.l.length → ∀ k, lv.ownBlock = some k → ¬ fp p g wv k) := fun hp k hk q => by
        have := hlt hp k hk
        have := HP.out.fB k q
        omega
      have HA := Lib.hid (alb (w := wr) (.cells (ocells o lv).toArray 38))
      have HPA := Lib.hid (HP.out.below HA.out)
      have HBA := Lib.hid (btr HB.out HA.out)
      have ST := Lib.hid (step_any HPA.out.mix o HOK.out lv (HLS.out.below (Nat.le_refl _) HA.out) HLF.out (by have := HF.out.1; omega) (by have := HF.out.2; omega))
      have ho6 : (ocells o lv).toArray = #[.int .u8 (o.d : Int), .int .i64 o.a, .int .u8 ((o.c.toNat : Nat) : Int), .int .u16 (o.k : Int), .int .i8 o.n, lv] := rfl
      unfold ocells at HR
      rw [ho6] at HA HPA HBA ST
      subst hlv
      clear hls hlt ho6
      have HFS := Lib.hid (few_stp HF.out o)
      generalize stp s o = s' at *
      generalize o.l.length = oll at *
      unfold rv at ST
      have hbx := HPA.out.box
      have c0 := hbx.c0
      have c1 := hbx.c1
      have c2 := hbx.c2
      have c3 := hbx.c3
      have c4 := hbx.c4
      clear hbx
      go_wp2_with (first
        | (refine wpList_load_mid rfl 38 _ rfl b (off + j * 6) rfl _ _ HR.out Try.underlying38 rfl Try.size38 ?_)
        | fail)
      clear c0 c1 c2 c3 c4
      generalize wr.alloc (.cells #[.int .u8 (o.d : Int), .int .i64 o.a, .int .u8 ((o.c.toNat : Nat) : Int), .int .u16 (o.k : Int), .int .i8 o.n, .slice LA oll lc] 38) = w4 at *
      refine ST.out.mono ?_
      rintro e w5 ⟨wv5, sv5, rw5, rfl, hsp⟩
      have HSP := Lib.hid hsp
      clear hsp ST
      obtain ⟨A5, c5, rfl⟩ := row_form HSP.out.mix.rep.safe
      obtain ⟨A6, c6, rfl⟩ := row_form HSP.out.mix.rep.waits
      have BX5 := Lib.hid (HPA.out.box.keep HSP.out.keep HPA.out.v1)
      have PS : Hid (∀ w7, Box w7 v (.slice A5 s'.safe.length c5) (.slice A6 s'.waits.length c6) s'.fuse s'.down (s'.writes : Int) → Keep (fun x => x = v) w5 w7 → Play w7 w.heap.size p g v wv5 (.slice A5 s'.safe.length c5) (.slice A6 s'.waits.length c6) s' ∧ Below w.heap.size w w7) := fun w7 hx hk =>
        ⟨HPA.out.step HSP.out (Below.refl _ _) hk hx HBA.out.size, HBA.out.trans (HPA.out.bel HSP.out (Below.refl _ _) hk HBA.out.size)⟩
      clear HPA HP HSP HA HBA HLF HLS HOK
      generalize s'.safe.length = m1 at *
      generalize s'.waits.length = m2 at *
      generalize s'.fuse = fu at *
      generalize s'.down = dn at *
      generalize (s'.writes : Int) = nw at *
      go_wp2_with (first
        | (refine wpList_store_box BX5.out rfl _ _ rfl (.slice A5 m1 c5) (.slice A6 m2 c6) fu dn nw rfl rfl rfl rfl ?_; intro w7 hx7 hk7; have HPL := Lib.hid (PS.out w7 hx7 hk7); clear hx7 hk7)
        | fail)
      go_roundw
      case rel => exact ⟨j + 1, s', wv5, _, _, by omega, by go_num, HPL.out.1, HFS, HPL.out.2⟩
      case measure => simp [intOf]; omega
    · obtain rfl : j = n0 := by omega
      clear hjn
      obtain ⟨sA', sc', rfl⟩ := row_form HP.out.mix.rep.safe
      obtain ⟨rA, rc, rfl⟩ := row_form HP.out.mix.rep.waits
      have HFc := Lib.hid (HF.out.mono h0)
      clear HF HL0 HO0
      have RGX := Lib.hid HP.out.box.range
      go_wp2
      have hS : Hid (Below wr.heap.size wr wr.drew) := (Below.refl _ _).drew
      refine lz_start 6 1000 (fun W => Below wr.heap.size wr W) rfl (by kernel_rfl) ?_
      refine lz_take 0 61 (v := ?_) rfl rfl (by kernel_rfl) (by kernel_rfl) (by kernel_rfl) (by kernel_rfl) (fun _ _ _ _ _ h => h) (by rfl) hS.out (fun W hW => ?_) ?_
      rotate_left
      · go_simp; try rfl
      try simp only [Act.put, List.setIfInBounds_toArray, List.set_cons_zero, List.set_cons_succ]
      refine lz_take 2 63 (v := ?_) rfl rfl (by kernel_rfl) (by kernel_rfl) (by kernel_rfl) (by kernel_rfl) (fun _ _ _ _ _ h => h) (by rfl) hS.out (fun W hW => ?_) ?_
      rotate_left
      · refine run_load_mid 31 (.tmp 9) ?_ v 0 ?_ [.slice sA' s.safe.length sc', .slice rA s.waits.length rc, .int .i64 s.fuse, .bool s.down, .int .i64 (s.writes : Int)] _ (range_keep (F := fun _ => False) RGX.out (Keep.of_below hW) (fun h => h)) Try.underlying31 rfl Try.size31 <;> rfl
      try simp only [Act.put, List.setIfInBounds_toArray, List.set_cons_zero, List.set_cons_succ]
      refine lz_two 1 3 rfl rfl rfl rfl (by kernel_rfl) (fun K hK => ?_) (fun K hK => ?_)
      · go_simp
        refine (copy_any (HP.out.mix.dsk.keep (F := fun _ => False) (Keep.refl _ wr).drew (fun _ _ h => h)) (by have := HFc.out.1; omega)).mono ?_
        rintro e w4 ⟨p2, g2, wv2, rfl, hown, hb⟩
        have hb4 : Hid (Below wr.heap.size wr w4) := btr (Below.refl _ wr).drew hb
        refine hK.out _ _ hb4.out ?_
        clear hK K hS hb
        have hS := hb4
        refine lz_op 3 rfl rfl (by kernel_rfl) (fun K hK => ?_)
        go_simp
        have HA5 := Lib.hid (alb (w := w4) (.cells #[.slice none 0 0, .slice none 0 0, .int .i64 0, .bool false, .int .i64 0] 31))
        have BXN := Lib.hid (Box.made w4 (.slice none 0 0) (.slice none 0 0) 0 false 0 31 w4.heap.size rfl)
        have HDN := Lib.hid (hown.1.below HA5.out)
        have HFN := Lib.hid hown.2
        have NF : Hid (¬ fp p2 g2 wv2 w4.heap.size) := fun q => by have := hown.1.lt _ q; omega
        have NV : Hid (wr.heap.size ≤ w4.heap.size) := hb4.out.size
        have hb5 := Lib.hid (btr hb4.out HA5.out)
        refine hK.out _ _ hb5.out ?_
        clear hK K hS hown HA5
        generalize w4.alloc (.cells #[.slice none 0 0, .slice none 0 0, .int .i64 0, .bool false, .int .i64 0] 31) = w5 at *
        have hS := hb5
        refine lz_take 4 13 (v := ?_) rfl rfl (by kernel_rfl) (by kernel_rfl) (by kernel_rfl) (by kernel_rfl) (fun _ _ _ _ _ h => h) (by rfl) hS.out (fun W hW => ?_) ?_
        rotate_left
        · go_simp; try rfl
        try simp only [Act.put, List.setIfInBounds_toArray, List.set_cons_zero, List.set_cons_succ]
        refine lz_op 5 rfl rfl (by kernel_rfl) (fun K hK => ?_)
        refine wp_store_mid 31 _ _ rfl (w4.heap.size) 0 #[.slice sA' s.safe.length sc', .slice rA s.waits.length rc, .int .i64 s.fuse, .bool s.down, .int .i64 (s.writes : Int)] rfl rfl BXN.out.there Try.size31 (five_one _ _ _ _ _ rfl rfl) ?_
        have HKF : Hid (Keep (fun k => k = w4.heap.size) w5 (w5.setCells (w4.heap.size) 0 [.slice sA' s.safe.length sc', .slice rA s.waits.length rc, .int .i64 s.fuse, .bool s.down, .int .i64 (s.writes : Int)])) := keepN w5 (w4.heap.size) 0 [.slice sA' s.safe.length sc', .slice rA s.waits.length rc, .int .i64 s.fuse, .bool s.down, .int .i64 (s.writes : Int)]
        have HBF : Hid (Below wr.heap.size wr (w5.setCells (w4.heap.size) 0 [.slice sA' s.safe.length sc', .slice rA s.waits.length rc, .int .i64 s.fuse, .bool s.down, .int .i64 (s.writes : Int)])) := below_one hb5.out HKF.out NV.out
        refine hK.out _ _ HBF.out ?_
        clear hK K
        try simp only [Act.put]
        refine lz_done (by kernel_rfl) ?_
        obtain ⟨hp6, hq6, ha6⟩ := HP.out.copied HBF.out (HDN.out.keep HKF.out (fun b q e => by have e : b = w4.heap.size := e; subst e; exact NF.out q)) HFN.out (Nat.le_refl _) NV.out NF.out (BXN.out.setAll (.slice sA' s.safe.length sc') (.slice rA s.waits.length rc) s.fuse s.down (s.writes : Int)) HB.out.size
        have HP6 := Lib.hid hp6
        have HQ6 := Lib.hid hq6
        have HA6 := Lib.hid ha6
        have HB6 := Lib.hid (btr HB.out HBF.out)
        clear hp6 hq6 ha6 HKF HBF NV NF HDN HFN BXN HP HB RGX hS
        generalize w5.setCells (w4.heap.size) 0 [.slice sA' s.safe.length sc', .slice rA s.waits.length rc, .int .i64 s.fuse, .bool s.down, .int .i64 (s.writes : Int)] = w6 at *
        generalize w4.heap.size = v2 at *
        generalize (Value.slice sA' s.safe.length sc') = sv at *
        generalize (Value.slice rA s.waits.length rc) = rw' at *
        obtain ⟨sP, svP, rwP, HQ7, HA7, HFP⟩ : ∃ sP svP rwP, Hid (Play w6 w.heap.size p2 g2 v2 wv2 svP rwP sP) ∧ Hid (Apart p g v wv sv rw' p2 g2 v2 wv2 svP rwP) ∧ Hid (Few sP 40) := ⟨s, sv, rw', HQ6, HA6, HFc⟩
        clear HQ6 HA6
        go_wp2
        go_loopw [68] (fun i wr => ∃ (j : Nat) (s : St) (wv sv rw' : Value), j ≤ n1 ∧ i = .int .i64 (j : Int) ∧ Hid (Play wr w.heap.size p g v wv sv rw' s) ∧ Hid (Few s (40 + j)) ∧ Hid (Below w.heap.size w wr) ∧ Hid (Play wr w.heap.size p2 g2 v2 wv2 svP rwP sP) ∧ Hid (Apart p g v wv sv rw' p2 g2 v2 wv2 svP rwP)) (fun i _ => (n1 - intOf i).toNat)
        case atStart => exact ⟨0, s, wv, sv, rw', Nat.zero_le _, rfl, HP6, HFc, HB6, HQ7, HA7⟩
        case round =>
          clear HP6 HFc HB6 HQ7 HA7
          obtain ⟨j, s, wv, sv, rw', hj, rfl, HP, HF, HB, HQ, HAP⟩ := hrel
          by_cases hjn : j < n1
          · have hjl : j < os1.length := by rw [HL1.out]; exact hjn
            obtain ⟨b, off, lv, rfl, hr, hls, hoj, ⟨LA, lc, hlv⟩, hlt⟩ := HO1.out.get HB.out j hjl
            have HR := Lib.hid hr
            have HOK := Lib.hid hoj
            clear hr hoj
            generalize os1[j] = o at *
            obtain ⟨sA', sc', rfl⟩ := row_form HP.out.mix.rep.safe
            obtain ⟨rA, rc, rfl⟩ := row_form HP.out.mix.rep.waits
            have HLS := Lib.hid hls
            have HLF : Hid (0 < o.l.length → ∀ k, lv.ownBlock = some k → ¬ fp p g wv k) := fun hp k hk q => by
              have := hlt hp k hk
              have := HP.out.fB k q
              omega
            have HA := Lib.hid (alb (w := wr) (.cells (ocells o lv).toArray 38))
            have HPA := Lib.hid (HP.out.below HA.out)
            have HBA := Lib.hid (btr HB.out HA.out)
            have HQA := Lib.hid (HQ.out.below HA.out)
            have ST := Lib.hid (step_any HPA.out.mix o HOK.out lv (HLS.out.below (Nat.le_refl _) HA.out) HLF.out (by have := HF.out.1; omega) (by have := HF.out.2; omega))
            have ho6 : (ocells o lv).toArray = #[.int .u8 (o.d : Int), .int .i64 o.a, .int .u8 ((o.c.toNat : Nat) : Int), .int .u16 (o.k : Int), .int .i8 o.n, lv] := rfl
            unfold ocells at HR
            rw [ho6] at HA HPA HBA ST HQA
            subst hlv
            clear hls hlt ho6
            have HFS := Lib.hid (few_stp HF.out o)
            generalize stp s o = s' at *
            generalize o.l.length = oll at *
            unfold rv at ST
            have hbx := HPA.out.box
            have c0 := hbx.c0
            have c1 := hbx.c1
            have c2 := hbx.c2
            have c3 := hbx.c3
            have c4 := hbx.c4
            clear hbx
            go_wp2_with (first
              | (refine wpList_load_mid rfl 38 _ rfl b (off + j * 6) rfl _ _ HR.out Try.underlying38 rfl Try.size38 ?_)
              | fail)
            clear c0 c1 c2 c3 c4
            generalize wr.alloc (.cells #[.int .u8 (o.d : Int), .int .i64 o.a, .int .u8 ((o.c.toNat : Nat) : Int), .int .u16 (o.k : Int), .int .i8 o.n, .slice LA oll lc] 38) = w4 at *
            refine ST.out.mono ?_
            rintro e w5 ⟨wv5, sv5, rw5, rfl, hsp⟩
            have HSP := Lib.hid hsp
            clear hsp ST
            obtain ⟨A5, c5, rfl⟩ := row_form HSP.out.mix.rep.safe
            obtain ⟨A6, c6, rfl⟩ := row_form HSP.out.mix.rep.waits
            have BX5 := Lib.hid (HPA.out.box.keep HSP.out.keep HPA.out.v1)
            have PS : Hid (∀ w7, Box w7 v (.slice A5 s'.safe.length c5) (.slice A6 s'.waits.length c6) s'.fuse s'.down (s'.writes : Int) → Keep (fun x => x = v) w5 w7 → Play w7 w.heap.size p g v wv5 (.slice A5 s'.safe.length c5) (.slice A6 s'.waits.length c6) s' ∧ Below w.heap.size w w7 ∧ (Play w7 w.heap.size p2 g2 v2 wv2 svP rwP sP ∧ Apart p g v wv5 (.slice A5 s'.safe.length c5) (.slice A6 s'.waits.length c6) p2 g2 v2 wv2 svP rwP)) := fun w7 hx hk =>
              ⟨HPA.out.step HSP.out (Below.refl _ _) hk hx HBA.out.size, HBA.out.trans (HPA.out.bel HSP.out (Below.refl _ _) hk HBA.out.size), HPA.out.beside HSP.out hk HQA.out HAP.out⟩
            clear HPA HP HSP HA HBA HLF HLS HOK HQA HQ HAP
            generalize s'.safe.length = m1 at *
            generalize s'.waits.length = m2 at *
            generalize s'.fuse = fu at *
            generalize s'.down = dn at *
            generalize (s'.writes : Int) = nw at *
            go_wp2_with (first
              | (refine wpList_store_box BX5.out rfl _ _ rfl (.slice A5 m1 c5) (.slice A6 m2 c6) fu dn nw rfl rfl rfl rfl ?_; intro w7 hx7 hk7; have HPL := Lib.hid (PS.out w7 hx7 hk7); clear hx7 hk7)
              | fail)
            go_roundw
            case rel => exact ⟨j + 1, s', wv5, _, _, by omega, by go_num, HPL.out.1, HFS, HPL.out.2.1, HPL.out.2.2.1, HPL.out.2.2.2⟩
            case measure => simp [intOf]; omega
          · obtain rfl : j = n1 := by omega
            clear hjn
            obtain ⟨sQ, wvQ, svQ, rwQ, HPQ, HAQ⟩ : ∃ sQ wvQ svQ rwQ, Hid (Play wr w.heap.size p g v wvQ svQ rwQ sQ) ∧ Hid (Apart p2 g2 v2 wv2 svP rwP p g v wvQ svQ rwQ) := ⟨s, wv, sv, rw', HP, HAP.out.symm⟩
            clear HF HL1 HO1 HP HAP
            go_wp2
            go_loopw [82] (fun i wr => ∃ (j : Nat) (s : St) (wv sv rw' : Value), j ≤ n2 ∧ i = .int .i64 (j : Int) ∧ Hid (Play wr w.heap.size p2 g2 v2 wv sv rw' s) ∧ Hid (Few s (40 + j)) ∧ Hid (Below w.heap.size w wr) ∧ Hid (Play wr w.heap.size p g v wvQ svQ rwQ sQ) ∧ Hid (Apart p2 g2 v2 wv sv rw' p g v wvQ svQ rwQ)) (fun i _ => (n2 - intOf i).toNat)
            case atStart => exact ⟨0, sP, wv2, svP, rwP, Nat.zero_le _, rfl, HQ, HFP, HB, HPQ, HAQ⟩
            case round =>
              clear HQ HFP HB HPQ HAQ
              obtain ⟨j, s, wv, sv, rw', hj, rfl, HP, HF, HB, HQ, HAP⟩ := hrel
              by_cases hjn : j < n2
              · have hjl : j < os2.length := by rw [HL2.out]; exact hjn
                obtain ⟨b, off, lv, rfl, hr, hls, hoj, ⟨LA, lc, hlv⟩, hlt⟩ := HO2.out.get HB.out j hjl
                have HR := Lib.hid hr
                have HOK := Lib.hid hoj
                clear hr hoj
                generalize os2[j] = o at *
                obtain ⟨sA', sc', rfl⟩ := row_form HP.out.mix.rep.safe
                obtain ⟨rA, rc, rfl⟩ := row_form HP.out.mix.rep.waits
                have HLS := Lib.hid hls
                have HLF : Hid (0 < o.l.length → ∀ k, lv.ownBlock = some k → ¬ fp p2 g2 wv k) := fun hp k hk q => by
                  have := hlt hp k hk
                  have := HP.out.fB k q
                  omega
                have HA := Lib.hid (alb (w := wr) (.cells (ocells o lv).toArray 38))
                have HPA := Lib.hid (HP.out.below HA.out)
                have HBA := Lib.hid (btr HB.out HA.out)
                have HQA := Lib.hid (HQ.out.below HA.out)
                have ST := Lib.hid (step_any HPA.out.mix o HOK.out lv (HLS.out.below (Nat.le_refl _) HA.out) HLF.out (by have := HF.out.1; omega) (by have := HF.out.2; omega))
                have ho6 : (ocells o lv).toArray = #[.int .u8 (o.d : Int), .int .i64 o.a, .int .u8 ((o.c.toNat : Nat) : Int), .int .u16 (o.k : Int), .int .i8 o.n, lv] := rfl
                unfold ocells at HR
                rw [ho6] at HA HPA HBA ST HQA
                subst hlv
                clear hls hlt ho6
                have HFS := Lib.hid (few_stp HF.out o)
                generalize stp s o = s' at *
                generalize o.l.length = oll at *
                unfold rv at ST
                have hbx := HPA.out.box
                have c0 := hbx.c0
                have c1 := hbx.c1
                have c2 := hbx.c2
                have c3 := hbx.c3
                have c4 := hbx.c4
                clear hbx
                go_wp2_with (first
                  | (refine wpList_load_mid rfl 38 _ rfl b (off + j * 6) rfl _ _ HR.out Try.underlying38 rfl Try.size38 ?_)
                  | fail)
                clear c0 c1 c2 c3 c4
                generalize wr.alloc (.cells #[.int .u8 (o.d : Int), .int .i64 o.a, .int .u8 ((o.c.toNat : Nat) : Int), .int .u16 (o.k : Int), .int .i8 o.n, .slice LA oll lc] 38) = w4 at *
                refine ST.out.mono ?_
                rintro e w5 ⟨wv5, sv5, rw5, rfl, hsp⟩
                have HSP := Lib.hid hsp
                clear hsp ST
                obtain ⟨A5, c5, rfl⟩ := row_form HSP.out.mix.rep.safe
                obtain ⟨A6, c6, rfl⟩ := row_form HSP.out.mix.rep.waits
                have BX5 := Lib.hid (HPA.out.box.keep HSP.out.keep HPA.out.v1)
                have PS : Hid (∀ w7, Box w7 v2 (.slice A5 s'.safe.length c5) (.slice A6 s'.waits.length c6) s'.fuse s'.down (s'.writes : Int) → Keep (fun x => x = v2) w5 w7 → Play w7 w.heap.size p2 g2 v2 wv5 (.slice A5 s'.safe.length c5) (.slice A6 s'.waits.length c6) s' ∧ Below w.heap.size w w7 ∧ (Play w7 w.heap.size p g v wvQ svQ rwQ sQ ∧ Apart p2 g2 v2 wv5 (.slice A5 s'.safe.length c5) (.slice A6 s'.waits.length c6) p g v wvQ svQ rwQ)) := fun w7 hx hk =>
                  ⟨HPA.out.step HSP.out (Below.refl _ _) hk hx HBA.out.size, HBA.out.trans (HPA.out.bel HSP.out (Below.refl _ _) hk HBA.out.size), HPA.out.beside HSP.out hk HQA.out HAP.out⟩
                clear HPA HP HSP HA HBA HLF HLS HOK HQA HQ HAP
                generalize s'.safe.length = m1 at *
                generalize s'.waits.length = m2 at *
                generalize s'.fuse = fu at *
                generalize s'.down = dn at *
                generalize (s'.writes : Int) = nw at *
                go_wp2_with (first
                  | (refine wpList_store_box BX5.out rfl _ _ rfl (.slice A5 m1 c5) (.slice A6 m2 c6) fu dn nw rfl rfl rfl rfl ?_; intro w7 hx7 hk7; have HPL := Lib.hid (PS.out w7 hx7 hk7); clear hx7 hk7)
                  | fail)
                go_roundw
                case rel => exact ⟨j + 1, s', wv5, _, _, by omega, by go_num, HPL.out.1, HFS, HPL.out.2.1, HPL.out.2.2.1, HPL.out.2.2.2⟩
                case measure => simp [intOf]; omega
              · obtain rfl : j = n2 := by omega
                clear hjn HAP HF HL2 HO2
                obtain ⟨yA, yc, rfl⟩ := row_form HP.out.mix.rep.safe
                obtain ⟨yB, yd, rfl⟩ := row_form HP.out.mix.rep.waits
                obtain ⟨xA, xc, rfl⟩ := row_form HQ.out.mix.rep.safe
                obtain ⟨xB, xd, rfl⟩ := row_form HQ.out.mix.rep.waits
                go_wp2_with fail
                refine (fixed_any wr).mono ?_
                rintro e w4 ⟨rfl, hb⟩
                have HP4 := Lib.hid (HP.out.below hb)
                have HQ4 := Lib.hid (HQ.out.below hb)
                have HB4 := Lib.hid (btr HB.out hb)
                clear hb HP HQ HB
                have SM := same_any HQ4.out.mix.dsk HQ4.out.mix.rep
                unfold rv at SM
                have SM := Lib.hid SM
                have hbx := HQ4.out.box
                have c0 := hbx.c0
                have c1 := hbx.c1
                have c2 := hbx.c2
                have c3 := hbx.c3
                have c4 := hbx.c4
                clear hbx
                go_wp2_with fail
                refine SM.out.mono ?_
                rintro e w5 ⟨rfl, hb⟩
                have HP5 := Lib.hid (HP4.out.below hb)
                have HQ5 := Lib.hid (HQ4.out.below hb)
                have HB5 := Lib.hid (btr HB4.out hb)
                clear SM c0 c1 c2 c3 c4 hb HP4 HQ4
                have SM := same_any HP5.out.mix.dsk HP5.out.mix.rep
                unfold rv at SM
                have SM := Lib.hid SM
                have hbx := HP5.out.box
                have c0 := hbx.c0
                have c1 := hbx.c1
                have c2 := hbx.c2
                have c3 := hbx.c3
                have c4 := hbx.c4
                clear hbx
                go_wp2_with fail
                refine SM.out.mono ?_
                rintro e w6 ⟨rfl, hb⟩
                have HP6 := Lib.hid (HP5.out.below hb)
                have HQ6 := Lib.hid (HQ5.out.below hb)
                have HB6 := Lib.hid (btr HB5.out hb)
                clear SM c0 c1 c2 c3 c4 hb HP5 HQ5
                have SM := alike_any HQ6.out.mix.dsk HQ6.out.mix.rep
                unfold rv at SM
                have SM := Lib.hid SM
                have hbx := HQ6.out.box
                have c0 := hbx.c0
                have c1 := hbx.c1
                have c2 := hbx.c2
                have c3 := hbx.c3
                have c4 := hbx.c4
                clear hbx
                go_wp2_with fail
                refine SM.out.mono ?_
                rintro e w7 ⟨rfl, hb⟩
                have HP7 := Lib.hid (HP6.out.below hb)
                have HQ7 := Lib.hid (HQ6.out.below hb)
                have HB7 := Lib.hid (btr HB6.out hb)
                clear SM c0 c1 c2 c3 c4 hb HP6 HQ6
                have SM := alike_any HP7.out.mix.dsk HP7.out.mix.rep
                unfold rv at SM
                have SM := Lib.hid SM
                have hbx := HP7.out.box
                have c0 := hbx.c0
                have c1 := hbx.c1
                have c2 := hbx.c2
                have c3 := hbx.c3
                have c4 := hbx.c4
                clear hbx
                go_wp2_with fail
                refine SM.out.mono ?_
                rintro e w8 ⟨rfl, hb⟩
                have HP8 := Lib.hid (HP7.out.below hb)
                have HQ8 := Lib.hid (HQ7.out.below hb)
                have HB8 := Lib.hid (btr HB7.out hb)
                clear SM c0 c1 c2 c3 c4 hb HP7 HQ7
                clear HP8 HQ8
                go_wp2
                go_ret
                exact ⟨rfl, HB8.out⟩
      · go_simp
        have BX4 : Hid (Box (wr.alloc (.cells #[.slice none 0 0, .slice none 0 0, .int .i64 0, .bool false, .int .i64 0] 31)).drew wr.heap.size (.slice none 0 0) (.slice none 0 0) 0 false 0) := (Box.made wr (.slice none 0 0) (.slice none 0 0) 0 false 0 31 wr.heap.size rfl).keep (F := fun _ => False) (Keep.refl _ _).drew (fun h => h)
        have hb4 : Hid (Below wr.heap.size wr (wr.alloc (.cells #[.slice none 0 0, .slice none 0 0, .int .i64 0, .bool false, .int .i64 0] 31)).drew) := (alb _).drew
        have S4 := Lib.hid BX4.out.lt
        refine hK.out _ _ hb4.out ?_
        clear hK K hS
        generalize (wr.alloc (.cells #[.slice none 0 0, .slice none 0 0, .int .i64 0, .bool false, .int .i64 0] 31)).drew = w4 at *
        have hS := hb4
        refine lz_op 1 rfl rfl (by kernel_rfl) (fun K hK => ?_)
        go_simp
        refine (copy_any (HP.out.mix.dsk.below hb4.out) (by have := HFc.out.1; omega)).mono ?_
        rintro e w5 ⟨p2, g2, wv2, rfl, hown, hb⟩
        have BXN := Lib.hid (BX4.out.below hb)
        have HDN := Lib.hid hown.1
        have HFN := Lib.hid hown.2
        have NF : Hid (¬ fp p2 g2 wv2 wr.heap.size) := fun q => by have := hown.2 _ q; have := S4.out; omega
        have NV : Hid (wr.heap.size ≤ wr.heap.size) := Nat.le_refl _
        have hb5 := Lib.hid (btr hb4.out hb)
        refine hK.out _ _ hb5.out ?_
        clear hK K hS hown hb BX4
        have hS := hb5
        refine lz_take 4 13 (v := ?_) rfl rfl (by kernel_rfl) (by kernel_rfl) (by kernel_rfl) (by kernel_rfl) (fun _ _ _ _ _ h => h) (by rfl) hS.out (fun W hW => ?_) ?_
        rotate_left
        · go_simp; try rfl
        try simp only [Act.put, List.setIfInBounds_toArray, List.set_cons_zero, List.set_cons_succ]
        refine lz_op 5 rfl rfl (by kernel_rfl) (fun K hK => ?_)
        refine wp_store_mid 31 _ _ rfl (wr.heap.size) 0 #[.slice sA' s.safe.length sc', .slice rA s.waits.length rc, .int .i64 s.fuse, .bool s.down, .int .i64 (s.writes : Int)] rfl rfl BXN.out.there Try.size31 (five_one _ _ _ _ _ rfl rfl) ?_
        have HKF : Hid (Keep (fun k => k = wr.heap.size) w5 (w5.setCells (wr.heap.size) 0 [.slice sA' s.safe.length sc', .slice rA s.waits.length rc, .int .i64 s.fuse, .bool s.down, .int .i64 (s.writes : Int)])) := keepN w5 (wr.heap.size) 0 [.slice sA' s.safe.length sc', .slice rA s.waits.length rc, .int .i64 s.fuse, .bool s.down, .int .i64 (s.writes : Int)]
        have HBF : Hid (Below wr.heap.size wr (w5.setCells (wr.heap.size) 0 [.slice sA' s.safe.length sc', .slice rA s.waits.length rc, .int .i64 s.fuse, .bool s.down, .int .i64 (s.writes : Int)])) := below_one hb5.out HKF.out NV.out
        refine hK.out _ _ HBF.out ?_
        clear hK K
        try simp only [Act.put]
        refine lz_done (by kernel_rfl) ?_
        obtain ⟨hp6, hq6, ha6⟩ := HP.out.copied HBF.out (HDN.out.keep HKF.out (fun b q e => by have e : b = wr.heap.size := e; subst e; exact NF.out q)) HFN.out hb4.out.size NV.out NF.out (BXN.out.setAll (.slice sA' s.safe.length sc') (.slice rA s.waits.length rc) s.fuse s.down (s.writes : Int)) HB.out.size
        have HP6 := Lib.hid hp6
        have HQ6 := Lib.hid hq6
        have HA6 := Lib.hid ha6
        have HB6 := Lib.hid (btr HB.out HBF.out)
        clear hp6 hq6 ha6 HKF HBF NV NF HDN HFN BXN HP HB RGX hS
        generalize w5.setCells (wr.heap.size) 0 [.slice sA' s.safe.length sc', .slice rA s.waits.length rc, .int .i64 s.fuse, .bool s.down, .int .i64 (s.writes : Int)] = w6 at *
        generalize wr.heap.size = v2 at *
        generalize (Value.slice sA' s.safe.length sc') = sv at *
        generalize (Value.slice rA s.waits.length rc) = rw' at *
        obtain ⟨sP, svP, rwP, HQ7, HA7, HFP⟩ : ∃ sP svP rwP, Hid (Play w6 w.heap.size p2 g2 v2 wv2 svP rwP sP) ∧ Hid (Apart p g v wv sv rw' p2 g2 v2 wv2 svP rwP) ∧ Hid (Few sP 40) := ⟨s, sv, rw', HQ6, HA6, HFc⟩
        clear HQ6 HA6
        go_wp2
        go_loopw [68] (fun i wr => ∃ (j : Nat) (s : St) (wv sv rw' : Value), j ≤ n1 ∧ i = .int .i64 (j : Int) ∧ Hid (Play wr w.heap.size p g v wv sv rw' s) ∧ Hid (Few s (40 + j)) ∧ Hid (Below w.heap.size w wr) ∧ Hid (Play wr w.heap.size p2 g2 v2 wv2 svP rwP sP) ∧ Hid (Apart p g v wv sv rw' p2 g2 v2 wv2 svP rwP)) (fun i _ => (n1 - intOf i).toNat)
        case atStart => exact ⟨0, s, wv, sv, rw', Nat.zero_le _, rfl, HP6, HFc, HB6, HQ7, HA7⟩
        case round =>
          clear HP6 HFc HB6 HQ7 HA7
          obtain ⟨j, s, wv, sv, rw', hj, rfl, HP, HF, HB, HQ, HAP⟩ := hrel
          by_cases hjn : j < n1
          · have hjl : j < os1.length := by rw [HL1.out]; exact hjn
            obtain ⟨b, off, lv, rfl, hr, hls, hoj, ⟨LA, lc, hlv⟩, hlt⟩ := HO1.out.get HB.out j hjl
            have HR := Lib.hid hr
            have HOK := Lib.hid hoj
            clear hr hoj
            generalize os1[j] = o at *
            obtain ⟨sA', sc', rfl⟩ := row_form HP.out.mix.rep.safe
            obtain ⟨rA, rc, rfl⟩ := row_form HP.out.mix.rep.waits
            have HLS := Lib.hid hls
            have HLF : Hid (0 < o.l.length → ∀ k, lv.ownBlock = some k → ¬ fp p g wv k) := fun hp k hk q => by
              have := hlt hp k hk
              have := HP.out.fB k q
              omega
            have HA := Lib.hid (alb (w := wr) (.cells (ocells o lv).toArray 38))
            have HPA := Lib.hid (HP.out.below HA.out)
            have HBA := Lib.hid (btr HB.out HA.out)
            have HQA := Lib.hid (HQ.out.below HA.out)
            have ST := Lib.hid (step_any HPA.out.mix o HOK.out lv (HLS.out.below (Nat.le_refl _) HA.out) HLF.out (by have := HF.out.1; omega) (by have := HF.out.2; omega))
            have ho6 : (ocells o lv).toArray = #[.int .u8 (o.d : Int), .int .i64 o.a, .int .u8 ((o.c.toNat : Nat) : Int), .int .u16 (o.k : Int), .int .i8 o.n, lv] := rfl
            unfold ocells at HR
            rw [ho6] at HA HPA HBA ST HQA
            subst hlv
            clear hls hlt ho6
            have HFS := Lib.hid (few_stp HF.out o)
            generalize stp s o = s' at *
            generalize o.l.length = oll at *
            unfold rv at ST
            have hbx := HPA.out.box
            have c0 := hbx.c0
            have c1 := hbx.c1
            have c2 := hbx.c2
            have c3 := hbx.c3
            have c4 := hbx.c4
            clear hbx
            go_wp2_with (first
              | (refine wpList_load_mid rfl 38 _ rfl b (off + j * 6) rfl _ _ HR.out Try.underlying38 rfl Try.size38 ?_)
              | fail)
            clear c0 c1 c2 c3 c4
            generalize wr.alloc (.cells #[.int .u8 (o.d : Int), .int .i64 o.a, .int .u8 ((o.c.toNat : Nat) : Int), .int .u16 (o.k : Int), .int .i8 o.n, .slice LA oll lc] 38) = w4 at *
            refine ST.out.mono ?_
            rintro e w5 ⟨wv5, sv5, rw5, rfl, hsp⟩
            have HSP := Lib.hid hsp
            clear hsp ST
            obtain ⟨A5, c5, rfl⟩ := row_form HSP.out.mix.rep.safe
            obtain ⟨A6, c6, rfl⟩ := row_form HSP.out.mix.rep.waits
            have BX5 := Lib.hid (HPA.out.box.keep HSP.out.keep HPA.out.v1)
            have PS : Hid (∀ w7, Box w7 v (.slice A5 s'.safe.length c5) (.slice A6 s'.waits.length c6) s'.fuse s'.down (s'.writes : Int) → Keep (fun x => x = v) w5 w7 → Play w7 w.heap.size p g v wv5 (.slice A5 s'.safe.length c5) (.slice A6 s'.waits.length c6) s' ∧ Below w.heap.size w w7 ∧ (Play w7 w.heap.size p2 g2 v2 wv2 svP rwP sP ∧ Apart p g v wv5 (.slice A5 s'.safe.length c5) (.slice A6 s'.waits.length c6) p2 g2 v2 wv2 svP rwP)) := fun w7 hx hk =>
              ⟨HPA.out.step HSP.out (Below.refl _ _) hk hx HBA.out.size, HBA.out.trans (HPA.out.bel HSP.out (Below.refl _ _) hk HBA.out.size), HPA.out.beside HSP.out hk HQA.out HAP.out⟩
            clear HPA HP HSP HA HBA HLF HLS HOK HQA HQ HAP
            generalize s'.safe.length = m1 at *
            generalize s'.waits.length = m2 at *
            generalize s'.fuse = fu at *
            generalize s'.down = dn at *
            generalize (s'.writes : Int) = nw at *
            go_wp2_with (first
              | (refine wpList_store_box BX5.out rfl _ _ rfl (.slice A5 m1 c5) (.slice A6 m2 c6) fu dn nw rfl rfl rfl rfl ?_; intro w7 hx7 hk7; have HPL := Lib.hid (PS.out w7 hx7 hk7); clear hx7 hk7)
              | fail)
            go_roundw
            case rel => exact ⟨j + 1, s', wv5, _, _, by omega, by go_num, HPL.out.1, HFS, HPL.out.2.1, HPL.out.2.2.1, HPL.out.2.2.2⟩
            case measure => simp [intOf]; omega
          · obtain rfl : j = n1 := by omega
            clear hjn
            obtain ⟨sQ, wvQ, svQ, rwQ, HPQ, HAQ⟩ : ∃ sQ wvQ svQ rwQ, Hid (Play wr w.heap.size p g v wvQ svQ rwQ sQ) ∧ Hid (Apart p2 g2 v2 wv2 svP rwP p g v wvQ svQ rwQ) := ⟨s, wv, sv, rw', HP, HAP.out.symm⟩
            clear HF HL1 HO1 HP HAP
            go_wp2
            go_loopw [82] (fun i wr => ∃ (j : Nat) (s : St) (wv sv rw' : Value), j ≤ n2 ∧ i = .int .i64 (j : Int) ∧ Hid (Play wr w.heap.size p2 g2 v2 wv sv rw' s) ∧ Hid (Few s (40 + j)) ∧ Hid (Below w.heap.size w wr) ∧ Hid (Play wr w.heap.size p g v wvQ svQ rwQ sQ) ∧ Hid (Apart p2 g2 v2 wv sv rw' p g v wvQ svQ rwQ)) (fun i _ => (n2 - intOf i).toNat)
            case atStart => exact ⟨0, sP, wv2, svP, rwP, Nat.zero_le _, rfl, HQ, HFP, HB, HPQ, HAQ⟩
            case round =>
              clear HQ HFP HB HPQ HAQ
              obtain ⟨j, s, wv, sv, rw', hj, rfl, HP, HF, HB, HQ, HAP⟩ := hrel
              by_cases hjn : j < n2
              · have hjl : j < os2.length := by rw [HL2.out]; exact hjn
                obtain ⟨b, off, lv, rfl, hr, hls, hoj, ⟨LA, lc, hlv⟩, hlt⟩ := HO2.out.get HB.out j hjl
                have HR := Lib.hid hr
                have HOK := Lib.hid hoj
                clear hr hoj
                generalize os2[j] = o at *
                obtain ⟨sA', sc', rfl⟩ := row_form HP.out.mix.rep.safe
                obtain ⟨rA, rc, rfl⟩ := row_form HP.out.mix.rep.waits
                have HLS := Lib.hid hls
                have HLF : Hid (0 < o.l.length → ∀ k, lv.ownBlock = some k → ¬ fp p2 g2 wv k) := fun hp k hk q => by
                  have := hlt hp k hk
                  have := HP.out.fB k q
                  omega
                have HA := Lib.hid (alb (w := wr) (.cells (ocells o lv).toArray 38))
                have HPA := Lib.hid (HP.out.below HA.out)
                have HBA := Lib.hid (btr HB.out HA.out)
                have HQA := Lib.hid (HQ.out.below HA.out)
                have ST := Lib.hid (step_any HPA.out.mix o HOK.out lv (HLS.out.below (Nat.le_refl _) HA.out) HLF.out (by have := HF.out.1; omega) (by have := HF.out.2; omega))
                have ho6 : (ocells o lv).toArray = #[.int .u8 (o.d : Int), .int .i64 o.a, .int .u8 ((o.c.toNat : Nat) : Int), .int .u16 (o.k : Int), .int .i8 o.n, lv] := rfl
                unfold ocells at HR
                rw [ho6] at HA HPA HBA ST HQA
                subst hlv
                clear hls hlt ho6
                have HFS := Lib.hid (few_stp HF.out o)
                generalize stp s o = s' at *
                generalize o.l.length = oll at *
                unfold rv at ST
                have hbx := HPA.out.box
                have c0 := hbx.c0
                have c1 := hbx.c1
                have c2 := hbx.c2
                have c3 := hbx.c3
                have c4 := hbx.c4
                clear hbx
                go_wp2_with (first
                  | (refine wpList_load_mid rfl 38 _ rfl b (off + j * 6) rfl _ _ HR.out Try.underlying38 rfl Try.size38 ?_)
                  | fail)
                clear c0 c1 c2 c3 c4
                generalize wr.alloc (.cells #[.int .u8 (o.d : Int), .int .i64 o.a, .int .u8 ((o.c.toNat : Nat) : Int), .int .u16 (o.k : Int), .int .i8 o.n, .slice LA oll lc] 38) = w4 at *
                refine ST.out.mono ?_
                rintro e w5 ⟨wv5, sv5, rw5, rfl, hsp⟩
                have HSP := Lib.hid hsp
                clear hsp ST
                obtain ⟨A5, c5, rfl⟩ := row_form HSP.out.mix.rep.safe
                obtain ⟨A6, c6, rfl⟩ := row_form HSP.out.mix.rep.waits
                have BX5 := Lib.hid (HPA.out.box.keep HSP.out.keep HPA.out.v1)
                have PS : Hid (∀ w7, Box w7 v2 (.slice A5 s'.safe.length c5) (.slice A6 s'.waits.length c6) s'.fuse s'.down (s'.writes : Int) → Keep (fun x => x = v2) w5 w7 → Play w7 w.heap.size p2 g2 v2 wv5 (.slice A5 s'.safe.length c5) (.slice A6 s'.waits.length c6) s' ∧ Below w.heap.size w w7 ∧ (Play w7 w.heap.size p g v wvQ svQ rwQ sQ ∧ Apart p2 g2 v2 wv5 (.slice A5 s'.safe.length c5) (.slice A6 s'.waits.length c6) p g v wvQ svQ rwQ)) := fun w7 hx hk =>
                  ⟨HPA.out.step HSP.out (Below.refl _ _) hk hx HBA.out.size, HBA.out.trans (HPA.out.bel HSP.out (Below.refl _ _) hk HBA.out.size), HPA.out.beside HSP.out hk HQA.out HAP.out⟩
                clear HPA HP HSP HA HBA HLF HLS HOK HQA HQ HAP
                generalize s'.safe.length = m1 at *
                generalize s'.waits.length = m2 at *
                generalize s'.fuse = fu at *
                generalize s'.down = dn at *
                generalize (s'.writes : Int) = nw at *
                go_wp2_with (first
                  | (refine wpList_store_box BX5.out rfl _ _ rfl (.slice A5 m1 c5) (.slice A6 m2 c6) fu dn nw rfl rfl rfl rfl ?_; intro w7 hx7 hk7; have HPL := Lib.hid (PS.out w7 hx7 hk7); clear hx7 hk7)
                  | fail)
                go_roundw
                case rel => exact ⟨j + 1, s', wv5, _, _, by omega, by go_num, HPL.out.1, HFS, HPL.out.2.1, HPL.out.2.2.1, HPL.out.2.2.2⟩
                case measure => simp [intOf]; omega
              · obtain rfl : j = n2 := by omega
                clear hjn HAP HF HL2 HO2
                obtain ⟨yA, yc, rfl⟩ := row_form HP.out.mix.rep.safe
                obtain ⟨yB, yd, rfl⟩ := row_form HP.out.mix.rep.waits
                obtain ⟨xA, xc, rfl⟩ := row_form HQ.out.mix.rep.safe
                obtain ⟨xB, xd, rfl⟩ := row_form HQ.out.mix.rep.waits
                go_wp2_with fail
                refine (fixed_any wr).mono ?_
                rintro e w4 ⟨rfl, hb⟩
                have HP4 := Lib.hid (HP.out.below hb)
                have HQ4 := Lib.hid (HQ.out.below hb)
                have HB4 := Lib.hid (btr HB.out hb)
                clear hb HP HQ HB
                have SM := same_any HQ4.out.mix.dsk HQ4.out.mix.rep
                unfold rv at SM
                have SM := Lib.hid SM
                have hbx := HQ4.out.box
                have c0 := hbx.c0
                have c1 := hbx.c1
                have c2 := hbx.c2
                have c3 := hbx.c3
                have c4 := hbx.c4
                clear hbx
                go_wp2_with fail
                refine SM.out.mono ?_
                rintro e w5 ⟨rfl, hb⟩
                have HP5 := Lib.hid (HP4.out.below hb)
                have HQ5 := Lib.hid (HQ4.out.below hb)
                have HB5 := Lib.hid (btr HB4.out hb)
                clear SM c0 c1 c2 c3 c4 hb HP4 HQ4
                have SM := same_any HP5.out.mix.dsk HP5.out.mix.rep
                unfold rv at SM
                have SM := Lib.hid SM
                have hbx := HP5.out.box
                have c0 := hbx.c0
                have c1 := hbx.c1
                have c2 := hbx.c2
                have c3 := hbx.c3
                have c4 := hbx.c4
                clear hbx
                go_wp2_with fail
                refine SM.out.mono ?_
                rintro e w6 ⟨rfl, hb⟩
                have HP6 := Lib.hid (HP5.out.below hb)
                have HQ6 := Lib.hid (HQ5.out.below hb)
                have HB6 := Lib.hid (btr HB5.out hb)
                clear SM c0 c1 c2 c3 c4 hb HP5 HQ5
                have SM := alike_any HQ6.out.mix.dsk HQ6.out.mix.rep
                unfold rv at SM
                have SM := Lib.hid SM
                have hbx := HQ6.out.box
                have c0 := hbx.c0
                have c1 := hbx.c1
                have c2 := hbx.c2
                have c3 := hbx.c3
                have c4 := hbx.c4
                clear hbx
                go_wp2_with fail
                refine SM.out.mono ?_
                rintro e w7 ⟨rfl, hb⟩
                have HP7 := Lib.hid (HP6.out.below hb)
                have HQ7 := Lib.hid (HQ6.out.below hb)
                have HB7 := Lib.hid (btr HB6.out hb)
                clear SM c0 c1 c2 c3 c4 hb HP6 HQ6
                have SM := alike_any HP7.out.mix.dsk HP7.out.mix.rep
                unfold rv at SM
                have SM := Lib.hid SM
                have hbx := HP7.out.box
                have c0 := hbx.c0
                have c1 := hbx.c1
                have c2 := hbx.c2
                have c3 := hbx.c3
                have c4 := hbx.c4
                clear hbx
                go_wp2_with fail
                refine SM.out.mono ?_
                rintro e w8 ⟨rfl, hb⟩
                have HP8 := Lib.hid (HP7.out.below hb)
                have HQ8 := Lib.hid (HQ7.out.below hb)
                have HB8 := Lib.hid (btr HB7.out hb)
                clear SM c0 c1 c2 c3 c4 hb HP7 HQ7
                clear HP8 HQ8
                go_wp2
                go_ret
                exact ⟨rfl, HB8.out⟩
theorem copies_any (A0 A1 A2 : Option Addr) (n0 k0 n1 k1 n2 k2 : Nat) (w : World) (h0 : ∃ os, os.length = n0 ∧ Ops w (.slice A0 n0 k0) os) (h1 : ∃ os, os.length = n1 ∧ Ops w (.slice A1 n1 k1) os) (h2 : ∃ os, os.length = n2 ∧ Ops w (.slice A2 n2 k2) os) :
    Calls Try.prog 5 #[.slice A0 n0 k0, .slice A1 n1 k1, .slice A2 n2 k2] w fun e w' => e = .returned (.bool true) ∧ Below w.heap.size w w' := by
  obtain ⟨os0, hl0, ho0⟩ := h0
  obtain ⟨os1, hl1, ho1⟩ := h1
  obtain ⟨os2, hl2, ho2⟩ := h2
  by_cases hc : n0 ≤ 40 ∧ n1 ≤ 40 ∧ n2 ≤ 40
  · exact copies_core A0 A1 A2 n0 k0 n1 k1 n2 k2 os0 os1 os2 w ho0 ho1 ho2 hl0 hl1 hl2 hc.1 hc.2.1 hc.2.2
  · exact copies_first A0 A1 A2 n0 k0 n1 k1 n2 k2 w (by omega)
end Go.Proofs.Ytcbiagdpolhbfaa
