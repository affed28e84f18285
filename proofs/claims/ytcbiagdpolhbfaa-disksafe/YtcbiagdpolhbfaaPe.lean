/- DiskOwn, walked. -/
import Derived.Test.YtcbiagdpolhbfaaPd
namespace Go.Proofs.Ytcbiagdpolhbfaa
open Go.RowKit
open D (St)

theorem own_first (A : Option Addr) (n c : Nat) (x : Value) (w : World) (h : 20 < n) :
    Calls Try.prog 7 #[.slice A n c, x] w fun e w' => e = .returned (.bool true) ∧ Below w.heap.size w w' := by
  have hq : decide (20 < (n : Int)) = true := by simp; omega
  clear h
  go_enter Try.func7, Try.ntmps7
  go_wp2_with fail
  refine (fixed_any w).mono ?_
  rintro e w1 ⟨rfl, hb⟩
  go_wp2
  go_ret
  exact ⟨rfl, hb⟩
/-- A byte is laid into a row of bytes. -/
theorem laid_byte {w : World} {base g n cap i : Nat} {l : List UInt8} {z : Int} (h : w.ownsRow base 5 1 (.slice (some ⟨g, 0, none⟩) n cap) n (bvs l)) (hz : 0 ≤ z ∧ z ≤ 255) : ∃ l', l'.length = l.length ∧ (w.setCell ⟨g, i, none⟩ (.int .u8 z)).ownsRow base 5 1 (.slice (some ⟨g, 0, none⟩) n cap) n (bvs l') := by
  refine ⟨l.set i (UInt8.ofNat z.toNat), by simp, ?_⟩
  have e : (((UInt8.ofNat z.toNat).toNat : Nat) : Int) = z := by simp; omega
  have := (h.stored i (.int .u8 z)).1
  rw [bvs_set, e]
  exact this
theorem wrap_u8 (z : Int) : 0 ≤ IntKind.u8.wrap z ∧ IntKind.u8.wrap z ≤ 255 := by rw [IntKind.wrap_u8]; omega

set_option maxRecDepth 100000 in
set_option maxHeartbeats 4000000 in
theorem own_core (A0 : Option Addr) (n0 k0 : Nat) (by_ : Nat) (os0 : List O) (w : World) (HO0 : Hid (Ops w (.slice A0 n0 k0) os0)) (HL0 : Hid (os0.length = n0)) (h0 : n0 ≤ 20) :
    Calls Try.prog 7 #[.slice A0 n0 k0, .int .u8 (by_ : Int)] w fun e w' => e = .returned (.bool true) ∧ Below w.heap.size w w' := by
  have hz := (zero_of_info Try.zero31).1
  have hz38 := (zero_of_info Try.zero38).1
  have hq : decide (20 < (n0 : Int)) = false := by simp; omega
  go_enter Try.func7, Try.ntmps7
  go_wp2_with fail
  refine (new_any 8 w (by decide) (by decide)).mono ?_
  rintro e w1 ⟨p, g, rfl, ho, hb⟩
  have HO := Lib.hid ho
  have HB1 := Lib.hid hb
  clear ho hb
  go_wp2_with fail
  refine (refnew_any 8 w1 (by decide) (by decide)).mono ?_
  rintro e w2 ⟨sv, rfl, hr, hb, hs⟩
  obtain ⟨sA, sc, rfl⟩ := row_form hr.safe
  have HM2 : Hid (Mix w2 p g (.slice none 0 0) (.slice sA (D.new 8).safe.length sc) (.slice none 0 0) (D.new 8) (D.new 8)) := ⟨HO.out.1.below hb, hr, fun b q e => by
    have := HO.out.1.lt b e
    rcases q with q | q
    · have := hs b q
      omega
    · simp [Value.ownBlock] at q⟩
  have HB2 := Lib.hid (btr HB1.out hb)
  have HF2 : Hid (∀ b, fp p g (.slice none 0 0) b → w.heap.size ≤ b) := HO.out.2
  clear hr hb hs HO HB1
  unfold rv
  have e1 : (D.new 8).fuse = -1 := rfl
  have e2 : (D.new 8).down = false := rfl
  have e3 : (((D.new 8).writes : Nat) : Int) = 0 := rfl
  have e4 : (D.new 8).safe.length = 8 := by simp [D.new]
  rw [e4] at HM2
  rw [e1, e2, e3, e4]
  have HA3 := Lib.hid (alb (w := w2) (.cells #[.slice sA 8 sc, .slice none 0 0, .int .i64 (-1), .bool false, .int .i64 0] 31))
  have HP : Hid (Play (w2.alloc (.cells #[.slice sA 8 sc, .slice none 0 0, .int .i64 (-1), .bool false, .int .i64 0] 31)) w.heap.size p g w2.heap.size (.slice none 0 0) (.slice sA 8 sc) (.slice none 0 0) (D.new 8)) :=
    ⟨HM2.out.below HA3.out, HF2.out, fun q => by have := HM2.out.dsk.lt _ q; omega, fun b q e => by have := HM2.out.rep.lt b q; omega, HB2.out.size, Box.made w2 _ _ (-1) false 0 _ _ rfl⟩
  have HB3 := Lib.hid (btr HB2.out HA3.out)
  have HF3 : Hid (Few (D.new 8) 0) := by simp [Hid, Few, D.new]
  clear e1 e2 e3 e4 HM2 HF2 HB2 HA3
  go_wp2
  generalize w2.alloc (.cells #[.slice sA 8 sc, .slice none 0 0, .int .i64 (-1), .bool false, .int .i64 0] 31) = w3 at *
  generalize w2.heap.size = v at *
  generalize D.new 8 = s0 at *
  go_loopw [36] (fun i wr => ∃ (j : Nat) (s : St) (wv sv rw' : Value), j ≤ n0 ∧ i = .int .i64 (j : Int) ∧ Hid (Play wr w.heap.size p g v wv sv rw' s) ∧ Hid (Few s j) ∧ Hid (Below w.heap.size w wr)) (fun i _ => (n0 - intOf i).toNat)
  case atStart => exact ⟨0, s0, _, _, _, Nat.zero_le _, rfl, HP, HF3, HB3⟩
  case round =>
    clear HP HF3 HB3
    obtain ⟨j, s, wv, sv, rw', hj, rfl, HP, HF, HB⟩ := hrel
    by_cases hjn : j < n0
    · have hjl : j < os0.length := by rw [HL0.out]; exact hjn
      obtain ⟨b, off, lv, rfl, hr, _, hoj, ⟨LA, lc, hlv⟩, _⟩ := HO0.out.get HB.out j hjl
      have HR := Lib.hid hr
      have hk := hoj.k
      clear hr hoj
      generalize os0[j] = o at *
      obtain ⟨od, oa, oc, ok', on, ol⟩ := o
      subst hlv
      unfold ocells at HR
      simp only at HR hk
      generalize ol.length = oll at *
      obtain ⟨sA', sc', rfl⟩ := row_form HP.out.mix.rep.safe
      obtain ⟨rA, rc, rfl⟩ := row_form HP.out.mix.rep.waits
      have HA := Lib.hid (alb (w := wr) (.cells #[.int .u8 (od : Int), .int .i64 oa, .int .u8 ((oc.toNat : Nat) : Int), .int .u16 (ok' : Int), .int .i8 on, .slice LA oll lc] 38))
      have O1 : Hid ((wr.alloc (.cells #[.int .u8 (od : Int), .int .i64 oa, .int .u8 ((oc.toNat : Nat) : Int), .int .u16 (ok' : Int), .int .i8 on, .slice LA oll lc] 38)).cell? ⟨wr.heap.size, 1, none⟩ = some (.int .i64 oa)) := by unfold Hid; rw [World.cell?_alloc_at _ _ _ _ rfl]; rfl
      go_wp2_with (first
        | (refine wpList_load_mid rfl 38 _ rfl b (off + j * 6) rfl _ _ HR.out Try.underlying38 rfl Try.size38 ?_)
        | fail)
      generalize wr.alloc (.cells #[.int .u8 (od : Int), .int .i64 oa, .int .u8 ((oc.toNat : Nat) : Int), .int .u16 (ok' : Int), .int .i8 on, .slice LA oll lc] 38) = w4 at *
      refine (full_any oc ok' hk w4).mono ?_
      rintro e w5 ⟨g1, rfl, ho, hb⟩
      have G1 : Hid (w4.heap.size ≤ g1 ∧ g1 < w5.heap.size) := ho.lt g1 rfl
      have HV5 := Lib.hid (Byts.own (l := fullL oc ok') (by rw [fullL_length]; exact ho))
      have HR5 := Lib.hid (Go.Joins.ownsRow_le ho (Nat.zero_le _))
      have hb5 := btr HA.out hb
      have HP5 := Lib.hid (HP.out.below hb5)
      have HB5 := Lib.hid (btr HB.out hb5)
      have O5 := Lib.hid (kept O1.out hb)
      have OLT : Hid (wr.heap.size < w4.heap.size) := World.block_lt_of_cell? w4 _ O1.out
      have PLT : Hid (∀ b, Uv p g v wv (.slice sA' s.safe.length sc') (.slice rA s.waits.length rc) b → b < wr.heap.size) := HP.out.lt
      have HS5 := Lib.hid (Sp.start HP5.out.mix (Below.refl _ w5))
      have o5 := O5.out
      have HFL := Lib.hid (fullL_length oc ok')
      clear ho hb hb5 HA O1 HR
      generalize fullL oc ok' = fl at *
      go_wp2_with fail
      refine (write_any HS5.out.mix.dsk oa _ fl HV5.out (by have := HF.out.1; omega) (by have := HF.out.2; omega)).mono ?_
      rintro e w6 ⟨rfl, ht⟩
      have hk6 := ht.keep
      obtain ⟨wv6, ht6⟩ := HS5.out.disk ht
      have HS6 := Lib.hid ht6
      have NG : Hid (¬ fp p g wv g1) := fun q => by have := PLT.out g1 (.inl (.inl q)); have := G1.out; have := OLT.out; omega
      have NO : Hid (¬ fp p g wv wr.heap.size) := fun q => by have := PLT.out _ (.inl (.inl q)); omega
      have HV6 := Lib.hid (HV5.out.keep hk6 (fun k hk q => by have e : g1 = k := Option.some.inj hk; subst e; exact NG.out q))
      have HR6 := Lib.hid (own_keep HR5.out hk6 (fun k hk q => by have e : g1 = k := Option.some.inj hk; subst e; exact NG.out q))
      have BX6 := Lib.hid (HP5.out.box.keep hk6 HP5.out.v1)
      have o6 := hk6.cell O5.out NO.out
      have hconv := HV6.out.conv
      have HQ := refwrite_any HS6.out.mix.rep oa fl (by have := HF.out.1; omega) (by have := HF.out.2; omega)
      unfold rv at HQ
      have HQ := Lib.hid HQ
      have c0 := BX6.out.c0
      have c1 := BX6.out.c1
      have c2 := BX6.out.c2
      have c3 := BX6.out.c3
      have c4 := BX6.out.c4
      clear ht ht6 hk6 HS5 HV5 HR5 O5 o5
      go_wp2_with fail
      refine HQ.out.mono ?_
      rintro e w7 ⟨sv7, rw7, rfl, hm7⟩
      have HS7 := Lib.hid (HS6.out.ref hm7)
      have BX7 := Lib.hid (BX6.out.below hm7.2.1)
      have HR7 := Lib.hid (own_keep (F := fun _ => False) HR6.out (Keep.of_below hm7.2.1) (fun _ _ h => h))
      have o7 := kept o6 hm7.2.1
      clear hm7 HQ HS6 BX6 HR6 HV6 hconv c0 c1 c2 c3 c4 o6
      obtain ⟨A5, c5, rfl⟩ := row_form HS7.out.mix.rep.safe
      obtain ⟨A6, c6, rfl⟩ := row_form HS7.out.mix.rep.waits
      have HFS := Lib.hid (few_write HF.out oa fl)
      generalize D.write s oa fl = s' at *
      have PS : Hid (∀ w8, Box w8 v (.slice A5 s'.safe.length c5) (.slice A6 s'.waits.length c6) s'.fuse s'.down (s'.writes : Int) → Keep (fun x => x = v) w7 w8 → Play w8 w.heap.size p g v wv6 (.slice A5 s'.safe.length c5) (.slice A6 s'.waits.length c6) s' ∧ Below w.heap.size w w8 ∧ ¬ Uv p g v wv6 (.slice A5 s'.safe.length c5) (.slice A6 s'.waits.length c6) g1) := fun w8 hx hk =>
        ⟨HP5.out.step HS7.out (Below.refl _ _) hk hx HB5.out.size, HB5.out.trans (HP5.out.bel HS7.out (Below.refl _ _) hk HB5.out.size), by
          have := G1.out
          have := OLT.out
          rintro ((q | q) | q)
          · rcases HS7.out.grows g1 q with q | q
            · exact NG.out q
            · omega
          · have := PLT.out v (.inl (.inr rfl))
            omega
          · rcases HS7.out.n2 g1 q with q | q
            · have := PLT.out g1 (.inr q)
              omega
            · omega⟩
      have NVG : Hid (¬ g1 = v) := by have := PLT.out v (.inl (.inr rfl)); have := G1.out; have := OLT.out; show ¬ g1 = v; omega
      have NVO : Hid (¬ wr.heap.size = v) := by have := PLT.out v (.inl (.inr rfl)); show ¬ wr.heap.size = v; omega
      clear HS7 HP5 HP
      generalize s'.safe.length = m1 at *
      generalize s'.waits.length = m2 at *
      generalize s'.fuse = fu at *
      generalize s'.down = dn at *
      generalize (s'.writes : Int) = nw at *
      go_wp2_with (first
        | (refine wpList_store_box BX7.out rfl _ _ rfl (.slice A5 m1 c5) (.slice A6 m2 c6) fu dn nw rfl rfl rfl rfl ?_; intro w8 hx8 hk8; have HPL := Lib.hid (PS.out w8 hx8 hk8); have HR8 := Lib.hid (own_keep HR7.out hk8 (fun k hk q => by have e : g1 = k := Option.some.inj hk; subst e; exact NVG.out q)); have o8 := hk8.cell o7 NVO.out; clear hx8 hk8)
        | fail)
      have UB : Hid (∀ b, Uv p g v wv6 (.slice A5 m1 c5) (.slice A6 m2 c6) b → b < w8.heap.size) := HPL.out.1.lt
      refine (read_any HPL.out.1.mix.dsk oa).mono ?_
      rintro e w9 ⟨vc, rfl, hc, hb⟩
      have HP9 := Lib.hid (HPL.out.1.below hb)
      have HB9 := Lib.hid (btr HPL.out.2.1 hb)
      have NU9 := Lib.hid HPL.out.2.2
      have HR9 := Lib.hid (own_keep (F := fun _ => False) HR8.out (Keep.of_below hb) (fun _ _ h => h))
      have NUC : Hid (∀ k, vc.ownBlock = some k → ¬ Uv p g v wv6 (.slice A5 m1 c5) (.slice A6 m2 c6) k ∧ ¬ k = g1) := fun k hk => by
        have h1 := (hc.lt k hk).1
        have h2 := (HR8.out.lt g1 rfl).2
        exact ⟨fun q => by have := UB.out k q; omega, by omega⟩
      have HC9 := Lib.hid (Go.Joins.ownsRow_le hc (Nat.zero_le _))
      have CB : Hid (∀ k, vc.ownBlock = some k → w.heap.size ≤ k) := fun k hk => Nat.le_trans HPL.out.2.1.size (hc.lt k hk).1
      have CL : Hid ((readB s' oa).length ≤ 512) := by
        show _ ≤ _
        unfold readB
        split
        · simp
        · split
          · rename_i hq
            simp only [hasB, Bool.and_eq_true, decide_eq_true_eq] at hq
            rw [D.look_length HPL.out.1.mix.dsk.ok (by omega)]
            omega
          · simp
      clear hb hc HPL HR8 HR7 BX7 PS o8 o7 NVG NVO NG NO UB
      generalize readE s' oa = re at *
      obtain ⟨lc9, hlc9⟩ : ∃ l, readB s' oa = l := ⟨_, rfl⟩
      rw [hlc9] at HC9 CL
      clear hlc9
      obtain ⟨cA, ccap, rfl⟩ := row_form HC9.out
      obtain ⟨cn, hcn⟩ : ∃ n, lc9.length = n := ⟨_, rfl⟩
      rw [hcn] at HC9 CL NUC CB ⊢
      have HCN := Lib.hid hcn
      clear hcn
      have hjd : decide (j < n0) = true := by simpa using hjn
      go_wp2
      go_loopw [68] (fun i wq => ∃ (q : Nat) (l : List UInt8), q ≤ 512 ∧ i = .int .i64 (q : Int) ∧ Hid (l.length = 512) ∧ Hid (wq.ownsRow 0 5 1 (.slice (some ⟨g1, 0, none⟩) 512 512) 512 (bvs l)) ∧ Hid (Keep (fun x => x = g1) w9 wq)) (fun i _ => (512 - intOf i).toNat)
      case atStart => exact ⟨0, fl, Nat.zero_le _, rfl, HFL, HR9, Keep.refl _ _⟩
      case round =>
        obtain ⟨q, l, hq, rfl, HLl, HOl, HKl⟩ := hrel
        by_cases hq5 : q < 512
        · have hc0 : wr.cell? ⟨g1, q, none⟩ = some (.int .u8 (((l[q]'(by rw [HLl.out]; exact hq5)).toNat : Nat) : Int)) := by
            rw [HOl.out.cellAt q (by omega), bvs_get l q (by rw [HLl.out]; exact hq5)]
          have hf0 := HOl.out.frozenAt q
          generalize (l[q]'(by rw [HLl.out]; exact hq5)).toNat = xq at *
          obtain ⟨l', hl', ho'⟩ := laid_byte (i := q) (z := ((xq : Int) + (by_ : Int)) % 256) HOl.out (by omega)
          have HO' := Lib.hid ho'
          have HL' : Hid (l'.length = 512) := hl'.trans HLl.out
          have HK' : Hid (Keep (fun x => x = g1) w9 (wr.setCell ⟨g1, q, none⟩ (.int .u8 (((xq : Int) + (by_ : Int)) % 256)))) := HKl.out.trans (keep1 wr g1 q _) (fun _ h => .inl h)
          clear ho' hl'
          go_wp2
          go_roundw
          case rel => exact ⟨q + 1, l', by omega, by go_num, HL', HO', HK'⟩
          case measure => simp [intOf]; omega
        · obtain rfl : q = 512 := by omega
          clear hq5
          have HP10 := Lib.hid (HP9.out.aside HKl.out (fun b e u => by have e : b = g1 := e; subst e; exact NU9.out u))
          have HB10 := Lib.hid (below_one HB9.out HKl.out (by have := G1.out; have := OLT.out; have := HB.out.size; omega))
          have HC10 := Lib.hid (own_keep HC9.out HKl.out (fun k hk e => (NUC.out k hk).2 e))
          obtain ⟨W10, hW10⟩ : ∃ W, W = wr := ⟨_, rfl⟩
          rw [← hW10] at HP10 HB10 HC10 ⊢
          clear HP9 HB9 HC9 HR9 HLl HOl HKl NU9 hW10
          go_wp2
          go_loopw [81] (fun i wq => ∃ (q : Nat) (l : List UInt8), q ≤ cn ∧ i = .int .i64 (q : Int) ∧ Hid (l.length = cn) ∧ Hid (wq.ownsRow 0 5 1 (.slice cA cn ccap) cn (bvs l)) ∧ Hid (Keep (fun x => (Value.slice cA cn ccap).ownBlock = some x) W10 wq)) (fun i _ => (cn - intOf i).toNat)
          case atStart => exact ⟨0, lc9, Nat.zero_le _, rfl, HCN, HC10, Keep.refl _ _⟩
          case round =>
            obtain ⟨q, l, hq, rfl, HLl, HOl, HKl⟩ := hrel
            have hcl := CL.out
            by_cases hq5 : q < cn
            · obtain ⟨gc, cp, e⟩ := Go.Joins.ownsRow_form HOl.out (by omega)
              obtain ⟨rfl, -, rfl⟩ := (Value.slice.injEq ..).mp e
              clear e
              have hc0 : wr.cell? ⟨gc, q, none⟩ = some (.int .u8 (((l[q]'(by rw [HLl.out]; exact hq5)).toNat : Nat) : Int)) := by
                rw [HOl.out.cellAt q (by omega), bvs_get l q (by rw [HLl.out]; exact hq5)]
              have hf0 := HOl.out.frozenAt q
              generalize (l[q]'(by rw [HLl.out]; exact hq5)).toNat = xq at *
              obtain ⟨l', hl', ho'⟩ := laid_byte (i := q) (z := ((xq : Int) + (by_ : Int)) % 256) HOl.out (by omega)
              have HO' := Lib.hid ho'
              have HL' : Hid (l'.length = cn) := hl'.trans HLl.out
              have HK' : Hid (Keep (fun x => (Value.slice (some ⟨gc, 0, none⟩) cn ccap).ownBlock = some x) W10 (wr.setCell ⟨gc, q, none⟩ (.int .u8 (((xq : Int) + (by_ : Int)) % 256)))) := HKl.out.trans (keep1 wr gc q _) (fun _ h => .inl (by have h : _ = gc := h; rw [h]; rfl))
              clear ho' hl'
              go_wp2
              go_roundw
              case rel => exact ⟨q + 1, l', by omega, by go_num, HL', HO', HK'⟩
              case measure => simp [intOf]; omega
            · obtain rfl : q = cn := by omega
              clear hq5
              have HP11 := Lib.hid (HP10.out.aside HKl.out (fun b e u => (NUC.out b e).1 u))
              have HB11 : Hid (Below w.heap.size w wr) := ((Keep.of_below (F := fun b => w.heap.size ≤ b) HB10.out).trans HKl.out (fun b e => .inl (CB.out b e))).below (Nat.le_refl _) (fun _ h => h)
              clear HP10 HB10 HC10 HLl HOl HKl
              go_wp2
              go_roundw
              case rel => exact ⟨j + 1, s', wv6, _, _, by omega, by go_num, HP11, HFS, HB11⟩
              case measure => simp [intOf]; omega
    · obtain rfl : j = n0 := by omega
      obtain ⟨sA', sc', rfl⟩ := row_form HP.out.mix.rep.safe
      obtain ⟨rA, rc, rfl⟩ := row_form HP.out.mix.rep.waits
      go_wp2_with fail
      refine (fixed_any wr).mono ?_
      rintro e w4 ⟨rfl, hb⟩
      have HP4 := Lib.hid (HP.out.below hb)
      have HB4 := Lib.hid (btr HB.out hb)
      have SM := same_any HP4.out.mix.dsk HP4.out.mix.rep
      unfold rv at SM
      have SM := Lib.hid SM
      have hbx := HP4.out.box
      have c0 := hbx.c0
      have c1 := hbx.c1
      have c2 := hbx.c2
      have c3 := hbx.c3
      have c4 := hbx.c4
      clear hbx hb HP HB
      go_wp2_with fail
      refine SM.out.mono ?_
      rintro e w5 ⟨rfl, hb⟩
      go_wp2
      go_ret
      exact ⟨rfl, btr HB4.out hb⟩
theorem own_any (A : Option Addr) (n c : Nat) (by_ : Nat) (w : World) (h : ∃ os, os.length = n ∧ Ops w (.slice A n c) os) :
    Calls Try.prog 7 #[.slice A n c, .int .u8 (by_ : Int)] w fun e w' => e = .returned (.bool true) ∧ Below w.heap.size w w' := by
  obtain ⟨os, hl, ho⟩ := h
  by_cases hn : 20 < n
  · exact own_first A n c _ w hn
  · exact own_core A n c by_ os w ho hl (by omega)
end Go.Proofs.Ytcbiagdpolhbfaa
