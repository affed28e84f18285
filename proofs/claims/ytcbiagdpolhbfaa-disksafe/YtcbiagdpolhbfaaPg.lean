/- DiskSafe, walked. -/
import Derived.Test.YtcbiagdpolhbfaaPf
namespace Go.Proofs.Ytcbiagdpolhbfaa
open Go.RowKit
open D (St)

theorem safe_first (A0 A1 A2 : Option Addr) (n0 c0 n1 c1 n2 c2 : Nat) (w : World) (h : (40 < n0) ∨ (n0 ≤ 40 ∧ 40 < n1) ∨ (n0 ≤ 40 ∧ n1 ≤ 40 ∧ 100 < n2)) :
    Calls Try.prog 4 #[.slice A0 n0 c0, .slice A1 n1 c1, .slice A2 n2 c2] w fun e w' => e = .returned (.bool true) ∧ Below w.heap.size w w' := by
  have hq : (decide (40 < (n0 : Int)) = true) ∨ (decide (40 < (n0 : Int)) = false ∧ decide (40 < (n1 : Int)) = true) ∨ (decide (40 < (n0 : Int)) = false ∧ decide (40 < (n1 : Int)) = false ∧ decide (100 < (n2 : Int)) = true) := by simp; omega
  clear h
  rcases hq with hq | ⟨hq, hq2⟩ | ⟨hq, hq2, hq3⟩
  all_goals
    go_enter Try.func4, Try.ntmps4
    go_wp2_with fail
    refine (fixed_any w).mono ?_
    rintro e w1 ⟨rfl, hb⟩
    go_wp2
    go_ret
    exact ⟨rfl, hb⟩

set_option maxRecDepth 100000 in
set_option maxHeartbeats 4000000 in
theorem safe_core (A0 A1 A2 : Option Addr) (n0 k0 n1 k1 n2 k2 : Nat) (os0 os1 : List O) (ll : List (Int × Int)) (w : World) (HO0 : Hid (Ops w (.slice A0 n0 k0) os0)) (HO1 : Hid (Ops w (.slice A1 n1 k1) os1)) (HO2 : Hid (Losses w (.slice A2 n2 k2) ll)) (HL0 : Hid (os0.length = n0)) (HL1 : Hid (os1.length = n1)) (h0 : n0 ≤ 40) (h1 : n1 ≤ 40) (h2 : n2 ≤ 100) :
    Calls Try.prog 4 #[.slice A0 n0 k0, .slice A1 n1 k1, .slice A2 n2 k2] w fun e w' => e = .returned (.bool true) ∧ Below w.heap.size w w' := by
  have hz38 := (zero_of_info Try.zero38).1
  have hz49 := (zero_of_info Try.zero49).1
  have hq : decide (40 < (n0 : Int)) = false := by simp; omega
  have hq2 : decide (40 < (n1 : Int)) = false := by simp; omega
  have hq3 : decide (100 < (n2 : Int)) = false := by simp; omega
  go_enter Try.func4, Try.ntmps4
  go_wp2_with fail
  refine (new_own 10 w (by decide) (by decide)).mono ?_
  rintro e w1 ⟨p, g, rfl, ho, hb⟩
  have HD1 := Lib.hid ho
  have HB1 := Lib.hid hb
  have HU1 := Lib.hid up_new
  have HF1 : Hid (Few (D.new 10) 0) := by simp [Hid, Few, D.new]
  clear ho hb
  generalize D.new 10 = s1 at *
  go_wp2
  go_loopw [46] (fun i wr => ∃ (j : Nat) (s : St), j ≤ n0 ∧ i = .int .i64 (j : Int) ∧ Hid (OwnD wr p g s w.heap.size) ∧ Hid (Up s) ∧ Hid (Few s j) ∧ Hid (Below w.heap.size w wr)) (fun i _ => (n0 - intOf i).toNat)
  case atStart => exact ⟨0, s1, Nat.zero_le _, rfl, HD1, HU1, HF1, HB1⟩
  case round =>
    clear HD1 HU1 HF1 HB1
    obtain ⟨j, s, hj, rfl, HD, HU, HF, HB⟩ := hrel
    by_cases hjn : j < n0
    · have hjl : j < os0.length := by rw [HL0.out]; exact hjn
      obtain ⟨b, off, lv, rfl, hr, _, hoj, ⟨LA, lc, hlv⟩, _⟩ := HO0.out.get HB.out j hjl
      have HR := Lib.hid hr
      have hd := hoj.d
      have hk := hoj.k
      have hn1 := hoj.n1
      have hn2 := hoj.n2
      clear hr hoj
      generalize os0[j] = o at *
      obtain ⟨od, oa, oc, ok', on, ol⟩ := o
      subst hlv
      unfold ocells at HR
      simp only at HR hk hd hn1 hn2
      generalize ol.length = oll at *
      have HA := Lib.hid (alb (w := wr) (.cells #[.int .u8 (od : Int), .int .i64 oa, .int .u8 ((oc.toNat : Nat) : Int), .int .u16 (ok' : Int), .int .i8 on, .slice LA oll lc] 38))
      have OB : Hid ((wr.alloc (.cells #[.int .u8 (od : Int), .int .i64 oa, .int .u8 ((oc.toNat : Nat) : Int), .int .u16 (ok' : Int), .int .i8 on, .slice LA oll lc] 38)).rangeAt wr.heap.size 0 [.int .u8 (od : Int), .int .i64 oa, .int .u8 ((oc.toNat : Nat) : Int), .int .u16 (ok' : Int), .int .i8 on, .slice LA oll lc]) := range_lit wr _ _ _ rfl
      have hjd : decide (j < n0) = true := by simpa using hjn
      obtain ⟨wv, hown⟩ := HD.out
      have HW := Lib.hid hown
      clear hown HD
      by_cases hm : od % 5 = 0
      · go_wp2_with (first
          | (refine wpList_load_mid rfl 38 _ rfl b (off + j * 6) rfl _ _ HR.out Try.underlying38 rfl Try.size38 ?_)
          | fail)
        generalize wr.alloc (.cells #[.int .u8 (od : Int), .int .i64 oa, .int .u8 ((oc.toNat : Nat) : Int), .int .u16 (ok' : Int), .int .i8 on, .slice LA oll lc] 38) = w4 at *
        have HW4 : Hid (Own w4 p g wv s w.heap.size) := ⟨HW.out.1.below HA.out, HW.out.2⟩
        have HD4 := Lib.hid HW4.out.1
        have OBW := OB
        have NFO : Hid (¬ fp p g wv wr.heap.size) := fun q => by have := HW.out.1.lt _ q; omega
        have O1 : Hid (w4.cell? ⟨wr.heap.size, 1, none⟩ = some (.int .i64 oa)) := OBW.out 1 _ rfl
        have hS : Hid (Keep (fp p g wv) w4 w4.drew) := (Keep.refl _ _).drew
        refine lz_start 6 1000 (fun W => Keep (fp p g wv) w4 W) rfl (by kernel_rfl) ?_
        refine lz_take 0 54 (v := ?_) rfl rfl (by kernel_rfl) (by kernel_rfl) (by kernel_rfl) (by kernel_rfl) (fun _ _ _ _ _ h => h) (by rfl) hS.out (fun W hW => ?_) ?_
        rotate_left
        · go_simp; try rfl
        try simp only [Act.put, List.setIfInBounds_toArray, List.set_cons_zero, List.set_cons_succ]
        refine lz_take 1 55 (v := ?_) rfl rfl (by kernel_rfl) (by kernel_rfl) (by kernel_rfl) (by kernel_rfl) (fun _ _ _ _ _ h => h) (by rfl) hS.out (fun W hW => ?_) ?_
        rotate_left
        · go_simp; try rfl
        try simp only [Act.put, List.setIfInBounds_toArray, List.set_cons_zero, List.set_cons_succ]
        refine lz_take 2 56 (v := ?_) rfl rfl (by kernel_rfl) (by kernel_rfl) (by kernel_rfl) (by kernel_rfl) (fun _ _ _ _ _ h => h) (by rfl) hS.out (fun W hW => ?_) ?_
        rotate_left
        · have q0 := hW.cell O1.out NFO.out; go_simp; try rfl
        try simp only [Act.put, List.setIfInBounds_toArray, List.set_cons_zero, List.set_cons_succ]
        refine lz_take 3 57 (v := ?_) rfl rfl (by kernel_rfl) (by kernel_rfl) (by kernel_rfl) (by kernel_rfl) (fun _ _ _ _ _ h => h) (by rfl) hS.out (fun W hW => ?_) ?_
        rotate_left
        · refine run_load_mid 38 (.tmp 10) ?_ (wr.heap.size) 0 ?_ [.int .u8 (od : Int), .int .i64 oa, .int .u8 ((oc.toNat : Nat) : Int), .int .u16 (ok' : Int), .int .i8 on, .slice LA oll lc] _ (range_keep OBW.out hW NFO.out) Try.underlying38 rfl Try.size38 <;> rfl
        try simp only [Act.put, List.setIfInBounds_toArray, List.set_cons_zero, List.set_cons_succ]
        refine lz_op 4 rfl rfl (by kernel_rfl) (fun K hK => ?_)
        go_simp
        refine (bytes_any od oa oc ok' on LA oll lc hk hn1 hn2 w4.drew).mono ?_
        rintro e w6 ⟨v6, rfl, hv6, hb6⟩
        have hb6' : Hid (Below w4.heap.size w4 w6) := btr (Below.refl _ w4).drew hb6
        have HV6 := Lib.hid hv6
        have HD6 := Lib.hid (HD4.out.below hb6'.out)
        have hS6 : Hid (Keep (fp p g wv) w4 w6) := Keep.of_below hb6'.out
        refine hK.out _ _ hS6.out ?_
        clear hK K hS hv6 hb6
        refine lz_op 5 rfl rfl (by kernel_rfl) (fun K hK => ?_)
        go_simp
        refine (write_any HD6.out oa v6 (bytesL oc ok' on) HV6.out (by have := HF.out.1; omega) (by have := HF.out.2; omega)).mono ?_
        rintro e w7 ⟨rfl, ht⟩
        have HT7 := Lib.hid ht
        have hS7 : Hid (Keep (fp p g wv) w4 w7) := hS6.out.trans ht.keep (fun _ h => .inl h)
        refine hK.out _ _ hS7.out ?_
        clear hK K ht HV6
        refine lz_done (by kernel_rfl) ?_
        have HB6 := Lib.hid (btr (btr HB.out HA.out) hb6'.out)
        obtain ⟨hd7, hb7⟩ := OwnD.turn (w := w6) ⟨HD6.out, HW.out.2⟩ HB6.out.size HT7.out
        have HD7 := Lib.hid hd7
        have HB7 := Lib.hid (HB6.out.trans hb7)
        have HU7 := Lib.hid (up_write HU.out oa (bytesL oc ok' on)).1
        have HF7 := Lib.hid (few_write HF.out oa (bytesL oc ok' on))
        clear hd7 hb7
        go_wp2
        go_roundw
        case rel => exact ⟨j + 1, _, by omega, by go_num, HD7, HU7, HF7, HB7⟩
        case measure => simp [intOf]; omega
      · have hm2 : ((od : Int) % 5 == 0) = false := by simp; omega
        go_wp2_with (first
          | (refine wpList_load_mid rfl 38 _ rfl b (off + j * 6) rfl _ _ HR.out Try.underlying38 rfl Try.size38 ?_)
          | fail)
        generalize wr.alloc (.cells #[.int .u8 (od : Int), .int .i64 oa, .int .u8 ((oc.toNat : Nat) : Int), .int .u16 (ok' : Int), .int .i8 on, .slice LA oll lc] 38) = w4 at *
        have HD7 : Hid (OwnD w4 p g s w.heap.size) := ⟨wv, HW.out.1.below HA.out, HW.out.2⟩
        have HB7 := Lib.hid (btr HB.out HA.out)
        have HF7 := Lib.hid (HF.out.mono (Nat.le_succ j))
        go_roundw
        case rel => exact ⟨j + 1, _, by omega, by go_num, HD7, HU, HF7, HB7⟩
        case measure => simp [intOf]; omega
    · obtain rfl : j = n0 := by omega
      clear hjn
      obtain ⟨hu2, he2, hw2⟩ := up_sync HU.out
      have HF2 := Lib.hid ((few_sync HF.out).mono h0)
      go_wp2_with fail
      refine (sync_own HD.out HB.out.size).mono ?_
      rintro e w2 ⟨he, ho, hb⟩
      rw [he2] at he
      subst he
      have HD2 := Lib.hid ho
      have HB2 := Lib.hid (HB.out.trans hb)
      have HU2 := Lib.hid hu2
      have HW2 := Lib.hid hw2
      clear ho hb hu2 hw2 he2 HD HB HU HF HL0 HO0
      generalize D.sync s = s2 at *
      have WL := waits_own HD2.out
      rw [HW2.out] at WL
      have WL := Lib.hid WL
      go_wp2_with fail
      refine WL.out.mono ?_
      rintro e w3 ⟨rfl, rfl⟩
      obtain ⟨wv, hown⟩ := HD2.out
      have HW3 := Lib.hid hown
      clear hown WL HD2
      go_wp2_with fail
      refine (copy_any HW3.out.1 (by have := HF2.out.1; omega)).mono ?_
      rintro e w4 ⟨p2, g2, wv2, rfl, hown, hb⟩
      have HA5 := Lib.hid (alb (w := w4) (.cells #[.bool false, .bool false, .bool false, .bool false, .bool false, .bool false, .bool false, .bool false, .bool false, .bool false] 49))
      have HSF : Hid (Sf (w4.alloc (.cells #[.bool false, .bool false, .bool false, .bool false, .bool false, .bool false, .bool false, .bool false, .bool false, .bool false] 49)) w.heap.size p g wv s2 p2 g2 wv2 s2 w4.heap.size (fun _ => false)) :=
        ⟨(HW3.out.1.below hb).below HA5.out, hown.1.below HA5.out, Tn.made w4 _ rfl, HW3.out.2, fun b q e => by have := hown.2 b q; have := HW3.out.1.lt b e; omega, fun q => by have := (HW3.out.1.below hb).lt _ q; omega, fun q => by have := hown.1.lt _ q; omega, Nat.le_trans HB2.out.size hb.size, HU2.out, rfl, fun x hx => by rw [HW2.out] at hx; simp at hx⟩
      have HB5 := Lib.hid (btr (btr HB2.out hb) HA5.out)
      clear hown hb HA5 HB2 HW3
      go_wp2
      generalize w4.alloc (.cells #[.bool false, .bool false, .bool false, .bool false, .bool false, .bool false, .bool false, .bool false, .bool false, .bool false] 49) = w5 at *
      generalize w4.heap.size = t at *
      go_loopw [73] (fun i wr => ∃ (j : Nat) (s : St) (wv : Value) (f : Nat → Bool), j ≤ n1 ∧ i = .int .i64 (j : Int) ∧ Hid (Sf wr w.heap.size p g wv s p2 g2 wv2 s2 t f) ∧ Hid (Few s (40 + j)) ∧ Hid (Below w.heap.size w wr)) (fun i _ => (n1 - intOf i).toNat)
      case atStart => exact ⟨0, s2, wv, _, Nat.zero_le _, rfl, HSF, HF2, HB5⟩
      case round =>
        clear HSF HF2 HB5
        obtain ⟨j, s, wv, f, hj, rfl, HSF, HF, HB⟩ := hrel
        by_cases hjn : j < n1
        · have hjl : j < os1.length := by rw [HL1.out]; exact hjn
          obtain ⟨b, off, lv, rfl, hr, _, hoj, ⟨LA, lc, hlv⟩, _⟩ := HO1.out.get HB.out j hjl
          have HR := Lib.hid hr
          have hd := hoj.d
          have hk := hoj.k
          have hn1 := hoj.n1
          have hn2 := hoj.n2
          clear hr hoj
          generalize os1[j] = o at *
          obtain ⟨od, oa, oc, ok', on, ol⟩ := o
          subst hlv
          unfold ocells at HR
          simp only at HR hk hd hn1 hn2
          generalize ol.length = oll at *
          have HA := Lib.hid (alb (w := wr) (.cells #[.int .u8 (od : Int), .int .i64 oa, .int .u8 ((oc.toNat : Nat) : Int), .int .u16 (ok' : Int), .int .i8 on, .slice LA oll lc] 38))
          have OB : Hid ((wr.alloc (.cells #[.int .u8 (od : Int), .int .i64 oa, .int .u8 ((oc.toNat : Nat) : Int), .int .u16 (ok' : Int), .int .i8 on, .slice LA oll lc] 38)).rangeAt wr.heap.size 0 [.int .u8 (od : Int), .int .i64 oa, .int .u8 ((oc.toNat : Nat) : Int), .int .u16 (ok' : Int), .int .i8 on, .slice LA oll lc]) := range_lit wr _ _ _ rfl
          have hjd : decide (j < n1) = true := by simpa using hjn
          have TO : Hid (¬ wr.heap.size = t) := by have := HSF.out.n.lt; show ¬ wr.heap.size = t; omega
          have SFA := Lib.hid (HSF.out.below HA.out)
          have HBA := Lib.hid (btr HB.out HA.out)
          have NFO : Hid (¬ fp p g wv wr.heap.size) := fun q => by have := HSF.out.d.lt _ q; omega
          by_cases hm : od % 5 = 0
          · have hm2 : ((od : Int) % 5 == 0) = true := by simp; omega
            by_cases hin : 0 ≤ oa ∧ oa < 10
            · obtain ⟨n, rfl⟩ := Int.eq_ofNat_of_zero_le hin.1
              have hn10 : n < 10 := by omega
              have i1 : decide (0 ≤ (n : Int)) = true := by simp
              have i2 : decide ((n : Int) < 10) = true := by simp; omega
              have tc := SFA.out.n.c n hn10
              have tf := SFA.out.n.fz n
              have SFM := Lib.hid (SFA.out.mark n)
              have HKM := Lib.hid (keep1 (wr.alloc (.cells #[.int .u8 (od : Int), .int .i64 (n : Int), .int .u8 ((oc.toNat : Nat) : Int), .int .u16 (ok' : Int), .int .i8 on, .slice LA oll lc] 38)) t n (.bool true))
              have OBM := Lib.hid (range_keep OB.out HKM.out TO.out)
              have HBM := Lib.hid (below_one HBA.out HKM.out HSF.out.tB)
              have o0 := OBM.out 0 _ rfl
              clear hin
              go_wp2_with (first
                | (refine wpList_load_mid rfl 38 _ rfl b (off + j * 6) rfl _ _ HR.out Try.underlying38 rfl Try.size38 ?_)
                | fail)
              clear tc tf o0
              generalize (wr.alloc (.cells #[.int .u8 (od : Int), .int .i64 (n : Int), .int .u8 ((oc.toNat : Nat) : Int), .int .u16 (ok' : Int), .int .i8 on, .slice LA oll lc] 38)).setCell ⟨t, n, none⟩ (.bool true) = w5' at *
              have OBW := OBM
              have HD4 := Lib.hid SFM.out.d
              have O1 : Hid (w5'.cell? ⟨wr.heap.size, 1, none⟩ = some (.int .i64 (n : Int))) := OBW.out 1 _ rfl
              have hS : Hid (Keep (fp p g wv) w5' w5'.drew) := (Keep.refl _ _).drew
              refine lz_start 6 1000 (fun W => Keep (fp p g wv) w5' W) rfl (by kernel_rfl) ?_
              refine lz_take 0 98 (v := ?_) rfl rfl (by kernel_rfl) (by kernel_rfl) (by kernel_rfl) (by kernel_rfl) (fun _ _ _ _ _ h => h) (by rfl) hS.out (fun W hW => ?_) ?_
              rotate_left
              · go_simp; try rfl
              try simp only [Act.put, List.setIfInBounds_toArray, List.set_cons_zero, List.set_cons_succ]
              refine lz_take 1 99 (v := ?_) rfl rfl (by kernel_rfl) (by kernel_rfl) (by kernel_rfl) (by kernel_rfl) (fun _ _ _ _ _ h => h) (by rfl) hS.out (fun W hW => ?_) ?_
              rotate_left
              · go_simp; try rfl
              try simp only [Act.put, List.setIfInBounds_toArray, List.set_cons_zero, List.set_cons_succ]
              refine lz_take 2 100 (v := ?_) rfl rfl (by kernel_rfl) (by kernel_rfl) (by kernel_rfl) (by kernel_rfl) (fun _ _ _ _ _ h => h) (by rfl) hS.out (fun W hW => ?_) ?_
              rotate_left
              · have q0 := hW.cell O1.out NFO.out; go_simp; try rfl
              try simp only [Act.put, List.setIfInBounds_toArray, List.set_cons_zero, List.set_cons_succ]
              refine lz_take 3 101 (v := ?_) rfl rfl (by kernel_rfl) (by kernel_rfl) (by kernel_rfl) (by kernel_rfl) (fun _ _ _ _ _ h => h) (by rfl) hS.out (fun W hW => ?_) ?_
              rotate_left
              · refine run_load_mid 38 (.tmp 14) ?_ (wr.heap.size) 0 ?_ [.int .u8 (od : Int), .int .i64 (n : Int), .int .u8 ((oc.toNat : Nat) : Int), .int .u16 (ok' : Int), .int .i8 on, .slice LA oll lc] _ (range_keep OBW.out hW NFO.out) Try.underlying38 rfl Try.size38 <;> rfl
              try simp only [Act.put, List.setIfInBounds_toArray, List.set_cons_zero, List.set_cons_succ]
              refine lz_op 4 rfl rfl (by kernel_rfl) (fun K hK => ?_)
              go_simp
              refine (bytes_any od (n : Int) oc ok' on LA oll lc hk hn1 hn2 w5'.drew).mono ?_
              rintro e w6 ⟨v6, rfl, hv6, hb6⟩
              have hb6' : Hid (Below w5'.heap.size w5' w6) := btr (Below.refl _ w5').drew hb6
              have HV6 := Lib.hid hv6
              have HD6 := Lib.hid (HD4.out.below hb6'.out)
              have hS6 : Hid (Keep (fp p g wv) w5' w6) := Keep.of_below hb6'.out
              refine hK.out _ _ hS6.out ?_
              clear hK K hS hv6 hb6
              refine lz_op 5 rfl rfl (by kernel_rfl) (fun K hK => ?_)
              go_simp
              refine (write_any HD6.out (n : Int) v6 (bytesL oc ok' on) HV6.out (by have := HF.out.1; omega) (by have := HF.out.2; omega)).mono ?_
              rintro e w7 ⟨rfl, ht⟩
              have HT7 := Lib.hid ht
              have hS7 : Hid (Keep (fp p g wv) w5' w7) := hS6.out.trans ht.keep (fun _ h => .inl h)
              refine hK.out _ _ hS7.out ?_
              clear hK K ht HV6
              refine lz_done (by kernel_rfl) ?_
              have HB6 := Lib.hid (btr HBM.out hb6'.out)
              obtain ⟨hu7, hs7, hw7⟩ := up_write SFM.out.up (n : Int) (bytesL oc ok' on)
              obtain ⟨wv7, hsf7, hb7⟩ := (SFM.out.below hb6'.out).turn HB6.out.size HT7.out hu7 (hs7.trans SFM.out.sf) (fun x hx hl => by
                rcases hw7 x hx with hx | ⟨_, _, hx⟩
                · exact SFM.out.wt x hx hl
                · rw [Int.toNat_natCast] at hx
                  show (if x.1 = n then true else f x.1) = true
                  rw [if_pos hx])
              have HSF7 := Lib.hid hsf7
              have HB7 := Lib.hid (HB6.out.trans hb7)
              have HF7 := Lib.hid (few_write HF.out (n : Int) (bytesL oc ok' on))
              clear hsf7 hb7 hu7 hs7 hw7
              go_wp2
              go_roundw
              case rel => exact ⟨j + 1, _, wv7, _, by omega, by go_num, HSF7, HF7, HB7⟩
              case measure => simp [intOf]; omega
            · have hd : (decide (0 ≤ oa) = false) ∨ (decide (0 ≤ oa) = true ∧ decide (oa < 10) = false) := by simp; omega
              rcases hd with i1 | ⟨i1, i2⟩
              all_goals
                go_wp2_with (first
                  | (refine wpList_load_mid rfl 38 _ rfl b (off + j * 6) rfl _ _ HR.out Try.underlying38 rfl Try.size38 ?_)
                  | fail)
                generalize wr.alloc (.cells #[.int .u8 (od : Int), .int .i64 oa, .int .u8 ((oc.toNat : Nat) : Int), .int .u16 (ok' : Int), .int .i8 on, .slice LA oll lc] 38) = w5' at *
                have OBW := OB
                have HD4 := Lib.hid SFA.out.d
                have O1 : Hid (w5'.cell? ⟨wr.heap.size, 1, none⟩ = some (.int .i64 oa)) := OBW.out 1 _ rfl
                have hS : Hid (Keep (fp p g wv) w5' w5'.drew) := (Keep.refl _ _).drew
                refine lz_start 6 1000 (fun W => Keep (fp p g wv) w5' W) rfl (by kernel_rfl) ?_
                refine lz_take 0 98 (v := ?_) rfl rfl (by kernel_rfl) (by kernel_rfl) (by kernel_rfl) (by kernel_rfl) (fun _ _ _ _ _ h => h) (by rfl) hS.out (fun W hW => ?_) ?_
                rotate_left
                · go_simp; try rfl
                try simp only [Act.put, List.setIfInBounds_toArray, List.set_cons_zero, List.set_cons_succ]
                refine lz_take 1 99 (v := ?_) rfl rfl (by kernel_rfl) (by kernel_rfl) (by kernel_rfl) (by kernel_rfl) (fun _ _ _ _ _ h => h) (by rfl) hS.out (fun W hW => ?_) ?_
                rotate_left
                · go_simp; try rfl
                try simp only [Act.put, List.setIfInBounds_toArray, List.set_cons_zero, List.set_cons_succ]
                refine lz_take 2 100 (v := ?_) rfl rfl (by kernel_rfl) (by kernel_rfl) (by kernel_rfl) (by kernel_rfl) (fun _ _ _ _ _ h => h) (by rfl) hS.out (fun W hW => ?_) ?_
                rotate_left
                · have q0 := hW.cell O1.out NFO.out; go_simp; try rfl
                try simp only [Act.put, List.setIfInBounds_toArray, List.set_cons_zero, List.set_cons_succ]
                refine lz_take 3 101 (v := ?_) rfl rfl (by kernel_rfl) (by kernel_rfl) (by kernel_rfl) (by kernel_rfl) (fun _ _ _ _ _ h => h) (by rfl) hS.out (fun W hW => ?_) ?_
                rotate_left
                · refine run_load_mid 38 (.tmp 14) ?_ (wr.heap.size) 0 ?_ [.int .u8 (od : Int), .int .i64 oa, .int .u8 ((oc.toNat : Nat) : Int), .int .u16 (ok' : Int), .int .i8 on, .slice LA oll lc] _ (range_keep OBW.out hW NFO.out) Try.underlying38 rfl Try.size38 <;> rfl
                try simp only [Act.put, List.setIfInBounds_toArray, List.set_cons_zero, List.set_cons_succ]
                refine lz_op 4 rfl rfl (by kernel_rfl) (fun K hK => ?_)
                go_simp
                refine (bytes_any od oa oc ok' on LA oll lc hk hn1 hn2 w5'.drew).mono ?_
                rintro e w6 ⟨v6, rfl, hv6, hb6⟩
                have hb6' : Hid (Below w5'.heap.size w5' w6) := btr (Below.refl _ w5').drew hb6
                have HV6 := Lib.hid hv6
                have HD6 := Lib.hid (HD4.out.below hb6'.out)
                have hS6 : Hid (Keep (fp p g wv) w5' w6) := Keep.of_below hb6'.out
                refine hK.out _ _ hS6.out ?_
                clear hK K hS hv6 hb6
                refine lz_op 5 rfl rfl (by kernel_rfl) (fun K hK => ?_)
                go_simp
                refine (write_any HD6.out oa v6 (bytesL oc ok' on) HV6.out (by have := HF.out.1; omega) (by have := HF.out.2; omega)).mono ?_
                rintro e w7 ⟨rfl, ht⟩
                have HT7 := Lib.hid ht
                have hS7 : Hid (Keep (fp p g wv) w5' w7) := hS6.out.trans ht.keep (fun _ h => .inl h)
                refine hK.out _ _ hS7.out ?_
                clear hK K ht HV6
                refine lz_done (by kernel_rfl) ?_
                have HB6 := Lib.hid (btr HBA.out hb6'.out)
                obtain ⟨hu7, hs7, hw7⟩ := up_write SFA.out.up oa (bytesL oc ok' on)
                obtain ⟨wv7, hsf7, hb7⟩ := (SFA.out.below hb6'.out).turn HB6.out.size HT7.out hu7 (hs7.trans SFA.out.sf) (fun x hx hl => by
                  rcases hw7 x hx with hx | ⟨q1, q2, _⟩
                  · exact SFA.out.wt x hx hl
                  · exact absurd ⟨q1, q2⟩ hin)
                have HSF7 := Lib.hid hsf7
                have HB7 := Lib.hid (HB6.out.trans hb7)
                have HF7 := Lib.hid (few_write HF.out oa (bytesL oc ok' on))
                clear hsf7 hb7 hu7 hs7 hw7
                go_wp2
                go_roundw
                case rel => exact ⟨j + 1, _, wv7, _, by omega, by go_num, HSF7, HF7, HB7⟩
                case measure => simp [intOf]; omega
          · have hm2 : ((od : Int) % 5 == 0) = false := by simp; omega
            go_wp2_with (first
              | (refine wpList_load_mid rfl 38 _ rfl b (off + j * 6) rfl _ _ HR.out Try.underlying38 rfl Try.size38 ?_)
              | fail)
            generalize wr.alloc (.cells #[.int .u8 (od : Int), .int .i64 oa, .int .u8 ((oc.toNat : Nat) : Int), .int .u16 (ok' : Int), .int .i8 on, .slice LA oll lc] 38) = w5' at *
            have HF7 := Lib.hid (HF.out.mono (Nat.le_succ (40 + j)))
            go_roundw
            case rel => exact ⟨j + 1, _, wv, _, by omega, by go_num, SFA, HF7, HBA⟩
            case measure => simp [intOf]; omega
        · obtain rfl : j = n1 := by omega
          clear hjn
          go_wp2_with fail
          refine (crash_any HSF.out.d (.slice A2 n2 k2) ll (HO2.out.below (Nat.le_refl _) HB.out) (fun hp k hk q => by have := HO2.out.lt hp k hk; have := HSF.out.fB k q; omega)).mono ?_
          rintro e w6 ⟨rfl, wv6, hd6, hk6, _⟩
          have HD6 := Lib.hid hd6
          have HE6 := Lib.hid (HSF.out.e.keep hk6 HSF.out.ap)
          have HN6 := Lib.hid (HSF.out.n.keep hk6 HSF.out.t1)
          have HB6 := Lib.hid (HB.out.trans (hk6.below HB.out.size HSF.out.fB))
          obtain ⟨uc, wc⟩ := up_crash HSF.out.up ll
          have UC := Lib.hid uc
          have WC := Lib.hid wc
          have EQ : Hid (∀ q, q < 10 → f q = false → D.look (D.crash s ll) q = D.look s2 q) := fun q hq hf => kept_safe HSF.out.sf HW2.out q (fun x hx e => by
            have := HSF.out.wt x hx (by omega)
            rw [e, hf] at this
            cases this) ll
          clear hd6 hk6 uc wc HSF HF HB
          generalize D.crash s ll = s4 at *
          go_wp2
          go_loopw [108] (fun i wr => ∃ q : Nat, q ≤ 10 ∧ i = .int .i64 (q : Int) ∧ Hid (Below w6.heap.size w6 wr)) (fun i _ => (10 - intOf i).toNat)
          case atStart => exact ⟨0, Nat.zero_le _, rfl, Below.refl _ _⟩
          case round =>
            obtain ⟨q, hq, rfl, HQ⟩ := hrel
            by_cases hq10 : q < 10
            · obtain ⟨r1, r2⟩ := up_read UC.out q hq10
              obtain ⟨r3, r4⟩ := up_read HU2.out q hq10
              have P1 := read_any (HD6.out.below HQ.out) (q : Int)
              rw [r1, r2] at P1
              have P1 := Lib.hid P1
              go_wp2_with fail
              refine P1.out.mono ?_
              rintro e w7 ⟨v7, rfl, ho7, hb7⟩
              have HV7 := Lib.hid (Byts.own ho7)
              have hb7' := Lib.hid (btr HQ.out hb7)
              have P2 := read_any (HE6.out.below hb7'.out) (q : Int)
              rw [r3, r4] at P2
              have P2 := Lib.hid P2
              clear P1 ho7 r1 r2 r3 r4
              have HB7 := Lib.hid hb7
              clear hb7
              go_wp2_with fail
              refine P2.out.mono ?_
              rintro e w8 ⟨v8, rfl, ho8, hb8⟩
              have cv7 := (HV7.out.below hb8).conv
              have cv8 := (Byts.own ho8).conv
              have HQ8 := Lib.hid (btr hb7'.out hb8)
              have tc := (HN6.out.keep (F := fun _ => False) (Keep.of_below HQ8.out) (fun h => h)).c q hq10
              have EQq := EQ.out q hq10
              clear P2 ho8 hb8 HV7 hb7' HB7
              cases hf : f q with
              | true =>
                rw [hf] at tc
                clear EQq
                generalize str (D.look s4 q) = sx at *
                generalize str (D.look s2 q) = sy at *
                go_wp2
                go_roundw
                case rel => exact ⟨q + 1, by omega, by go_num, HQ8⟩
                case measure => simp [intOf]; omega
              | false =>
                rw [hf] at tc
                rw [EQq hf] at cv7
                clear EQq
                generalize str (D.look s2 q) = sy at *
                go_wp2
                go_roundw
                case rel => exact ⟨q + 1, by omega, by go_num, HQ8⟩
                case measure => simp [intOf]; omega
            · obtain rfl : q = 10 := by omega
              clear hq10
              go_wp2_with fail
              refine (fixed_any wr).mono ?_
              rintro e w7 ⟨rfl, hb⟩
              have HD7 := Lib.hid (HD6.out.below (btr HQ.out hb))
              have HB7 := Lib.hid (btr HB6.out (btr HQ.out hb))
              have P1 := down_any HD7.out
              rw [UC.out.down] at P1
              have P1 := Lib.hid P1
              have P2 := waits_any HD7.out
              rw [WC.out] at P2
              have P2 := Lib.hid P2
              clear hb
              go_wp2_with fail
              refine P1.out.mono ?_
              rintro e w8 ⟨rfl, rfl⟩
              go_wp2_with fail
              refine P2.out.mono ?_
              rintro e w9 ⟨rfl, rfl⟩
              go_wp2
              go_ret
              exact ⟨rfl, HB7.out⟩
theorem safe_any (A0 A1 : Option Addr) (n0 k0 n1 k1 : Nat) (v2 : Value) (l : List (Int × Int)) (w : World) (h0 : ∃ os, os.length = n0 ∧ Ops w (.slice A0 n0 k0) os) (h1 : ∃ os, os.length = n1 ∧ Ops w (.slice A1 n1 k1) os) (h2 : Losses w v2 l) :
    Calls Try.prog 4 #[.slice A0 n0 k0, .slice A1 n1 k1, v2] w fun e w' => e = .returned (.bool true) ∧ Below w.heap.size w w' := by
  obtain ⟨os0, hl0, ho0⟩ := h0
  obtain ⟨os1, hl1, ho1⟩ := h1
  obtain ⟨A2, k2, rfl, hl2⟩ := id h2
  by_cases hc : n0 ≤ 40 ∧ n1 ≤ 40 ∧ l.length ≤ 100
  · exact safe_core A0 A1 A2 n0 k0 n1 k1 l.length k2 os0 os1 l w ho0 ho1 h2 hl0 hl1 hc.1 hc.2.1 hc.2.2
  · exact safe_first A0 A1 A2 n0 k0 n1 k1 l.length k2 w (by omega)
end Go.Proofs.Ytcbiagdpolhbfaa
