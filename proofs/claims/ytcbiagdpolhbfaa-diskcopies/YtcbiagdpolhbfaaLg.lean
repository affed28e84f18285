/- DiskFalls, walked. -/
import Derived.Test.YtcbiagdpolhbfaaLf
namespace Go.Proofs.Ytcbiagdpolhbfaa
open Go.RowKit
open D (St)

theorem long_any (A : Option Addr) (n c : Nat) (x : Value) (w : World) (h : 60 < n) :
    Calls Try.prog 6 #[.slice A n c, x] w fun e w' => e = .returned (.bool true) ∧ Below w.heap.size w w' := by
  have hq : decide (60 < (n : Int)) = true := by simp; omega
  clear h
  go_enter Try.func6, Try.ntmps6
  go_wp2_with fail
  refine (fixed_any w).mono ?_
  rintro e w1 ⟨rfl, hb⟩
  go_wp2
  go_ret
  exact ⟨rfl, hb⟩
theorem rem8 (a : Int) : ∃ m : Nat, m < 8 ∧ wrap64 ((IntKind.u64.wrap a).tmod 8) = (m : Int) := by
  have h0 : 0 ≤ IntKind.u64.wrap a := by rw [IntKind.wrap_u64]; omega
  rw [Int.tmod_eq_emod_of_nonneg h0]
  refine ⟨(IntKind.u64.wrap a % 8).toNat, by omega, ?_⟩
  unfold wrap64
  omega
set_option maxRecDepth 100000 in
set_option maxHeartbeats 2000000 in
theorem falls_core (A : Option Addr) (n c : Nat) (fu : Nat) (os : List O) (w : World) (HO : Hid (Ops w (.slice A n c) os)) (HL : Hid (os.length = n)) (h : n ≤ 60) (hfu : fu ≤ 255) :
    Calls Try.prog 6 #[.slice A n c, .int .u8 (fu : Int)] w fun e w' => e = .returned (.bool true) ∧ Below w.heap.size w w' := by
  have hq : decide (60 < (n : Int)) = false := by simp; omega
  have hz := (zero_of_info Try.zero38).1
  go_enter Try.func6, Try.ntmps6
  go_wp2_with fail
  refine (new_own 8 w (by decide) (by decide)).mono ?_
  rintro e w1 ⟨p, g, rfl, ho, hb⟩
  have HO1 := Lib.hid ho
  have HB1 := Lib.hid hb
  clear ho hb
  go_wp2_with fail
  refine (fuse_own HO1.out HB1.out.size (fu : Int) (by omega)).mono ?_
  rintro e w2 ⟨rfl, ho, hb⟩
  have HO2 := Lib.hid ho
  have HB2 := Lib.hid (HB1.out.trans hb)
  have HV2 := Lib.hid (left_new fu)
  have HF2 := Lib.hid (few_new (fu : Int) 8)
  clear ho hb HO1 HB1
  generalize D.setFuse (D.new 8) (fu : Int) = s2 at *
  go_wp2
  go_loopw [7, 39] (fun l i wr => ∃ (j : Nat) (s : St), j ≤ n ∧ i = .int .i64 (j : Int) ∧ l = .int .i64 ((fu : Int) - (j : Int)) ∧ Hid (OwnD wr p g s w.heap.size) ∧ Hid (Left s ((fu : Int) - (j : Int))) ∧ Hid (Few s j) ∧ Hid (Below w.heap.size w wr)) (fun _ i _ => (n - intOf i).toNat)
  case atStart => exact ⟨0, s2, Nat.zero_le _, rfl, by simp, HO2, by simpa using HV2, HF2, HB2⟩
  case round =>
    obtain ⟨j, s, hj, rfl, rfl, HD, HE, HF, HB⟩ := hrel
    by_cases hjn : j < n
    · have hjl : j < os.length := by rw [HL.out]; exact hjn
      obtain ⟨b, off, lv, rfl, hr, _, hoj, LA, lc, hlv⟩ := (HO.out.below (Nat.le_refl _) HB.out).at j hjl
      have HR := Lib.hid hr
      clear hr
      generalize os[j] = o at *
      obtain ⟨od, oa, oc, ok', on, ol⟩ := o
      subst hlv
      unfold ocells at HR
      simp only at HR hoj
      generalize ol.length = oll at *
      have hd := hoj.d
      have hk := hoj.k
      simp only at hd hk
      obtain ⟨m, hm, hm2⟩ := rem8 oa
      have HA := Lib.hid (alb (w := wr) (.cells #[.int .u8 (od : Int), .int .i64 oa, .int .u8 ((oc.toNat : Nat) : Int), .int .u16 (ok' : Int), .int .i8 on, .slice LA oll lc] 38))
      by_cases hpar : od % 2 = 0
      · go_wp2_with (first
          | (refine wpList_load_mid rfl 38 _ rfl b (off + j * 6) rfl _ _ HR.out Try.underlying38 rfl Try.size38 ?_)
          | fail)
        generalize wr.alloc (.cells #[.int .u8 (od : Int), .int .i64 oa, .int .u8 ((oc.toNat : Nat) : Int), .int .u16 (ok' : Int), .int .i8 on, .slice LA oll lc] 38) = w3 at *
        refine (full_any oc ok' hk w3).mono ?_
        rintro e w4 ⟨g1, rfl, ho, hb⟩
        have HV := Lib.hid (Byts.own (l := fullL oc ok') (by rw [fullL_length]; exact ho))
        have HD4 := Lib.hid (HD.out.below (btr HA.out hb))
        have HB4 := Lib.hid (btr HB.out (btr HA.out hb))
        clear ho hb
        go_wp2_with fail
        refine (write_own HD4.out HB4.out.size (m : Int) _ (fullL oc ok') HV.out (by have := HF.out.1; omega) (by have := HF.out.2; omega)).mono ?_
        rintro e w5 ⟨he, ho, hb⟩
        obtain ⟨hL, hE⟩ := left_write HE.out m hm (fullL oc ok') (fullL_length oc ok')
        rw [hE] at he
        subst he
        have HD5 := Lib.hid ho
        have HE5 := Lib.hid hL
        have HB5 := Lib.hid (HB4.out.trans hb)
        have HF5 := Lib.hid (few_write HF.out (m : Int) (fullL oc ok'))
        clear ho hb hL hE HD4 HB4 HV HD HE HB HF
        generalize D.write s (m : Int) (fullL oc ok') = s5 at *
        clear HR hm2 hpar hd hk hoj
        have q5 : IntKind.i64.wrap ((fu : Int) - (j : Int) - 1) = (fu : Int) - (j : Int) - 1 := by rw [IntKind.wrap_i64]; omega
        have e5 : ((fu : Int) - ((j + 1 : Nat) : Int)) = (fu : Int) - (j : Int) - 1 := by omega
        by_cases hz : 0 ≤ (fu : Int) - (j : Int) - 1
        · rw [if_pos hz]
          have hdn := (HE5.out.up hz).1
          go_wp2_with fail
          refine (down_own HD5.out).mono ?_
          rintro e w6 ⟨rfl, rfl⟩
          rw [hdn]
          go_wp2
          go_roundw
          case rel => exact ⟨j + 1, s5, by omega, by go_num, by rw [e5], HD5, by rw [e5]; exact HE5, HF5, HB5⟩
          case measure => simp [intOf]; omega
        · rw [if_neg hz]
          have hdn := HE5.out.dn (by omega)
          go_wp2_with fail
          refine (down_own HD5.out).mono ?_
          rintro e w6 ⟨rfl, rfl⟩
          rw [hdn]
          go_wp2
          go_roundw
          case rel => exact ⟨j + 1, s5, by omega, by go_num, by rw [e5], HD5, by rw [e5]; exact HE5, HF5, HB5⟩
          case measure => simp [intOf]; omega
      · have hpar2 : od % 2 = 1 := by omega
        clear hpar
        go_wp2_with (first
          | (refine wpList_load_mid rfl 38 _ rfl b (off + j * 6) rfl _ _ HR.out Try.underlying38 rfl Try.size38 ?_)
          | fail)
        generalize wr.alloc (.cells #[.int .u8 (od : Int), .int .i64 oa, .int .u8 ((oc.toNat : Nat) : Int), .int .u16 (ok' : Int), .int .i8 on, .slice LA oll lc] 38) = w3 at *
        refine (sync_own (HD.out.below HA.out) (btr HB.out HA.out).size).mono ?_
        rintro e w5 ⟨he, ho, hb⟩
        obtain ⟨hL, hE⟩ := left_sync HE.out
        rw [hE] at he
        subst he
        have HD5 := Lib.hid ho
        have HE5 := Lib.hid hL
        have HB5 := Lib.hid ((btr HB.out HA.out).trans hb)
        have HF5 := Lib.hid ((few_sync HF.out).mono (Nat.le_succ j))
        clear ho hb hL hE HD HE HB HF
        generalize D.sync s = s5 at *
        clear HR hm2 hd hk hoj hpar2
        have q5 : IntKind.i64.wrap ((fu : Int) - (j : Int) - 1) = (fu : Int) - (j : Int) - 1 := by rw [IntKind.wrap_i64]; omega
        have e5 : ((fu : Int) - ((j + 1 : Nat) : Int)) = (fu : Int) - (j : Int) - 1 := by omega
        by_cases hz : 0 ≤ (fu : Int) - (j : Int) - 1
        · rw [if_pos hz]
          have hdn := (HE5.out.up hz).1
          go_wp2_with fail
          refine (down_own HD5.out).mono ?_
          rintro e w6 ⟨rfl, rfl⟩
          rw [hdn]
          go_wp2
          go_roundw
          case rel => exact ⟨j + 1, s5, by omega, by go_num, by rw [e5], HD5, by rw [e5]; exact HE5, HF5, HB5⟩
          case measure => simp [intOf]; omega
        · rw [if_neg hz]
          have hdn := HE5.out.dn (by omega)
          go_wp2_with fail
          refine (down_own HD5.out).mono ?_
          rintro e w6 ⟨rfl, rfl⟩
          rw [hdn]
          go_wp2
          go_roundw
          case rel => exact ⟨j + 1, s5, by omega, by go_num, by rw [e5], HD5, by rw [e5]; exact HE5, HF5, HB5⟩
          case measure => simp [intOf]; omega
    · obtain rfl : j = n := by omega
      have hrd := left_read HE.out
      cases hds : s.down with
      | true =>
        rw [hds, if_pos rfl] at hrd
        go_wp2_with fail
        refine (read_own HD.out 0).mono ?_
        rintro e w3 ⟨v3, rfl, _, hb⟩
        rw [hrd]
        have HD3 := Lib.hid (HD.out.below hb)
        have HB3 := Lib.hid (btr HB.out hb)
        clear hb HD HB hrd
        go_wp2_with fail
        refine (down_own HD3.out).mono ?_
        rintro e w4 ⟨rfl, rfl⟩
        rw [hds]
        go_wp2_with fail
        refine (crash_own HD3.out (Below.refl _ _) HB3.out.size (.slice none 0 0) [] (Losses.none _) (fun h => by simp at h)).mono ?_
        rintro e w5 ⟨rfl, ho, hb⟩
        obtain ⟨hr, hdn⟩ := left_crash HE.out
        have HD5 := Lib.hid ho
        have HB5 := Lib.hid (HB3.out.trans hb)
        clear ho hb HD3 HB3
        generalize D.crash s [] = s5 at *
        go_wp2_with fail
        refine (read_own HD5.out 0).mono ?_
        rintro e w6 ⟨v6, rfl, _, hb⟩
        rw [hr]
        have HD6 := Lib.hid (HD5.out.below hb)
        have HB6 := Lib.hid (btr HB5.out hb)
        clear hb HD5 HB5 hr
        go_wp2_with fail
        refine (fixed_any w6).mono ?_
        rintro e w7 ⟨rfl, hb⟩
        have HD7 := Lib.hid (HD6.out.below hb)
        have HB7 := Lib.hid (btr HB6.out hb)
        clear hb HD6 HB6
        go_wp2_with fail
        refine (down_own HD7.out).mono ?_
        rintro e w8 ⟨rfl, rfl⟩
        rw [hdn]
        go_wp2
        go_ret
        exact ⟨rfl, HB7.out⟩
      | false =>
        rw [hds, if_neg Bool.false_ne_true] at hrd
        go_wp2_with fail
        refine (read_own HD.out 0).mono ?_
        rintro e w3 ⟨v3, rfl, _, hb⟩
        rw [hrd]
        have HD3 := Lib.hid (HD.out.below hb)
        have HB3 := Lib.hid (btr HB.out hb)
        clear hb HD HB hrd
        go_wp2_with fail
        refine (down_own HD3.out).mono ?_
        rintro e w4 ⟨rfl, rfl⟩
        rw [hds]
        go_wp2_with fail
        refine (crash_own HD3.out (Below.refl _ _) HB3.out.size (.slice none 0 0) [] (Losses.none _) (fun h => by simp at h)).mono ?_
        rintro e w5 ⟨rfl, ho, hb⟩
        obtain ⟨hr, hdn⟩ := left_crash HE.out
        have HD5 := Lib.hid ho
        have HB5 := Lib.hid (HB3.out.trans hb)
        clear ho hb HD3 HB3
        generalize D.crash s [] = s5 at *
        go_wp2_with fail
        refine (read_own HD5.out 0).mono ?_
        rintro e w6 ⟨v6, rfl, _, hb⟩
        rw [hr]
        have HD6 := Lib.hid (HD5.out.below hb)
        have HB6 := Lib.hid (btr HB5.out hb)
        clear hb HD5 HB5 hr
        go_wp2_with fail
        refine (fixed_any w6).mono ?_
        rintro e w7 ⟨rfl, hb⟩
        have HD7 := Lib.hid (HD6.out.below hb)
        have HB7 := Lib.hid (btr HB6.out hb)
        clear hb HD6 HB6
        go_wp2_with fail
        refine (down_own HD7.out).mono ?_
        rintro e w8 ⟨rfl, rfl⟩
        rw [hdn]
        go_wp2
        go_ret
        exact ⟨rfl, HB7.out⟩
theorem falls_any (A : Option Addr) (n c : Nat) (fu : Nat) (hfu : fu ≤ 255) (w : World) (h : ∃ os, os.length = n ∧ Ops w (.slice A n c) os) :
    Calls Try.prog 6 #[.slice A n c, .int .u8 (fu : Int)] w fun e w' => e = .returned (.bool true) ∧ Below w.heap.size w w' := by
  obtain ⟨os, hl, ho⟩ := h
  by_cases hn : 60 < n
  · exact long_any A n c _ w hn
  · exact falls_core A n c fu os w ho hl (by omega) hfu
end Go.Proofs.Ytcbiagdpolhbfaa
