/- DiskPlays, walked. -/
import Derived.Test.YtcbiagdpolhbfaaPa
namespace Go.Proofs.Ytcbiagdpolhbfaa
open Go.RowKit
open D (St)

set_option maxRecDepth 100000 in
set_option maxHeartbeats 2000000 in
theorem plays_core (n : Nat) (A : Option Addr) (len c : Nat) (os : List O) (w : World) (HO : Hid (Ops w (.slice A len c) os)) (HL : Hid (os.length = len)) (h1 : len ≤ 60) (h2 : 8 ≤ n) (h3 : n ≤ 50) :
    Calls Try.prog 3 #[.int .i64 (n : Int), .slice A len c] w fun e w' => e = .returned (.bool true) ∧ Below w.heap.size w w' := by
  have hz := (zero_of_info Try.zero31).1
  have hz38 := (zero_of_info Try.zero38).1
  have hq : decide (60 < (len : Int)) = false := by simp; omega
  have hq2 : decide (50 < (n : Int)) = false := by simp; omega
  go_enter Try.func3, Try.ntmps3
  go_wp2_with fail
  refine (new_any n w h2 (by omega)).mono ?_
  rintro e w1 ⟨p, g, rfl, ho, hb⟩
  have HO1 := Lib.hid ho
  have HB1 := Lib.hid hb
  clear ho hb
  go_wp2_with fail
  refine (refnew_any n w1 h2 (by omega)).mono ?_
  rintro e w2 ⟨sv, rfl, hr, hb, hs⟩
  obtain ⟨sA, sc, rfl⟩ := row_form hr.safe
  have HM2 : Hid (Mix w2 p g (.slice none 0 0) (.slice sA (D.new n).safe.length sc) (.slice none 0 0) (D.new n) (D.new n)) := ⟨HO1.out.1.below hb, hr, fun b q e => by
    have := HO1.out.1.lt b e
    rcases q with q | q
    · have := hs b q
      omega
    · simp [Value.ownBlock] at q⟩
  have HB2 := Lib.hid (btr HB1.out hb)
  have HF2 : Hid (∀ b, fp p g (.slice none 0 0) b → w.heap.size ≤ b) := HO1.out.2
  clear hr hb hs HO1 HB1
  unfold rv
  have e1 : (D.new n).fuse = -1 := rfl
  have e2 : (D.new n).down = false := rfl
  have e3 : (((D.new n).writes : Nat) : Int) = 0 := rfl
  have e4 : (D.new n).safe.length = n := by simp [D.new]
  rw [e4] at HM2
  rw [e1, e2, e3, e4]
  have HA3 := Lib.hid (alb (w := w2) (.cells #[.slice sA n sc, .slice none 0 0, .int .i64 (-1), .bool false, .int .i64 0] 31))
  have HP : Hid (Play (w2.alloc (.cells #[.slice sA n sc, .slice none 0 0, .int .i64 (-1), .bool false, .int .i64 0] 31)) w.heap.size p g w2.heap.size (.slice none 0 0) (.slice sA n sc) (.slice none 0 0) (D.new n)) :=
    ⟨HM2.out.below HA3.out, HF2.out, fun q => by have := HM2.out.dsk.lt _ q; omega, fun b q e => by have := HM2.out.rep.lt b q; omega, HB2.out.size, Box.made w2 _ _ (-1) false 0 _ _ rfl⟩
  have HB3 := Lib.hid (btr HB2.out HA3.out)
  have HF3 : Hid (Few (D.new n) 0) := by simp [Hid, Few, D.new]
  clear e1 e2 e3 e4 HM2 HF2 HB2 HA3
  go_wp2
  generalize w2.alloc (.cells #[.slice sA n sc, .slice none 0 0, .int .i64 (-1), .bool false, .int .i64 0] 31) = w3 at *
  generalize w2.heap.size = v at *
  generalize D.new n = s0 at *
  go_loopw [50] (fun i wr => ∃ (j : Nat) (s : St) (wv sv rw' : Value), j ≤ len ∧ i = .int .i64 (j : Int) ∧ Hid (Play wr w.heap.size p g v wv sv rw' s) ∧ Hid (Few s j) ∧ Hid (Below w.heap.size w wr)) (fun i _ => (len - intOf i).toNat)
  case atStart => exact ⟨0, s0, _, _, _, Nat.zero_le _, rfl, HP, HF3, HB3⟩
  case round =>
    clear HP HF3 HB3
    obtain ⟨j, s, wv, sv, rw', hj, rfl, HP, HF, HB⟩ := hrel
    by_cases hjn : j < len
    · have hjl : j < os.length := by rw [HL.out]; exact hjn
      obtain ⟨b, off, lv, rfl, hr, hls, hoj, ⟨LA, lc, hlv⟩, hlt⟩ := HO.out.get HB.out j hjl
      have HR := Lib.hid hr
      have HOK := Lib.hid hoj
      clear hr hoj
      generalize os[j] = o at *
      obtain ⟨sA', sc', rfl⟩ := row_form HP.out.mix.rep.safe
      obtain ⟨rA, rc, rfl⟩ := row_form HP.out.mix.rep.waits
      have HLS := Lib.hid hls
      have HLF : Hid (0 < o.l.length → ∀ k, lv.ownBlock = some k → ¬ fp p g wv k) := fun hp k hk q => by
        have := hlt hp k hk
        have := HP.out.fB k q
        omega
      have HA := Lib.hid (alb (w := wr) (.cells (ocells o lv).toArray 38))
      have HPA := Lib.hid (HP.out.below HA.out)
      have HBA := Lib.hid (btr HB.out HA.out)
      have ST := Lib.hid (step_any HPA.out.mix o HOK.out lv (HLS.out.below (Nat.le_refl _) HA.out) HLF.out (by have := HF.out.1; omega) (by have := HF.out.2; omega))
      have ho6 : (ocells o lv).toArray = #[.int .u8 (o.d : Int), .int .i64 o.a, .int .u8 ((o.c.toNat : Nat) : Int), .int .u16 (o.k : Int), .int .i8 o.n, lv] := rfl
      unfold ocells at HR
      rw [ho6] at HA HPA HBA ST
      subst hlv
      clear hls hlt ho6
      have HFS := Lib.hid (few_stp HF.out o)
      generalize stp s o = s' at *
      generalize o.l.length = oll at *
      unfold rv at ST
      have hbx := HPA.out.box
      have c0 := hbx.c0
      have c1 := hbx.c1
      have c2 := hbx.c2
      have c3 := hbx.c3
      have c4 := hbx.c4
      clear hbx
      go_wp2_with (first
        | (refine wpList_load_mid rfl 38 _ rfl b (off + j * 6) rfl _ _ HR.out Try.underlying38 rfl Try.size38 ?_)
        | fail)
      clear c0 c1 c2 c3 c4
      generalize wr.alloc (.cells #[.int .u8 (o.d : Int), .int .i64 o.a, .int .u8 ((o.c.toNat : Nat) : Int), .int .u16 (o.k : Int), .int .i8 o.n, .slice LA oll lc] 38) = w4 at *
      refine ST.out.mono ?_
      rintro e w5 ⟨wv5, sv5, rw5, rfl, hsp⟩
      have HSP := Lib.hid hsp
      clear hsp ST
      obtain ⟨A5, c5, rfl⟩ := row_form HSP.out.mix.rep.safe
      obtain ⟨A6, c6, rfl⟩ := row_form HSP.out.mix.rep.waits
      have BX5 := Lib.hid (HPA.out.box.keep HSP.out.keep HPA.out.v1)
      have HA6 := Lib.hid (alb (w := w5) (.cells #[.slice A5 s'.safe.length c5, .slice A6 s'.waits.length c6, .int .i64 s'.fuse, .bool s'.down, .int .i64 (s'.writes : Int)] 31))
      have BX6 := Lib.hid (BX5.out.below HA6.out)
      have PS : Hid (∀ w7, Box w7 v (.slice A5 s'.safe.length c5) (.slice A6 s'.waits.length c6) s'.fuse s'.down (s'.writes : Int) → Keep (fun x => x = v) (w5.alloc (.cells #[.slice A5 s'.safe.length c5, .slice A6 s'.waits.length c6, .int .i64 s'.fuse, .bool s'.down, .int .i64 (s'.writes : Int)] 31)) w7 → Play w7 w.heap.size p g v wv5 (.slice A5 s'.safe.length c5) (.slice A6 s'.waits.length c6) s' ∧ Below w.heap.size w w7) := fun w7 hx hk =>
        ⟨HPA.out.step HSP.out HA6.out hk hx HBA.out.size, HBA.out.trans (HPA.out.bel HSP.out HA6.out hk HBA.out.size)⟩
      clear HPA HP HSP BX5 HA HBA HLF HLS HOK
      generalize s'.safe.length = m1 at *
      generalize s'.waits.length = m2 at *
      generalize s'.fuse = fu at *
      generalize s'.down = dn at *
      generalize (s'.writes : Int) = nw at *
      go_wp2_with (first
        | (refine wpList_store_box BX6.out rfl _ _ rfl (.slice A5 m1 c5) (.slice A6 m2 c6) fu dn nw rfl rfl rfl rfl ?_; intro w7 hx7 hk7; have HPL := Lib.hid (PS.out w7 hx7 hk7); clear hx7 hk7)
        | fail)
      go_roundw
      case rel => exact ⟨j + 1, s', wv5, _, _, by omega, by go_num, HPL.out.1, HFS, HPL.out.2⟩
      case measure => simp [intOf]; omega
    · obtain rfl : j = len := by omega
      obtain ⟨sA', sc', rfl⟩ := row_form HP.out.mix.rep.safe
      obtain ⟨rA, rc, rfl⟩ := row_form HP.out.mix.rep.waits
      go_wp2_with fail
      refine (fixed_any wr).mono ?_
      rintro e w4 ⟨rfl, hb⟩
      have HP4 := Lib.hid (HP.out.below hb)
      have HB4 := Lib.hid (btr HB.out hb)
      have SM := same_any HP4.out.mix.dsk HP4.out.mix.rep
      unfold rv at SM
      have SM := Lib.hid SM
      have hbx := HP4.out.box
      have c0 := hbx.c0
      have c1 := hbx.c1
      have c2 := hbx.c2
      have c3 := hbx.c3
      have c4 := hbx.c4
      clear hbx hb HP HB
      go_wp2_with fail
      refine SM.out.mono ?_
      rintro e w5 ⟨rfl, hb⟩
      go_wp2
      go_ret
      exact ⟨rfl, btr HB4.out hb⟩
theorem plays_any (n : Int) (A : Option Addr) (len c : Nat) (w : World) (h : ∃ os, os.length = len ∧ Ops w (.slice A len c) os) :
    Calls Try.prog 3 #[.int .i64 n, .slice A len c] w fun e w' => e = .returned (.bool true) ∧ Below w.heap.size w w' := by
  obtain ⟨os, hl, ho⟩ := h
  by_cases h1 : 60 < len
  · exact plays_first n A len c w (.inl h1)
  · by_cases h2 : 50 < n ∧ n ≤ 4096
    · exact plays_first n A len c w (.inr ⟨by omega, h2.1, h2.2⟩)
    · by_cases h3 : n < 8 ∨ 4096 < n
      · exact plays_bad n A len c w (by omega) h3
      · obtain ⟨m, rfl⟩ := Int.eq_ofNat_of_zero_le (by omega : 0 ≤ n)
        exact plays_core m A len c os w ho hl (by omega) (by omega) (by omega)
end Go.Proofs.Ytcbiagdpolhbfaa
