/- Contracts that the claim reaches (Fh Wb Wg Wh Ud). -/
import Derived.Test.YtlcnefeikejcaaaGreatDoorPl08
namespace Go.Proofs.YtlcnefeikejcaaaGreatDoor
open Go.RowKit
set_option maxRecDepth 100000 in
theorem run_from_b (b0 off k c f : Nat) (z : Int) (hz : z = (f : Int)) (hf : f < k) (hk : k ≤ c) (W : World) : (Instr.slice 48 (.slice (some ⟨b0, off, none⟩) k c) (some (.int .i64 z)) none none).run Tryz.prog W = .ok (.slice (some ⟨b0, off + f, none⟩) (k - f) (c - f)) W := by
  subst hz
  rw [run_slice_l (w := W) 48 (some ⟨b0, off, none⟩) k c Tryz.underlying48 .i64 (f : Int) (by omega) (by omega)]
  have e : (sizeOf (Tryz.prog.elem 48)).run Tryz.prog W = .ok 1 W := by kernel_rfl
  rw [e]
  simp only [Result.andThen, sliced, Int.toNat_natCast, Nat.mul_one]
  rw [if_neg (by omega)]
  simp [Addr.add]
def numsTo (b : List UInt8) (n i : Nat) : List Int := L.nums b i ++ List.replicate (n - i) 0
theorem numsTo_length (b : List UInt8) (n i : Nat) (h : i ≤ n) : (numsTo b n i).length = n := by simp [numsTo, L.nums_length]; omega
theorem numsTo_zero (b : List UInt8) (n : Nat) : numsTo b n 0 = List.replicate n 0 := by simp [numsTo, L.nums]
theorem numsTo_all (b : List UInt8) (n : Nat) : numsTo b n n = L.nums b n := by simp [numsTo]
theorem numsTo_next (b : List UInt8) (n i : Nat) (h : i < n) : (numsTo b n i).set i ((L.numAt b (6 + 4 * i) : Nat) : Int) = numsTo b n (i + 1) := by
  unfold numsTo
  rw [List.set_append_right _ _ (by rw [L.nums_length]; exact Nat.le_refl _), L.nums_length, Nat.sub_self, L.nums_succ, show n - i = (n - (i + 1)) + 1 by omega, List.replicate_succ]
  simp
theorem us_set (l : List Int) (i : Nat) (x : Int) : us (l.set i x) = (us l).set i (.int .u32 x) := by simp [us, List.map_set]
theorem made_zeros32 (k : Nat) : (madeCells #[Value.int .u32 0] k).toList = us (List.replicate k 0) := by
  apply List.ext_getElem?
  intro i
  by_cases h : i < k
  · simp [madeCells, us, h, Nat.mod_one]
  · rw [List.getElem?_eq_none (by simp [size_madeCells]; omega), List.getElem?_eq_none (by simp [us]; omega)]
set_option maxHeartbeats 1600000 in
theorem parse_short (w : World) (A : Option Addr) (n c : Nat) (h : n < 6) : Calls Tryz.prog 133 #[.slice A n c] w fun e w' => e = .returned (.tuple #[.int .u32 0, .slice none 0 0, .int .i64 2]) ∧ Below w.heap.size w w' := by
  have h1 : (n : Int) < 6 := by omega
  go_enter Tryz.func133, Tryz.ntmps133
  go_wp2
  go_ret3
  exact ⟨rfl, Below.refl _ _⟩
set_option maxRecDepth 100000 in
set_option maxHeartbeats 1600000 in
theorem parse_core (w : World) (b0 off n c x k a4 a5 : Nat) (b : List UInt8) (R : Bool) (N E : Int) (Lo : List Int) (h6 : 6 ≤ n) (hnc : n ≤ c) (hx : x < 4294967296) (h4 : a4 < 256) (h5 : a5 < 256) (hk : a4 * 256 + a5 = k)
    (HV : Hid (Byts w (.slice (some ⟨b0, off, none⟩) n c) b)) (X : Hid (L.numAt b 0 = x)) (E4 : Hid ((b.getD 4 0).toNat = a4)) (E5 : Hid ((b.getD 5 0).toNat = a5))
    (HR : Hid (L.ris 1 (L.nums b k) = R))
    (H1 : Hid ((x = 1 ∨ 123 < k ∨ n ≠ 6 + 4 * k) → N = 0 ∧ E = 2 ∧ Lo = []))
    (H2 : Hid (x ≠ 1 → k ≤ 123 → n = 6 + 4 * k → R = false → N = 0 ∧ E = 2 ∧ Lo = []))
    (H3 : Hid (x ≠ 1 → k ≤ 123 → n = 6 + 4 * k → R = true → N = (x : Int) ∧ E = 0 ∧ Lo = L.nums b k)) :
    Calls Tryz.prog 133 #[.slice (some ⟨b0, off, none⟩) n c] w fun e w' => ∃ v, e = .returned (.tuple #[.int .u32 N, v, .int .i64 E]) ∧ w'.ownsRow w.heap.size 31 1 v Lo.length (us Lo) ∧ Below w.heap.size w w' := by
  obtain ⟨i0, hi0, hz0, hz1, hz2⟩ := info_parts Tryz.info31
  have hn6 : ¬ (n : Int) < 6 := by omega
  have hn4 : (4 : Int) < (n : Int) := by omega
  have hn5 : (5 : Int) < (n : Int) := by omega
  have hm4 : 4 < n := by omega
  have hm5 : 5 < n := by omega
  have c4 := HV.out.cell 4 (by omega)
  have c5 := HV.out.cell 5 (by omega)
  rw [E4.out] at c4
  rw [E5.out] at c5
  have C4 := Lib.hid c4
  have C5 := Lib.hid c5
  clear c4 c5
  have h0 := run_from_b b0 off n c 0 0 rfl (by omega) hnc
  rw [Nat.add_zero, Nat.sub_zero, Nat.sub_zero] at h0
  have HF := Lib.hid (readfour_any _ b w HV.out (by rw [HV.out.len]; omega))
  rw [X.out] at HF
  have hor := or_low64 a4 a5 h4 h5
  rw [hk] at hor
  have hk16 : k < 65536 := by omega
  go_enter Tryz.func133, Tryz.ntmps133
  go_wp2_with fail
  refine (HF.out).mono ?_
  rintro e w1 ⟨rfl, hB1⟩
  have HB1 := Lib.hid hB1
  have c4 := kept C4.out hB1
  have c5 := kept C5.out hB1
  clear hB1 HF h0
  go_wp2_with fail
  go_quiet (fail)
  have HB2 : Hid (Below w.heap.size w (w1.drewN nq)) := bdn HB1.out nq
  clear HB1 c4 c5 hor C4 C5 E4 E5
  generalize w1.drewN nq = w2 at *
  obtain ⟨bad, hbad⟩ : ∃ bad, bad = decide (x = 1 ∨ 123 < k ∨ n ≠ 6 + 4 * k) := ⟨_, rfl⟩
  have HBD := Lib.hid hbad
  clear hbad
  go_upto_region 5 with fail
  go_cut [42] from 25 to 42 (fun s wc => s = .bool bad ∧ wc = w2)
  case first =>
    rcases Nat.lt_trichotomy x 1 with hx1 | hx1 | hx1
    · have q1 : ((x : Int) != 0) = false := by rw [bne_eq_false_iff_eq]; omega
      have q2 : x = 0 := by omega
      by_cases hk1 : 123 < k
      · have e1 : decide (123 < k) = true := decide_eq_true hk1
        have e4 : decide (123 < (k : Int)) = true := decide_eq_true (by omega)
        have e2 : Hid (bad = true) := HBD.out.trans (decide_eq_true (.inr (.inl hk1)))
        clear hx1 hk hk1 q2
        go_wp2
        go_meet
        exact ⟨by rw [e2.out], rfl⟩
      · have e1 : decide (123 < k) = false := decide_eq_false hk1
        have e4 : decide (123 < (k : Int)) = false := decide_eq_false (by omega)
        by_cases hn1 : n = 6 + 4 * k
        · have e3 : ((n : Int) != 6 + 4 * (k : Int)) = false := by rw [bne_eq_false_iff_eq]; omega
          have e2 : Hid (bad = false) := HBD.out.trans (decide_eq_false (by omega))
          clear hx1 hk hk1 q2 hn1
          go_wp2
          go_meet
          exact ⟨by rw [e2.out], rfl⟩
        · have e3 : ((n : Int) != 6 + 4 * (k : Int)) = true := by rw [bne_iff_ne]; omega
          have e2 : Hid (bad = true) := HBD.out.trans (decide_eq_true (.inr (.inr hn1)))
          clear hx1 hk hk1 q2 hn1
          go_wp2
          go_meet
          exact ⟨by rw [e2.out], rfl⟩
    · have q1 : ((x : Int) != 0) = true := by rw [bne_iff_ne]; omega
      have q2 : decide ((x : Int) < 2) = true := by rw [decide_eq_true_eq]; omega
      have e2 : Hid (bad = true) := HBD.out.trans (decide_eq_true (.inl hx1))
      clear hx1 hk
      go_wp2
      go_meet
      exact ⟨by rw [e2.out], rfl⟩
    · have q1 : ((x : Int) != 0) = true := by rw [bne_iff_ne]; omega
      have q2 : decide ((x : Int) < 2) = false := by rw [decide_eq_false_iff_not]; omega
      by_cases hk1 : 123 < k
      · have e1 : decide (123 < k) = true := decide_eq_true hk1
        have e4 : decide (123 < (k : Int)) = true := decide_eq_true (by omega)
        have e2 : Hid (bad = true) := HBD.out.trans (decide_eq_true (.inr (.inl hk1)))
        clear hx1 hk hk1
        go_wp2
        go_meet
        exact ⟨by rw [e2.out], rfl⟩
      · have e1 : decide (123 < k) = false := decide_eq_false hk1
        have e4 : decide (123 < (k : Int)) = false := decide_eq_false (by omega)
        by_cases hn1 : n = 6 + 4 * k
        · have e3 : ((n : Int) != 6 + 4 * (k : Int)) = false := by rw [bne_eq_false_iff_eq]; omega
          have e2 : Hid (bad = false) := HBD.out.trans (decide_eq_false (by omega))
          clear hx1 hk hk1 hn1
          go_wp2
          go_meet
          exact ⟨by rw [e2.out], rfl⟩
        · have e3 : ((n : Int) != 6 + 4 * (k : Int)) = true := by rw [bne_iff_ne]; omega
          have e2 : Hid (bad = true) := HBD.out.trans (decide_eq_true (.inr (.inr hn1)))
          clear hx1 hk hk1 hn1
          go_wp2
          go_meet
          exact ⟨by rw [e2.out], rfl⟩
  case rest =>
    obtain ⟨rfl, rfl⟩ := hcut
    cases bad with
    | true =>
      obtain ⟨rfl, rfl, rfl⟩ := H1.out (of_decide_eq_true HBD.out.symm)
      go_wp2
      go_ret3
      exact ⟨_, rfl, World.ownsRow_nil _ _ _ _, HB2.out⟩
    | false =>
      have hb := of_decide_eq_false HBD.out.symm
      have hk123 : k ≤ 123 := by omega
      have hnk : n = 6 + 4 * k := by omega
      have hx1 : x ≠ 1 := by omega
      have HE2 : Hid (R = false → N = 0 ∧ E = 2 ∧ Lo = []) := H2.out hx1 hk123 hnk
      have HE3 : Hid (R = true → N = (x : Int) ∧ E = 0 ∧ Lo = L.nums b k) := H3.out hx1 hk123 hnk
      have HNK := Lib.hid hnk
      clear H1 H2 H3 HBD hb hx1 hnk hk
      go_wp2_with (first
        | (refine wpList_make_full _ rfl _ _ 37 rfl wc.heap.size 31 i0 _ 1 Tryz.underlying37 hi0 hz0 hz1 _ _ _ _ k rfl rfl ?l1 ?l2 ?l3 ?l4 ?l5 ?_)
        | go_in)
      case l1 => go_num
      case l2 => go_num
      case l3 => rw [hz2]; omega
      case l4 => unfold maxLen; omega
      case l5 => exact Nat.le_refl _
      intro w3 hown hgrow
      rw [made_zeros32, ← numsTo_zero b] at hown
      have HO3 := Lib.hid hown
      have HB3 : Hid (Below w.heap.size w w3) := btr HB2.out ((Below.refl _ _).grown hgrow (Nat.le_refl _) (by intro g hg; cases hg))
      have HGB : Hid (w.heap.size ≤ wc.heap.size) := HB2.out.size
      clear hown hgrow i0 hi0 hz0 hz1 hz2 HB2
      generalize wc.heap.size = g at *
      go_wp2_with fail
      go_loopg [47] k (fun z s wr => ∃ (i : Nat), s = .int .i64 (i : Int) ∧ i ≤ k ∧ k - i ≤ z ∧ Hid (Below w.heap.size w wr) ∧ Hid (wr.ownsRow w.heap.size 31 1 (.slice (some ⟨g, 0, none⟩) k k) k (us (numsTo b k i))))
      case atStart => exact ⟨0, rfl, by omega, by omega, HB3, Go.Joins.ownsRow_le HO3.out HGB.out⟩
      case round =>
        obtain ⟨i, rfl, i1, i2, HB, HO⟩ := hrel
        by_cases hi : i < k
        · have hz : (i : Int) < (k : Int) := by omega
          have hcut := run_from_b b0 off n c (6 + 4 * i) (6 + 4 * (i : Int)) (by omega) (by have := HNK.out; omega) hnc
          have HF := Lib.hid (readfour_any _ (b.drop (6 + 4 * i)) wr ((HV.out.below HB.out).tail (6 + 4 * i) (by have := HNK.out; omega) (c - (6 + 4 * i)) (by omega)) (by rw [List.length_drop, HV.out.len]; have := HNK.out; omega))
          rw [numAt_drop] at HF
          obtain ⟨y, hy⟩ : ∃ y, y = L.numAt b (6 + 4 * i) := ⟨_, rfl⟩
          rw [← hy] at HF
          have HY := Lib.hid hy
          clear hy
          go_wp2_with fail
          refine (HF.out).mono ?_
          rintro e w4 ⟨rfl, h4⟩
          have HB4 : Hid (Below w.heap.size w w4) := btr HB.out h4
          have HO4 : Hid (w4.ownsRow w.heap.size 31 1 (.slice (some ⟨g, 0, none⟩) k k) k (us (numsTo b k i))) := own_keep HO.out (Keep.of_below (F := fun _ => False) h4) (fun _ _ q => q)
          have q4 : w4.cell? ⟨g, i, none⟩ = some (.int .u32 (numsTo b k i)[i]!) := by
            rw [HO4.out.cellAt i (by omega), us_get _ _ (by rw [numsTo_length _ _ _ i1]; exact hi)]
          have f4 : w4.frozen? ⟨g, i, none⟩ = false := HO4.out.frozenAt i
          generalize (numsTo b k i)[i]! = yo at *
          clear h4 HF hcut
          go_wp2
          go_roundg (k - (i + 1))
          case measure => omega
          case rel =>
            refine ⟨i + 1, by simp, by omega, by omega, HB4.out.setCell (p := ⟨g, i, none⟩) HGB.out _, ?_⟩
            have hs := (HO4.out.stored i (.int .u32 ((y : Nat) : Int))).1
            rw [← us_set, HY.out, numsTo_next _ _ _ hi] at hs
            rw [HY.out]
            exact hs
        · have hz : ¬ (i : Int) < (k : Int) := by omega
          obtain rfl : i = k := by omega
          have HW : Hid (wr.ownsRow w.heap.size 31 1 (.slice (some ⟨g, 0, none⟩) i i) (L.nums b i).length (us (L.nums b i))) := by
            have := HO.out
            rw [numsTo_all] at this
            show wr.ownsRow _ _ _ _ _ _
            rw [L.nums_length]
            exact this
          have HN : Hid (Nums wr (.slice (some ⟨g, 0, none⟩) i i) (L.nums b i)) := Nums.own HW.out
          have HRI := Lib.hid (rising_any wr _ _ HN.out)
          rw [HR.out] at HRI
          go_wp2_with fail
          refine (HRI.out).mono ?_
          rintro e w4 ⟨rfl, rfl⟩
          cases R with
          | false =>
            obtain ⟨rfl, rfl, rfl⟩ := HE2.out rfl
            go_wp2
            go_ret3
            exact ⟨_, rfl, World.ownsRow_nil _ _ _ _, HB.out⟩
          | true =>
            obtain ⟨rfl, rfl, rfl⟩ := HE3.out rfl
            go_wp2
            go_ret3
            exact ⟨_, rfl, HW.out, HB.out⟩
theorem parse_any (w : World) (v : Value) (b : List UInt8) (h : Byts w v b) :
    Calls Tryz.prog 133 #[v] w fun e w' => ∃ u, e = .returned (.tuple #[.int .u32 (L.parseN b), u, .int .i64 ((L.parseE b : Nat) : Int)]) ∧ w'.ownsRow w.heap.size 31 1 u (L.parseL b).length (us (L.parseL b)) ∧ Below w.heap.size w w' := by
  by_cases h6 : b.length < 6
  · obtain ⟨A, c, rfl⟩ := h.form
    have e : L.parseE b = 2 := by unfold L.parseE; rw [if_pos h6]
    have e1 : L.parseN b = 0 := by unfold L.parseN; rw [if_neg (by omega)]
    have e2 : L.parseL b = [] := by unfold L.parseL; rw [if_neg (by omega)]
    rw [e, e1, e2]
    refine (parse_short w A b.length c h6).mono ?_
    rintro e w' ⟨rfl, hB⟩
    exact ⟨_, rfl, World.ownsRow_nil _ _ _ _, hB⟩
  · have hb := h
    obtain ⟨A, c, rfl, hc, hcell⟩ := h
    obtain ⟨b0, off, rfl, _⟩ := hcell (by omega)
    refine parse_core w b0 off b.length c (L.numAt b 0) (L.cnt b) (b.getD 4 0).toNat (b.getD 5 0).toNat b _ _ _ _ (by omega) hc (L.numAt_lt b 0) (C.u8_lt _) (C.u8_lt _) rfl hb rfl rfl rfl rfl (Lib.hid fun q => ?_) (Lib.hid fun q1 q2 q3 q4 => ?_) (Lib.hid fun q1 q2 q3 q4 => ?_)
    · have e : L.parseE b = 2 := by unfold L.parseE; rw [if_neg h6, if_pos q]
      exact ⟨by unfold L.parseN; rw [if_neg (by omega)], by rw [e]; rfl, by unfold L.parseL; rw [if_neg (by omega)]⟩
    · have e : L.parseE b = 2 := by unfold L.parseE; rw [if_neg h6, if_neg (by omega), if_neg (by rw [q4]; simp)]
      exact ⟨by unfold L.parseN; rw [if_neg (by omega)], by rw [e]; rfl, by unfold L.parseL; rw [if_neg (by omega)]⟩
    · have e : L.parseE b = 0 := by unfold L.parseE; rw [if_neg h6, if_neg (by omega), if_pos q4]
      exact ⟨by unfold L.parseN; rw [if_pos e], by rw [e]; rfl, by unfold L.parseL; rw [if_pos e]⟩
end Go.Proofs.YtlcnefeikejcaaaGreatDoor
namespace Go.Proofs.YtlcnefeikejcaaaGreatDoor
open Go.RowKit Go.Sort Go.Maps
open D (St)
set_option maxRecDepth 100000
def rpart (d : St) (n : Nat) : Option (Int × List Int) :=
  if readE d (n : Int) ≠ 0 then none else if G.openE n (readB d (n : Int)) ≠ 0 ∨ G.openK n (readB d (n : Int)) ≠ 2 then none else
    if L.parseE (G.openB n (readB d (n : Int))) ≠ 0 then none else some (L.parseN (G.openB n (readB d (n : Int))), L.parseL (G.openB n (readB d (n : Int))))
set_option maxHeartbeats 1600000 in
theorem readpart_any (w : World) (dp g : Nat) (wv : Value) (d : St) (hd : Dsk w dp g wv d) (hT : Tab w) (n : Nat) (hn : n < 4294967296) :
    Calls Tryz.prog 100 #[.pointer (some ⟨dp, 0, none⟩), .int .u32 (n : Int)] w fun e w' => (∃ (z : Int) (v : Value) (l : List Int), e = .returned (.tuple #[.int .u32 z, v, .bool (rpart d n).isSome]) ∧ w'.ownsRow w.heap.size 31 1 v l.length (us l) ∧ ∀ y, rpart d n = some y → y = (z, l)) ∧ Below w.heap.size w w' := by
  have HD := Lib.hid (dread_any hd (n : Int))
  have HT := Lib.hid hT
  have hw : IntKind.i64.wrap (n : Int) = (n : Int) := by rw [IntKind.wrap_i64]; omega
  have HR : Hid (rpart d n = if readE d (n : Int) ≠ 0 then none else if G.openE n (readB d (n : Int)) ≠ 0 ∨ G.openK n (readB d (n : Int)) ≠ 2 then none else
    if L.parseE (G.openB n (readB d (n : Int))) ≠ 0 then none else some (L.parseN (G.openB n (readB d (n : Int))), L.parseL (G.openB n (readB d (n : Int))))) := Lib.hid rfl
  have HOP : Hid (∀ (W : World) v, Below w.heap.size w W → Byts W v (readB d (n : Int)) → Calls Tryz.prog 69 #[.int .u32 (n : Int), v] W fun e w' => ∃ v', e = .returned (.tuple #[.int .u8 (((G.openK n (readB d (n : Int))).toNat : Nat) : Int), v', .int .i64 ((G.openE n (readB d (n : Int)) : Nat) : Int)]) ∧ Byts w' v' (G.openB n (readB d (n : Int))) ∧ Below W.heap.size W w') :=
    fun W v hW hv => open_any n hn v _ W hv (hT.below hW)
  generalize rpart d n = RP at *
  clear hd hT hn
  generalize readE d (n : Int) = E at *
  generalize readB d (n : Int) = RB at *
  generalize hK : G.openK n RB = OK at *
  generalize hE : G.openE n RB = OE at *
  generalize hB : G.openB n RB = OB at *
  clear hK hE hB
  by_cases h1 : E = 0
  · subst h1
    by_cases h2 : OE = 0
    · subst h2
      by_cases h3 : OK = 2
      · subst h3
        have HP : Hid (∀ (W : World) v, Byts W v OB → Calls Tryz.prog 133 #[v] W fun e w' => ∃ u, e = .returned (.tuple #[.int .u32 (L.parseN OB), u, .int .i64 ((L.parseE OB : Nat) : Int)]) ∧ w'.ownsRow W.heap.size 31 1 u (L.parseL OB).length (us (L.parseL OB)) ∧ Below W.heap.size W w') := fun W v h => parse_any W v OB h
        have HR2 : Hid (∀ PE, L.parseE OB = PE → RP = if PE ≠ 0 then none else some (L.parseN OB, L.parseL OB)) := Lib.hid (by
          rintro PE rfl
          rw [HR.out]
          simp)
        generalize L.parseN OB = PN at *
        generalize L.parseL OB = PL at *
        generalize L.parseE OB = PE at *
        have HR3 := Lib.hid (HR2.out PE rfl)
        clear HR HR2
        go_enter Tryz.func100, Tryz.ntmps100
        go_wp2_with (first
          | (go_at_call 133; refine (HP.out _ v2 HY2.out).mono ?_; rintro e w3 ⟨u, rfl, o3, b3⟩)
          | (go_at_call 69; refine (HOP.out _ v1 HB1.out HY1.out).mono ?_; rintro e w2 ⟨v2, rfl, y2, b2⟩; have HB2 := Lib.hid (btr HB1.out b2); have HY2 := Lib.hid y2; clear y2 b2)
          | (go_at_call 28; refine HD.out.mono ?_; rintro e w1 ⟨v1, rfl, o1, b1⟩; have HB1 := Lib.hid b1; have HY1 : Hid (Byts w1 v1 RB) := Byts.own o1; clear o1 b1))
        go_ret3
        have hsz := HB2.out.size
        by_cases hp : PE = 0
        · subst hp
          have e1 : RP = some (PN, PL) := by rw [HR3.out]; simp
          rw [e1]
          exact ⟨⟨PN, u, PL, rfl, Go.Joins.ownsRow_le o3 hsz, fun y hy => by simpa using hy.symm⟩, btr HB2.out b3⟩
        · have e1 : RP = none := by rw [HR3.out, if_pos hp]
          rw [e1]
          refine ⟨⟨PN, u, PL, ?_, Go.Joins.ownsRow_le o3 hsz, fun y hy => by simp at hy⟩, btr HB2.out b3⟩
          have : (((PE : Nat) : Int) == 0) = false := by simp; omega
          simp [this]
      · have hk : ((((OK.toNat : Nat) : Int)) == 2) = false := by
          have : OK.toNat ≠ 2 := fun h => h3 (UInt8.toNat_inj.1 h)
          simp
          omega
        have hk2 : ((((OK.toNat : Nat) : Int)) != 2) = true := by simp [bne, hk]
        have e1 : Hid (RP = none) := Lib.hid (by rw [HR.out]; simp [h3])
        clear h3 HR
        generalize ((OK.toNat : Nat) : Int) = KK at *
        go_enter Tryz.func100, Tryz.ntmps100
        go_wp2_with (first
          | (go_at_call 69; refine (HOP.out _ v1 HB1.out HY1.out).mono ?_; rintro e w2 ⟨v2, rfl, y2, b2⟩; have HB2 := Lib.hid (btr HB1.out b2))
          | (go_at_call 28; refine HD.out.mono ?_; rintro e w1 ⟨v1, rfl, o1, b1⟩; have HB1 := Lib.hid b1; have HY1 : Hid (Byts w1 v1 RB) := Byts.own o1; clear o1 b1))
        go_ret3
        rw [e1.out]
        exact ⟨⟨0, _, [], rfl, World.ownsRow_nil _ _ _ _, fun y hy => by simp at hy⟩, HB2.out⟩
    · have q1 : (((OE : Nat) : Int) == 0) = false := by simp; omega
      have q2 : (((OE : Nat) : Int) != 0) = true := by simp; omega
      have e1 : Hid (RP = none) := Lib.hid (by rw [HR.out]; simp [h2])
      clear h2 HR
      go_enter Tryz.func100, Tryz.ntmps100
      go_wp2_with (first
        | (go_at_call 69; refine (HOP.out _ v1 HB1.out HY1.out).mono ?_; rintro e w2 ⟨v2, rfl, y2, b2⟩; have HB2 := Lib.hid (btr HB1.out b2))
        | (go_at_call 28; refine HD.out.mono ?_; rintro e w1 ⟨v1, rfl, o1, b1⟩; have HB1 := Lib.hid b1; have HY1 : Hid (Byts w1 v1 RB) := Byts.own o1; clear o1 b1))
      go_ret3
      rw [e1.out]
      exact ⟨⟨0, _, [], rfl, World.ownsRow_nil _ _ _ _, fun y hy => by simp at hy⟩, HB2.out⟩
  · have q1 : (E == 0) = false := by simpa using h1
    have q2 : (E != 0) = true := by simpa using h1
    have e1 : Hid (RP = none) := Lib.hid (by rw [HR.out]; simp [h1])
    clear h1 HR
    go_enter Tryz.func100, Tryz.ntmps100
    go_wp2_with (go_at_call 28; refine HD.out.mono ?_; rintro e w1 ⟨v1, rfl, o1, b1⟩)
    go_ret3
    rw [e1.out]
    exact ⟨⟨0, _, [], rfl, World.ownsRow_nil _ _ _ _, fun y hy => by simp at hy⟩, b1⟩
end Go.Proofs.YtlcnefeikejcaaaGreatDoor
namespace Go.Proofs.YtlcnefeikejcaaaGreatDoor
open Go.RowKit Go.Sort Go.Maps
open D (St)
set_option maxRecDepth 100000
def rlist (d : St) : Nat → Int → List Int → List Int → Option (List Int × List Int)
  | 0, _, _, _ => none
  | f + 1, n, P, N => if n = 0 then some (P, N) else if n < 2 ∨ n ∈ P then none else
      match rpart d n.toNat with
      | none => none
      | some (z, l) => rlist d f z (P ++ [n]) (N ++ l)
def rgood (r : List Nat) (y : List Int × List Int) : Bool := decide (((y.2.length : Nat) : Int) = ((r.getD 2 0 : Nat) : Int)) && (risB ((r.getD 0 0 : Nat) : Int) 1 y.2 && !decide (∃ x ∈ y.2, x ∈ y.1))
def rchk (r : List Nat) : Option (List Int × List Int) → Option (List Int × List Int)
  | none => none
  | some y => if rgood r y then some y else none
def rl (d : St) (r : List Nat) : Option (List Int × List Int) := rchk r (rlist d (d.safe.length + 1) ((r.getD 1 0 : Nat) : Int) [] [])
theorem parseL_rng (b : List UInt8) : ∀ x ∈ L.parseL b, 0 ≤ x ∧ x < 4294967296 := by
  unfold L.parseL
  split
  · intro x hx
    unfold L.nums at hx
    obtain ⟨i, _, rfl⟩ := List.mem_map.1 hx
    have := L.numAt_lt b (6 + 4 * i)
    omega
  · intro x hx
    simp at hx
theorem rpart_some {d : St} {n : Nat} {z : Int} {l : List Int} (h : rpart d n = some (z, l)) : n < d.safe.length ∧ l.length ≤ 123 ∧ (∀ x ∈ l, 0 ≤ x ∧ x < 4294967296) ∧ 0 ≤ z ∧ z < 4294967296 := by
  unfold rpart at h
  split at h
  · simp at h
  · rename_i h1
    split at h
    · simp at h
    · split at h
      · simp at h
      · rename_i h3
        have h3' : L.parseE (G.openB n (readB d (n : Int))) = 0 := by omega
        simp only [Option.some.injEq, Prod.mk.injEq] at h
        obtain ⟨rfl, rfl⟩ := h
        obtain ⟨_, _, p3, _, p5, p6⟩ := L.body_parse _ h3'
        refine ⟨?_, p3, parseL_rng _, p5, p6⟩
        unfold readE at h1
        split at h1
        · simp at h1
        · split at h1
          · rename_i hb
            unfold hasB at hb
            simp only [Bool.and_eq_true, decide_eq_true_eq] at hb
            omega
          · simp at h1
structure Rd (w wr : World) (bl : Nat) (v0 v1 : Value) (P N : List Int) (q : Nat) (F : Nat → Prop) (s : List Int) : Prop where
  low : Below w.heap.size w wr
  box : wr.rangeAt bl 0 [v0, v1]
  th : wr.there bl 0 2
  o0 : wr.ownsRow 0 31 1 v0 P.length (us P)
  o1 : wr.ownsRow 0 31 1 v1 N.length (us N)
  n0 : ∀ b, v0.ownBlock = some b → w.heap.size ≤ b ∧ b ≠ bl
  n1 : ∀ b, v1.ownBlock = some b → w.heap.size ≤ b ∧ b ≠ bl
  n2 : ∀ b, v0.ownBlock = some b → v1.ownBlock = some b → False
  po : Po wr q F s
  pf : ∀ b, F b → w.heap.size ≤ b ∧ b ≠ bl ∧ v0.ownBlock ≠ some b ∧ v1.ownBlock ≠ some b
  bl : w.heap.size ≤ bl
theorem Rd.blt {w wr : World} {bl : Nat} {v0 v1 : Value} {P N : List Int} {q : Nat} {F : Nat → Prop} {s : List Int} (h : Rd w wr bl v0 v1 P N q F s) : bl < wr.heap.size := World.block_lt_of_cell? wr _ (h.box 0 _ rfl)
theorem Rd.keep {w wr w5 : World} {bl : Nat} {v0 v1 : Value} {P N : List Int} {q : Nat} {F G : Nat → Prop} {s : List Int} (h : Rd w wr bl v0 v1 P N q F s) (k : Keep G wr w5) (hG : ∀ b, G b → w.heap.size ≤ b ∧ b ≠ bl ∧ v0.ownBlock ≠ some b ∧ v1.ownBlock ≠ some b ∧ ¬ F b) : Rd w w5 bl v0 v1 P N q F s :=
  ⟨h.low.trans (k.below h.low.size (fun i hi => (hG i hi).1)), range_keep h.box k (fun q => (hG _ q).2.1 rfl), there_keep h.th k (fun q => (hG _ q).2.1 rfl), own_keep h.o0 k (fun b hb q => (hG b q).2.2.1 hb), own_keep h.o1 k (fun b hb q => (hG b q).2.2.2.1 hb), h.n0, h.n1, h.n2, h.po.keep k (fun b hb q => (hG b q).2.2.2.2 hb), h.pf, h.bl⟩
theorem Rd.below {w wr w5 : World} {bl : Nat} {v0 v1 : Value} {P N : List Int} {q : Nat} {F : Nat → Prop} {s : List Int} (h : Rd w wr bl v0 v1 P N q F s) (k : Below wr.heap.size wr w5) : Rd w w5 bl v0 v1 P N q F s :=
  h.keep (G := fun _ => False) (Keep.of_below k) (fun _ q => q.elim)
theorem Rd.put {w wr w5 : World} {bl : Nat} {v0 v1 : Value} {P N : List Int} {q : Nat} {F : Nat → Prop} {s s5 : List Int} (h : Rd w wr bl v0 v1 P N q F s) (t : Turned wr w5 q F s5) : ∃ F5, Rd w w5 bl v0 v1 P N q F5 s5 := by
  obtain ⟨F5, P5, k, f⟩ := t
  have hbl := h.blt
  refine ⟨F5, h.low.trans (k.below h.low.size (fun i hi => (h.pf i hi).1)), range_keep h.box k (fun q => (h.pf _ q).2.1 rfl), there_keep h.th k (fun q => (h.pf _ q).2.1 rfl), own_keep h.o0 k (fun b hb q => (h.pf b q).2.2.1 hb), own_keep h.o1 k (fun b hb q => (h.pf b q).2.2.2 hb), h.n0, h.n1, h.n2, P5, fun b hb => ?_, h.bl⟩
  rcases f b hb with q | q
  · exact h.pf b q
  · refine ⟨Nat.le_trans h.low.size q, by omega, fun e => ?_, fun e => ?_⟩
    · have := (h.o0.lt b e).2; omega
    · have := (h.o1.lt b e).2; omega
theorem Rd.app0 {w wr w5 : World} {bl : Nat} {v0 v1 v5 : Value} {P N P5 : List Int} {q : Nat} {F : Nat → Prop} {s : List Int} {ob : Obj} (h : Rd w wr bl v0 v1 P N q F s) (g5 : (wr.alloc ob).grownBy w5 v0.ownBlock) (o5 : w5.ownsRow 0 31 1 v5 P5.length (us P5)) (f5 : ∀ b, v5.ownBlock = some b → v0.ownBlock = some b ∨ (wr.alloc ob).heap.size ≤ b) :
    (w5.there bl 0 2 ∧ w5.rangeAt bl 0 [v0, v1]) ∧ Rd w (w5.setCell ⟨bl, 0, none⟩ v5) bl v5 v1 P5 N q F s ∧ Keep (fun b => b = bl ∨ v0.ownBlock = some b) wr (w5.setCell ⟨bl, 0, none⟩ v5) := by
  have k : Keep (fun b => v0.ownBlock = some b) wr w5 := ((Keep.refl _ wr).alloc ob).grown g5 (fun k hk => .inl hk)
  have hbl := h.blt
  have t := there_keep h.th k (fun e => (h.n0 _ e).2 rfl)
  have r := range_keep h.box k (fun e => (h.n0 _ e).2 rfl)
  have ks : Keep (fun b => b = bl) w5 (w5.setCell ⟨bl, 0, none⟩ v5) := Keep.setCell (F := fun b => b = bl) (p := ⟨bl, 0, none⟩) (Keep.refl _ _) (.inl rfl) _
  have hal : (wr.alloc ob).heap.size = wr.heap.size + 1 := by simp
  have hlow := h.low.size
  have new : ∀ b, v5.ownBlock = some b → w.heap.size ≤ b ∧ b ≠ bl := fun b hb => by
    rcases f5 b hb with q | q
    · exact h.n0 b q
    · omega
  have low5 : Below w.heap.size w w5 := h.low.trans (k.below hlow (fun i hi => (h.n0 i hi).1))
  refine ⟨⟨t, r⟩, ⟨low5.trans (ks.below low5.size (fun k hk => by subst hk; exact h.bl)), ?_, World.there_setCells t bl 0 [v5], own_keep o5 ks (fun b hb e => (new b hb).2 e), own_keep (own_keep h.o1 k (fun b hb e => h.n2 b e hb)) ks (fun b hb e => (h.n1 b hb).2 e), new, h.n1, fun b hb h1 => ?_, (h.po.keep k (fun b hb e => (h.pf b hb).2.2.1 e)).keep ks (fun b hb e => (h.pf b hb).2.1 e), fun b hb => ?_, h.bl⟩, (k.mono (fun b _ hb => .inr hb)).trans ks (fun i hi => .inl (.inl hi))⟩
  · intro j u hj
    match j with
    | 0 =>
      have e : v5 = u := by simpa using hj
      rw [← e]
      exact World.cell?_setCell_same _ _ _ (r 0 _ rfl)
    | 1 =>
      rw [World.cell?_setCell_other _ _ _ _ (by simp)]
      exact r 1 u hj
    | j + 2 => simp at hj
  · rcases f5 b hb with q | q
    · exact h.n2 b q h1
    · have := (h.o1.lt b h1).2; omega
  · obtain ⟨p1, p2, p3, p4⟩ := h.pf b hb
    refine ⟨p1, p2, fun e => ?_, p4⟩
    rcases f5 b e with q | q
    · exact p3 q
    · have := h.po.lt b hb; omega
theorem Rd.nums0 {w w4 w5 w6 : World} {bl : Nat} {v0 v1 v : Value} {P N l : List Int} {q : Nat} {F : Nat → Prop} {s : List Int} (h : Rd w w4 bl v0 v1 P N q F s) (NV : Nums w5 v l) (NB : ∀ b, v.ownBlock = some b → w4.heap.size ≤ b) (k : Keep (fun b => b = bl ∨ v0.ownBlock = some b) w5 w6) : Nums w6 v l :=
  nkeep NV k (fun _ b hb e => by
    have h1 := NB b hb
    rcases e with e | e
    · have := h.blt; omega
    · have := (h.o0.lt b e).2; omega)
theorem Rd.app1 {w wr w5 : World} {bl : Nat} {v0 v1 v5 : Value} {P N N5 : List Int} {q : Nat} {F : Nat → Prop} {s : List Int} (h : Rd w wr bl v0 v1 P N q F s) (g5 : wr.grownBy w5 v1.ownBlock) (o5 : w5.ownsRow 0 31 1 v5 N5.length (us N5)) (f5 : ∀ b, v5.ownBlock = some b → v1.ownBlock = some b ∨ wr.heap.size ≤ b) :
    (w5.there bl 0 2 ∧ w5.rangeAt bl 0 [v0, v1]) ∧ Rd w (w5.setCell ⟨bl, 1, none⟩ v5) bl v0 v5 P N5 q F s := by
  have k : Keep (fun b => v1.ownBlock = some b) wr w5 := (Keep.refl _ wr).grown g5 (fun k hk => .inl hk)
  have hbl := h.blt
  have t := there_keep h.th k (fun e => (h.n1 _ e).2 rfl)
  have r := range_keep h.box k (fun e => (h.n1 _ e).2 rfl)
  have ks : Keep (fun b => b = bl) w5 (w5.setCell ⟨bl, 1, none⟩ v5) := Keep.setCell (F := fun b => b = bl) (p := ⟨bl, 1, none⟩) (Keep.refl _ _) (.inl rfl) _
  have hlow := h.low.size
  have new : ∀ b, v5.ownBlock = some b → w.heap.size ≤ b ∧ b ≠ bl := fun b hb => by
    rcases f5 b hb with q | q
    · exact h.n1 b q
    · omega
  have low5 : Below w.heap.size w w5 := h.low.trans (k.below hlow (fun i hi => (h.n1 i hi).1))
  refine ⟨⟨t, r⟩, low5.trans (ks.below low5.size (fun k hk => by subst hk; exact h.bl)), ?_, World.there_setCells t bl 1 [v5], own_keep (own_keep h.o0 k (fun b hb e => h.n2 b hb e)) ks (fun b hb e => (h.n0 b hb).2 e), own_keep o5 ks (fun b hb e => (new b hb).2 e), h.n0, new, fun b h1 hb => ?_, (h.po.keep k (fun b hb e => (h.pf b hb).2.2.2 e)).keep ks (fun b hb e => (h.pf b hb).2.1 e), fun b hb => ?_, h.bl⟩
  · intro j u hj
    match j with
    | 0 =>
      rw [World.cell?_setCell_other _ _ _ _ (by simp)]
      exact r 0 u hj
    | 1 =>
      have e : v5 = u := by simpa using hj
      rw [← e]
      exact World.cell?_setCell_same _ _ _ (r 1 _ rfl)
    | j + 2 => simp at hj
  · rcases f5 b hb with q | q
    · exact h.n2 b h1 q
    · have := (h.o0.lt b h1).2; omega
  · obtain ⟨p1, p2, p3, p4⟩ := h.pf b hb
    refine ⟨p1, p2, p3, fun e => ?_⟩
    rcases f5 b e with q | q
    · exact p4 q
    · have := h.po.lt b hb; omega
end Go.Proofs.YtlcnefeikejcaaaGreatDoor
namespace Go.Proofs.YtlcnefeikejcaaaGreatDoor
open Go.RowKit Go.Sort Go.Maps
open D (St)
set_option maxRecDepth 100000
section
variable {P : Program} {ops : Array Oper} {Q : Exit → Act → World → Prop} {S : World → Prop}
theorem lh_skip (i t : Nat) {oi : Oper} {fuel : Nat} {listed : Array Bool} {a : Act} {w : World} (hi : ops[i]? = some oi) (hd : oi.dst = some t)
    (hs : Region.noSelect ops = true) (hf : Region.free .any ops listed i = true) (hr : (Region.ready .any ops listed).contains i = true)
    (hQ : ∀ c t u a w, Q (.panic c) (Act.put a (some t) u) w → Q (.panic c) a w) (hw : Region.wanted oi (yielded ops a.tmps) = false) (hS : S w)
    (h : wpAnyH P .any ops Q S fuel (listed.setIfInBounds i true) (a.put (some t) undef) w) : wpAnyH P .any ops Q S (fuel + 1) listed a w :=
  wpAnyH_take hi hs hf hr (put_back hQ) (Or.inr ⟨hw, rfl⟩) hS (by rw [hd]; exact h)
theorem lh_opg (i : Nat) {o : Oper} {fuel : Nat} {listed : Array Bool} {a : Act} {w : World} (ho : ops[i]? = some o) (hw : Region.wanted o (yielded ops a.tmps) = true) (hr : Region.ready .any ops listed = [i])
    (h : Does P ops Q S i o fuel listed a w) : wpAnyH P .any ops Q S (fuel + 1) listed a w := by
  refine wpAnyH_all hr (by simp) (fun j hj => ?_)
  obtain rfl := List.mem_singleton.1 hj
  exact wpOp_step ho (fun K hK => by rw [if_pos hw]; exact h K (fun a' w' hb hl => hK a' w' ⟨hb, hl⟩))
end
theorem wp_store_list {op : Oper} {a : Act} {w : World} {K : Act → World → Prop} {Q : Exit → Act → World → Prop} (x y : Operand) (ho : op.op = .store 121 x y)
    (b : Nat) (A1 A2 : Option Addr) (n1 c1 n2 c2 : Nat) (hx : a.eval x = .pointer (some ⟨b, 0, none⟩)) (hy : a.eval y = .agg #[.slice A1 n1 c1, .slice A2 n2 c2]) (ht : w.there b 0 2)
    (h : ∀ w', Hid (w'.rangeAt b 0 [.slice A1 n1 c1, .slice A2 n2 c2]) → Keep (fun k => k = b) w w' → K (a.put op.dst undef) w') : op.wp Tryz.prog a w K Q :=
  wp_store_mid 121 x y ho b 0 #[.slice A1 n1 c1, .slice A2 n2 c2] hx hy ht Tryz.sizeL (by simp [Value.oneCell'])
    (h _ (World.rangeAt_setCells_same w b 0 [.slice A1 n1 c1, .slice A2 n2 c2] ht) (Keep.setCells (F := fun k => k = b) (Keep.refl _ _) (.inl rfl) 0 _))
set_option maxHeartbeats 3200000 in
theorem readlist_any (w : World) (dp g : Nat) (wv : Value) (d : St) (hd : Dsk w dp g wv d) (hT : Tab w) (sq : Nat) (r : List Nat) (hr : r.length = 27) (hlt : ∀ x ∈ r, x < 4294967296) :
    Calls Tryz.prog 58 #[.pointer (some ⟨dp, 0, none⟩), .agg (sva sq r)] w fun e w' => (∃ A0 n0 c0 A1 n1 c1, e = .returned (.tuple #[.agg #[.slice A0 n0 c0, .slice A1 n1 c1], .bool (rl d r).isSome]) ∧ ∀ y, rl d r = some y → Nums w' (.slice A0 n0 c0) y.1 ∧ Real (.slice A0 n0 c0) ∧ Nums w' (.slice A1 n1 c1) y.2 ∧ Real (.slice A1 n1 c1) ∧ (∀ b, (Value.slice A0 n0 c0).ownBlock = some b → w.heap.size ≤ b) ∧ (∀ b, (Value.slice A1 n1 c1).ownBlock = some b → w.heap.size ≤ b)) ∧ Below w.heap.size w w' := by
  have hz := (zero_of_info Tryz.zero121).1
  obtain ⟨R, hR⟩ : ∃ z, z = rl d r := ⟨_, rfl⟩
  obtain ⟨R0, hR0⟩ : ∃ z, z = rlist d (d.safe.length + 1) ((r.getD 1 0 : Nat) : Int) [] [] := ⟨_, rfl⟩
  obtain ⟨B, hB⟩ : ∃ z, z = d.safe.length := ⟨_, rfl⟩
  have HB : Hid (B ≤ 4096) := by rw [hB]; exact hd.ok.many
  have HSB := Lib.hid hB
  rw [← hB] at hR0
  have HRR : Hid (R = rchk r R0) := Lib.hid (by rw [hR, rl, ← hB, ← hR0])
  have HR0 := Lib.hid hR0.symm
  rw [← hR]
  have HRP : Hid (∀ (W : World) (n : Nat), Below w.heap.size w W → n < 4294967296 → Calls Tryz.prog 100 #[.pointer (some ⟨dp, 0, none⟩), .int .u32 (n : Int)] W fun e w' => (∃ (z : Int) (v : Value) (l : List Int), e = .returned (.tuple #[.int .u32 z, v, .bool (rpart d n).isSome]) ∧ w'.ownsRow W.heap.size 31 1 v l.length (us l) ∧ ∀ y, rpart d n = some y → y = (z, l)) ∧ Below W.heap.size W w') := fun W n hW hn => readpart_any W dp g wv d (hd.below hW) (hT.below hW) n hn
  have HS0 := Lib.hid ((Sup.made w sq r hr).below (alb (.cells zlist 121)))
  have HB0 : Hid (Below w.heap.size w ((w.alloc (.cells (sva sq r) 36)).alloc (.cells zlist 121))) := bal (alb _) _
  have hsz : Hid (((w.alloc (.cells (sva sq r) 36)).alloc (.cells zlist 121)).heap.size = w.heap.size + 2) := by show _ = _; simp
  have HT1 : Hid (((w.alloc (.cells (sva sq r) 36)).alloc (.cells zlist 121)).there (w.heap.size + 1) 0 2) := by
    have := there_newN (w.alloc (.cells (sva sq r) 36)) zlist 121 2 rfl
    have e : (w.alloc (.cells (sva sq r) 36)).heap.size = w.heap.size + 1 := by simp
    rw [e] at this
    exact this
  have N0 : Hid (r.getD 1 0 < 4294967296 ∧ r.getD 2 0 < 4294967296 ∧ r.getD 0 0 < 4294967296) := Lib.hid ⟨getD_lt hlt 1 (by omega), getD_lt hlt 2 (by omega), getD_lt hlt 0 (by omega)⟩
  obtain ⟨n9, hn9⟩ : ∃ z, z = r.getD 1 0 := ⟨_, rfl⟩
  obtain ⟨f9, hf9⟩ : ∃ z, z = r.getD 2 0 := ⟨_, rfl⟩
  obtain ⟨b9, hb9⟩ : ∃ z, z = r.getD 0 0 := ⟨_, rfl⟩
  have HN9 : Hid (n9 < 4294967296) := Lib.hid (by rw [hn9]; exact N0.out.1)
  have HC : Hid (∀ W, Below ((w.alloc (.cells (sva sq r) 36)).alloc (.cells zlist 121)).heap.size ((w.alloc (.cells (sva sq r) 36)).alloc (.cells zlist 121)) W → W.cell? ⟨w.heap.size, 2, none⟩ = some (.int .u32 ((n9 : Nat) : Int)) ∧ W.cell? ⟨w.heap.size, 3, none⟩ = some (.int .u32 ((f9 : Nat) : Int)) ∧ W.cell? ⟨w.heap.size, 1, none⟩ = some (.int .u32 ((b9 : Nat) : Int))) := fun W hW => by
    rw [hn9, hf9, hb9]
    exact ⟨(HS0.out.below hW).cell 1 (by omega), (HS0.out.below hW).cell 2 (by omega), (HS0.out.below hW).cell 0 (by omega)⟩
  rw [← hn9] at HR0
  have HF9 := Lib.hid hf9
  have HB9 := Lib.hid hb9
  clear hd hT hR hR0 hB hr hlt hn9 hf9 hb9 HS0 N0
  go_enter Tryz.func58, Tryz.ntmps58
  go_upto_region 2 with fail
  generalize (w.alloc (.cells (sva sq r) 36)).alloc (.cells zlist 121) = wb at *
  have hsn : (wb.alloc (.cells zlist 121)).heap.size = wb.heap.size + 1 := by simp
  have HX0 := Lib.hid (two_new wb zlist 121)
  have HX1 := Lib.hid (there_newN wb zlist 121 2 rfl)
  rw [hsz.out] at HX0 HX1
  go_wp2_with (go_at_call 99; refine (new_any _).mono ?_; rintro e w3 ⟨q, rfl, b3, F3, P3, f3⟩; have HBB : Hid (Below wb.heap.size wb w3) := btr (alb _) b3; obtain ⟨cL, _, _⟩ := HC.out _ HBB.out)
  have R3 : Hid (Rd wb w3 (w.heap.size + 1 + 1) (.slice none 0 0) (.slice none 0 0) [] [] q F3 []) := by
    refine ⟨HBB.out, range_keep (F := fun _ => False) HX0.out (Keep.of_below b3) (fun q => q), there_keep (F := fun _ => False) HX1.out (Keep.of_below b3) (fun q => q), World.ownsRow_nil _ _ _ _, World.ownsRow_nil _ _ _ _, fun b hb => by simp [Value.ownBlock] at hb, fun b hb => by simp [Value.ownBlock] at hb, fun b hb => by simp [Value.ownBlock] at hb, P3, fun b hb => ?_, by have := hsz.out; omega⟩
    have h1 := f3 b hb
    have h2 := hsz.out
    exact ⟨by omega, by omega, by simp [Value.ownBlock], by simp [Value.ownBlock]⟩
  clear b3 P3 f3 hsn HX0 HX1 cL HBB
  go_loopg [8] B (fun k s8 wr => ∃ (n : Nat) (v0 v1 : Value) (P N s : List Int) (F : Nat → Prop), s8 = .int .u32 (n : Int) ∧ n < 4294967296 ∧ P.length ≤ B ∧ B - P.length ≤ k ∧ Hid (Rd wb wr (w.heap.size + 1 + 1) v0 v1 P N q F s) ∧ Hid ((∀ x, x ∈ s ↔ x ∈ P) ∧ s.length = P.length ∧ ∀ x ∈ s, 2 ≤ x ∧ x < (B : Int)) ∧ Hid (N.length ≤ 123 * P.length ∧ ∀ x ∈ N, 0 ≤ x ∧ x < 4294967296) ∧ Hid (rlist d (B + 1 - P.length) (n : Int) P N = R0))
  case atStart => exact ⟨n9, _, _, [], [], [], F3, rfl, HN9.out, by simp, by simp, R3, Lib.hid ⟨by simp, rfl, by simp⟩, Lib.hid ⟨by simp, by simp⟩, HR0⟩
  case round =>
    clear R3 HR0 HN9
    obtain ⟨n, v0, v1, P, N, s, F, rfl, hn, hP1, hP2, HD, HM, HN, HL⟩ := hrel
    have HNN := Lib.hid hn
    have HP1 := Lib.hid hP1
    have HLW : Hid (Below w.heap.size w wr) := btr HB0.out (by have := HD.out.low; exact this)
    have HT2 : Hid (wr.there (w.heap.size + 1) 0 2) := there_keep (F := fun _ => False) HT1.out (Keep.of_below HD.out.low) (fun q => q)
    by_cases hn0 : n = 0
    · subst hn0
      have hz0 : ¬ ((0 : Nat) : Int) ≠ 0 := by simp
      clear HP1
      obtain ⟨A0, c0, e0⟩ := own_form HD.out.o0
      subst e0
      obtain ⟨A1, c1, e1⟩ := own_form HD.out.o1
      subst e1
      have hHB := HB.out
      have hNl := HN.out.1
      have HRE : Hid (R = if (decide (((N.length : Nat) : Int) = (f9 : Int)) && (risB (b9 : Int) 1 N && !decide (∃ x ∈ N, x ∈ P))) then some (P, N) else none) := Lib.hid (by
        have h := HL.out
        rw [show B + 1 - P.length = (B - P.length) + 1 by omega] at h
        simp only [rlist] at h
        rw [if_pos (show ((0 : Nat) : Int) = 0 from rfl)] at h
        rw [HRR.out, ← h, HF9.out, HB9.out]
        rfl)
      have hs2 := hsz.out
      have HNE0 : Hid (∀ b, (Value.slice A0 P.length c0).ownBlock = some b → w.heap.size ≤ b ∧ b ≠ w.heap.size + 1) := fun b hb => by have := (HD.out.n0 b hb).1; omega
      have HNE1 : Hid (∀ b, (Value.slice A1 N.length c1).ownBlock = some b → w.heap.size ≤ b ∧ b ≠ w.heap.size + 1) := fun b hb => by have := (HD.out.n1 b hb).1; omega
      have HV0 := Lib.hid (Nums.own HD.out.o0)
      have HV1 := Lib.hid (Nums.own HD.out.o1)
      have HE0 := Lib.hid (Real.own HD.out.o0)
      have HE1 := Lib.hid (Real.own HD.out.o1)
      have FIN : Hid (∀ W, Keep (fun k => k = w.heap.size + 1) wr W → Below w.heap.size w W ∧ Nums W (.slice A0 P.length c0) P ∧ Real (.slice A0 P.length c0) ∧ Nums W (.slice A1 N.length c1) N ∧ Real (.slice A1 N.length c1) ∧ (∀ b, (Value.slice A0 P.length c0).ownBlock = some b → w.heap.size ≤ b) ∧ (∀ b, (Value.slice A1 N.length c1).ownBlock = some b → w.heap.size ≤ b)) := fun W hW =>
        ⟨HLW.out.trans (hW.below HLW.out.size (fun k hk => by omega)), nkeep HV0.out hW (fun _ b hb e => (HNE0.out b hb).2 e), HE0.out, nkeep HV1.out hW (fun _ b hb e => (HNE1.out b hb).2 e), HE1.out, fun b hb => (HNE0.out b hb).1, fun b hb => (HNE1.out b hb).1⟩
      have HRI : Hid (∀ W, Keep (fun k => k = w.heap.size + 1) wr W → Calls Tryz.prog 101 #[.slice A1 N.length c1, .int .u32 (b9 : Int)] W fun e w' => e = .returned (.bool (risB (b9 : Int) 1 N)) ∧ W = w') := fun W hW =>
        prising_any W _ N _ (FIN.out W hW).2.2.2.1
      have HCF : Hid (∀ W, Keep (fun k => k = w.heap.size + 1) wr W → Calls Tryz.prog 102 #[.slice A1 N.length c1, .func (.func 103) #[.pointer (some ⟨q, 0, none⟩)] #[]] W fun e w' => e = .returned (.bool (decide (∃ x ∈ N, x ∈ P))) ∧ Below W.heap.size W w') := fun W hW => by
        have h := ncontainsf_any W _ N s q F (FIN.out W hW).2.2.2.1 (HD.out.po.keep hW (fun b hb e => by have := (HD.out.pf b hb).1; omega)) (fun x hx => HN.out.2 x hx)
        have e : decide (∃ x ∈ N, x ∈ s) = decide (∃ x ∈ N, x ∈ P) := by
          have e2 : (∃ x ∈ N, x ∈ s) ↔ (∃ x ∈ N, x ∈ P) := by
            constructor
            · rintro ⟨x, h1, h2⟩
              exact ⟨x, h1, (HM.out.1 x).1 h2⟩
            · rintro ⟨x, h1, h2⟩
              exact ⟨x, h1, (HM.out.1 x).2 h2⟩
          by_cases hh : ∃ x ∈ N, x ∈ P
          · rw [decide_eq_true hh, decide_eq_true (e2.2 hh)]
          · rw [decide_eq_false hh, decide_eq_false (fun z => hh (e2.1 z))]
        rw [e] at h
        exact h
      have BX : Hid (wr.rangeAt (w.heap.size + 1 + 1) 0 [.slice A0 P.length c0, .slice A1 N.length c1]) := HD.out.box
      have BX1 : Hid (wr.cell? ⟨w.heap.size + 1 + 1, 1, none⟩ = some (.slice A1 N.length c1)) := HD.out.box 1 _ rfl
      have NB : Hid (¬ (w.heap.size + 1 + 1 = w.heap.size + 1)) := Lib.hid (by omega)
      have NB0 : Hid (¬ (w.heap.size = w.heap.size + 1)) := Lib.hid (by omega)
      have C3 : Hid (wr.cell? ⟨w.heap.size, 3, none⟩ = some (.int .u32 (f9 : Int))) := (HC.out _ HD.out.low).2.1
      have C1 : Hid (wr.cell? ⟨w.heap.size, 1, none⟩ = some (.int .u32 (b9 : Int))) := (HC.out _ HD.out.low).2.2
      have HWR : Hid (IntKind.u32.wrap ((N.length : Nat) : Int) = ((N.length : Nat) : Int)) := Lib.hid (by rw [IntKind.wrap_u32]; omega)
      clear HL hHB hNl hs2 HNE0 HNE1 HV0 HV1 HE0 HE1
      generalize P.length = n0 at *
      generalize N.length = n1 at *
      generalize risB (b9 : Int) 1 N = dr at *
      generalize decide (∃ x ∈ N, x ∈ P) = dc at *
      have hmf := run_makeFunc
      by_cases hA : ((n1 : Nat) : Int) = ((f9 : Nat) : Int)
      · have HRE2 : Hid (R = if (dr && !dc) then some (P, N) else none) := Lib.hid (by rw [HRE.out, decide_eq_true hA]; rfl)
        have HA : Hid ((((n1 : Nat) : Int) == ((f9 : Nat) : Int)) = true) := Lib.hid (by simpa using hA)
        clear hA HRE
        cases dr with
        | false =>
          have HRN : Hid (R = none) := Lib.hid (by rw [HRE2.out]; rfl)
          clear HRE2
          have hS : Hid (Keep (fun k => k = w.heap.size + 1) wr wr.drew) := (Keep.refl _ _).drew
          have TU : Hid (wr.drew.there (w.heap.size + 1) 0 2) := there_keep (F := fun _ => False) HT2.out (Keep.refl _ _).drew (fun q => q)
          go_wp2_with fail
          refine lh_start 25 (fun W => Keep (fun k => k = w.heap.size + 1) wr W) rfl (by kernel_rfl) ?_
          generalize wr.drew = u at *
          refine lh_take 0 48 (v := ?_) rfl rfl (by kernel_rfl) (by kernel_rfl) (by kernel_rfl) (fun _ _ _ _ _ h => h) (by rfl) hS.out (fun W hW => ?_) ?_
          rotate_left
          · refine run_load_mid 121 (.tmp 6) ?_ (w.heap.size + 1 + 1) 0 ?_ [.slice A0 n0 c0, .slice A1 n1 c1] _ (range_keep BX.out hW NB.out) Tryz.underlying121 rfl Tryz.sizeL <;> rfl
          try simp only [Act.put, List.setIfInBounds_toArray, List.set_cons_zero, List.set_cons_succ]
          refine lh_take 1 49 (v := ?_) rfl rfl (by kernel_rfl) (by kernel_rfl) (by kernel_rfl) (fun _ _ _ _ _ h => h) (by rfl) hS.out (fun W hW => ?_) ?_
          rotate_left
          · go_simp; try rfl
          try simp only [Act.put, List.setIfInBounds_toArray, List.set_cons_zero, List.set_cons_succ]
          refine lh_take 2 50 (v := ?_) rfl rfl (by kernel_rfl) (by kernel_rfl) (by kernel_rfl) (fun _ _ _ _ _ h => h) (by rfl) hS.out (fun W hW => ?_) ?_
          rotate_left
          · have q := hW.cell BX1.out NB.out; go_simp; try rfl
          try simp only [Act.put, List.setIfInBounds_toArray, List.set_cons_zero, List.set_cons_succ]
          refine lh_take 3 51 (v := ?_) rfl rfl (by kernel_rfl) (by kernel_rfl) (by kernel_rfl) (fun _ _ _ _ _ h => h) (by rfl) hS.out (fun W hW => ?_) ?_
          rotate_left
          · go_simp; try rfl
          try simp only [Act.put, List.setIfInBounds_toArray, List.set_cons_zero, List.set_cons_succ]
          refine lh_take 4 52 (v := ?_) rfl rfl (by kernel_rfl) (by kernel_rfl) (by kernel_rfl) (fun _ _ _ _ _ h => h) (by rfl) hS.out (fun W hW => ?_) ?_
          rotate_left
          · have q := HWR.out; go_simp; try rfl
          try simp only [Act.put, List.setIfInBounds_toArray, List.set_cons_zero, List.set_cons_succ]
          refine lh_take 5 53 (v := ?_) rfl rfl (by kernel_rfl) (by kernel_rfl) (by kernel_rfl) (fun _ _ _ _ _ h => h) (by rfl) hS.out (fun W hW => ?_) ?_
          rotate_left
          · go_simp; try rfl
          try simp only [Act.put, List.setIfInBounds_toArray, List.set_cons_zero, List.set_cons_succ]
          refine lh_take 6 54 (v := ?_) rfl rfl (by kernel_rfl) (by kernel_rfl) (by kernel_rfl) (fun _ _ _ _ _ h => h) (by rfl) hS.out (fun W hW => ?_) ?_
          rotate_left
          · have q := hW.cell C3.out NB0.out; go_simp; try rfl
          try simp only [Act.put, List.setIfInBounds_toArray, List.set_cons_zero, List.set_cons_succ]
          refine lh_take 7 55 (v := .bool true) rfl rfl (by kernel_rfl) (by kernel_rfl) (by kernel_rfl) (fun _ _ _ _ _ h => h) (by rfl) hS.out (fun W hW => ?_) ?_
          · have q := HA.out; go_simp; try rfl
          try simp only [Act.put, List.setIfInBounds_toArray, List.set_cons_zero, List.set_cons_succ]
          refine lh_take 8 56 (v := ?_) rfl rfl (by kernel_rfl) (by kernel_rfl) (by kernel_rfl) (fun _ _ _ _ _ h => h) (by rfl) hS.out (fun W hW => ?_) ?_
          rotate_left
          · go_simp; try rfl
          try simp only [Act.put, List.setIfInBounds_toArray, List.set_cons_zero, List.set_cons_succ]
          refine lh_take 9 57 (v := ?_) rfl rfl (by kernel_rfl) (by kernel_rfl) (by kernel_rfl) (fun _ _ _ _ _ h => h) (by rfl) hS.out (fun W hW => ?_) ?_
          rotate_left
          · go_simp; try rfl
          try simp only [Act.put, List.setIfInBounds_toArray, List.set_cons_zero, List.set_cons_succ]
          refine lh_take 10 58 (v := ?_) rfl rfl (by kernel_rfl) (by kernel_rfl) (by kernel_rfl) (fun _ _ _ _ _ h => h) (by rfl) hS.out (fun W hW => ?_) ?_
          rotate_left
          · have q := hW.cell BX1.out NB.out; go_simp; try rfl
          try simp only [Act.put, List.setIfInBounds_toArray, List.set_cons_zero, List.set_cons_succ]
          refine lh_take 11 59 (v := ?_) rfl rfl (by kernel_rfl) (by kernel_rfl) (by kernel_rfl) (fun _ _ _ _ _ h => h) (by rfl) hS.out (fun W hW => ?_) ?_
          rotate_left
          · go_simp; try rfl
          try simp only [Act.put, List.setIfInBounds_toArray, List.set_cons_zero, List.set_cons_succ]
          refine lh_take 12 60 (v := ?_) rfl rfl (by kernel_rfl) (by kernel_rfl) (by kernel_rfl) (fun _ _ _ _ _ h => h) (by rfl) hS.out (fun W hW => ?_) ?_
          rotate_left
          · have q := hW.cell C1.out NB0.out; go_simp; try rfl
          try simp only [Act.put, List.setIfInBounds_toArray, List.set_cons_zero, List.set_cons_succ]
          refine lh_opg 13 rfl (by rfl) (by kernel_rfl) (fun K hK => ?_)
          go_simp
          refine (HRI.out _ hS.out).mono ?_
          rintro e w1 ⟨rfl, rfl⟩
          refine hK.out _ _ hS.out ?_
          clear hK K
          try simp only [Act.put, List.setIfInBounds_toArray, List.set_cons_zero, List.set_cons_succ]
          refine lh_take 14 62 (v := ?_) rfl rfl (by kernel_rfl) (by kernel_rfl) (by kernel_rfl) (fun _ _ _ _ _ h => h) (by rfl) hS.out (fun W hW => ?_) ?_
          rotate_left
          · go_simp; try rfl
          try simp only [Act.put, List.setIfInBounds_toArray, List.set_cons_zero, List.set_cons_succ]
          refine lh_take 15 63 (v := ?_) rfl rfl (by kernel_rfl) (by kernel_rfl) (by kernel_rfl) (fun _ _ _ _ _ h => h) (by rfl) hS.out (fun W hW => ?_) ?_
          rotate_left
          · go_simp; try rfl
          try simp only [Act.put, List.setIfInBounds_toArray, List.set_cons_zero, List.set_cons_succ]
          refine lh_skip 16 64 rfl rfl (by kernel_rfl) (by kernel_rfl) (by kernel_rfl) (fun _ _ _ _ _ h => h) (by rfl) hS.out ?_
          try simp only [Act.put, List.setIfInBounds_toArray, List.set_cons_zero, List.set_cons_succ]
          refine lh_skip 17 65 rfl rfl (by kernel_rfl) (by kernel_rfl) (by kernel_rfl) (fun _ _ _ _ _ h => h) (by rfl) hS.out ?_
          try simp only [Act.put, List.setIfInBounds_toArray, List.set_cons_zero, List.set_cons_succ]
          refine lh_skip 18 66 rfl rfl (by kernel_rfl) (by kernel_rfl) (by kernel_rfl) (fun _ _ _ _ _ h => h) (by rfl) hS.out ?_
          try simp only [Act.put, List.setIfInBounds_toArray, List.set_cons_zero, List.set_cons_succ]
          refine lh_skip 19 67 rfl rfl (by kernel_rfl) (by kernel_rfl) (by kernel_rfl) (fun _ _ _ _ _ h => h) (by rfl) hS.out ?_
          try simp only [Act.put, List.setIfInBounds_toArray, List.set_cons_zero, List.set_cons_succ]
          refine lh_skip 20 68 rfl rfl (by kernel_rfl) (by kernel_rfl) (by kernel_rfl) (fun _ _ _ _ _ h => h) (by rfl) hS.out ?_
          try simp only [Act.put, List.setIfInBounds_toArray, List.set_cons_zero, List.set_cons_succ]
          refine lh_skip 21 69 rfl rfl (by kernel_rfl) (by kernel_rfl) (by kernel_rfl) (fun _ _ _ _ _ h => h) (by rfl) hS.out ?_
          try simp only [Act.put, List.setIfInBounds_toArray, List.set_cons_zero, List.set_cons_succ]
          refine lh_take 22 70 (v := ?_) rfl rfl (by kernel_rfl) (by kernel_rfl) (by kernel_rfl) (fun _ _ _ _ _ h => h) (by rfl) hS.out (fun W hW => ?_) ?_
          rotate_left
          · go_simp; try rfl
          try simp only [Act.put, List.setIfInBounds_toArray, List.set_cons_zero, List.set_cons_succ]
          refine lh_one 23 rfl rfl (by kernel_rfl) (fun K hK => ?_)
          refine wp_store_list (.tmp 4) (.tmp 48) rfl (w.heap.size + 1) A0 A1 n0 c0 n1 c1 rfl rfl TU.out ?_
          intro w6 HW k6
          have hS6 : Hid (Keep (fun k => k = w.heap.size + 1) wr w6) := hS.out.trans k6 (fun i hi => .inl hi)
          refine hK.out _ _ hS6.out ?_
          clear hK K hS
          have hS := hS6
          try simp only [Act.put, List.setIfInBounds_toArray]
          refine lh_take 24 5 (v := ?_) rfl rfl (by kernel_rfl) (by kernel_rfl) (by kernel_rfl) (fun _ _ _ _ _ h => h) (by rfl) hS.out (fun W hW => ?_) ?_
          rotate_left
          · go_simp; try rfl
          try simp only [Act.put]
          refine lh_done (by kernel_rfl) ?_
          go_wp2
          exact bodyPost_ret (results_list rfl _ _ (w.heap.size + 1) A0 A1 n0 c0 n1 c1 _ rfl rfl HW.out) rfl ⟨⟨_, _, _, _, _, _, by rw [HRN.out]; rfl, fun y1 y2 hy => by rw [HRN.out] at hy; simp at hy⟩, (FIN.out _ hS.out).1⟩
        | true =>
          have HRD : Hid (R = if (!dc) then some (P, N) else none) := Lib.hid (by rw [HRE2.out]; rfl)
          clear HRE2
          have hS : Hid (Keep (fun k => k = w.heap.size + 1) wr wr.drew) := (Keep.refl _ _).drew
          have TU : Hid (wr.drew.there (w.heap.size + 1) 0 2) := there_keep (F := fun _ => False) HT2.out (Keep.refl _ _).drew (fun q => q)
          go_wp2_with fail
          refine lh_start 25 (fun W => Keep (fun k => k = w.heap.size + 1) wr W) rfl (by kernel_rfl) ?_
          generalize wr.drew = u at *
          refine lh_take 0 48 (v := ?_) rfl rfl (by kernel_rfl) (by kernel_rfl) (by kernel_rfl) (fun _ _ _ _ _ h => h) (by rfl) hS.out (fun W hW => ?_) ?_
          rotate_left
          · refine run_load_mid 121 (.tmp 6) ?_ (w.heap.size + 1 + 1) 0 ?_ [.slice A0 n0 c0, .slice A1 n1 c1] _ (range_keep BX.out hW NB.out) Tryz.underlying121 rfl Tryz.sizeL <;> rfl
          try simp only [Act.put, List.setIfInBounds_toArray, List.set_cons_zero, List.set_cons_succ]
          refine lh_take 1 49 (v := ?_) rfl rfl (by kernel_rfl) (by kernel_rfl) (by kernel_rfl) (fun _ _ _ _ _ h => h) (by rfl) hS.out (fun W hW => ?_) ?_
          rotate_left
          · go_simp; try rfl
          try simp only [Act.put, List.setIfInBounds_toArray, List.set_cons_zero, List.set_cons_succ]
          refine lh_take 2 50 (v := ?_) rfl rfl (by kernel_rfl) (by kernel_rfl) (by kernel_rfl) (fun _ _ _ _ _ h => h) (by rfl) hS.out (fun W hW => ?_) ?_
          rotate_left
          · have q := hW.cell BX1.out NB.out; go_simp; try rfl
          try simp only [Act.put, List.setIfInBounds_toArray, List.set_cons_zero, List.set_cons_succ]
          refine lh_take 3 51 (v := ?_) rfl rfl (by kernel_rfl) (by kernel_rfl) (by kernel_rfl) (fun _ _ _ _ _ h => h) (by rfl) hS.out (fun W hW => ?_) ?_
          rotate_left
          · go_simp; try rfl
          try simp only [Act.put, List.setIfInBounds_toArray, List.set_cons_zero, List.set_cons_succ]
          refine lh_take 4 52 (v := ?_) rfl rfl (by kernel_rfl) (by kernel_rfl) (by kernel_rfl) (fun _ _ _ _ _ h => h) (by rfl) hS.out (fun W hW => ?_) ?_
          rotate_left
          · have q := HWR.out; go_simp; try rfl
          try simp only [Act.put, List.setIfInBounds_toArray, List.set_cons_zero, List.set_cons_succ]
          refine lh_take 5 53 (v := ?_) rfl rfl (by kernel_rfl) (by kernel_rfl) (by kernel_rfl) (fun _ _ _ _ _ h => h) (by rfl) hS.out (fun W hW => ?_) ?_
          rotate_left
          · go_simp; try rfl
          try simp only [Act.put, List.setIfInBounds_toArray, List.set_cons_zero, List.set_cons_succ]
          refine lh_take 6 54 (v := ?_) rfl rfl (by kernel_rfl) (by kernel_rfl) (by kernel_rfl) (fun _ _ _ _ _ h => h) (by rfl) hS.out (fun W hW => ?_) ?_
          rotate_left
          · have q := hW.cell C3.out NB0.out; go_simp; try rfl
          try simp only [Act.put, List.setIfInBounds_toArray, List.set_cons_zero, List.set_cons_succ]
          refine lh_take 7 55 (v := .bool true) rfl rfl (by kernel_rfl) (by kernel_rfl) (by kernel_rfl) (fun _ _ _ _ _ h => h) (by rfl) hS.out (fun W hW => ?_) ?_
          · have q := HA.out; go_simp; try rfl
          try simp only [Act.put, List.setIfInBounds_toArray, List.set_cons_zero, List.set_cons_succ]
          refine lh_take 8 56 (v := ?_) rfl rfl (by kernel_rfl) (by kernel_rfl) (by kernel_rfl) (fun _ _ _ _ _ h => h) (by rfl) hS.out (fun W hW => ?_) ?_
          rotate_left
          · go_simp; try rfl
          try simp only [Act.put, List.setIfInBounds_toArray, List.set_cons_zero, List.set_cons_succ]
          refine lh_take 9 57 (v := ?_) rfl rfl (by kernel_rfl) (by kernel_rfl) (by kernel_rfl) (fun _ _ _ _ _ h => h) (by rfl) hS.out (fun W hW => ?_) ?_
          rotate_left
          · go_simp; try rfl
          try simp only [Act.put, List.setIfInBounds_toArray, List.set_cons_zero, List.set_cons_succ]
          refine lh_take 10 58 (v := ?_) rfl rfl (by kernel_rfl) (by kernel_rfl) (by kernel_rfl) (fun _ _ _ _ _ h => h) (by rfl) hS.out (fun W hW => ?_) ?_
          rotate_left
          · have q := hW.cell BX1.out NB.out; go_simp; try rfl
          try simp only [Act.put, List.setIfInBounds_toArray, List.set_cons_zero, List.set_cons_succ]
          refine lh_take 11 59 (v := ?_) rfl rfl (by kernel_rfl) (by kernel_rfl) (by kernel_rfl) (fun _ _ _ _ _ h => h) (by rfl) hS.out (fun W hW => ?_) ?_
          rotate_left
          · go_simp; try rfl
          try simp only [Act.put, List.setIfInBounds_toArray, List.set_cons_zero, List.set_cons_succ]
          refine lh_take 12 60 (v := ?_) rfl rfl (by kernel_rfl) (by kernel_rfl) (by kernel_rfl) (fun _ _ _ _ _ h => h) (by rfl) hS.out (fun W hW => ?_) ?_
          rotate_left
          · have q := hW.cell C1.out NB0.out; go_simp; try rfl
          try simp only [Act.put, List.setIfInBounds_toArray, List.set_cons_zero, List.set_cons_succ]
          refine lh_opg 13 rfl (by rfl) (by kernel_rfl) (fun K hK => ?_)
          go_simp
          refine (HRI.out _ hS.out).mono ?_
          rintro e w1 ⟨rfl, rfl⟩
          refine hK.out _ _ hS.out ?_
          clear hK K
          try simp only [Act.put, List.setIfInBounds_toArray, List.set_cons_zero, List.set_cons_succ]
          refine lh_take 14 62 (v := ?_) rfl rfl (by kernel_rfl) (by kernel_rfl) (by kernel_rfl) (fun _ _ _ _ _ h => h) (by rfl) hS.out (fun W hW => ?_) ?_
          rotate_left
          · go_simp; try rfl
          try simp only [Act.put, List.setIfInBounds_toArray, List.set_cons_zero, List.set_cons_succ]
          refine lh_take 15 63 (v := ?_) rfl rfl (by kernel_rfl) (by kernel_rfl) (by kernel_rfl) (fun _ _ _ _ _ h => h) (by rfl) hS.out (fun W hW => ?_) ?_
          rotate_left
          · go_simp; try rfl
          try simp only [Act.put, List.setIfInBounds_toArray, List.set_cons_zero, List.set_cons_succ]
          refine lh_take 16 64 (v := ?_) rfl rfl (by kernel_rfl) (by kernel_rfl) (by kernel_rfl) (fun _ _ _ _ _ h => h) (by rfl) hS.out (fun W hW => ?_) ?_
          rotate_left
          · go_simp; try rfl
          try simp only [Act.put, List.setIfInBounds_toArray, List.set_cons_zero, List.set_cons_succ]
          refine lh_take 17 65 (v := ?_) rfl rfl (by kernel_rfl) (by kernel_rfl) (by kernel_rfl) (fun _ _ _ _ _ h => h) (by rfl) hS.out (fun W hW => ?_) ?_
          rotate_left
          · have q := hW.cell BX1.out NB.out; go_simp; try rfl
          try simp only [Act.put, List.setIfInBounds_toArray, List.set_cons_zero, List.set_cons_succ]
          refine lh_take 18 66 (v := ?_) rfl rfl (by kernel_rfl) (by kernel_rfl) (by kernel_rfl) (fun _ _ _ _ _ h => h) (by rfl) hS.out (fun W hW => ?_) ?_
          rotate_left
          · go_simp; try rfl
          try simp only [Act.put, List.setIfInBounds_toArray, List.set_cons_zero, List.set_cons_succ]
          refine lh_take 19 67 (v := ?_) rfl rfl (by kernel_rfl) (by kernel_rfl) (by kernel_rfl) (fun _ _ _ _ _ h => h) (by rfl) hS.out (fun W hW => ?_) ?_
          rotate_left
          · have q := hmf; go_simp; try rfl
          try simp only [Act.put, List.setIfInBounds_toArray, List.set_cons_zero, List.set_cons_succ]
          refine lh_opg 20 rfl (by rfl) (by kernel_rfl) (fun K hK => ?_)
          go_simp
          refine (HCF.out _ hS.out).mono ?_
          rintro e w2 ⟨rfl, b2⟩
          have hS2 : Hid (Keep (fun k => k = w.heap.size + 1) wr w2) := hS.out.step b2
          have TU2 : Hid (w2.there (w.heap.size + 1) 0 2) := there_keep (F := fun _ => False) TU.out (Keep.of_below b2) (fun q => q)
          refine hK.out _ _ hS2.out ?_
          clear hK K TU hS b2
          have TU := TU2
          have hS := hS2
          clear TU2 hS2
          try simp only [Act.put, List.setIfInBounds_toArray, List.set_cons_zero, List.set_cons_succ]
          refine lh_take 21 69 (v := ?_) rfl rfl (by kernel_rfl) (by kernel_rfl) (by kernel_rfl) (fun _ _ _ _ _ h => h) (by rfl) hS.out (fun W hW => ?_) ?_
          rotate_left
          · go_simp; try rfl
          try simp only [Act.put, List.setIfInBounds_toArray, List.set_cons_zero, List.set_cons_succ]
          refine lh_take 22 70 (v := ?_) rfl rfl (by kernel_rfl) (by kernel_rfl) (by kernel_rfl) (fun _ _ _ _ _ h => h) (by rfl) hS.out (fun W hW => ?_) ?_
          rotate_left
          · go_simp; try rfl
          try simp only [Act.put, List.setIfInBounds_toArray, List.set_cons_zero, List.set_cons_succ]
          refine lh_one 23 rfl rfl (by kernel_rfl) (fun K hK => ?_)
          refine wp_store_list (.tmp 4) (.tmp 48) rfl (w.heap.size + 1) A0 A1 n0 c0 n1 c1 rfl rfl TU.out ?_
          intro w6 HW k6
          have hS6 : Hid (Keep (fun k => k = w.heap.size + 1) wr w6) := hS.out.trans k6 (fun i hi => .inl hi)
          refine hK.out _ _ hS6.out ?_
          clear hK K hS
          have hS := hS6
          try simp only [Act.put, List.setIfInBounds_toArray]
          refine lh_take 24 5 (v := ?_) rfl rfl (by kernel_rfl) (by kernel_rfl) (by kernel_rfl) (fun _ _ _ _ _ h => h) (by rfl) hS.out (fun W hW => ?_) ?_
          rotate_left
          · go_simp; try rfl
          try simp only [Act.put]
          refine lh_done (by kernel_rfl) ?_
          go_wp2
          exact bodyPost_ret (results_list rfl _ _ (w.heap.size + 1) A0 A1 n0 c0 n1 c1 _ rfl rfl HW.out) rfl ⟨⟨_, _, _, _, _, _, by rw [HRD.out]; cases dc <;> rfl, fun y1 y2 hy => by
            rw [HRD.out] at hy
            cases dc with
            | true => simp at hy
            | false =>
              simp only [Bool.not_false, if_true, Option.some.injEq, Prod.mk.injEq] at hy
              obtain ⟨rfl, rfl⟩ := hy
              exact (FIN.out _ hS.out).2⟩, (FIN.out _ hS.out).1⟩
      · have HRN : Hid (R = none) := Lib.hid (by rw [HRE.out, decide_eq_false hA]; rfl)
        have HA : Hid ((((n1 : Nat) : Int) == ((f9 : Nat) : Int)) = false) := Lib.hid (by simpa using hA)
        clear hA HRE
        have hS : Hid (Keep (fun k => k = w.heap.size + 1) wr wr.drew) := (Keep.refl _ _).drew
        have TU : Hid (wr.drew.there (w.heap.size + 1) 0 2) := there_keep (F := fun _ => False) HT2.out (Keep.refl _ _).drew (fun q => q)
        go_wp2_with fail
        refine lh_start 25 (fun W => Keep (fun k => k = w.heap.size + 1) wr W) rfl (by kernel_rfl) ?_
        generalize wr.drew = u at *
        refine lh_take 0 48 (v := ?_) rfl rfl (by kernel_rfl) (by kernel_rfl) (by kernel_rfl) (fun _ _ _ _ _ h => h) (by rfl) hS.out (fun W hW => ?_) ?_
        rotate_left
        · refine run_load_mid 121 (.tmp 6) ?_ (w.heap.size + 1 + 1) 0 ?_ [.slice A0 n0 c0, .slice A1 n1 c1] _ (range_keep BX.out hW NB.out) Tryz.underlying121 rfl Tryz.sizeL <;> rfl
        try simp only [Act.put, List.setIfInBounds_toArray, List.set_cons_zero, List.set_cons_succ]
        refine lh_take 1 49 (v := ?_) rfl rfl (by kernel_rfl) (by kernel_rfl) (by kernel_rfl) (fun _ _ _ _ _ h => h) (by rfl) hS.out (fun W hW => ?_) ?_
        rotate_left
        · go_simp; try rfl
        try simp only [Act.put, List.setIfInBounds_toArray, List.set_cons_zero, List.set_cons_succ]
        refine lh_take 2 50 (v := ?_) rfl rfl (by kernel_rfl) (by kernel_rfl) (by kernel_rfl) (fun _ _ _ _ _ h => h) (by rfl) hS.out (fun W hW => ?_) ?_
        rotate_left
        · have q := hW.cell BX1.out NB.out; go_simp; try rfl
        try simp only [Act.put, List.setIfInBounds_toArray, List.set_cons_zero, List.set_cons_succ]
        refine lh_take 3 51 (v := ?_) rfl rfl (by kernel_rfl) (by kernel_rfl) (by kernel_rfl) (fun _ _ _ _ _ h => h) (by rfl) hS.out (fun W hW => ?_) ?_
        rotate_left
        · go_simp; try rfl
        try simp only [Act.put, List.setIfInBounds_toArray, List.set_cons_zero, List.set_cons_succ]
        refine lh_take 4 52 (v := ?_) rfl rfl (by kernel_rfl) (by kernel_rfl) (by kernel_rfl) (fun _ _ _ _ _ h => h) (by rfl) hS.out (fun W hW => ?_) ?_
        rotate_left
        · have q := HWR.out; go_simp; try rfl
        try simp only [Act.put, List.setIfInBounds_toArray, List.set_cons_zero, List.set_cons_succ]
        refine lh_take 5 53 (v := ?_) rfl rfl (by kernel_rfl) (by kernel_rfl) (by kernel_rfl) (fun _ _ _ _ _ h => h) (by rfl) hS.out (fun W hW => ?_) ?_
        rotate_left
        · go_simp; try rfl
        try simp only [Act.put, List.setIfInBounds_toArray, List.set_cons_zero, List.set_cons_succ]
        refine lh_take 6 54 (v := ?_) rfl rfl (by kernel_rfl) (by kernel_rfl) (by kernel_rfl) (fun _ _ _ _ _ h => h) (by rfl) hS.out (fun W hW => ?_) ?_
        rotate_left
        · have q := hW.cell C3.out NB0.out; go_simp; try rfl
        try simp only [Act.put, List.setIfInBounds_toArray, List.set_cons_zero, List.set_cons_succ]
        refine lh_take 7 55 (v := .bool false) rfl rfl (by kernel_rfl) (by kernel_rfl) (by kernel_rfl) (fun _ _ _ _ _ h => h) (by rfl) hS.out (fun W hW => ?_) ?_
        · have q := HA.out; go_simp; try rfl
        try simp only [Act.put, List.setIfInBounds_toArray, List.set_cons_zero, List.set_cons_succ]
        refine lh_take 8 56 (v := ?_) rfl rfl (by kernel_rfl) (by kernel_rfl) (by kernel_rfl) (fun _ _ _ _ _ h => h) (by rfl) hS.out (fun W hW => ?_) ?_
        rotate_left
        · go_simp; try rfl
        try simp only [Act.put, List.setIfInBounds_toArray, List.set_cons_zero, List.set_cons_succ]
        refine lh_skip 9 57 rfl rfl (by kernel_rfl) (by kernel_rfl) (by kernel_rfl) (fun _ _ _ _ _ h => h) (by rfl) hS.out ?_
        try simp only [Act.put, List.setIfInBounds_toArray, List.set_cons_zero, List.set_cons_succ]
        refine lh_skip 10 58 rfl rfl (by kernel_rfl) (by kernel_rfl) (by kernel_rfl) (fun _ _ _ _ _ h => h) (by rfl) hS.out ?_
        try simp only [Act.put, List.setIfInBounds_toArray, List.set_cons_zero, List.set_cons_succ]
        refine lh_skip 11 59 rfl rfl (by kernel_rfl) (by kernel_rfl) (by kernel_rfl) (fun _ _ _ _ _ h => h) (by rfl) hS.out ?_
        try simp only [Act.put, List.setIfInBounds_toArray, List.set_cons_zero, List.set_cons_succ]
        refine lh_skip 12 60 rfl rfl (by kernel_rfl) (by kernel_rfl) (by kernel_rfl) (fun _ _ _ _ _ h => h) (by rfl) hS.out ?_
        try simp only [Act.put, List.setIfInBounds_toArray, List.set_cons_zero, List.set_cons_succ]
        refine lh_skip 13 61 rfl rfl (by kernel_rfl) (by kernel_rfl) (by kernel_rfl) (fun _ _ _ _ _ h => h) (by rfl) hS.out ?_
        try simp only [Act.put, List.setIfInBounds_toArray, List.set_cons_zero, List.set_cons_succ]
        refine lh_take 14 62 (v := ?_) rfl rfl (by kernel_rfl) (by kernel_rfl) (by kernel_rfl) (fun _ _ _ _ _ h => h) (by rfl) hS.out (fun W hW => ?_) ?_
        rotate_left
        · go_simp; try rfl
        try simp only [Act.put, List.setIfInBounds_toArray, List.set_cons_zero, List.set_cons_succ]
        refine lh_take 15 63 (v := ?_) rfl rfl (by kernel_rfl) (by kernel_rfl) (by kernel_rfl) (fun _ _ _ _ _ h => h) (by rfl) hS.out (fun W hW => ?_) ?_
        rotate_left
        · go_simp; try rfl
        try simp only [Act.put, List.setIfInBounds_toArray, List.set_cons_zero, List.set_cons_succ]
        refine lh_skip 16 64 rfl rfl (by kernel_rfl) (by kernel_rfl) (by kernel_rfl) (fun _ _ _ _ _ h => h) (by rfl) hS.out ?_
        try simp only [Act.put, List.setIfInBounds_toArray, List.set_cons_zero, List.set_cons_succ]
        refine lh_skip 17 65 rfl rfl (by kernel_rfl) (by kernel_rfl) (by kernel_rfl) (fun _ _ _ _ _ h => h) (by rfl) hS.out ?_
        try simp only [Act.put, List.setIfInBounds_toArray, List.set_cons_zero, List.set_cons_succ]
        refine lh_skip 18 66 rfl rfl (by kernel_rfl) (by kernel_rfl) (by kernel_rfl) (fun _ _ _ _ _ h => h) (by rfl) hS.out ?_
        try simp only [Act.put, List.setIfInBounds_toArray, List.set_cons_zero, List.set_cons_succ]
        refine lh_skip 19 67 rfl rfl (by kernel_rfl) (by kernel_rfl) (by kernel_rfl) (fun _ _ _ _ _ h => h) (by rfl) hS.out ?_
        try simp only [Act.put, List.setIfInBounds_toArray, List.set_cons_zero, List.set_cons_succ]
        refine lh_skip 20 68 rfl rfl (by kernel_rfl) (by kernel_rfl) (by kernel_rfl) (fun _ _ _ _ _ h => h) (by rfl) hS.out ?_
        try simp only [Act.put, List.setIfInBounds_toArray, List.set_cons_zero, List.set_cons_succ]
        refine lh_skip 21 69 rfl rfl (by kernel_rfl) (by kernel_rfl) (by kernel_rfl) (fun _ _ _ _ _ h => h) (by rfl) hS.out ?_
        try simp only [Act.put, List.setIfInBounds_toArray, List.set_cons_zero, List.set_cons_succ]
        refine lh_take 22 70 (v := ?_) rfl rfl (by kernel_rfl) (by kernel_rfl) (by kernel_rfl) (fun _ _ _ _ _ h => h) (by rfl) hS.out (fun W hW => ?_) ?_
        rotate_left
        · go_simp; try rfl
        try simp only [Act.put, List.setIfInBounds_toArray, List.set_cons_zero, List.set_cons_succ]
        refine lh_one 23 rfl rfl (by kernel_rfl) (fun K hK => ?_)
        refine wp_store_list (.tmp 4) (.tmp 48) rfl (w.heap.size + 1) A0 A1 n0 c0 n1 c1 rfl rfl TU.out ?_
        intro w6 HW k6
        have hS6 : Hid (Keep (fun k => k = w.heap.size + 1) wr w6) := hS.out.trans k6 (fun i hi => .inl hi)
        refine hK.out _ _ hS6.out ?_
        clear hK K hS
        have hS := hS6
        try simp only [Act.put, List.setIfInBounds_toArray]
        refine lh_take 24 5 (v := ?_) rfl rfl (by kernel_rfl) (by kernel_rfl) (by kernel_rfl) (fun _ _ _ _ _ h => h) (by rfl) hS.out (fun W hW => ?_) ?_
        rotate_left
        · go_simp; try rfl
        try simp only [Act.put]
        refine lh_done (by kernel_rfl) ?_
        go_wp2
        exact bodyPost_ret (results_list rfl _ _ (w.heap.size + 1) A0 A1 n0 c0 n1 c1 _ rfl rfl HW.out) rfl ⟨⟨_, _, _, _, _, _, by rw [HRN.out]; rfl, fun y1 y2 hy => by rw [HRN.out] at hy; simp at hy⟩, (FIN.out _ hS.out).1⟩
    · have hne : ((n : Nat) : Int) ≠ 0 := by omega
      have hbne : (((n : Nat) : Int) != 0) = true := bne_iff_ne.2 hne
      obtain ⟨f, hf⟩ : ∃ f, f = B - P.length := ⟨_, rfl⟩
      have HL1 : Hid ((if (n : Int) < 2 ∨ (n : Int) ∈ P then none else match rpart d n with | none => none | some (z, l) => rlist d f z (P ++ [(n : Int)]) (N ++ l)) = R0) := by
        have h := HL.out
        rw [show B + 1 - P.length = f + 1 by omega] at h
        simp only [rlist] at h
        rw [if_neg hne, Int.toNat_natCast] at h
        exact h
      clear HL
      by_cases hn2 : (n : Int) < 2
      · have HRN : Hid (R = none) := Lib.hid (by rw [HRR.out, ← HL1.out, if_pos (.inl hn2)]; rfl)
        have hb := run_build_list
        go_wp2_with (first
          | (refine wpList_store_list rfl (.tmp 4) (.tmp 25) rfl (w.heap.size + 1) none none 0 0 0 0 rfl rfl HT2.out ?_))
        intro w6 HW k6
        go_wp2
        exact bodyPost_ret (results_list rfl _ _ (w.heap.size + 1) none none 0 0 0 0 _ rfl rfl HW.out) rfl ⟨⟨_, _, _, _, _, _, by rw [HRN.out]; rfl, fun y hy => by rw [HRN.out] at hy; simp at hy⟩, HLW.out.trans (k6.below HLW.out.size (fun k hk => by omega))⟩
      · obtain ⟨M1, M2, M3⟩ := HM.out
        have hsl : s.length < 65535 := by have := HB.out; omega
        have HPU := Lib.hid (put_any wr q F s (n : Int) HD.out.po (by omega) (by omega) hsl)
        by_cases hm : (n : Int) ∈ P
        · have HRN : Hid (R = none) := Lib.hid (by rw [HRR.out, ← HL1.out, if_pos (.inr hm)]; rfl)
          rw [decide_eq_true ((M1 _).2 hm)] at HPU
          have hb := run_build_list
          clear M1 M2 M3 hm HL1
          go_wp2_with (first
            | (refine wpList_store_list rfl (.tmp 4) (.tmp 25) rfl (w.heap.size + 1) none none 0 0 0 0 rfl rfl HT4.out ?_)
            | (go_at_call 89; refine HPU.out.mono ?_; rintro e w4 ⟨rfl, t4⟩; obtain ⟨F4, R4⟩ := HD.out.put t4; have HD4 := Lib.hid R4; have HLW4 : Hid (Below w.heap.size w w4) := btr HB0.out (by have := HD4.out.low; exact this); have HT4 : Hid (w4.there (w.heap.size + 1) 0 2) := there_keep (F := fun _ => False) HT1.out (Keep.of_below HD4.out.low) (fun q => q)))
          intro w6 HW k6
          go_wp2
          exact bodyPost_ret (results_list rfl _ _ (w.heap.size + 1) none none 0 0 0 0 _ rfl rfl HW.out) rfl ⟨⟨_, _, _, _, _, _, by rw [HRN.out]; rfl, fun y hy => by rw [HRN.out] at hy; simp at hy⟩, HLW4.out.trans (k6.below HLW4.out.size (fun k hk => by omega))⟩
        · have hms : (n : Int) ∉ s := fun e => hm ((M1 _).1 e)
          rw [decide_eq_false hms] at HPU
          have HQ := Lib.hid (fun W hW => HRP.out W n hW hn)
          have HSM := Lib.hid (fun z l (h : rpart d n = some (z, l)) => rpart_some h)
          have HL2 : Hid ((match rpart d n with | none => none | some (z, l) => rlist d f z (P ++ [(n : Int)]) (N ++ l)) = R0) := by
            have h := HL1.out
            rw [if_neg (by rintro (h | h); exact hn2 h; exact hm h)] at h
            exact h
          have HMS := Lib.hid hms
          clear HL1 HRP
          generalize rpart d n = rp at *
          cases rp with
          | none =>
            have HRN : Hid (R = none) := Lib.hid (by rw [HRR.out, ← HL2.out]; rfl)
            have hb := run_build_list
            clear M1 M2 M3 hm hms HL2 HSM
            go_wp2_with (first
              | (refine wpList_store_list rfl (.tmp 4) (.tmp 35) rfl (w.heap.size + 1) none none 0 0 0 0 rfl rfl HT5.out ?_)
              | (go_at_call 100; refine (HQ.out _ HLW4.out).mono ?_; rintro e w5 ⟨⟨z, v, l, rfl, -, -⟩, b5⟩; have HLW5 := Lib.hid (btr HLW4.out b5); have HT5 : Hid (w5.there (w.heap.size + 1) 0 2) := there_keep (F := fun _ => False) HT4.out (Keep.of_below b5) (fun q => q))
              | (go_at_call 89; refine HPU.out.mono ?_; rintro e w4 ⟨rfl, t4⟩; obtain ⟨F4, R4⟩ := HD.out.put t4; have HD4 := Lib.hid R4; have HLW4 : Hid (Below w.heap.size w w4) := btr HB0.out (by have := HD4.out.low; exact this); have HT4 : Hid (w4.there (w.heap.size + 1) 0 2) := there_keep (F := fun _ => False) HT1.out (Keep.of_below HD4.out.low) (fun q => q)))
            intro w6 HW k6
            go_wp2
            exact bodyPost_ret (results_list rfl _ _ (w.heap.size + 1) none none 0 0 0 0 _ rfl rfl HW.out) rfl ⟨⟨_, _, _, _, _, _, by rw [HRN.out]; rfl, fun y hy => by rw [HRN.out] at hy; simp at hy⟩, HLW5.out.trans (k6.below HLW5.out.size (fun k hk => by omega))⟩
          | some y0 =>
            obtain ⟨z0, l0⟩ := y0
            obtain ⟨S1, S2, S3, S4, S5⟩ := HSM.out _ _ rfl
            have hnB : n < B := by have := HSB.out; omega
            have hPl : P.length + 1 ≤ B := by
              have h1 := ris_len (a := 2) (B := (B : Int)) (HD.out.po.ris.put (n := (n : Int)) (by omega) (by omega)).up (fun x hx => by
                rcases (mem_putS _ x _).1 hx with e | e
                · omega
                · exact M3 x e) (by omega)
              rw [len_putS HD.out.po.ris, if_neg hms] at h1
              omega
            obtain ⟨A0, c0, e0⟩ := own_form HD.out.o0
            subst e0
            obtain ⟨A1, c1, e1⟩ := own_form HD.out.o1
            subst e1
            have hNl := HN.out.1
            have hBB := HB.out
            have hlen0 : P.length + [((n : Nat) : Int)].length ≤ 1000000 := by simp; omega
            have hlen1 : N.length + l0.length ≤ 1000000 := by omega
            have HMM : Hid ((∀ x, x ∈ putS (n : Int) s ↔ x ∈ P ++ [(n : Int)]) ∧ (putS (n : Int) s).length = (P ++ [(n : Int)]).length ∧ ∀ x ∈ putS (n : Int) s, 2 ≤ x ∧ x < (B : Int)) := by
              refine ⟨fun x => ?_, ?_, fun x hx => ?_⟩
              · rw [mem_putS, List.mem_append, List.mem_singleton, M1]
                exact Or.comm
              · rw [len_putS HD.out.po.ris, if_neg hms, List.length_append, M2]
                rfl
              · rcases (mem_putS _ x _).1 hx with e | e
                · omega
                · exact M3 x e
            have HNN2 : Hid ((N ++ l0).length ≤ 123 * (P ++ [(n : Int)]).length ∧ ∀ x ∈ N ++ l0, 0 ≤ x ∧ x < 4294967296) := by
              refine ⟨by simp only [List.length_append, List.length_singleton]; omega, fun x hx => ?_⟩
              rcases List.mem_append.1 hx with e | e
              · exact HN.out.2 x e
              · exact S3 x e
            have HZ := Lib.hid (show (0 : Int) ≤ z0 ∧ z0 < 4294967296 from ⟨S4, S5⟩)
            have HPL := Lib.hid hPl
            have HL3 : Hid (rlist d f z0 (P ++ [(n : Int)]) (N ++ l0) = R0) := HL2.out
            clear HL2 HSM HN M1 M2 M3 hm hms S1 S2 S3 S4 S5 hnB hPl hNl hBB HMS
            have HLN := Lib.hid hlen0
            have HLN1 := Lib.hid hlen1
            clear hlen0 hlen1
            go_wp2_with fail
            refine HPU.out.mono ?_
            rintro e w4 ⟨rfl, t4⟩
            obtain ⟨F4, R4⟩ := HD.out.put t4
            have HD4 := Lib.hid R4
            have HLW4 : Hid (Below w.heap.size w w4) := btr HB0.out (by have := HD4.out.low; exact this)
            clear t4 R4 HPU HD
            go_wp2_with fail
            refine (HQ.out _ HLW4.out).mono ?_
            rintro e w5 ⟨⟨z, v, l, rfl, o5, hy⟩, b5⟩
            obtain ⟨ea, eb⟩ := Prod.mk.inj (hy _ rfl)
            subst ea eb
            have HD5 := Lib.hid (HD4.out.below b5)
            have NV := Lib.hid (Nums.own o5)
            have RV := Lib.hid (Real.own o5)
            have NB : Hid (∀ b, v.ownBlock = some b → w4.heap.size ≤ b) := (fun b hb => (o5.lt b hb).1)
            have cv0 := HD5.out.box 0 _ rfl
            have cv1 := HD5.out.box 1 _ rfl
            clear o5 hy b5
            go_wp2_with (at_builtin; refine wpList_append_nums2 rfl _ _ 37 rfl Tryz.underlying37 _ P rfl (HD5.out.o0.alloc _) _ [((n : Nat) : Int)] rfl (nums_one w5 n) (Real.some _ _ _) HLN.out ?_)
            intro v6 w6 o6' g6 f6'
            have o6 : w6.ownsRow 0 31 1 v6 (P ++ [((n : Nat) : Int)]).length (us (P ++ [((n : Nat) : Int)])) := by simpa using o6'
            have f6 : ∀ b, v6.ownBlock = some b → (Value.slice A0 P.length c0).ownBlock = some b ∨ (w5.alloc (.cells #[.int .u32 ((n : Nat) : Int)] 31)).heap.size ≤ b := fun b hb => by
              have := f6' b hb
              simpa using this
            obtain ⟨A6, c6, e6⟩ := own_form o6
            subst e6
            obtain ⟨⟨t6, r6⟩, R6, k6⟩ := HD5.out.app0 g6 o6 f6
            rw [show (P ++ [((n : Nat) : Int)]).length = P.length + 1 by simp] at R6 k6
            have HD6 := Lib.hid R6
            have x0 := r6 0 _ rfl
            have y0 : w6.frozen? ⟨w.heap.size + 1 + 1, 0, none⟩ = false := (t6 0 (by omega)).2
            have NV6 := Lib.hid (HD4.out.nums0 NV.out NB.out k6)
            have x1 := r6 1 _ rfl
            clear t6 r6 R6 k6 o6 g6 f6 o6' f6' cv0 cv1
            go_wp2_with (at_builtin; refine wpList_append_nums2 rfl _ _ 37 rfl Tryz.underlying37 _ N rfl HD6.out.o1 _ l0 rfl NV6.out RV.out HLN1.out ?_)
            intro v7 w7 o7' g7 f7'
            have o7 : w7.ownsRow 0 31 1 v7 (N ++ l0).length (us (N ++ l0)) := by simpa using o7'
            have f7 : ∀ b, v7.ownBlock = some b → (Value.slice A1 N.length c1).ownBlock = some b ∨ (w6.setCell ⟨w.heap.size + 1 + 1, 0, none⟩ (.slice A6 (P.length + 1) c6)).heap.size ≤ b := fun b hb => by
              have := f7' b hb
              simpa using this
            obtain ⟨A7, c7, e7⟩ := own_form o7
            subst e7
            obtain ⟨⟨t7, r7⟩, R7⟩ := HD6.out.app1 g7 o7 f7
            rw [show (N ++ l0).length = N.length + l0.length by simp] at R7
            have HD7 := Lib.hid R7
            have u1 := r7 1 _ rfl
            have y1 : w7.frozen? ⟨w.heap.size + 1 + 1, 1, none⟩ = false := (t7 1 (by omega)).2
            clear t7 r7 R7 o7 g7 f7 o7' f7' x1
            go_wp2
            go_roundg (B - (P.length + 1))
            case measure => have := HPL.out; omega
            case rel =>
              refine ⟨z0.toNat, _, _, P ++ [((n : Nat) : Int)], N ++ l0, putS (n : Int) s, F4, ?_, ?_, ?_, ?_, HD7, HMM, HNN2, ?_⟩
              · have := HZ.out
                rw [Int.toNat_of_nonneg this.1]
              · have := HZ.out
                omega
              · have := HPL.out
                simp only [List.length_append, List.length_singleton]
                omega
              · simp only [List.length_append, List.length_singleton]
                omega
              · have h := HL3.out
                have h2 := HZ.out
                rw [Int.toNat_of_nonneg h2.1]
                simp only [List.length_append, List.length_singleton]
                rw [show B + 1 - (P.length + 1) = f by omega]
                exact h
end Go.Proofs.YtlcnefeikejcaaaGreatDoor
namespace Go.Proofs.YtlcnefeikejcaaaGreatDoor
open Go.RowKit
open U (val)
structure Tk (w : World) (v : Value) (bb ab : Nat) (l : List UInt8) (p : Nat) : Prop where
  byts : Byts w v l
  own : ∀ k, v.ownBlock = some k → k ≠ ab
  cb : w.cell? ⟨bb, 0, none⟩ = some v
  ca : w.cell? ⟨ab, 0, none⟩ = some (.int .i64 (p : Int))
  fa : w.frozen? ⟨ab, 0, none⟩ = false
  ba : bb ≠ ab
theorem Tk.keep {F : Nat → Prop} {w w1 : World} {v : Value} {bb ab : Nat} {l : List UInt8} {p : Nat} (h : Tk w v bb ab l p) (k : Keep F w w1) (hv : ∀ k, v.ownBlock = some k → ¬ F k) (hb : ¬ F bb) (ha : ¬ F ab) : Tk w1 v bb ab l p :=
  ⟨h.byts.keep k hv, h.own, k.cell h.cb hb, k.cell h.ca ha, by rw [k.frozen h.ca ha]; exact h.fa, h.ba⟩
theorem wrap_u64_nat (z : Nat) (h : z < 18446744073709551616) : IntKind.u64.wrap (z : Int) = (z : Int) := by
  simp [IntKind.wrap, IntKind.bits, IntKind.signed]
  exact Int.emod_eq_of_lt (by omega) (by omega)
theorem or_low_u64 (x y : Nat) (hx : x * 256 + y < 18446744073709551616) (hy : y < 256) : bits .or .u64 ((x : Int) * 256) (y : Int) = ((x * 256 + y : Nat) : Int) := by
  have e0 : ((x : Int) * 256) = ((x * 256 : Nat) : Int) := by omega
  have e : x * 256 ||| y = x * 256 + y := by
    have := Nat.two_pow_add_eq_or_of_lt (i := 8) (b := y) (by simpa using hy) x
    rw [Nat.mul_comm x 256]
    exact this.symm
  rw [e0]
  show IntKind.u64.wrap ((BitVec.ofInt 64 ((x * 256 : Nat) : Int) ||| BitVec.ofInt 64 ((y : Nat) : Int)).toNat : Int) = _
  have a1 : x * 256 < 18446744073709551616 := Nat.lt_of_le_of_lt (Nat.le_add_right _ _) hx
  have a2 : y < 18446744073709551616 := Nat.lt_of_le_of_lt (Nat.le_add_left _ _) hx
  rw [BitVec.toNat_or, ofInt_u64 (x * 256) a1, ofInt_u64 y a2, e]
  clear e e0
  generalize x * 256 + y = z at *
  exact wrap_u64_nat z hx
set_option maxRecDepth 100000 in
theorem run_cut2 (b0 off k c a s : Nat) (h : a + s ≤ k) (hk : k ≤ c) (hs : 0 < s) (W : World) :
    (Instr.slice 48 (.slice (some ⟨b0, off, none⟩) k c) (some (.int .i64 (a : Int))) (some (.int .i64 ((a : Int) + (s : Int)))) none).run Tryz.prog W = .ok (.slice (some ⟨b0, off + a, none⟩) s (c - a)) W := by
  rw [run_slice_lh (w := W) 48 (some ⟨b0, off, none⟩) k c Tryz.underlying48 .i64 .i64 (a : Int) ((a : Int) + (s : Int)) (by omega) (by omega) (by omega)]
  have e : (sizeOf (Tryz.prog.elem 48)).run Tryz.prog W = .ok 1 W := by kernel_rfl
  rw [e]
  simp only [Result.andThen, sliced]
  rw [if_neg (by omega), show ((a : Int) + (s : Int)).toNat - ((a : Int)).toNat = s by omega, Int.toNat_natCast, Nat.mul_one]
  simp [Addr.add]
theorem val_next (l : List UInt8) (p k : Nat) (h : p + k < l.length) : val ((l.drop p).take (k + 1)) = val ((l.drop p).take k) * 256 + (l.getD (p + k) 0).toNat := by
  have e : (l.drop p).take (k + 1) = (l.drop p).take k ++ [l.getD (p + k) 0] := by
    rw [List.take_succ_eq_append_getElem (by simp; omega)]
    simp [List.getD, h]
  rw [e, U.val_snoc]
theorem val_take_lt (l : List UInt8) (p k m : Nat) (hk : k ≤ m) : val ((l.drop p).take k) < 256 ^ m := by
  have h := U.val_lt ((l.drop p).take k)
  have e : ((l.drop p).take k).length ≤ m := by simp; omega
  exact Nat.lt_of_lt_of_le h (Nat.pow_le_pow_right (by omega) e)
set_option maxHeartbeats 800000 in
theorem utake_core (b0 off c bb ab p s : Nat) (l : List UInt8) (w : World) (hc : 116 ≤ c) (hs : p + s ≤ 116) (h0 : 0 < s) (h8 : s ≤ 8) (HL : Hid (l.length = 116)) (HB : Hid (Byts w (.slice (some ⟨b0, off, none⟩) 116 c) l))
    (cb : w.cell? ⟨bb, 0, none⟩ = some (.slice (some ⟨b0, off, none⟩) 116 c)) (ca : w.cell? ⟨ab, 0, none⟩ = some (.int .i64 (p : Int))) (fa : w.frozen? ⟨ab, 0, none⟩ = false) :
    Calls Tryz.prog 173 #[.int .i64 (s : Int), .pointer (some ⟨bb, 0, none⟩), .pointer (some ⟨ab, 0, none⟩)] w fun e w' =>
      e = .returned (.int .u64 ((val ((l.drop p).take s) : Nat) : Int)) ∧ w' = w.setCell ⟨ab, 0, none⟩ (.int .i64 ((p : Int) + (s : Int))) := by
  have hcut := run_cut2 b0 off 116 c p s hs hc h0
  have HS := Lib.hid hs
  go_enter Tryz.func173, Tryz.ntmps173
  go_wp2
  clear hcut
  go_loopw [15, 5] (fun i n wr => wr = w ∧ ∃ k : Nat, k ≤ s ∧ i = .int .i64 (k : Int) ∧ n = .int .u64 ((val ((l.drop p).take k) : Nat) : Int)) (fun i _ _ => ((s : Int) - intOf i).toNat)
  case atStart => exact ⟨rfl, 0, by omega, rfl, by simp [U.val]⟩
  case round =>
    obtain ⟨rfl, k, hk, rfl, rfl⟩ := hrel
    by_cases h : k < s
    · have q1 : decide ((k : Int) < (s : Int)) = true := by simp; omega
      have c0 := HB.out.cell (p + k) (by omega)
      rw [← Nat.add_assoc] at c0
      have hy := (l.getD (p + k) 0).toNat_lt
      have hv := val_take_lt l p k 7 (by omega)
      have hn := val_next l p k (by rw [HL.out]; omega)
      generalize hyy : (l.getD (p + k) 0).toNat = y at *
      generalize hx : val ((l.drop p).take k) = x at *
      have ho := or_low_u64 x y (by omega) (by omega)
      have HN := Lib.hid hn
      clear hyy hx hn
      go_wp2
      go_roundw
      case rel =>
        refine ⟨by trivial, k + 1, by omega, by go_num, ?_⟩
        rw [HN.out]
        exact congrArg (Value.int .u64) (by omega)
      case measure =>
        simp [intOf]
        omega
    · obtain rfl : k = s := by omega
      have q1 : decide ((k : Int) < (k : Int)) = false := by simp
      generalize hx : val ((l.drop p).take k) = x at *
      have HX := Lib.hid hx
      clear hx
      go_wp2
      go_ret
      rw [HX.out]
      exact ⟨rfl, rfl⟩
theorem take_any (v : Value) (bb ab p s : Nat) (l : List UInt8) (w : World) (h : Tk w v bb ab l p) (hl : l.length = 116) (hs : p + s ≤ 116) (h0 : 0 < s) (h8 : s ≤ 8) :
    Calls Tryz.prog 173 #[.int .i64 (s : Int), .pointer (some ⟨bb, 0, none⟩), .pointer (some ⟨ab, 0, none⟩)] w fun e w' =>
      e = .returned (.int .u64 ((val ((l.drop p).take s) : Nat) : Int)) ∧ Tk w' v bb ab l (p + s) ∧ Keep (fun k => k = ab) w w' := by
  have hB := h.byts
  obtain ⟨A, c, e, hc, qq⟩ := h.byts
  obtain ⟨b, off, e2, _⟩ := qq (by omega)
  subst e2
  rw [hl] at e hc
  subst e
  refine (utake_core b off c bb ab p s l w hc hs h0 h8 hl hB h.cb h.ca h.fa).mono fun e w' ⟨k1, k2⟩ => ⟨k1, ?_, ?_⟩
  · subst k2
    have hk : Keep (fun k => k = ab) w (w.setCell ⟨ab, 0, none⟩ (.int .i64 ((p : Int) + (s : Int)))) := Keep.setCell (F := fun k => k = ab) (p := ⟨ab, 0, none⟩) (Keep.refl _ _) (.inl rfl) _
    refine ⟨hB.keep hk (fun k hk => h.own k hk), h.own, hk.cell h.cb h.ba, ?_, fzs h.fa, h.ba⟩
    rw [World.cell?_setCell_same _ _ _ h.ca]
    simp
  · subst k2
    exact Keep.setCell (F := fun k => k = ab) (p := ⟨ab, 0, none⟩) (Keep.refl _ _) (.inl rfl) _
theorem takeFrom_any (v : Value) (l : List UInt8) (w : World) (h : Byts w v l) (hl : l.length = 116) (B : Nat) (hB : w.heap.size = B) : Calls Tryz.prog 158 #[v] w fun e w' =>
    e = .returned (.func (.func 173) #[] #[.pointer (some ⟨B, 0, none⟩), .pointer (some ⟨B + 1, 0, none⟩)]) ∧ Tk w' v B (B + 1) l 0 ∧ Below w.heap.size w w' ∧ w'.heap.size = B + 2 := by
  subst hB
  have HB := Lib.hid h
  obtain ⟨A, c, e, hc, qq⟩ := h
  obtain ⟨b, off, e2, q2⟩ := qq (by omega)
  have hlt : b < w.heap.size := World.block_lt_of_cell? w _ (q2 0 (by omega))
  subst e2 e
  have HLT := Lib.hid hlt
  clear q2 qq hlt
  rw [hl] at HB hc
  rw [hl]
  have hmf := run_makeFunc
  go_enter Tryz.func158, Tryz.ntmps158
  go_wp2
  go_ret
  have hb : Below w.heap.size w ((w.alloc (.cells #[.slice (some ⟨b, off, none⟩) 116 c] 48)).alloc (.cells #[.int .i64 0] 3)) := bal (alb _) _
  have c0 : ((w.alloc (.cells #[.slice (some ⟨b, off, none⟩) 116 c] 48)).alloc (.cells #[.int .i64 0] 3)).cell? ⟨w.heap.size, 0, none⟩ = some (.slice (some ⟨b, off, none⟩) 116 c) := alc (by rw [World.cell?_alloc_at _ _ _ _ rfl]; rfl) _
  have c1 : ((w.alloc (.cells #[.slice (some ⟨b, off, none⟩) 116 c] 48)).alloc (.cells #[.int .i64 0] 3)).cell? ⟨w.heap.size + 1, 0, none⟩ = some (.int .i64 0) := by rw [World.cell?_alloc_at _ _ _ _ (by simp)]; rfl
  have hlt := HLT.out
  exact ⟨rfl, ⟨HB.out.below hb, fun k hk => by cases hk; show b ≠ _; omega, c0, c1, by simp, by omega⟩, hb, by simp⟩
def rowOf (l : List UInt8) (j : Nat) : List Nat := (U.rootsOf l).take j ++ List.replicate (27 - j) 0
theorem rowOf_zero (l : List UInt8) : rowOf l 0 = U.none27 := by simp [rowOf, U.none27]
theorem rowOf_all (l : List UInt8) : rowOf l 27 = U.rootsOf l := by
  have := U.rootsOf_length l
  simp only [rowOf]
  rw [List.take_of_length_le (by omega)]
  simp
theorem rowOf_next (l : List UInt8) (j : Nat) (h : j < 27) : (rowOf l j).set j (U.rootAt l j) = rowOf l (j + 1) := by
  have hl := U.rootsOf_length l
  have hg := U.rootsOf_get l j h
  have e : ((U.rootsOf l).take j).length = j := by rw [List.length_take]; omega
  unfold rowOf
  rw [List.set_append_right _ _ (by omega), e, Nat.sub_self, show 27 - j = (27 - (j + 1)) + 1 by omega, List.replicate_succ, List.set_cons_zero, List.take_add_one, hg, List.append_assoc]
  rfl
structure Sd (w0 : World) (B : Nat) (w : World) (v : Value) (bb ab : Nat) (l : List UInt8) (rb vb i : Nat) (q : Nat) (r : List Nat) : Prop where
  tk : Tk w v bb ab l i
  res : Sup w rb 0 U.none27
  var : Sup w vb q r
  low : Below B w0 w
  d1 : vb ≠ bb
  d2 : vb ≠ ab
  d3 : ∀ k, v.ownBlock = some k → k ≠ vb
  d4 : rb ≠ vb
  d5 : rb ≠ ab
  d6 : B ≤ vb
  d7 : B ≤ ab
theorem take_sd (w0 : World) (B : Nat) (v : Value) (bb ab rb vb i q s x : Nat) (r : List Nat) (l : List UInt8) (w : World) (h : Sd w0 B w v bb ab l rb vb i q r) (hl : l.length = 116) (hs : i + s ≤ 116) (h0 : 0 < s) (h8 : s ≤ 8) (hx : val ((l.drop i).take s) = x) :
    Calls Tryz.prog 173 #[.int .i64 (s : Int), .pointer (some ⟨bb, 0, none⟩), .pointer (some ⟨ab, 0, none⟩)] w fun e w' =>
      e = .returned (.int .u64 (x : Int)) ∧ Sd w0 B w' v bb ab l rb vb (i + s) q r := by
  subst hx
  refine (take_any v bb ab i s l w h.tk hl hs h0 h8).mono fun e w' ⟨k1, k2, k3⟩ => ⟨k1, k2, h.res.keep k3 h.d5, h.var.keep k3 h.d2, ?_, h.d1, h.d2, h.d3, h.d4, h.d5, h.d6, h.d7⟩
  have hlt : ab < w.heap.size := World.block_lt_of_cell? w ⟨ab, 0, none⟩ h.tk.ca
  have := h.d7
  exact h.low.trans (k3.below (by omega) (fun k hk => by subst hk; assumption))
theorem Sd.put {w0 : World} {B : Nat} {w w1 : World} {v : Value} {bb ab rb vb i q q1 : Nat} {r r1 : List Nat} {l : List UInt8} (h : Sd w0 B w v bb ab l rb vb i q r) (k : Keep (fun k => k = vb) w w1) (hs : Sup w1 vb q1 r1) : Sd w0 B w1 v bb ab l rb vb i q1 r1 := by
  have hlt := h.var.lt
  have h6 := h.d6
  exact ⟨h.tk.keep k h.d3 (fun e => h.d1 e.symm) (fun e => h.d2 e.symm), h.res.keep k h.d4, hs, h.low.trans (k.below (by omega) (fun k hk => by subst hk; exact h6)), h.d1, h.d2, h.d3, h.d4, h.d5, h.d6, h.d7⟩
theorem keep_one (w : World) (b o : Nat) (x : Value) : Keep (fun k => k = b) w (w.setCell ⟨b, o, none⟩ x) := Keep.setCell (F := fun k => k = b) (p := ⟨b, o, none⟩) (Keep.refl _ _) (.inl rfl) _
theorem Sd.putQ {w0 : World} {B : Nat} {w : World} {v : Value} {bb ab rb vb i q : Nat} {r : List Nat} {l : List UInt8} (h : Sd w0 B w v bb ab l rb vb i q r) (x : Nat) : Sd w0 B (w.setCell ⟨vb, 0, none⟩ (.int .u64 (x : Int))) v bb ab l rb vb i x r := h.put (keep_one _ _ _ _) (h.var.setQ x)
theorem Sd.putR {w0 : World} {B : Nat} {w : World} {v : Value} {bb ab rb vb i q : Nat} {l : List UInt8} (j x o : Nat) (hj : j < 27) (ho : o = j + 1) (hx : U.rootAt l j = x) (h : Sd w0 B w v bb ab l rb vb i q (rowOf l j)) : Sd w0 B (w.setCell ⟨vb, o, none⟩ (.int .u32 (x : Int))) v bb ab l rb vb i q (rowOf l (j + 1)) := by
  subst hx ho
  rw [← rowOf_next l j hj]
  exact h.put (keep_one _ _ _ _) (h.var.set j _ hj)
set_option maxHeartbeats 1600000 in
theorem said_any (v : Value) (l : List UInt8) (w : World) (h : Byts w v l) (hl : l.length = 116) :
    Calls Tryz.prog 132 #[v] w fun e w' => e = .returned (.agg (sva (U.seqOf l) (U.rootsOf l))) ∧ Below w.heap.size w w' := by
  have HV := Lib.hid h
  have HL := Lib.hid hl
  obtain ⟨ov, hov⟩ : ∃ ov, v.ownBlock = ov := ⟨_, rfl⟩
  have HO : Hid (∀ k, v.ownBlock = some k → k < w.heap.size) := by
    intro k hk
    obtain ⟨A, c, e, hc, qq⟩ := h
    obtain ⟨b, off, e2, q2⟩ := qq (by omega)
    subst e2 e
    cases hk
    exact World.block_lt_of_cell? w _ (q2 0 (by omega))
  clear h hl hov ov
  have HR0 : Hid (Sup (w.alloc (.cells #[.int .u64 0, .int .u32 0, .int .u32 0, .int .u32 0, .int .u32 0, .int .u32 0, .int .u32 0, .int .u32 0, .int .u32 0, .int .u32 0, .int .u32 0, .int .u32 0, .int .u32 0, .int .u32 0, .int .u32 0, .int .u32 0, .int .u32 0, .int .u32 0, .int .u32 0, .int .u32 0, .int .u32 0, .int .u32 0, .int .u32 0, .int .u32 0, .int .u32 0, .int .u32 0, .int .u32 0, .int .u32 0] 36)) w.heap.size 0 U.none27) := Sup.made w 0 U.none27 rfl
  have HBA : Hid (Below w.heap.size w (w.alloc (.cells #[.int .u64 0, .int .u32 0, .int .u32 0, .int .u32 0, .int .u32 0, .int .u32 0, .int .u32 0, .int .u32 0, .int .u32 0, .int .u32 0, .int .u32 0, .int .u32 0, .int .u32 0, .int .u32 0, .int .u32 0, .int .u32 0, .int .u32 0, .int .u32 0, .int .u32 0, .int .u32 0, .int .u32 0, .int .u32 0, .int .u32 0, .int .u32 0, .int .u32 0, .int .u32 0, .int .u32 0, .int .u32 0] 36))) := alb _
  have HSA : Hid ((w.alloc (.cells #[.int .u64 0, .int .u32 0, .int .u32 0, .int .u32 0, .int .u32 0, .int .u32 0, .int .u32 0, .int .u32 0, .int .u32 0, .int .u32 0, .int .u32 0, .int .u32 0, .int .u32 0, .int .u32 0, .int .u32 0, .int .u32 0, .int .u32 0, .int .u32 0, .int .u32 0, .int .u32 0, .int .u32 0, .int .u32 0, .int .u32 0, .int .u32 0, .int .u32 0, .int .u32 0, .int .u32 0, .int .u32 0] 36)).heap.size = w.heap.size + 1) := by show _ = _; simp
  go_enter Tryz.func132, Tryz.ntmps132
  go_wp2_with fail
  generalize w.alloc (.cells #[.int .u64 0, .int .u32 0, .int .u32 0, .int .u32 0, .int .u32 0, .int .u32 0, .int .u32 0, .int .u32 0, .int .u32 0, .int .u32 0, .int .u32 0, .int .u32 0, .int .u32 0, .int .u32 0, .int .u32 0, .int .u32 0, .int .u32 0, .int .u32 0, .int .u32 0, .int .u32 0, .int .u32 0, .int .u32 0, .int .u32 0, .int .u32 0, .int .u32 0, .int .u32 0, .int .u32 0, .int .u32 0] 36) = wA at *
  refine (takeFrom_any v l wA (HV.out.below HBA.out) HL.out (w.heap.size + 1) HSA.out).mono ?_
  rintro e w2 ⟨rfl, hk, hb2, hs2⟩
  have HK := Lib.hid hk
  have HB2 := Lib.hid (btr HBA.out hb2)
  have HR2 := Lib.hid (HR0.out.below hb2)
  clear hk hb2 HR0 HBA HSA
  have HV0 : Hid (Sup (w2.alloc (.cells #[.int .u64 0, .int .u32 0, .int .u32 0, .int .u32 0, .int .u32 0, .int .u32 0, .int .u32 0, .int .u32 0, .int .u32 0, .int .u32 0, .int .u32 0, .int .u32 0, .int .u32 0, .int .u32 0, .int .u32 0, .int .u32 0, .int .u32 0, .int .u32 0, .int .u32 0, .int .u32 0, .int .u32 0, .int .u32 0, .int .u32 0, .int .u32 0, .int .u32 0, .int .u32 0, .int .u32 0, .int .u32 0] 36)) (w.heap.size + 1 + 2) 0 (rowOf l 0)) := by
    have := Sup.made w2 0 U.none27 rfl
    rw [hs2, ← rowOf_zero l] at this
    exact this
  have HBV : Hid (Below w2.heap.size w2 (w2.alloc (.cells #[.int .u64 0, .int .u32 0, .int .u32 0, .int .u32 0, .int .u32 0, .int .u32 0, .int .u32 0, .int .u32 0, .int .u32 0, .int .u32 0, .int .u32 0, .int .u32 0, .int .u32 0, .int .u32 0, .int .u32 0, .int .u32 0, .int .u32 0, .int .u32 0, .int .u32 0, .int .u32 0, .int .u32 0, .int .u32 0, .int .u32 0, .int .u32 0, .int .u32 0, .int .u32 0, .int .u32 0, .int .u32 0] 36))) := alb _
  go_wp2_with fail
  generalize w2.alloc (.cells #[.int .u64 0, .int .u32 0, .int .u32 0, .int .u32 0, .int .u32 0, .int .u32 0, .int .u32 0, .int .u32 0, .int .u32 0, .int .u32 0, .int .u32 0, .int .u32 0, .int .u32 0, .int .u32 0, .int .u32 0, .int .u32 0, .int .u32 0, .int .u32 0, .int .u32 0, .int .u32 0, .int .u32 0, .int .u32 0, .int .u32 0, .int .u32 0, .int .u32 0, .int .u32 0, .int .u32 0, .int .u32 0] 36) = w3 at *
  have HD : Hid (Sd w w.heap.size w3 v (w.heap.size + 1) (w.heap.size + 1 + 1) l w.heap.size (w.heap.size + 1 + 2) 0 0 (rowOf l 0)) :=
    ⟨HK.out.keep (F := fun _ => False) (Keep.of_below HBV.out) (fun _ _ h => h) (fun h => h) (fun h => h), HR2.out.below HBV.out, HV0.out, btr HB2.out HBV.out, by omega, by omega, fun k hk => by have := HO.out k hk; omega, by omega, by omega, by omega, by omega⟩
  clear HK HR2 HV0 HBV HB2 hs2 HO
  generalize w.heap.size + 1 = bb at *
  obtain ⟨sq, hsq⟩ : ∃ x, U.seqOf l = x := ⟨_, rfl⟩
  have hql : sq < 18446744073709551616 := hsq ▸ U.seqOf_lt l
  obtain ⟨y0, hy0⟩ : ∃ x, U.rootAt l 0 = x := ⟨_, rfl⟩
  obtain ⟨y1, hy1⟩ : ∃ x, U.rootAt l 1 = x := ⟨_, rfl⟩
  obtain ⟨y2, hy2⟩ : ∃ x, U.rootAt l 2 = x := ⟨_, rfl⟩
  have d0 : y0 < 4294967296 := hy0 ▸ U.rootAt_lt l 0
  have d1 : y1 < 4294967296 := hy1 ▸ U.rootAt_lt l 1
  have d2 : y2 < 4294967296 := hy2 ▸ U.rootAt_lt l 2
  have HQ := Lib.hid hsq
  have HY0 := Lib.hid hy0
  have HY1 := Lib.hid hy1
  have HY2 := Lib.hid hy2
  clear hsq hy0 hy1 hy2
  refine (take_sd w w.heap.size v bb (bb + 1) w.heap.size (bb + 2) 0 0 8 sq _ l w3 HD.out HL.out (by omega) (by omega) (by omega) (by rw [List.drop_zero]; exact HQ.out)).mono ?_
  rintro e w4 ⟨rfl, hD⟩
  clear HD
  have HD := Lib.hid hD
  clear hD
  have c := HD.out.var.cell0
  have f := HD.out.var.frozen 0 (by omega)
  go_wp2_with fail
  have HE := Lib.hid (HD.out.putQ sq)
  generalize w4.setCell ⟨bb + 2, 0, none⟩ (.int .u64 (sq : Int)) = u at *
  clear HD c f
  have HD := HE
  clear HE
  refine (take_sd w w.heap.size v bb (bb + 1) w.heap.size (bb + 2) 8 sq 4 y0 _ l _ HD.out HL.out (by omega) (by omega) (by omega) HY0.out).mono ?_
  rintro e w5 ⟨rfl, hD⟩
  clear HD
  have HD := Lib.hid hD
  clear hD
  obtain ⟨z, hz⟩ : ∃ z, (rowOf l 0).getD 0 0 = z := ⟨_, rfl⟩
  have c := HD.out.var.at 0 1 z rfl (by omega) hz
  have f := HD.out.var.frozen 1 (by omega)
  clear hz
  go_wp2_with fail
  have HE := Lib.hid (HD.out.putR 0 y0 1 (by omega) rfl HY0.out)
  generalize w5.setCell ⟨bb + 2, 1, none⟩ (.int .u32 (y0 : Int)) = u0 at *
  clear HD c f
  have HD := HE
  clear HE
  refine (take_sd w w.heap.size v bb (bb + 1) w.heap.size (bb + 2) 12 sq 4 y1 _ l _ HD.out HL.out (by omega) (by omega) (by omega) HY1.out).mono ?_
  rintro e w6 ⟨rfl, hD⟩
  clear HD
  have HD := Lib.hid hD
  clear hD
  obtain ⟨z, hz⟩ : ∃ z, (rowOf l 1).getD 1 0 = z := ⟨_, rfl⟩
  have c := HD.out.var.at 1 2 z rfl (by omega) hz
  have f := HD.out.var.frozen 2 (by omega)
  clear hz
  go_wp2_with fail
  have HE := Lib.hid (HD.out.putR 1 y1 2 (by omega) rfl HY1.out)
  generalize w6.setCell ⟨bb + 2, 2, none⟩ (.int .u32 (y1 : Int)) = u1 at *
  clear HD c f
  have HD := HE
  clear HE
  refine (take_sd w w.heap.size v bb (bb + 1) w.heap.size (bb + 2) 16 sq 4 y2 _ l _ HD.out HL.out (by omega) (by omega) (by omega) HY2.out).mono ?_
  rintro e w7 ⟨rfl, hD⟩
  clear HD
  have HD := Lib.hid hD
  clear hD
  obtain ⟨z, hz⟩ : ∃ z, (rowOf l 2).getD 2 0 = z := ⟨_, rfl⟩
  have c := HD.out.var.at 2 3 z rfl (by omega) hz
  have f := HD.out.var.frozen 3 (by omega)
  clear hz
  go_wp2
  have HE := Lib.hid (HD.out.putR 2 y2 3 (by omega) rfl HY2.out)
  generalize w7.setCell ⟨bb + 2, 3, none⟩ (.int .u32 (y2 : Int)) = u2 at *
  clear HD c f
  have HD := HE
  clear HE
  clear HY0 HY1 HY2 d0 d1 d2
  go_loopw [23] (fun i wr => ∃ k : Nat, k ≤ 8 ∧ i = .int .i64 (k : Int) ∧ Sd w w.heap.size wr v bb (bb + 1) l w.heap.size (bb + 2) (20 + 12 * k) sq (rowOf l (3 + 3 * k))) (fun i _ => (8 - intOf i).toNat)
  case atStart => exact ⟨0, by omega, rfl, HD.out⟩
  case round =>
    obtain ⟨k, hk, rfl, hD⟩ := hrel
    clear HD
    have HD := Lib.hid hD
    clear hD
    by_cases h8 : k < 8
    · have q1 : decide ((k : Int) < 8) = true := by simp; omega
      obtain ⟨x0, hx0⟩ : ∃ x, U.rootAt l (3 + 3 * k) = x := ⟨_, rfl⟩
      obtain ⟨x1, hx1⟩ : ∃ x, U.rootAt l (4 + 3 * k) = x := ⟨_, rfl⟩
      obtain ⟨x2, hx2⟩ : ∃ x, U.rootAt l (5 + 3 * k) = x := ⟨_, rfl⟩
      have d0 : x0 < 4294967296 := hx0 ▸ U.rootAt_lt l _
      have d1 : x1 < 4294967296 := hx1 ▸ U.rootAt_lt l _
      have d2 : x2 < 4294967296 := hx2 ▸ U.rootAt_lt l _
      have HX0 := Lib.hid hx0
      have HX1 := Lib.hid hx1
      have HX2 := Lib.hid hx2
      have H8 := Lib.hid h8
      have hk7 : (k : Int) < 8 := by omega
      clear hx0 hx1 hx2 hk h8
      go_wp2_with fail
      
      refine (take_sd w w.heap.size v bb (bb + 1) w.heap.size (bb + 2) (20 + 12 * k) sq 4 x0 _ l _ HD.out HL.out (by have := H8.out; omega) (by omega) (by omega) (by rw [show 20 + 12 * k = 8 + 4 * (3 + 3 * k) by omega]; exact HX0.out)).mono ?_
      rintro e w8 ⟨rfl, hD⟩
      clear HD
      have HD := Lib.hid hD
      clear hD
      obtain ⟨z, hz⟩ : ∃ z, (rowOf l (3 + 3 * k)).getD (3 + 3 * k) 0 = z := ⟨_, rfl⟩
      have c := HD.out.var.at (3 + 3 * k) (4 + k * 3) z (by omega) (by have := H8.out; omega) hz
      have f := HD.out.var.frozen (4 + k * 3) (by have := H8.out; omega)
      clear hz
      go_wp2_with fail
      have HE := Lib.hid (HD.out.putR (3 + 3 * k) x0 (4 + k * 3) (by have := H8.out; omega) (by omega) (by rw [show 3 + 3 * k = 3 + 3 * k by omega]; exact HX0.out))
      generalize w8.setCell ⟨bb + 2, 4 + k * 3, none⟩ (.int .u32 (x0 : Int)) = t0 at *
      clear HD c f
      have HD := HE
      clear HE
      refine (take_sd w w.heap.size v bb (bb + 1) w.heap.size (bb + 2) (20 + 12 * k + 4) sq 4 x1 _ l _ HD.out HL.out (by have := H8.out; omega) (by omega) (by omega) (by rw [show 20 + 12 * k + 4 = 8 + 4 * (4 + 3 * k) by omega]; exact HX1.out)).mono ?_
      rintro e w9 ⟨rfl, hD⟩
      clear HD
      have HD := Lib.hid hD
      clear hD
      obtain ⟨z, hz⟩ : ∃ z, (rowOf l (3 + 3 * k + 1)).getD (3 + 3 * k + 1) 0 = z := ⟨_, rfl⟩
      have c := HD.out.var.at (3 + 3 * k + 1) (4 + k * 3 + 1) z (by omega) (by have := H8.out; omega) hz
      have f := HD.out.var.frozen (4 + k * 3 + 1) (by have := H8.out; omega)
      clear hz
      go_wp2_with fail
      have HE := Lib.hid (HD.out.putR (3 + 3 * k + 1) x1 (4 + k * 3 + 1) (by have := H8.out; omega) (by omega) (by rw [show 3 + 3 * k + 1 = 4 + 3 * k by omega]; exact HX1.out))
      generalize w9.setCell ⟨bb + 2, 4 + k * 3 + 1, none⟩ (.int .u32 (x1 : Int)) = t1 at *
      clear HD c f
      have HD := HE
      clear HE
      refine (take_sd w w.heap.size v bb (bb + 1) w.heap.size (bb + 2) (20 + 12 * k + 4 + 4) sq 4 x2 _ l _ HD.out HL.out (by have := H8.out; omega) (by omega) (by omega) (by rw [show 20 + 12 * k + 4 + 4 = 8 + 4 * (5 + 3 * k) by omega]; exact HX2.out)).mono ?_
      rintro e w10 ⟨rfl, hD⟩
      clear HD
      have HD := Lib.hid hD
      clear hD
      obtain ⟨z, hz⟩ : ∃ z, (rowOf l (3 + 3 * k + 1 + 1)).getD (3 + 3 * k + 1 + 1) 0 = z := ⟨_, rfl⟩
      have c := HD.out.var.at (3 + 3 * k + 1 + 1) (4 + k * 3 + 2) z (by omega) (by have := H8.out; omega) hz
      have f := HD.out.var.frozen (4 + k * 3 + 2) (by have := H8.out; omega)
      clear hz
      go_wp2
      have HE := Lib.hid (HD.out.putR (3 + 3 * k + 1 + 1) x2 (4 + k * 3 + 2) (by have := H8.out; omega) (by omega) (by rw [show 3 + 3 * k + 1 + 1 = 5 + 3 * k by omega]; exact HX2.out))
      generalize w10.setCell ⟨bb + 2, 4 + k * 3 + 2, none⟩ (.int .u32 (x2 : Int)) = t2 at *
      clear HD c f
      have HD := HE
      clear HE
      go_roundw
      case rel =>
        refine ⟨k + 1, by have := H8.out; omega, by go_num, ?_⟩
        rw [show 3 + 3 * (k + 1) = 3 + 3 * k + 1 + 1 + 1 by omega, show 20 + 12 * (k + 1) = 20 + 12 * k + 4 + 4 + 4 by omega]
        exact HD.out
      case measure =>
        simp [intOf]
        omega
    · obtain rfl : k = 8 := by omega
      have q1 : decide (((8 : Nat) : Int) < 8) = false := by decide
      clear hk h8
      have HR : Hid ((rowOf l (3 + 3 * 8)).length = 27) := HD.out.var.2.2
      have HE : Hid (rowOf l (3 + 3 * 8) = U.rootsOf l) := rowOf_all l
      generalize rowOf l (3 + 3 * 8) = rr at *
      go_wp2_with (first
        | (refine wpList_load_sup rfl (.tmp 4) rfl (bb + 2) sq rr rfl HD.out.var ?_)
        | (refine wpList_store_sup rfl (.tmp 2) (.tmp 48) rfl w.heap.size sq rr rfl rfl HR.out HD.out.res.2.1 ?_)
        | go_in)
      intro w9 HS9 hk9
      go_wp2
      refine bodyPost_ret (results_sup1 rfl _ _ w.heap.size sq rr rfl HS9.out) rfl ⟨?_, ?_⟩
      · rw [HQ.out, ← HE.out]
      · exact HD.out.low.trans (hk9.below HD.out.low.size (fun k hk => by subst hk; exact Nat.le_refl _))
end Go.Proofs.YtlcnefeikejcaaaGreatDoor
