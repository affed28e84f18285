/- freelist.Parse. -/
import Derived.Test.YtnnegglhndllfaaFg
namespace Go.Proofs.Ytnnegglhndllfaa
open Go.RowKit

theorem run_from_b (b0 off k c f : Nat) (z : Int) (hz : z = (f : Int)) (hf : f < k) (hk : k ≤ c) (W : World) : (Instr.slice 33 (.slice (some ⟨b0, off, none⟩) k c) (some (.int .i64 z)) none none).run Try.prog W = .ok (.slice (some ⟨b0, off + f, none⟩) (k - f) (c - f)) W := by
  subst hz
  rw [run_slice_l (w := W) 33 (some ⟨b0, off, none⟩) k c Try.underlying33 .i64 (f : Int) (by omega) (by omega)]
  have e : (sizeOf (Try.prog.elem 33)).run Try.prog W = .ok 1 W := by kernel_rfl
  rw [e]
  simp only [Result.andThen, sliced, Int.toNat_natCast, Nat.mul_one]
  rw [if_neg (by omega)]
  simp [Addr.add]
/-- What the loop of Parse has read behind so many rounds. -/
def numsTo (b : List UInt8) (n i : Nat) : List Int := L.nums b i ++ List.replicate (n - i) 0
theorem numsTo_length (b : List UInt8) (n i : Nat) (h : i ≤ n) : (numsTo b n i).length = n := by simp [numsTo, L.nums_length]; omega
theorem numsTo_zero (b : List UInt8) (n : Nat) : numsTo b n 0 = List.replicate n 0 := by simp [numsTo, L.nums]
theorem numsTo_all (b : List UInt8) (n : Nat) : numsTo b n n = L.nums b n := by simp [numsTo]
theorem numsTo_next (b : List UInt8) (n i : Nat) (h : i < n) : (numsTo b n i).set i ((L.numAt b (6 + 4 * i) : Nat) : Int) = numsTo b n (i + 1) := by
  unfold numsTo
  rw [List.set_append_right _ _ (by rw [L.nums_length]; exact Nat.le_refl _), L.nums_length, Nat.sub_self, L.nums_succ, show n - i = (n - (i + 1)) + 1 by omega, List.replicate_succ]
  simp
theorem us_set (l : List Int) (i : Nat) (x : Int) : us (l.set i x) = (us l).set i (.int .u32 x) := by simp [us, List.map_set]
theorem made_zeros32 (k : Nat) : (madeCells #[Value.int .u32 0] k).toList = us (List.replicate k 0) := by
  apply List.ext_getElem?
  intro i
  by_cases h : i < k
  · simp [madeCells, us, h, Nat.mod_one]
  · rw [List.getElem?_eq_none (by simp [size_madeCells]; omega), List.getElem?_eq_none (by simp [us]; omega)]

set_option maxHeartbeats 1600000 in
theorem parse_short (w : World) (A : Option Addr) (n c : Nat) (h : n < 6) : Calls Try.prog 12 #[.slice A n c] w fun e w' => e = .returned (.tuple #[.int .u32 0, .slice none 0 0, .int .i64 2]) ∧ Below w.heap.size w w' := by
  have h1 : (n : Int) < 6 := by omega
  go_enter Try.func12, Try.ntmps12
  go_wp2
  go_ret3
  exact ⟨rfl, Below.refl _ _⟩

set_option maxRecDepth 100000 in
set_option maxHeartbeats 1600000 in
theorem parse_core (w : World) (b0 off n c x k a4 a5 : Nat) (b : List UInt8) (R : Bool) (N E : Int) (Lo : List Int) (h6 : 6 ≤ n) (hnc : n ≤ c) (hx : x < 4294967296) (h4 : a4 < 256) (h5 : a5 < 256) (hk : a4 * 256 + a5 = k)
    (HV : Hid (Byts w (.slice (some ⟨b0, off, none⟩) n c) b)) (X : Hid (L.numAt b 0 = x)) (E4 : Hid ((b.getD 4 0).toNat = a4)) (E5 : Hid ((b.getD 5 0).toNat = a5))
    (HR : Hid (L.ris 1 (L.nums b k) = R))
    (H1 : Hid ((x = 1 ∨ 123 < k ∨ n ≠ 6 + 4 * k) → N = 0 ∧ E = 2 ∧ Lo = []))
    (H2 : Hid (x ≠ 1 → k ≤ 123 → n = 6 + 4 * k → R = false → N = 0 ∧ E = 2 ∧ Lo = []))
    (H3 : Hid (x ≠ 1 → k ≤ 123 → n = 6 + 4 * k → R = true → N = (x : Int) ∧ E = 0 ∧ Lo = L.nums b k)) :
    Calls Try.prog 12 #[.slice (some ⟨b0, off, none⟩) n c] w fun e w' => ∃ v, e = .returned (.tuple #[.int .u32 N, v, .int .i64 E]) ∧ w'.ownsRow w.heap.size 35 1 v Lo.length (us Lo) ∧ Below w.heap.size w w' := by
  obtain ⟨i0, hi0, hz0, hz1, hz2⟩ := info_parts Try.info35
  have hn6 : ¬ (n : Int) < 6 := by omega
  have hn4 : (4 : Int) < (n : Int) := by omega
  have hn5 : (5 : Int) < (n : Int) := by omega
  have hm4 : 4 < n := by omega
  have hm5 : 5 < n := by omega
  have c4 := HV.out.cell 4 (by omega)
  have c5 := HV.out.cell 5 (by omega)
  rw [E4.out] at c4
  rw [E5.out] at c5
  have C4 := Lib.hid c4
  have C5 := Lib.hid c5
  clear c4 c5
  have h0 := run_from_b b0 off n c 0 0 rfl (by omega) hnc
  rw [Nat.add_zero, Nat.sub_zero, Nat.sub_zero] at h0
  have HF := Lib.hid (readfour_any _ b w HV.out (by rw [HV.out.len]; omega))
  rw [X.out] at HF
  have hor := or_low64 a4 a5 h4 h5
  rw [hk] at hor
  have hk16 : k < 65536 := by omega
  go_enter Try.func12, Try.ntmps12
  go_wp2_with fail
  refine (HF.out).mono ?_
  rintro e w1 ⟨rfl, hB1⟩
  have HB1 := Lib.hid hB1
  have c4 := kept C4.out hB1
  have c5 := kept C5.out hB1
  clear hB1 HF h0
  go_wp2_with fail
  go_quiet (fail)
  have HB2 : Hid (Below w.heap.size w (w1.drewN nq)) := bdn HB1.out nq
  clear HB1 c4 c5 hor C4 C5 E4 E5
  generalize w1.drewN nq = w2 at *
  obtain ⟨bad, hbad⟩ : ∃ bad, bad = decide (x = 1 ∨ 123 < k ∨ n ≠ 6 + 4 * k) := ⟨_, rfl⟩
  have HBD := Lib.hid hbad
  clear hbad
  go_upto_region 5 with fail
  go_cut [42] from 25 to 42 (fun s wc => s = .bool bad ∧ wc = w2)
  case first =>
    rcases Nat.lt_trichotomy x 1 with hx1 | hx1 | hx1
    · have q1 : ((x : Int) != 0) = false := by rw [bne_eq_false_iff_eq]; omega
      have q2 : x = 0 := by omega
      by_cases hk1 : 123 < k
      · have e1 : decide (123 < k) = true := decide_eq_true hk1
        have e4 : decide (123 < (k : Int)) = true := decide_eq_true (by omega)
        have e2 : Hid (bad = true) := HBD.out.trans (decide_eq_true (.inr (.inl hk1)))
        clear hx1 hk hk1 q2
        go_wp2
        go_meet
        exact ⟨by rw [e2.out], rfl⟩
      · have e1 : decide (123 < k) = false := decide_eq_false hk1
        have e4 : decide (123 < (k : Int)) = false := decide_eq_false (by omega)
        by_cases hn1 : n = 6 + 4 * k
        · have e3 : ((n : Int) != 6 + 4 * (k : Int)) = false := by rw [bne_eq_false_iff_eq]; omega
          have e2 : Hid (bad = false) := HBD.out.trans (decide_eq_false (by omega))
          clear hx1 hk hk1 q2 hn1
          go_wp2
          go_meet
          exact ⟨by rw [e2.out], rfl⟩
        · have e3 : ((n : Int) != 6 + 4 * (k : Int)) = true := by rw [bne_iff_ne]; omega
          have e2 : Hid (bad = true) := HBD.out.trans (decide_eq_true (.inr (.inr hn1)))
          clear hx1 hk hk1 q2 hn1
          go_wp2
          go_meet
          exact ⟨by rw [e2.out], rfl⟩
    · have q1 : ((x : Int) != 0) = true := by rw [bne_iff_ne]; omega
      have q2 : decide ((x : Int) < 2) = true := by rw [decide_eq_true_eq]; omega
      have e2 : Hid (bad = true) := HBD.out.trans (decide_eq_true (.inl hx1))
      clear hx1 hk
      go_wp2
      go_meet
      exact ⟨by rw [e2.out], rfl⟩
    · have q1 : ((x : Int) != 0) = true := by rw [bne_iff_ne]; omega
      have q2 : decide ((x : Int) < 2) = false := by rw [decide_eq_false_iff_not]; omega
      by_cases hk1 : 123 < k
      · have e1 : decide (123 < k) = true := decide_eq_true hk1
        have e4 : decide (123 < (k : Int)) = true := decide_eq_true (by omega)
        have e2 : Hid (bad = true) := HBD.out.trans (decide_eq_true (.inr (.inl hk1)))
        clear hx1 hk hk1
        go_wp2
        go_meet
        exact ⟨by rw [e2.out], rfl⟩
      · have e1 : decide (123 < k) = false := decide_eq_false hk1
        have e4 : decide (123 < (k : Int)) = false := decide_eq_false (by omega)
        by_cases hn1 : n = 6 + 4 * k
        · have e3 : ((n : Int) != 6 + 4 * (k : Int)) = false := by rw [bne_eq_false_iff_eq]; omega
          have e2 : Hid (bad = false) := HBD.out.trans (decide_eq_false (by omega))
          clear hx1 hk hk1 hn1
          go_wp2
          go_meet
          exact ⟨by rw [e2.out], rfl⟩
        · have e3 : ((n : Int) != 6 + 4 * (k : Int)) = true := by rw [bne_iff_ne]; omega
          have e2 : Hid (bad = true) := HBD.out.trans (decide_eq_true (.inr (.inr hn1)))
          clear hx1 hk hk1 hn1
          go_wp2
          go_meet
          exact ⟨by rw [e2.out], rfl⟩
  case rest =>
    obtain ⟨rfl, rfl⟩ := hcut
    cases bad with
    | true =>
      obtain ⟨rfl, rfl, rfl⟩ := H1.out (of_decide_eq_true HBD.out.symm)
      go_wp2
      go_ret3
      exact ⟨_, rfl, World.ownsRow_nil _ _ _ _, HB2.out⟩
    | false =>
      have hb := of_decide_eq_false HBD.out.symm
      have hk123 : k ≤ 123 := by omega
      have hnk : n = 6 + 4 * k := by omega
      have hx1 : x ≠ 1 := by omega
      have HE2 : Hid (R = false → N = 0 ∧ E = 2 ∧ Lo = []) := H2.out hx1 hk123 hnk
      have HE3 : Hid (R = true → N = (x : Int) ∧ E = 0 ∧ Lo = L.nums b k) := H3.out hx1 hk123 hnk
      have HNK := Lib.hid hnk
      clear H1 H2 H3 HBD hb hx1 hnk hk
      go_wp2_with (first
        | (refine wpList_make_full _ rfl _ _ 25 rfl wc.heap.size 35 i0 _ 1 Try.underlying25 hi0 hz0 hz1 _ _ _ _ k rfl rfl ?l1 ?l2 ?l3 ?l4 ?l5 ?_)
        | go_in)
      case l1 => go_num
      case l2 => go_num
      case l3 => rw [hz2]; omega
      case l4 => unfold maxLen; omega
      case l5 => exact Nat.le_refl _
      intro w3 hown hgrow
      rw [made_zeros32, ← numsTo_zero b] at hown
      have HO3 := Lib.hid hown
      have HB3 : Hid (Below w.heap.size w w3) := btr HB2.out ((Below.refl _ _).grown hgrow (Nat.le_refl _) (by intro g hg; cases hg))
      have HGB : Hid (w.heap.size ≤ wc.heap.size) := HB2.out.size
      clear hown hgrow i0 hi0 hz0 hz1 hz2 HB2
      generalize wc.heap.size = g at *
      go_wp2_with fail
      go_loopg [47] k (fun z s wr => ∃ (i : Nat), s = .int .i64 (i : Int) ∧ i ≤ k ∧ k - i ≤ z ∧ Hid (Below w.heap.size w wr) ∧ Hid (wr.ownsRow w.heap.size 35 1 (.slice (some ⟨g, 0, none⟩) k k) k (us (numsTo b k i))))
      case atStart => exact ⟨0, rfl, by omega, by omega, HB3, Go.Joins.ownsRow_le HO3.out HGB.out⟩
      case round =>
        obtain ⟨i, rfl, i1, i2, HB, HO⟩ := hrel
        by_cases hi : i < k
        · have hz : (i : Int) < (k : Int) := by omega
          have hcut := run_from_b b0 off n c (6 + 4 * i) (6 + 4 * (i : Int)) (by omega) (by have := HNK.out; omega) hnc
          have HF := Lib.hid (readfour_any _ (b.drop (6 + 4 * i)) wr ((HV.out.below HB.out).tail (6 + 4 * i) (by have := HNK.out; omega) (c - (6 + 4 * i)) (by omega)) (by rw [List.length_drop, HV.out.len]; have := HNK.out; omega))
          rw [numAt_drop] at HF
          obtain ⟨y, hy⟩ : ∃ y, y = L.numAt b (6 + 4 * i) := ⟨_, rfl⟩
          rw [← hy] at HF
          have HY := Lib.hid hy
          clear hy
          go_wp2_with fail
          refine (HF.out).mono ?_
          rintro e w4 ⟨rfl, h4⟩
          have HB4 : Hid (Below w.heap.size w w4) := btr HB.out h4
          have HO4 : Hid (w4.ownsRow w.heap.size 35 1 (.slice (some ⟨g, 0, none⟩) k k) k (us (numsTo b k i))) := own_keep HO.out (Keep.of_below (F := fun _ => False) h4) (fun _ _ q => q)
          have q4 : w4.cell? ⟨g, i, none⟩ = some (.int .u32 (numsTo b k i)[i]!) := by
            rw [HO4.out.cellAt i (by omega), us_get _ _ (by rw [numsTo_length _ _ _ i1]; exact hi)]
          have f4 : w4.frozen? ⟨g, i, none⟩ = false := HO4.out.frozenAt i
          generalize (numsTo b k i)[i]! = yo at *
          clear h4 HF hcut
          go_wp2
          go_roundg (k - (i + 1))
          case measure => omega
          case rel =>
            refine ⟨i + 1, by simp, by omega, by omega, HB4.out.setCell (p := ⟨g, i, none⟩) HGB.out _, ?_⟩
            have hs := (HO4.out.stored i (.int .u32 ((y : Nat) : Int))).1
            rw [← us_set, HY.out, numsTo_next _ _ _ hi] at hs
            rw [HY.out]
            exact hs
        · have hz : ¬ (i : Int) < (k : Int) := by omega
          obtain rfl : i = k := by omega
          have HW : Hid (wr.ownsRow w.heap.size 35 1 (.slice (some ⟨g, 0, none⟩) i i) (L.nums b i).length (us (L.nums b i))) := by
            have := HO.out
            rw [numsTo_all] at this
            show wr.ownsRow _ _ _ _ _ _
            rw [L.nums_length]
            exact this
          have HN : Hid (Nums wr (.slice (some ⟨g, 0, none⟩) i i) (L.nums b i)) := Nums.own HW.out
          have HRI := Lib.hid (rising_any wr _ _ HN.out)
          rw [HR.out] at HRI
          go_wp2_with fail
          refine (HRI.out).mono ?_
          rintro e w4 ⟨rfl, rfl⟩
          cases R with
          | false =>
            obtain ⟨rfl, rfl, rfl⟩ := HE2.out rfl
            go_wp2
            go_ret3
            exact ⟨_, rfl, World.ownsRow_nil _ _ _ _, HB.out⟩
          | true =>
            obtain ⟨rfl, rfl, rfl⟩ := HE3.out rfl
            go_wp2
            go_ret3
            exact ⟨_, rfl, HW.out, HB.out⟩
theorem parse_any (w : World) (v : Value) (b : List UInt8) (h : Byts w v b) :
    Calls Try.prog 12 #[v] w fun e w' => ∃ u, e = .returned (.tuple #[.int .u32 (L.parseN b), u, .int .i64 ((L.parseE b : Nat) : Int)]) ∧ w'.ownsRow w.heap.size 35 1 u (L.parseL b).length (us (L.parseL b)) ∧ Below w.heap.size w w' := by
  by_cases h6 : b.length < 6
  · obtain ⟨A, c, rfl⟩ := h.form
    have e : L.parseE b = 2 := by unfold L.parseE; rw [if_pos h6]
    have e1 : L.parseN b = 0 := by unfold L.parseN; rw [if_neg (by omega)]
    have e2 : L.parseL b = [] := by unfold L.parseL; rw [if_neg (by omega)]
    rw [e, e1, e2]
    refine (parse_short w A b.length c h6).mono ?_
    rintro e w' ⟨rfl, hB⟩
    exact ⟨_, rfl, World.ownsRow_nil _ _ _ _, hB⟩
  · have hb := h
    obtain ⟨A, c, rfl, hc, hcell⟩ := h
    obtain ⟨b0, off, rfl, _⟩ := hcell (by omega)
    refine parse_core w b0 off b.length c (L.numAt b 0) (L.cnt b) (b.getD 4 0).toNat (b.getD 5 0).toNat b _ _ _ _ (by omega) hc (L.numAt_lt b 0) (C.u8_lt _) (C.u8_lt _) rfl hb rfl rfl rfl rfl (Lib.hid fun q => ?_) (Lib.hid fun q1 q2 q3 q4 => ?_) (Lib.hid fun q1 q2 q3 q4 => ?_)
    · have e : L.parseE b = 2 := by unfold L.parseE; rw [if_neg h6, if_pos q]
      exact ⟨by unfold L.parseN; rw [if_neg (by omega)], by rw [e]; rfl, by unfold L.parseL; rw [if_neg (by omega)]⟩
    · have e : L.parseE b = 2 := by unfold L.parseE; rw [if_neg h6, if_neg (by omega), if_neg (by rw [q4]; simp)]
      exact ⟨by unfold L.parseN; rw [if_neg (by omega)], by rw [e]; rfl, by unfold L.parseL; rw [if_neg (by omega)]⟩
    · have e : L.parseE b = 0 := by unfold L.parseE; rw [if_neg h6, if_neg (by omega), if_pos q4]
      exact ⟨by unfold L.parseN; rw [if_pos e], by rw [e]; rfl, by unfold L.parseL; rw [if_pos e]⟩
end Go.Proofs.Ytnnegglhndllfaa
