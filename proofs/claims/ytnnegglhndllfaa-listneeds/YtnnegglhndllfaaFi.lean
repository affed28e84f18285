/- The document's own Parse. -/
import Derived.Test.YtnnegglhndllfaaFh
namespace Go.Proofs.Ytnnegglhndllfaa
open Go.RowKit

theorem take_at (b : List UInt8) (f n : Nat) (h : f + n < b.length) : (b.drop f).take (n + 1) = (b.drop f).take n ++ [b.getD (f + n) 0] := by
  rw [List.take_succ_eq_append_getElem (by simp; omega)]
  simp [List.getD, h]
theorem valL_at4 (b : List UInt8) (f : Nat) (h : f + 4 ≤ b.length) : valL ((b.drop f).take 4) = L.numAt b f := by
  rw [take_at b f 3 (by omega), take_at b f 2 (by omega), take_at b f 1 (by omega), take_at b f 0 (by omega)]
  simp only [List.take_zero, List.nil_append, List.cons_append, Nat.add_zero]
  rw [valL_four]
  rfl
theorem valL_at2 (b : List UInt8) (h : 6 ≤ b.length) : valL ((b.drop 4).take 2) = L.cnt b := by
  rw [take_at b 4 1 (by omega), take_at b 4 0 (by omega)]
  simp only [List.take_zero, List.nil_append, List.cons_append, Nat.add_zero]
  rw [valL_two]
  rfl
theorem run_part (b : List UInt8) (f : Nat) (z z2 : Int) (hz : z = (f : Int)) (hz2 : z2 = (f : Int) + 4) (h : f + 4 ≤ b.length) (W : World) :
    (Instr.slice 9 (.string (str b)) (some (.int .i64 z)) (some (.int .i64 z2)) none).run Try.prog W = .ok (.string (str ((b.drop f).take 4))) W := by
  subst hz hz2
  rw [run_slice_string_if (w := W) 9 (str b) .i64 .i64 (f : Int) ((f : Int) + 4) Try.underlying9]
  rw [if_pos (by rw [str_size]; omega)]
  have e : ((f : Int) + 4).toNat = f + 4 := by omega
  rw [e, Int.toNat_natCast, str_extract, Nat.add_sub_cancel_left, if_pos (by omega)]

set_option maxHeartbeats 1600000 in
theorem rp_bad (w : World) (sb : ByteArray) (r : Int) (h : sb.size < 6 ∨ (6 ≤ sb.size ∧ Int.tmod ((sb.size : Int) - 6) 4 = r ∧ r ≠ 0)) (hs : sb.size ≤ 1000000) : Calls Try.prog 13 #[.string sb] w fun e w' => e = .returned (.tuple #[.int .u32 0, .slice none 0 0, .int .i64 2]) ∧ Below w.heap.size w w' := by
  rcases h with h | ⟨h, hr, hr0⟩
  · have h1 : (sb.size : Int) < 6 := by omega
    go_enter Try.func13, Try.ntmps13
    go_wp2
    go_ret3
    exact ⟨rfl, Below.refl _ _⟩
  · have h1 : ¬ (sb.size : Int) < 6 := by omega
    have h2 : (r != 0) = true := by rw [bne_iff_ne]; exact hr0
    go_enter Try.func13, Try.ntmps13
    go_wp2
    go_ret3
    exact ⟨rfl, Below.refl _ _⟩

set_option maxRecDepth 100000 in
set_option maxHeartbeats 1600000 in
theorem rp_core (w : World) (b : List UInt8) (sb sA sC : ByteArray) (n q x k : Nat) (R : Bool) (N E : Int) (Lo : List Int) (hn : n = 6 + 4 * q) (hs : sb.size = n) (hn2 : n ≤ 1000000) (hk : k < 65536)
    (hl : Hid (b.length = n)) (HSB : Hid (sb = str b)) (X1 : sb.extract 0 4 = sA) (X2 : sb.extract 4 6 = sC)
    (NA : Hid (∀ W : World, Calls Try.prog 24 #[.string sA] W fun e w' => e = .returned (.int .u32 (x : Int)) ∧ W = w'))
    (NC : Hid (∀ W : World, Calls Try.prog 24 #[.string sC] W fun e w' => e = .returned (.int .u32 (k : Int)) ∧ W = w'))
    (HR : Hid (L.ris 1 (L.nums b k) = R))
    (H1 : Hid ((123 < k ∨ k ≠ q ∨ x = 1) → N = 0 ∧ E = 2 ∧ Lo = []))
    (H2 : Hid (x ≠ 1 → k ≤ 123 → k = q → R = false → N = 0 ∧ E = 2 ∧ Lo = []))
    (H3 : Hid (x ≠ 1 → k ≤ 123 → k = q → R = true → N = (x : Int) ∧ E = 0 ∧ Lo = L.nums b k)) :
    Calls Try.prog 13 #[.string sb] w fun e w' => ∃ v, e = .returned (.tuple #[.int .u32 N, v, .int .i64 E]) ∧ Nums w' v Lo ∧ Below w.heap.size w w' := by
  have hs6 : ¬ (sb.size : Int) < 6 := by omega
  have hq : Int.tdiv ((sb.size : Int) - 6) 4 = (q : Int) := by rw [Int.tdiv_eq_ediv_of_nonneg (by omega)]; omega
  have hr : Int.tmod ((sb.size : Int) - 6) 4 = 0 := by rw [Int.tmod_eq_emod_of_nonneg (by omega)]; omega
  have hs4 : 4 ≤ sb.size := by omega
  have hs66 : 6 ≤ sb.size := by omega
  have hqb : q ≤ 1000000 := by omega
  have HN := Lib.hid hn
  have hsz : sb.size ≤ 1000000 := by omega
  clear hs hn
  go_enter Try.func13, Try.ntmps13
  go_wp2_with fail
  refine (NA.out _).mono ?_
  rintro e w1 ⟨rfl, rfl⟩
  go_wp2_with fail
  refine (NC.out _).mono ?_
  rintro e w1 ⟨rfl, rfl⟩
  go_upto_region 5 with fail
  obtain ⟨bad, hbad⟩ : ∃ bad, bad = decide (123 < k ∨ k ≠ q ∨ x = 1) := ⟨_, rfl⟩
  have HBD := Lib.hid hbad
  clear hbad
  go_cut [39] from 26 to 39 (fun s wc => s = .bool bad ∧ wc = w)
  case first =>
    by_cases hk1 : 123 < k
    · have e1 : decide (123 < k) = true := decide_eq_true hk1
      have e4 : decide (123 < (k : Int)) = true := decide_eq_true (by omega)
      have e2 : Hid (bad = true) := HBD.out.trans (decide_eq_true (.inl hk1))
      clear hk1
      go_wp2
      go_meet
      exact ⟨by rw [e2.out], rfl⟩
    · have e1 : decide (123 < k) = false := decide_eq_false hk1
      have e4 : decide (123 < (k : Int)) = false := decide_eq_false (by omega)
      by_cases hkq : k = q
      · have e5 : ((k : Int) != (q : Int)) = false := by rw [bne_eq_false_iff_eq]; omega
        have e6 : (k != q) = false := by rw [bne_eq_false_iff_eq]; omega
        by_cases hx1 : x = 1
        · have e7 : ((x : Int) == 1) = true := by rw [beq_iff_eq]; omega
          have e2 : Hid (bad = true) := HBD.out.trans (decide_eq_true (.inr (.inr hx1)))
          clear hk1 hkq hx1
          go_wp2
          go_meet
          exact ⟨by rw [e2.out], rfl⟩
        · have e7 : ((x : Int) == 1) = false := by rw [beq_eq_false_iff_ne]; omega
          have e2 : Hid (bad = false) := HBD.out.trans (decide_eq_false (by omega))
          clear hk1 hkq hx1
          go_wp2
          go_meet
          exact ⟨by rw [e2.out], rfl⟩
      · have e5 : ((k : Int) != (q : Int)) = true := by rw [bne_iff_ne]; omega
        have e6 : (k != q) = true := by rw [bne_iff_ne]; omega
        have e2 : Hid (bad = true) := HBD.out.trans (decide_eq_true (.inr (.inl hkq)))
        clear hk1 hkq
        go_wp2
        go_meet
        exact ⟨by rw [e2.out], rfl⟩
  case rest =>
    obtain ⟨rfl, rfl⟩ := hcut
    clear hq hr X1 X2 NA NC
    cases bad with
    | true =>
      obtain ⟨rfl, rfl, rfl⟩ := H1.out (of_decide_eq_true HBD.out.symm)
      go_wp2
      go_ret3
      exact ⟨_, rfl, Nums.nil _, Below.refl _ _⟩
    | false =>
      have hb := of_decide_eq_false HBD.out.symm
      have hk123 : k ≤ 123 := by omega
      have hkq : k = q := by omega
      have hx1 : x ≠ 1 := by omega
      have HE2 : Hid (R = false → N = 0 ∧ E = 2 ∧ Lo = []) := H2.out hx1 hk123 hkq
      have HE3 : Hid (R = true → N = (x : Int) ∧ E = 0 ∧ Lo = L.nums b k) := H3.out hx1 hk123 hkq
      have HKQ := Lib.hid hkq
      clear H1 H2 H3 HBD hb hx1 hkq
      go_wp2_with fail
      have HB0 : Hid (Below wc.heap.size wc (wc.alloc (.cells #[] 35))) := alb _
      have HO0 : Hid ((wc.alloc (.cells #[] 35)).ownsRow wc.heap.size 35 1 (.slice (some ⟨wc.heap.size, 0, none⟩) 0 0) (L.nums b 0).length (us (L.nums b 0))) := World.ownsRow_lit wc #[] 0 (Nat.le_refl _) (by unfold maxLen; omega) rfl
      go_loopg [7, 8] k (fun z s7 s8 wr => ∃ (i : Nat), s8 = .int .i64 (i : Int) ∧ i ≤ k ∧ k - i ≤ z ∧ Hid (Below wc.heap.size wc wr) ∧ Hid (wr.ownsRow wc.heap.size 35 1 s7 (L.nums b i).length (us (L.nums b i))))
      case atStart => exact ⟨0, rfl, by omega, by omega, HB0, HO0⟩
      case round =>
        obtain ⟨i, rfl, i1, i2, HB, HO⟩ := hrel
        by_cases hi : i < k
        · have hz : (i : Int) < (k : Int) := by omega
          have hfit : 6 + 4 * i + 4 ≤ b.length := by rw [hl.out, HN.out, ← HKQ.out]; omega
          have hcut : ∀ W, (Instr.slice 9 (.string sb) (some (.int .i64 (6 + 4 * (i : Int)))) (some (.int .i64 (10 + 4 * (i : Int)))) none).run Try.prog W = .ok (.string (str ((b.drop (6 + 4 * i)).take 4))) W := fun W => by
            rw [HSB.out]
            exact run_part b (6 + 4 * i) _ _ (by omega) (by omega) hfit W
          have HF := Lib.hid (fun W => number_any ((b.drop (6 + 4 * i)).take 4) (by simp; omega) W)
          rw [valL_at4 b _ hfit] at HF
          obtain ⟨y, hy⟩ : ∃ y, y = L.numAt b (6 + 4 * i) := ⟨_, rfl⟩
          rw [← hy] at HF
          have HY := Lib.hid hy
          generalize str ((b.drop (6 + 4 * i)).take 4) = sP at *
          have hcw := hcut wr
          clear hy hcut
          go_wp2_with fail
          refine (HF.out _).mono ?_
          rintro e w4 ⟨rfl, rfl⟩
          go_wp2_with (first
            | (at_builtin; refine wpList_append_one rfl _ _ 25 rfl Try.underlying25 wc.heap.size _ (L.nums b i) ((y : Nat) : Int) rfl wr rfl rfl HO.out (by rw [L.nums_length]; omega) HB.out.size ?_; intro v6 w6 hown6 hb6)
            | go_in)
          go_roundg (k - (i + 1))
          case measure => omega
          case rel =>
            refine ⟨i + 1, by simp, by omega, by omega, HB.out.trans hb6, ?_⟩
            rw [L.nums_succ, ← HY.out]
            exact hown6
        · have hz : ¬ (i : Int) < (k : Int) := by omega
          obtain rfl : i = k := by omega
          have HNM := Lib.hid (Nums.own HO.out)
          have HRI := Lib.hid (rises_any wr _ _ HNM.out)
          rw [HR.out] at HRI
          go_wp2_with fail
          refine (HRI.out).mono ?_
          rintro e w4 ⟨rfl, h4⟩
          cases R with
          | false =>
            obtain ⟨rfl, rfl, rfl⟩ := HE2.out rfl
            go_wp2
            go_ret3
            exact ⟨_, rfl, Nums.nil _, btr HB.out h4⟩
          | true =>
            obtain ⟨rfl, rfl, rfl⟩ := HE3.out rfl
            go_wp2
            go_ret3
            exact ⟨_, rfl, HNM.out.below h4, btr HB.out h4⟩
theorem refparse_any (w : World) (b : List UInt8) (hm : b.length ≤ 1000000) :
    Calls Try.prog 13 #[.string (str b)] w fun e w' => ∃ u, e = .returned (.tuple #[.int .u32 (L.parseN b), u, .int .i64 ((L.parseE b : Nat) : Int)]) ∧ Nums w' u (L.parseL b) ∧ Below w.heap.size w w' := by
  by_cases h6 : b.length < 6 ∨ (b.length - 6) % 4 ≠ 0
  · have e : L.parseE b = 2 := by
      unfold L.parseE
      by_cases q : b.length < 6
      · rw [if_pos q]
      · rw [if_neg q, if_pos (by omega)]
    have e1 : L.parseN b = 0 := by unfold L.parseN; rw [if_neg (by omega)]
    have e2 : L.parseL b = [] := by unfold L.parseL; rw [if_neg (by omega)]
    rw [e, e1, e2]
    refine (rp_bad w (str b) (Int.tmod (((str b).size : Int) - 6) 4) ?_ (by rw [str_size]; exact hm)).mono ?_
    · rw [str_size]
      by_cases q : b.length < 6
      · exact .inl q
      · refine .inr ⟨by omega, rfl, ?_⟩
        rw [Int.tmod_eq_emod_of_nonneg (by omega)]
        omega
    · rintro e w' ⟨rfl, hB⟩
      exact ⟨_, rfl, Nums.nil _, hB⟩
  · have n4 := fun W : World => number_any (b.take 4) (by simp; omega) W
    have n2 := fun W : World => number_any ((b.drop 4).take 2) (by simp; omega) W
    have v4 := valL_at4 b 0 (by omega)
    rw [List.drop_zero] at v4
    rw [v4] at n4
    rw [valL_at2 b (by omega)] at n2
    refine rp_core w b (str b) (str (b.take 4)) (str ((b.drop 4).take 2)) b.length ((b.length - 6) / 4) (L.numAt b 0) (L.cnt b) _ _ _ _ (by omega) (str_size b) hm (L.cnt_lt b) rfl rfl (by rw [str_extract]; rfl) (by rw [str_extract]) n4 n2 rfl (Lib.hid fun q => ?_) (Lib.hid fun q1 q2 q3 q4 => ?_) (Lib.hid fun q1 q2 q3 q4 => ?_)
    · have e : L.parseE b = 2 := by unfold L.parseE; rw [if_neg (by omega), if_pos (by omega)]
      exact ⟨by unfold L.parseN; rw [if_neg (by omega)], by rw [e]; rfl, by unfold L.parseL; rw [if_neg (by omega)]⟩
    · have e : L.parseE b = 2 := by unfold L.parseE; rw [if_neg (by omega), if_neg (by omega), if_neg (by rw [q4]; simp)]
      exact ⟨by unfold L.parseN; rw [if_neg (by omega)], by rw [e]; rfl, by unfold L.parseL; rw [if_neg (by omega)]⟩
    · have e : L.parseE b = 0 := by unfold L.parseE; rw [if_neg (by omega), if_neg (by omega), if_pos q4]
      exact ⟨by unfold L.parseN; rw [if_pos e], by rw [e]; rfl, by unfold L.parseL; rw [if_pos e]⟩
end Go.Proofs.Ytnnegglhndllfaa
