/- ListBack. -/
import Derived.Test.YtnnegglhndllfaaFx
namespace Go.Proofs.Ytnnegglhndllfaa
open Go.RowKit

theorem lk_big (w : World) (A A2 : Option Addr) (n c m c2 : Nat) (h : 600 < n ∨ (n ≤ 600 ∧ 10 < m)) :
    Calls Try.prog 6 #[.slice A n c, .slice A2 m c2] w fun e w' => e = .returned (.bool true) ∧ Below w.heap.size w w' := by
  have HF := Lib.hid (fun W : World => fixed_any W)
  rcases h with h | ⟨h, h2⟩
  all_goals
    go_enter Try.func6, Try.ntmps6
    go_wp2_with fail
    refine (HF.out _).mono ?_
    rintro e w2 ⟨rfl, hB⟩
    go_wp2
    go_ret
    exact ⟨rfl, hB⟩
theorem lk_no (w : World) (A A2 : Option Addr) (n c m c2 : Nat) (h1 : n ≤ 600) (h2 : m ≤ 10)
    (HB : Hid (Calls Try.prog 10 #[.slice A n c, .slice A2 m c2] w fun e w' => ∃ u, e = .returned (.tuple #[u, .int .i64 1]) ∧ Bods w' w.heap.size u [] ∧ Below w.heap.size w w')) :
    Calls Try.prog 6 #[.slice A n c, .slice A2 m c2] w fun e w' => e = .returned (.bool true) ∧ Below w.heap.size w w' := by
  have HF := Lib.hid (fun W : World => fixed_any W)
  go_enter Try.func6, Try.ntmps6
  go_wp2_with fail
  refine HB.out.mono ?_
  rintro e w2 ⟨u, rfl, hb, hB⟩
  obtain ⟨Au, cu, rfl⟩ := hb.form
  rw [show ([] : List (List UInt8)).length = 0 from rfl]
  go_wp2_with fail
  refine (HF.out _).mono ?_
  rintro e w3 ⟨rfl, h3⟩
  go_wp2
  go_ret
  exact ⟨rfl, btr hB h3⟩

set_option maxRecDepth 100000 in
set_option maxHeartbeats 1600000 in
theorem lk_core (w : World) (A A2 : Option Addr) (n c m c2 : Nat) (l p : List Int) (h1 : n ≤ 600) (h2 : m ≤ 10) (HK : Hid (p.length = m)) (RL : Hid (Rg l)) (RP : Hid (Rg p)) (HE : Hid (L.bodiesE l p = 0))
    (HN : Hid (Nums w (.slice A n c) l)) (HP : Hid (Nums w (.slice A2 m c2) p))
    (HB : Hid (Calls Try.prog 10 #[.slice A n c, .slice A2 m c2] w fun e w' => ∃ u, e = .returned (.tuple #[u, .int .i64 0]) ∧ Bods w' w.heap.size u (L.bodiesL l p) ∧ Below w.heap.size w w')) :
    Calls Try.prog 6 #[.slice A n c, .slice A2 m c2] w fun e w' => e = .returned (.bool true) ∧ Below w.heap.size w w' := by
  obtain ⟨i0, hi0, hz0, hz1, hz2⟩ := info_parts Try.info35
  have HF := Lib.hid (fun W : World => fixed_any W)
  have hbl : Hid ((L.bodiesL l p).length = m) := by show _ = m; rw [L.bodiesL_ok HE.out]; simp [HK.out]
  go_enter Try.func6, Try.ntmps6
  go_wp2_with fail
  refine HB.out.mono ?_
  rintro e w2 ⟨u, rfl, hb, hB⟩
  obtain ⟨Au, cu, rfl⟩ := hb.form
  have HBS := Lib.hid hb
  have HB2 := Lib.hid hB
  clear hb hB HB
  rw [hbl.out] at HBS ⊢
  go_wp2_with fail
  go_loopg [7, 37] m (fun z s7 s wr => ∃ (i : Nat) (all : List Int), s = .int .i64 (i : Int) ∧ i ≤ m ∧ m - i ≤ z ∧ all.length ≤ 123 * i ∧ Hid (all = l.take (123 * i)) ∧ Hid (Below w.heap.size w wr) ∧ Hid (Bods wr w.heap.size (.slice Au m cu) (L.bodiesL l p)) ∧ Hid (wr.ownsRow w2.heap.size 35 1 s7 all.length (us all)) ∧ Hid (w2.heap.size ≤ wr.heap.size))
  case atStart => exact ⟨0, [], rfl, by omega, by omega, by simp, rfl, HB2, HBS, World.ownsRow_nil _ _ _ _, Nat.le_refl _⟩
  case round =>
    obtain ⟨i, all, rfl, i1, i2, hal, HAL, HW, HBW, HO, HSZ⟩ := hrel
    by_cases hi : i < m
    · have hz : (i : Int) < (m : Int) := by omega
      obtain ⟨g, cap, vi, e1, c0, hby⟩ := HBW.out.at i (by rw [hbl.out]; exact hi)
      have eA : Au = some ⟨g, 0, none⟩ := by simpa using (Value.slice.inj e1).1
      subst eA
      have hbi : (L.bodiesL l p)[i]'(by rw [hbl.out]; exact hi) = L.bodyAt l p i := by
        simp only [L.bodiesL_ok HE.out]
        simp
      rw [hbi] at hby
      have HPA := Lib.hid (parse_any wr vi _ hby)
      obtain ⟨b1, b2, b3⟩ := L.back HE.out RL.out RP.out i
      rw [b1, b2, b3, show ((0 : Nat) : Int) = 0 from rfl] at HPA
      obtain ⟨nx, hnx⟩ : ∃ nx, nx = L.nextOf p i := ⟨_, rfl⟩
      obtain ⟨q, hq⟩ : ∃ q, q = L.part l i := ⟨_, rfl⟩
      rw [← hnx, ← hq] at HPA
      have HNX := Lib.hid hnx
      have HQ := Lib.hid hq
      clear e1 hby hbi b1 b2 b3 hnx hq
      go_wp2_with fail
      refine HPA.out.mono ?_
      rintro e w3 ⟨u3, rfl, hu3, hb3⟩
      obtain ⟨A3, c3, e3, _, _⟩ := (Nums.own hu3).form
      have HU3 : Hid (w3.ownsRow 0 35 1 u3 q.length (us q)) := Go.Joins.ownsRow_le hu3 (Nat.zero_le _)
      have HO3 := Lib.hid (own_keep HO.out (Keep.of_below (F := fun _ => False) hb3) (fun _ _ q => q))
      have HB3 : Hid (Below w.heap.size w w3) := btr HW.out hb3
      have HBW3 := Lib.hid (HBW.out.below hb3)
      have HSZ3 : Hid (w2.heap.size ≤ w3.heap.size) := Nat.le_trans HSZ.out hb3.size
      have hq123 : q.length ≤ 123 := by rw [HQ.out]; exact L.part_le l i
      rw [e3] at HU3
      subst e3
      clear hu3 hb3 HO HW HBW HPA HSZ c0
      by_cases hl : i + 1 < m
      · have d1 : decide ((i : Int) + 1 < (m : Int)) = true := decide_eq_true (by omega)
        have hl2 : (i : Int) + 1 < (m : Int) := by omega
        have hge : 2 ≤ nx := by
          rw [HNX.out]
          exact L.nextOf_ge (L.bodiesE_zero HE.out).2.1 (by rw [HK.out]; exact hl)
        have q1 : (nx != 0) = true := by rw [bne_iff_ne]; omega
        obtain ⟨A2', c2', e2, _, _, hcell⟩ := HP.out
        obtain ⟨b, off, e4, r4⟩ := hcell (by rw [HK.out]; omega)
        have eA : A2 = some ⟨b, off, none⟩ := by
          rw [e4] at e2
          simpa using (Value.slice.inj e2).1
        subst eA
        have c1 := kept (r4 (i + 1) (by rw [HK.out]; exact hl)) HB3.out
        rw [← getD_get! p (i + 1) (by rw [HK.out]; exact hl)] at c1
        have en : p.getD (i + 1) 0 = nx := HNX.out.symm
        rw [en] at c1
        clear hcell e2 e4 r4 en hge
        go_wp2_with (first
          | (at_builtin; refine wpList_append_rows rfl _ _ 25 rfl w2.heap.size 35 i0 _ 1 4 Try.underlying25 hi0 hz0 hz1 hz2 rfl (by decide) _ all.length (us all) rfl HO3.out _ q.length (us q) rfl HU3.out (us_one q) (by unfold maxLen; omega) (by omega) HSZ3.out ?_; intro v6 w6 hown6 hgrow6)
          | go_in)
        go_roundg (m - (i + 1))
        case measure => omega
        case rel =>
          refine ⟨i + 1, all ++ q, by simp, by omega, by omega, by rw [List.length_append]; omega, ?_, ?_, ?_, ?_, ?_⟩
          · refine Lib.hid ?_
            rw [HAL.out, HQ.out, L.part_take]
          · refine HB3.out.grown hgrow6 HB3.out.size (fun b hb => ?_)
            obtain ⟨_, _, hbb⟩ := own_block HO3.out hb
            exact Nat.le_trans HB2.out.size hbb
          · refine HBW3.out.lets (fun b cur e he hb => (hgrow6.block b (Array.getElem?_eq_some_iff.1 hb).1 (fun eb => ?_)).trans hb)
            obtain ⟨cur', hc', _⟩ := own_block HO3.out eb.symm
            rw [hb] at hc'
            simp at hc'
            rcases he with rfl | rfl
            · exact absurd hc'.2 (by decide)
            · exact absurd hc'.2 (by decide)
          · have e : us (all ++ q) = us all ++ us q := by simp [us]
            refine Lib.hid ?_
            rw [e, List.length_append]
            exact hown6
          · exact Nat.le_trans HSZ3.out hgrow6.size
      · have d1 : decide ((i : Int) + 1 < (m : Int)) = false := decide_eq_false (by omega)
        have q1 : (nx != 0) = false := by
          rw [bne_eq_false_iff_eq, HNX.out]
          exact L.nextOf_last (by rw [HK.out]; exact hl)
        go_wp2_with (first
          | (at_builtin; refine wpList_append_rows rfl _ _ 25 rfl w2.heap.size 35 i0 _ 1 4 Try.underlying25 hi0 hz0 hz1 hz2 rfl (by decide) _ all.length (us all) rfl HO3.out _ q.length (us q) rfl HU3.out (us_one q) (by unfold maxLen; omega) (by omega) HSZ3.out ?_; intro v6 w6 hown6 hgrow6)
          | go_in)
        go_roundg (m - (i + 1))
        case measure => omega
        case rel =>
          refine ⟨i + 1, all ++ q, by simp, by omega, by omega, by rw [List.length_append]; omega, ?_, ?_, ?_, ?_, ?_⟩
          · refine Lib.hid ?_
            rw [HAL.out, HQ.out, L.part_take]
          · refine HB3.out.grown hgrow6 HB3.out.size (fun b hb => ?_)
            obtain ⟨_, _, hbb⟩ := own_block HO3.out hb
            exact Nat.le_trans HB2.out.size hbb
          · refine HBW3.out.lets (fun b cur e he hb => (hgrow6.block b (Array.getElem?_eq_some_iff.1 hb).1 (fun eb => ?_)).trans hb)
            obtain ⟨cur', hc', _⟩ := own_block HO3.out eb.symm
            rw [hb] at hc'
            simp at hc'
            rcases he with rfl | rfl
            · exact absurd hc'.2 (by decide)
            · exact absurd hc'.2 (by decide)
          · have e : us (all ++ q) = us all ++ us q := by simp [us]
            refine Lib.hid ?_
            rw [e, List.length_append]
            exact hown6
          · exact Nat.le_trans HSZ3.out hgrow6.size
    · have hz : ¬ (i : Int) < (m : Int) := by omega
      obtain rfl : i = m := by omega
      have hal2 : Hid (all = l) := by
        show all = l
        rw [HAL.out]
        exact List.take_of_length_le (by rw [← HK.out]; exact (L.bodiesE_zero HE.out).2.2)
      obtain ⟨A7, c7, e7, _, _⟩ := (Nums.own HO.out).form
      subst e7
      have HNW := Lib.hid (HN.out.below HW.out)
      have HO7 := Lib.hid (Nums.own HO.out)
      clear HO
      go_wp2_with fail
      refine (HF.out _).mono ?_
      rintro e w3 ⟨rfl, h3⟩
      have HSM := Lib.hid (rsame_any w3 _ _ all l (HO7.out.below h3) (HNW.out.below h3))
      rw [decide_eq_true hal2.out] at HSM
      go_wp2_with fail
      refine HSM.out.mono ?_
      rintro e w4 ⟨rfl, h4⟩
      go_wp2
      go_ret
      exact ⟨rfl, btr (btr HW.out h3) h4⟩
theorem lk_any (w : World) (v v2 : Value) (l p : List Int) (h : Nums w v l) (h2 : Nums w v2 p) (rl : Rg l) (rp : Rg p) :
    Calls Try.prog 6 #[v, v2] w fun e w' => e = .returned (.bool true) ∧ Below w.heap.size w w' := by
  obtain ⟨A, c, e, _, _⟩ := h.form
  obtain ⟨A2, c2, e2, _, _⟩ := h2.form
  by_cases hs : l.length ≤ 600 ∧ p.length ≤ 10
  · have hb := bodies_any w v v2 l p h h2 rl rp (by omega)
    subst e e2
    by_cases q : L.bodiesE l p = 0
    · rw [q] at hb
      exact lk_core w A A2 l.length c p.length c2 l p hs.1 hs.2 rfl rl rp q h h2 hb
    · rw [L.bodiesL_no q, (L.bodiesE_cases l p).resolve_left q] at hb
      exact lk_no w A A2 l.length c p.length c2 hs.1 hs.2 hb
  · subst e e2
    exact lk_big w A A2 l.length c p.length c2 (by omega)
end Go.Proofs.Ytnnegglhndllfaa
