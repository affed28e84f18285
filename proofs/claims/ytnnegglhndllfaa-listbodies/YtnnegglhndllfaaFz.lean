/- ListBodies. -/
import Derived.Test.YtnnegglhndllfaaFx
namespace Go.Proofs.Ytnnegglhndllfaa
open Go.RowKit

theorem lb_big (w : World) (A A2 : Option Addr) (n c m c2 : Nat) (h : 600 < n ∨ (n ≤ 600 ∧ 10 < m)) :
    Calls Try.prog 4 #[.slice A n c, .slice A2 m c2] w fun e w' => e = .returned (.bool true) ∧ Below w.heap.size w w' := by
  have HF := Lib.hid (fun W : World => fixed_any W)
  rcases h with h | ⟨h, h2⟩
  all_goals
    go_enter Try.func4, Try.ntmps4
    go_wp2_with fail
    refine (HF.out _).mono ?_
    rintro e w2 ⟨rfl, hB⟩
    go_wp2
    go_ret
    exact ⟨rfl, hB⟩

set_option maxRecDepth 100000 in
set_option maxHeartbeats 1600000 in
theorem lb_core (w : World) (A A2 : Option Addr) (n c m c2 k : Nat) (E : Int) (bs : List (List UInt8)) (h1 : n ≤ 600) (h2 : m ≤ 10) (hk : Hid (bs.length = k)) (hk2 : k ≤ 10)
    (HB : Hid (Calls Try.prog 10 #[.slice A n c, .slice A2 m c2] w fun e w' => ∃ u, e = .returned (.tuple #[u, .int .i64 E]) ∧ Bods w' w.heap.size u bs ∧ Below w.heap.size w w'))
    (HR : Hid (∀ W : World, Below w.heap.size w W → Calls Try.prog 11 #[.slice A n c, .slice A2 m c2] W fun e w' => ∃ u, e = .returned (.tuple #[u, .int .i64 E]) ∧ Strs w' W.heap.size u bs ∧ Below W.heap.size W w')) :
    Calls Try.prog 4 #[.slice A n c, .slice A2 m c2] w fun e w' => e = .returned (.bool true) ∧ Below w.heap.size w w' := by
  have HF := Lib.hid (fun W : World => fixed_any W)
  go_enter Try.func4, Try.ntmps4
  go_wp2_with fail
  refine HB.out.mono ?_
  rintro e w2 ⟨u, rfl, hb, hB⟩
  obtain ⟨Au, cu, rfl⟩ := hb.form
  have HBS := Lib.hid hb
  have HB2 := Lib.hid hB
  clear hb hB HB
  go_wp2_with fail
  refine (HR.out _ HB2.out).mono ?_
  rintro e w3 ⟨um, rfl, hs, hB3⟩
  obtain ⟨Am, cm, rfl⟩ := hs.form
  have HBS3 : Hid (Bods w3 w.heap.size (.slice Au bs.length cu) bs) := HBS.out.below hB3
  have HSS3 := Lib.hid hs
  have HB3 : Hid (Below w.heap.size w w3) := btr HB2.out hB3
  clear hs hB3 HBS HB2 HR
  rw [hk.out] at HBS3 HSS3 ⊢
  go_wp2_with fail
  go_loopg [43] k (fun z s wr => ∃ (i : Nat), s = .int .i64 (i : Int) ∧ i ≤ k ∧ k - i ≤ z ∧ Hid (Below w3.heap.size w3 wr))
  case atStart => exact ⟨0, rfl, by omega, by omega, Below.refl _ _⟩
  case round =>
    obtain ⟨i, rfl, i1, i2, HW⟩ := hrel
    by_cases hi : i < k
    · have hz : (i : Int) < (k : Int) := by omega
      obtain ⟨g, cap, vi, e1, c0, hby⟩ := (HBS3.out.below HW.out).at i (by rw [hk.out]; exact hi)
      obtain ⟨g2, cap2, e2, c1⟩ := (Strs.below HSS3.out HW.out).at i (by rw [hk.out]; exact hi)
      have eA : Au = some ⟨g, 0, none⟩ := by simpa using (Value.slice.inj e1).1
      have eM : Am = some ⟨g2, 0, none⟩ := by simpa using (Value.slice.inj e2).1
      subst eA eM
      have hcv := (hby.below (Below.refl _ wr).drew).conv
      generalize str (bs[i]'(by rw [hk.out]; exact hi)) = sB at *
      clear e1 e2 hby
      go_wp2_with fail
      go_region
      go_wp2
      go_roundg (k - (i + 1))
      case measure => omega
      case rel => exact ⟨i + 1, by simp, by omega, by omega, HW.out.drew⟩
    · have hz : ¬ (i : Int) < (k : Int) := by omega
      go_wp2_with fail
      refine (HF.out _).mono ?_
      rintro e w4 ⟨rfl, h4⟩
      go_wp2
      go_ret
      exact ⟨rfl, btr (btr HB3.out HW.out) h4⟩
theorem lb_any (w : World) (v v2 : Value) (l p : List Int) (h : Nums w v l) (h2 : Nums w v2 p) (rl : Rg l) (rp : Rg p) :
    Calls Try.prog 4 #[v, v2] w fun e w' => e = .returned (.bool true) ∧ Below w.heap.size w w' := by
  obtain ⟨A, c, e, _, _⟩ := h.form
  obtain ⟨A2, c2, e2, _, _⟩ := h2.form
  by_cases hs : l.length ≤ 600 ∧ p.length ≤ 10
  · have hb := bodies_any w v v2 l p h h2 rl rp (by omega)
    have hr : ∀ W : World, Below w.heap.size w W → _ := fun W hW => refbodies_any W v v2 l p (h.below hW) (h2.below hW) rl rp (by omega)
    subst e e2
    refine lb_core w A A2 l.length c p.length c2 (L.bodiesL l p).length _ _ hs.1 hs.2 rfl ?_ hb hr
    unfold L.bodiesL
    split
    · simp; omega
    · simp
  · subst e e2
    exact lb_big w A A2 l.length c p.length c2 (by omega)
end Go.Proofs.Ytnnegglhndllfaa
