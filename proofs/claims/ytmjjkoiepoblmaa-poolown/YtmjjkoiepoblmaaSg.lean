/- The library's sort at uint32: the pivot is a place of the part. -/
import Derived.Test.YtmjjkoiepoblmaaSf
import Derived.Test.YtmjjkoiepoblmaaSp
namespace Go.Proofs.Ytmjjkoiepoblmaa
open Go.RowKit Go.Sort

theorem holds_below {w w' : World} {b o : Nat} {d : Array Int} (h : Holds eU w b o d) (k : Below w.heap.size w w') : Holds eU w' b o d := holds_keep (F := fun _ => False) h (Keep.of_below k) (fun h => h)
theorem Sw.here {s : Nat} {w w' : World} (h : Sw s w w') : Sw s w' w' := ⟨Keep.refl _ _, h.cell, h.fz⟩

set_option maxHeartbeats 3200000 in
set_option maxRecDepth 1000000 in
theorem pivot_any (b o cap : Nat) (d : Array Int) (l h : Nat) (w : World) (hH : Holds eU w b o d) (hlh : l + 12 < h) (hb : h ≤ d.size) (hsz : d.size < 65536) :
    Calls Try.prog 32 #[.slice (some ⟨b, o, none⟩) d.size cap, .int .i64 l, .int .i64 h] w fun e w' =>
      ∃ (p : Nat) (t : Int), e = .returned (.tuple #[.int .i64 p, .int .i64 t]) ∧ l ≤ p ∧ p < h ∧ Below w.heap.size w w' := by
  obtain ⟨n, hn⟩ : ∃ n, n = h - l := ⟨_, rfl⟩
  obtain ⟨q, hq⟩ : ∃ q, q = n / 4 := ⟨_, rfl⟩
  have e0 : (h : Int) - (l : Int) = (n : Int) := by omega
  have e1 : Int.tdiv (n : Int) 4 = (q : Int) := by rw [hq]; rfl
  have h8 : 8 ≤ n := by omega
  have hq4 : 4 * q ≤ n := by omega
  have hq3 : 3 ≤ q := by omega
  have hln : l + n = h := by omega
  have hbb : b < w.heap.size := World.block_lt_of_cell? w _ (hH 0 (by omega)).1
  have hsb : w.heap.size ≠ b := by omega
  have s0 : Sw w.heap.size (w.alloc (.cells #[.int .i64 0] 3)) (w.alloc (.cells #[.int .i64 0] 3)) := ⟨Keep.refl _ _, ⟨0, by simp [go_sem]⟩, by simp [go_sem]⟩
  have h0 : Holds eU (w.alloc (.cells #[.int .i64 0] 3)) b o d := holds_below hH (alb _)
  have b0 : Below w.heap.size w (w.alloc (.cells #[.int .i64 0] 3)) := alb _
  have z0 : w.heap.size ≤ (w.alloc (.cells #[.int .i64 0] 3)).heap.size := b0.size
  have S0 := Lib.hid s0
  have H0 := Lib.hid h0
  have B0 := Lib.hid b0
  have Z0 := Lib.hid z0
  clear s0 h0 b0 z0 hH hn hq
  have fin : ∀ w0 w', Sw w.heap.size w0 w' → Below w.heap.size w w0 → Below w.heap.size w w' := fun w0 w' k kb => kb.trans (k.keep.below kb.size (fun i hi => by subst hi; exact Nat.le_refl _))
  have FIN := Lib.hid fin
  clear fin
  go_enter Try.func32, Try.ntmps32
  go_upto_region 3 with fail
  generalize w.alloc (.cells #[.int .i64 0] 3) = w0 at S0 H0 B0 Z0 ⊢
  have c1 := Lib.hid (near_any b o cap d (l + q) w.heap.size w0 H0.out (by omega) (by omega) S0.out hsb hsz)
  rw [show ((l + q : Nat) : Int) = (l : Int) + (q : Int) by omega] at c1
  have c5 := Lib.hid (median_any b o cap d (l + q) (l + q * 2) (l + q * 3) w.heap.size w0 H0.out (by omega) (by omega) (by omega) S0.out hsb)
  rw [show ((l + q : Nat) : Int) = (l : Int) + (q : Int) by omega, show ((l + q * 2 : Nat) : Int) = (l : Int) + (q : Int) * 2 by omega, show ((l + q * 3 : Nat) : Int) = (l : Int) + (q : Int) * 3 by omega] at c5
  by_cases h50 : 50 ≤ n
  · go_wp2_with fail
    refine c1.out.mono ?_
    rintro e w1 ⟨r1, rfl, r1a, r1b, k1⟩
    have H1 := Lib.hid (holds_keep H0.out k1.keep (fun e => hsb e.symm))
    have c2 := Lib.hid (near_any b o cap d (l + q * 2) w.heap.size w1 H1.out (by omega) (by omega) k1.here hsb hsz)
    rw [show ((l + q * 2 : Nat) : Int) = (l : Int) + (q : Int) * 2 by omega] at c2
    have K1 := Lib.hid k1
    clear k1
    go_wp2_with fail
    refine c2.out.mono ?_
    rintro e w2 ⟨r2, rfl, r2a, r2b, k2⟩
    have H2 := Lib.hid (holds_keep H1.out k2.keep (fun e => hsb e.symm))
    have c3 := Lib.hid (near_any b o cap d (l + q * 3) w.heap.size w2 H2.out (by omega) (by omega) k2.here hsb hsz)
    rw [show ((l + q * 3 : Nat) : Int) = (l : Int) + (q : Int) * 3 by omega] at c3
    have K2 := Lib.hid (K1.out.trans k2)
    clear k2 K1
    go_wp2_with fail
    refine c3.out.mono ?_
    rintro e w3 ⟨r3, rfl, r3a, r3b, k3⟩
    have H3 := Lib.hid (holds_keep H2.out k3.keep (fun e => hsb e.symm))
    have c4 := Lib.hid (median_any b o cap d r1 r2 r3 w.heap.size w3 H3.out (by omega) (by omega) (by omega) k3.here hsb)
    have K3 := Lib.hid (K2.out.trans k3)
    clear k3 K2
    go_wp2_with fail
    refine c4.out.mono ?_
    rintro e w4 ⟨r, rfl, rm, k4⟩
    have ra : l ≤ r := rm (fun x => l ≤ x) (by omega) (by omega) (by omega)
    have rb : r < h := rm (fun x => x < h) (by omega) (by omega) (by omega)
    have B4 := Lib.hid (FIN.out _ _ (K3.out.trans k4) B0.out)
    obtain ⟨z, hz⟩ := k4.cell
    clear rm k4 K3
    go_wp2
    all_goals go_ret2
    all_goals exact ⟨r, _, rfl, ra, rb, B4.out⟩
  · go_wp2_with fail
    refine c5.out.mono ?_
    rintro e w4 ⟨r, rfl, rm, k4⟩
    have ra : l ≤ r := rm (fun x => l ≤ x) (by omega) (by omega) (by omega)
    have rb : r < h := rm (fun x => x < h) (by omega) (by omega) (by omega)
    have B4 := Lib.hid (FIN.out _ _ k4 B0.out)
    obtain ⟨z, hz⟩ := k4.cell
    clear rm k4
    go_wp2
    all_goals go_ret2
    all_goals exact ⟨r, _, rfl, ra, rb, B4.out⟩
end Go.Proofs.Ytmjjkoiepoblmaa
