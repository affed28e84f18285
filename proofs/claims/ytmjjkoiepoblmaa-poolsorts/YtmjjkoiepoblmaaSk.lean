/- The library's sort at uint32: the next power of two; a part is stirred. -/
import Derived.Test.YtmjjkoiepoblmaaSh
namespace Go.Proofs.Ytmjjkoiepoblmaa
open Go.RowKit Go.Sort

theorem aux_pow : ∀ (f x : Nat), x ≠ 0 → 2 ^ Lib.bitLenAux f x ≤ 2 * x
  | 0, x, h => by simp [Lib.bitLenAux]; omega
  | f + 1, x, h => by
    rw [Lib.bitLenAux, if_neg h]
    by_cases h2 : x / 2 = 0
    · rw [h2]
      have e : Lib.bitLenAux f 0 = 0 := by cases f <;> rfl
      rw [e]
      omega
    · have := aux_pow f (x / 2) h2
      rw [Nat.pow_add]
      omega
theorem len_pow (n : Nat) (h : n ≠ 0) : 2 ^ Lib.bitLen n ≤ 2 * n := aux_pow 64 n h
theorem len_16 (n : Nat) (h : n < 65536) : Lib.bitLen n ≤ 16 := by
  by_cases h0 : n = 0
  · subst h0; decide
  · have := len_pow n h0
    have h17 : 2 ^ Lib.bitLen n < 2 ^ 17 := by omega
    have := (Nat.pow_lt_pow_iff_right (by decide : 1 < 2)).1 h17
    omega

set_option maxHeartbeats 1600000 in
theorem len_any (n : Nat) (hn : n < 65536) (w : World) : Calls Try.prog 25 #[.int .u64 (n : Int)] w fun e w' => e = .returned (.int .i64 ((Lib.bitLen n : Nat) : Int)) ∧ w = w' := by
  go_enter Try.func25, Try.ntmps25
  go_wp2_with (go_at_call 39; refine (len64_any n hn w).mono ?_; rintro e w1 ⟨rfl, rfl⟩)
  go_ret
  exact ⟨rfl, rfl⟩

set_option maxHeartbeats 1600000 in
theorem power_any (n : Nat) (h0 : n ≠ 0) (hn : n < 65536) (w : World) : Calls Try.prog 41 #[.int .i64 (n : Int)] w fun e w' => ∃ m : Nat, e = .returned (.int .u64 (m : Int)) ∧ 0 < m ∧ m ≤ 2 * n ∧ w = w' := by
  have l16 := len_16 n hn
  have lp := len_pow n h0
  have hc := len_any n hn w
  generalize Lib.bitLen n = L at l16 lp hc
  have p : 0 < 2 ^ L := Nat.two_pow_pos L
  go_enter Try.func41, Try.ntmps41
  go_wp2_with (go_at_call 25; refine hc.mono ?_; rintro e w1 ⟨rfl, rfl⟩)
  go_ret
  refine ⟨2 ^ L, ?_, p, lp, rfl⟩
  have e : IntKind.u64.wrap ((2 : Int) ^ L) = ((2 ^ L : Nat) : Int) := by
    have e2 : ((2 ^ L : Nat) : Int) = (2 : Int) ^ L := by simp
    rw [IntKind.wrap_u64, ← e2]
    generalize 2 ^ L = y at lp p
    omega
  simp [e]

theorem and_some (z k : Nat) (hz : z < 18446744073709551616) (hk : k < 18446744073709551616) : ∃ y : Nat, y ≤ k ∧ bits .and .u64 (z : Int) (k : Int) = (y : Int) := ⟨z &&& k, Nat.and_le_right, bits_and_u64_nat z k hz hk⟩
theorem Rw.step {w w1 w2 : World} {b o s : Nat} {d : Array Int} (h : Rw w b o d w1) (k : Keep (fun k => k = s) w1 w2) (hs : s ≠ b) (hws : w.heap.size ≤ s) : Rw w b o d w2 :=
  ⟨holds_keep h.holds k (fun e => hs e.symm), h.keep.trans k (fun i e => .inr (by omega)), fun cur e fr q => by
    obtain ⟨c1, q1, s1⟩ := h.shape cur e fr q
    exact ⟨c1, (k.block b (Array.getElem?_eq_some_iff.1 q1).1 (fun e => hs e.symm)).trans q1, s1⟩⟩
theorem Xs.kept {s b : Nat} {w w1 w2 : World} (h : Xs s w w1) (k : Keep (fun k => k = b) w1 w2) (hs : s ≠ b) : Xs s w2 w2 := by
  obtain ⟨z, hz, c⟩ := h.cell
  exact ⟨Keep.refl _ _, ⟨z, hz, k.cell c hs⟩, (k.frozen c hs).trans h.fz⟩
theorem keep_swap {w : World} {b i j : Nat} (x y : Value) : Keep (fun k => k = b) w ((w.setCell ⟨b, i, none⟩ x).setCell ⟨b, j, none⟩ y).drew := Keep.drew (Keep.setCell (F := fun k => k = b) (Keep.setCell (F := fun k => k = b) (Keep.refl _ w) (.inl rfl) _) (.inl rfl) _)

set_option maxHeartbeats 6400000 in
set_option maxRecDepth 1000000 in
theorem break_any (b o cap : Nat) (d : Array Int) (l h : Nat) (w : World) (hH : Holds eU w b o d) (hlh : l + 12 < h) (hb : h ≤ d.size) (hsz : d.size < 65536) :
    Calls Try.prog 31 #[.slice (some ⟨b, o, none⟩) d.size cap, .int .i64 l, .int .i64 h] w fun e w' =>
      e = .returned (.tuple #[]) ∧ ∃ d', PermIn l h d d' ∧ Rw w b o d' w' := by
  obtain ⟨n, hn⟩ : ∃ n, n = h - l := ⟨_, rfl⟩
  obtain ⟨q, hq⟩ : ∃ q, q = n / 4 := ⟨_, rfl⟩
  have e0 : (h : Int) - (l : Int) = (n : Int) := by omega
  have e1 : Int.tdiv (n : Int) 4 = (q : Int) := by rw [hq]; rfl
  have h8 : 8 ≤ n := by omega
  have h8z : 8 ≤ (n : Int) := by omega
  have hq4 : 4 * q ≤ n := by omega
  have hq3 : 3 ≤ q := by omega
  have hln : l + n = h := by omega
  have hbb : b < w.heap.size := World.block_lt_of_cell? w _ (hH 0 (by omega)).1
  have hsb : w.heap.size ≠ b := by omega
  have s0 : Xs w.heap.size (w.alloc (.cells #[.int .u64 (n : Int)] 80)) (w.alloc (.cells #[.int .u64 (n : Int)] 80)) := ⟨Keep.refl _ _, ⟨n, by omega, by simp [go_sem]⟩, by simp [go_sem]⟩
  have h0 : Rw w b o d (w.alloc (.cells #[.int .u64 (n : Int)] 80)) := (Rw.self hH).below (alb _)
  have S0 := Lib.hid s0
  have R0 := Lib.hid h0
  clear s0 h0 hH hn hq
  have hlarge := hsz
  go_enter Try.func31, Try.ntmps31
  go_upto_region 3 with fail
  generalize w.alloc (.cells #[.int .u64 (n : Int)] 80) = w0 at S0 R0 ⊢
  have C := Lib.hid (power_any n (by omega) (by omega) w0)
  go_upto_region 4 with (go_at_call 41; refine C.out.mono ?_; rintro e w1 ⟨m, rfl, m0, m1, rfl⟩)
  clear C
  go_wp2
  go_loopg [9] 3 (fun k s9 wr => ∃ (i : Nat) (dk : Array Int), s9 = .int .i64 i ∧ i + k = l + q * 2 + 2 ∧ l ≤ i ∧ k ≤ 3 ∧ dk.size = d.size ∧ Hid (PermIn l h d dk) ∧ Rw w b o dk wr ∧ Xs w.heap.size wr wr)
  case atStart => exact ⟨l + q * 2 - 1, d, by congr 1; omega, by omega, by omega, by omega, rfl, permIn_refl d l h, R0.out, S0.out⟩
  case round =>
    obtain ⟨i, dk, rfl, hk, hli, hk3, hds, P, R, X⟩ := hrel
    have A := Lib.hid R
    have AX := Lib.hid X
    clear R X R0 S0
    by_cases hi : i ≤ l + q * 2 + 1
    · have hz : (i : Int) ≤ (l : Int) + (q : Int) * 2 + 1 := by omega
      go_wp2_with (go_at_call 42; refine (xor_any _ wr AX.out).mono ?_; rintro e w1 ⟨z, hz, rfl, X1⟩; have R1 := A.out.step X1.keep hsb (Nat.le_refl _); obtain ⟨G, HG, hcw, hfw⟩ := R1.fams hds; have A1 := Lib.hid R1; have AX1 := Lib.hid X1; clear A AX R1 X1; obtain ⟨y, hy, ey⟩ := and_some z (m - 1) hz (by omega); rw [show ((m - 1 : Nat) : Int) = (m : Int) - 1 by omega] at ey; have hy2 : y < 2 * n := by omega)
      · have hcnd : n ≤ y := by omega
        obtain ⟨v0, hv0⟩ := set_some (p := ⟨b, o + i, none⟩) (x := .int .u32 (G (l + (y - n)))) (hcw (l + (y - n)) (by omega))
        have A2 := Lib.hid (A1.out.swap (i := i) (j := l + (y - n)) (by omega) (by omega) (x := .int .u32 (G (l + (y - n)))) (y := .int .u32 (G i)) (by rw [HG.out]) (by rw [HG.out]))
        have AX2 := Lib.hid (AX1.out.kept (keep_swap (b := b) (i := o + i) (j := o + (l + (y - n))) (.int .u32 (G (l + (y - n)))) (.int .u32 (G i))) hsb)
        clear A1 AX1
        go_region
        go_wp2
        go_roundg (gk - 1)
        case measure => omega
        case rel =>
          refine ⟨i + 1, swp dk i (l + (y - n)), by simp, by omega, by omega, by omega, by rw [size_swp]; exact hds, permIn_trans d dk _ l h P.out (swp_permIn dk l h i (l + (y - n)) (by omega) (by omega) (by omega) (by omega) (by omega)), A2.out, AX2.out⟩
      · have hcnd : y < n := by omega
        obtain ⟨v0, hv0⟩ := set_some (p := ⟨b, o + i, none⟩) (x := .int .u32 (G (l + y))) (hcw (l + y) (by omega))
        have A2 := Lib.hid (A1.out.swap (i := i) (j := l + y) (by omega) (by omega) (x := .int .u32 (G (l + y))) (y := .int .u32 (G i)) (by rw [HG.out]) (by rw [HG.out]))
        have AX2 := Lib.hid (AX1.out.kept (keep_swap (b := b) (i := o + i) (j := o + (l + y)) (.int .u32 (G (l + y))) (.int .u32 (G i))) hsb)
        clear A1 AX1
        go_region
        go_wp2
        go_roundg (gk - 1)
        case measure => omega
        case rel =>
          refine ⟨i + 1, swp dk i (l + y), by simp, by omega, by omega, by omega, by rw [size_swp]; exact hds, permIn_trans d dk _ l h P.out (swp_permIn dk l h i (l + y) (by omega) (by omega) (by omega) (by omega) (by omega)), A2.out, AX2.out⟩
    · have hz : ¬ ((i : Int) ≤ (l : Int) + (q : Int) * 2 + 1) := by omega
      go_wp2
      go_end0
      exact ⟨rfl, dk, P.out, A.out⟩
end Go.Proofs.Ytmjjkoiepoblmaa
