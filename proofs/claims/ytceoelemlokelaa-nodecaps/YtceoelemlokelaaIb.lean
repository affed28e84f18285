/- NodeFinds: the walk. -/
import Derived.Test.YtceoelemlokelaaIa
namespace Go.Proofs.Ytceoelemlokelaa
open Go.RowKit
open Lib (compareBytes)

theorem pairwise {ks : List (List UInt8)} (h : N.rises ks = true) : ∀ (d i : Nat), i + d + 1 < ks.length → compareBytes (ks.getD i []) (ks.getD (i + d + 1) []) < 0
  | 0, i, hi => (rises_iff ks).1 h i hi
  | d + 1, i, hi => by
    have h1 := pairwise h d i (by omega)
    have h2 := (rises_iff ks).1 h (i + d + 1) (by omega)
    exact N.cmp_trans h1 h2
theorem lt_of {ks : List (List UInt8)} (h : N.rises ks = true) {i j : Nat} (hij : i < j) (hj : j < ks.length) : compareBytes (ks.getD i []) (ks.getD j []) < 0 := by
  have := pairwise h (j - i - 1) i (by omega)
  rwa [show i + (j - i - 1) + 1 = j by omega] at this
theorem plc_iff {ks : List (List UInt8)} {key : List UInt8} {p : Nat} (h : N.rises ks = true) (hp : PlcAt ks key p) (j : Nat) (hj : j < ks.length) : j < p ↔ compareBytes (ks.getD j []) key < 0 := by
  obtain ⟨h1, h2, h3⟩ := hp
  constructor
  · intro q
    obtain ⟨r, rfl⟩ : ∃ r, p = r + 1 := ⟨p - 1, by omega⟩
    have hr := h2 r rfl
    rcases Nat.lt_or_ge j r with e | e
    · exact N.cmp_trans (lt_of h e (by omega)) hr
    · obtain rfl : j = r := by omega
      exact hr
  · intro q
    refine Decidable.byContradiction fun c => ?_
    have hpn := h3 (by omega)
    rcases Nat.lt_or_ge p j with e | e
    · exact hpn (N.cmp_trans (lt_of h e hj) q)
    · obtain rfl : p = j := by omega
      exact hpn q
theorem kid_iff {ks : List (List UInt8)} {key : List UInt8} {p : Nat} (h : N.rises ks = true) (hp : KidAt ks key p) (j : Nat) (hj : j < ks.length) : j < p ↔ compareBytes (ks.getD j []) key ≤ 0 := by
  obtain ⟨h1, h2, h3⟩ := hp
  constructor
  · intro q
    obtain ⟨r, rfl⟩ : ∃ r, p = r + 1 := ⟨p - 1, by omega⟩
    have hr := h2 r rfl
    rcases Nat.lt_or_ge j r with e | e
    · have hl := lt_of h e (by omega)
      rcases Int.lt_or_eq_of_le hr with c | c
      · exact Int.le_of_lt (N.cmp_trans hl c)
      · rw [N.cmp_zero c] at hl
        exact Int.le_of_lt hl
    · obtain rfl : j = r := by omega
      exact hr
  · intro q
    refine Decidable.byContradiction fun c => ?_
    have hpn := h3 (by omega)
    rcases Nat.lt_or_ge p j with e | e
    · have hl := lt_of h e hj
      rcases Int.lt_or_eq_of_le q with d | d
      · exact hpn (Int.le_of_lt (N.cmp_trans hl d))
      · rw [N.cmp_zero d] at hl
        exact hpn (Int.le_of_lt hl)
    · obtain rfl : p = j := by omega
      exact hpn q
theorem countP_upto (f : Nat → Bool) (p : Nat) : ∀ n, p ≤ n → (∀ j, j < n → (f j = true ↔ j < p)) → (List.range n).countP f = p
  | 0, hp, _ => by simp; omega
  | n + 1, hp, h => by
    rw [List.range_succ, List.countP_append]
    by_cases e : p = n + 1
    · subst e
      have h0 : ∀ j, j < n → (f j = true ↔ j < n) := fun j hj => ⟨fun _ => hj, fun _ => (h j (by omega)).2 (by omega)⟩
      rw [countP_upto f n n (Nat.le_refl _) h0]
      have : f n = true := (h n (by omega)).2 (by omega)
      simp [this]
    · rw [countP_upto f p n (by omega) (fun j hj => h j (by omega))]
      have : f n = false := Bool.eq_false_iff.2 (fun q => by have := (h n (by omega)).1 q; omega)
      simp [this]
theorem finds_law {ks : List (List UInt8)} {key : List UInt8} {i p : Nat} (h : N.rises ks = true) (hi : PlcAt ks key i) (hp : KidAt ks key p) : cntA ks key ks.length = i ∧ cntB ks key ks.length = p ∧ plcB ks key i = decide (i < p) := by
  refine ⟨countP_upto _ i _ hi.1 (fun j hj => ?_), countP_upto _ p _ hp.1 (fun j hj => ?_), ?_⟩
  · rw [decide_eq_true_eq]
    exact (plc_iff h hi j hj).symm
  · rw [decide_eq_true_eq]
    exact (kid_iff h hp j hj).symm
  · unfold plcB
    rw [Bool.eq_iff_iff, Bool.and_eq_true, decide_eq_true_eq, decide_eq_true_eq, decide_eq_true_eq]
    constructor
    · rintro ⟨a, b⟩
      exact (kid_iff h hp i a).2 (by omega)
    · intro a
      have hil : i < ks.length := by have := hp.1; omega
      have b := (kid_iff h hp i hil).1 a
      have c : ¬ compareBytes (ks.getD i []) key < 0 := fun q => by have := (plc_iff h hi i hil).2 q; omega
      exact ⟨hil, by omega⟩
set_option maxHeartbeats 3200000 in
theorem nfinds_core (w : World) (n : N.Nd) (A1 A2 A3 A9 : Option Addr) (n1 d1 n2 d2 n3 d3 n9 d9 : Nat) (key : List UInt8) (L1 : Hid (n.ks.length = n1)) (L9 : Hid (key.length = n9)) (HNV : Hid (NV w (.slice A1 n1 d1) (.slice A2 n2 d2) (.slice A3 n3 d3) n)) (HR : Hid (Rg n.ps)) (HX : Hid (Byts w (.slice A9 n9 d9) key)) :
    Calls Try.prog 6 #[.agg #[.bool n.leaf, .slice A1 n1 d1, .slice A2 n2 d2, .slice A3 n3 d3], .slice A9 n9 d9] w fun e w' => e = .returned (.bool true) ∧ Below w.heap.size w w' := by
  have HA : Hid (Below w.heap.size w (w.alloc (.cells #[.bool n.leaf, .slice A1 n1 d1, .slice A2 n2 d2, .slice A3 n3 d3] 28))) := alb _
  have HN := Lib.hid (Nb.made w n.leaf (.slice A1 n1 d1) (.slice A2 n2 d2) (.slice A3 n3 d3))
  go_enter Try.func6, Try.ntmps6
  go_wp2_with fail
  generalize w.alloc (.cells #[.bool n.leaf, .slice A1 n1 d1, .slice A2 n2 d2, .slice A3 n3 d3] 28) = w1 at *
  obtain ⟨G, hG⟩ : ∃ G, G = greatB n := ⟨_, rfl⟩
  have HGR := Lib.hid (great_any w1 n _ _ _ (HNV.out.below HA.out))
  rw [← hG] at HGR
  have HG := Lib.hid hG
  clear hG
  unfold nodv at HGR
  refine HGR.out.mono ?_
  rintro e w2 ⟨rfl, hb2⟩
  have HB2 := Lib.hid (btr HA.out hb2)
  have HN2 := Lib.hid (HN.out.below hb2)
  clear hb2 HN HA HGR
  cases G with
  | true =>
    go_wp2_with fail
    refine (nfixed_any w2).mono ?_
    rintro e w3 ⟨rfl, hb3⟩
    go_wp2
    go_ret
    exact ⟨rfl, btr HB2.out hb3⟩
  | false =>
    obtain ⟨g1, g2, g3, g4, g5⟩ := great_no HG.out.symm
    rw [L1.out] at g1
    have HG2 := Lib.hid g2
    have HG3 := Lib.hid g3
    have HG4 := Lib.hid g4
    clear g2 g3 g4 g5 HG
    by_cases h9 : 200 < n9
    · have z9 : 200 < (n9 : Int) := by omega
      go_wp2_with fail
      refine (nfixed_any w2).mono ?_
      rintro e w3 ⟨rfl, hb3⟩
      go_wp2
      go_ret
      exact ⟨rfl, btr HB2.out hb3⟩
    · have z9 : ¬ 200 < (n9 : Int) := by omega
      obtain ⟨k0, k1, k2, k3⟩ := HN2.out
      go_wp2_with fail
      have HOF := Lib.hid (refof_any w2 n _ _ _ (HNV.out.below HB2.out) HR.out (by rw [L1.out]; omega) (by have := HG2.out; omega) (by have := HG3.out; omega))
      unfold nodv at HOF
      refine HOF.out.mono ?_
      rintro e w3 ⟨kv, vv, pv, rfl, hrv, hb3⟩
      have HB3 := Lib.hid (btr HB2.out hb3)
      have HN3 := Lib.hid (HN2.out.below hb3)
      have HRV3 := Lib.hid hrv
      obtain ⟨E1, f1, rfl, _⟩ := hrv.keys
      obtain ⟨E2, f2, rfl, _⟩ := hrv.vals
      obtain ⟨E3, f3, rfl, _⟩ := hrv.kids
      clear k0 k1 k2 k3 HN2 hb3 hrv HOF HB2
      have HBa : Hid (Below w3.heap.size w3 (w3.alloc (.cells #[.bool n.leaf, .slice E1 n.ks.length f1, .slice E2 n.vs.length f2, .slice E3 n.ps.length f3] 38))) := alb _
      have HNa : Hid (Nb (w3.alloc (.cells #[.bool n.leaf, .slice E1 n.ks.length f1, .slice E2 n.vs.length f2, .slice E3 n.ps.length f3] 38)) w3.heap.size n.leaf (.slice E1 n.ks.length f1) (.slice E2 n.vs.length f2) (.slice E3 n.ps.length f3)) :=
        ⟨by rw [World.cell?_alloc_at _ _ _ _ rfl]; rfl, by rw [World.cell?_alloc_at _ _ _ _ rfl]; rfl, by rw [World.cell?_alloc_at _ _ _ _ rfl]; rfl, by rw [World.cell?_alloc_at _ _ _ _ rfl]; rfl⟩
      obtain ⟨k0, k1, k2, k3⟩ := HN3.out.below HBa.out
      go_wp2_with fail
      have HB4 := Lib.hid (btr HB3.out HBa.out)
      have HRV4 := Lib.hid (HRV3.out.below HBa.out)
      have HN4 := Lib.hid (HN3.out.below HBa.out)
      clear HB3 HRV3 HN3 HBa
      generalize w3.alloc (.cells #[.bool n.leaf, .slice E1 n.ks.length f1, .slice E2 n.vs.length f2, .slice E3 n.ps.length f3] 38) = w4 at *
      generalize w3.heap.size = b5 at *
      have HPL := Lib.hid (nplace_any w4 n _ _ _ _ key (HNV.out.below HB4.out) (HX.out.below HB4.out) (by rw [L1.out]; omega))
      unfold nodv at HPL
      refine HPL.out.mono ?_
      rintro e w5 ⟨i, rfl, hpl, hb5⟩
      have HPC := Lib.hid hpl
      have HB5 := Lib.hid (btr HB4.out hb5)
      have HNb := Lib.hid (HNa.out.below hb5)
      have HN5 := Lib.hid (HN4.out.below hb5)
      have HRV5 := Lib.hid (HRV4.out.below hb5)
      obtain ⟨B, hB⟩ : ∃ B, B = plcB n.ks key i := ⟨_, rfl⟩
      rw [← hB]
      have HBB := Lib.hid hB
      clear k0 k1 k2 k3 HPL hpl hb5 HB4 HN4 HRV4 HNa hB
      obtain ⟨k0, k1, k2, k3⟩ := HN5.out
      go_wp2_with fail
      have HKD := Lib.hid (nkid_any w5 n _ _ _ _ key (HNV.out.below HB5.out) (HX.out.below HB5.out) (by rw [L1.out]; omega))
      unfold nodv at HKD
      refine HKD.out.mono ?_
      rintro e w6 ⟨p, rfl, hkd, hb6⟩
      have HKC := Lib.hid hkd
      have HB6 := Lib.hid (btr HB5.out hb6)
      have HNc := Lib.hid (HNb.out.below hb6)
      have HN6 := Lib.hid (HN5.out.below hb6)
      have HRV6 := Lib.hid (HRV5.out.below hb6)
      have hi1 := HPC.out.1
      have hp1 := hkd.1
      rw [L1.out] at hi1 hp1
      clear k0 k1 k2 k3 HKD hkd hb6 HB5 HN5 HRV5 HNb
      obtain ⟨k0, k1, k2, k3⟩ := HN6.out
      obtain ⟨m0, m1, m2, m3⟩ := HNc.out
      go_wp2_with fail
      have HRI := Lib.hid (refrises_any w6 _ n.ks HRV6.out.keys (by rw [L1.out]; omega) (fun b hb => by have := HG4.out b hb; omega))
      obtain ⟨R, hR⟩ : ∃ R, R = N.rises n.ks := ⟨_, rfl⟩
      rw [← hR] at HRI
      have HRR := Lib.hid hR
      clear hR
      refine HRI.out.mono ?_
      rintro e w7 ⟨rfl, hb7⟩
      have HB7 := Lib.hid (btr HB6.out hb7)
      have HNd := Lib.hid (HNc.out.below hb7)
      have HN7 := Lib.hid (HN6.out.below hb7)
      have HRV7 := Lib.hid (HRV6.out.below hb7)
      clear k0 k1 k2 k3 m0 m1 m2 m3 HRI hb7 HB6 HN6 HRV6 HNc
      cases R with
      | false =>
        go_wp2_with fail
        refine (nfixed_any w7).mono ?_
        rintro e w8 ⟨rfl, hb8⟩
        obtain ⟨k0, k1, k2, k3⟩ := HN7.out.below hb8
        have z1 : (0 : Int) ≤ (i : Int) := by omega
        have z2 : (i : Int) ≤ (n1 : Int) := by omega
        have z3 : (0 : Int) ≤ (p : Int) := by omega
        have z4 : (p : Int) ≤ (n1 : Int) := by omega
        go_wp2
        go_ret
        exact ⟨rfl, btr HB7.out hb8⟩
      | true =>
        obtain ⟨q1, q2, q3⟩ := finds_law HRR.out.symm HPC.out HKC.out
        obtain ⟨m0, m1, m2, m3⟩ := HNd.out
        have hcv := (HX.out.below HB7.out).conv
        rw [← HBB.out] at q3
        have HAH := Lib.hid (refahead_any w7 _ n.ks key HRV7.out.keys (by rw [L1.out]; omega) (fun b hb => by have := HG4.out b hb; omega) (by rw [L9.out]; omega))
        rw [q1, q2] at HAH
        clear q1 q2
        generalize str key = sk at *
        have HQ3 := Lib.hid q3
        clear q3
        go_wp2_with fail
        refine HAH.out.mono ?_
        rintro e w8 ⟨rfl, hb8⟩
        have HB8 := Lib.hid (btr HB7.out hb8)
        clear hb8 hcv m0 m1 m2 m3
        go_wp2_with fail
        refine (nfixed_any w8).mono ?_
        rintro e w9 ⟨rfl, hb9⟩
        have HB9 := Lib.hid (btr HB8.out hb9)
        clear hb9
        have hq : (B == decide (i < p)) = true := by rw [HQ3.out]; simp
        go_wp2
        go_ret
        exact ⟨rfl, HB9.out⟩
theorem nfinds_any (w : World) (n : N.Nd) (kv vv pv xv : Value) (key : List UInt8) (h : NV w kv vv pv n) (hr : Rg n.ps) (hx : Byts w xv key) :
    Calls Try.prog 6 #[nodv n.leaf kv vv pv, xv] w fun e w' => e = .returned (.bool true) ∧ Below w.heap.size w w' := by
  have HV := Lib.hid h
  have HX := Lib.hid hx
  obtain ⟨A1, d1, rfl, _⟩ := h.keys
  obtain ⟨A2, d2, rfl, _⟩ := h.vals
  obtain ⟨A3, d3, rfl, _⟩ := h.kids
  obtain ⟨A9, d9, rfl, _⟩ := hx
  exact nfinds_core w n A1 A2 A3 A9 n.ks.length d1 n.vs.length d2 n.ps.length d3 key.length d9 key (Lib.hid rfl) (Lib.hid rfl) HV (Lib.hid hr) HX
end Go.Proofs.Ytceoelemlokelaa
