/- node.Right. -/
import Derived.Test.YtceoelemlokelaaHe
namespace Go.Proofs.Ytceoelemlokelaa
open Go.RowKit

theorem beq_zero (n : Nat) : ((n : Int) == 0) = decide (n = 0) := by
  rw [Bool.eq_iff_iff, beq_iff_eq, decide_eq_true_eq]
  omega
/-- A block that holds a node. -/
structure Nb (w : World) (b : Nat) (lf : Bool) (kv vv pv : Value) : Prop where
  c0 : w.cell? ⟨b, 0, none⟩ = some (.bool lf)
  c1 : w.cell? ⟨b, 1, none⟩ = some kv
  c2 : w.cell? ⟨b, 2, none⟩ = some vv
  c3 : w.cell? ⟨b, 3, none⟩ = some pv
theorem Nb.below {w w1 : World} {b : Nat} {lf : Bool} {kv vv pv : Value} (h : Nb w b lf kv vv pv) (k : Below w.heap.size w w1) : Nb w1 b lf kv vv pv := ⟨kept h.c0 k, kept h.c1 k, kept h.c2 k, kept h.c3 k⟩
theorem Nb.made (w : World) (lf : Bool) (kv vv pv : Value) : Nb (w.alloc (.cells #[.bool lf, kv, vv, pv] 28)) w.heap.size lf kv vv pv :=
  ⟨by rw [World.cell?_alloc_at _ _ _ _ rfl]; rfl, by rw [World.cell?_alloc_at _ _ _ _ rfl]; rfl, by rw [World.cell?_alloc_at _ _ _ _ rfl]; rfl, by rw [World.cell?_alloc_at _ _ _ _ rfl]; rfl⟩
set_option maxHeartbeats 1600000 in
theorem nright_core (w : World) (lf : Bool) (A1 A2 A3 : Option Addr) (n1 d1 n2 d2 n3 d3 : Nat) (k v : Int) (R1 R2 R3 R4 R5 R6 R : Bool) (b3 : n3 ≤ 9223372036854775807)
    (HR : Hid (R = (R1 && (R2 && (R3 && (R4 && (if lf then R5 && (decide (n2 = n1) && decide (n3 = 0)) else R6 && (decide (n1 + 1 = n3) && decide (n2 = 0)))))))))
    (C1 : Hid (∀ W, Below w.heap.size w W → Calls Try.prog 23 #[.slice A1 n1 d1] W fun e w' => e = .returned (.bool R1) ∧ Below W.heap.size W w'))
    (C2 : Hid (∀ W, Below w.heap.size w W → Calls Try.prog 24 #[.slice A1 n1 d1, .int .i64 k] W fun e w' => e = .returned (.bool R2) ∧ W = w'))
    (C3 : Hid (∀ W, Below w.heap.size w W → Calls Try.prog 24 #[.slice A2 n2 d2, .int .i64 v] W fun e w' => e = .returned (.bool R3) ∧ W = w'))
    (C4 : Hid (∀ W, Below w.heap.size w W → Calls Try.prog 25 #[.slice A3 n3 d3] W fun e w' => e = .returned (.bool R4) ∧ W = w'))
    (C5 : Hid (∀ W, Calls Try.prog 26 #[.int .u8 3, .int .i64 (n1 : Int), .int .i64 k, .int .i64 v] W fun e w' => e = .returned (.bool R5) ∧ Below W.heap.size W w'))
    (C6 : Hid (∀ W, Calls Try.prog 26 #[.int .u8 4, .int .i64 (n3 : Int), .int .i64 k, .int .i64 v] W fun e w' => e = .returned (.bool R6) ∧ Below W.heap.size W w')) :
    Calls Try.prog 10 #[.agg #[.bool lf, .slice A1 n1 d1, .slice A2 n2 d2, .slice A3 n3 d3], .int .i64 k, .int .i64 v] w fun e w' => e = .returned (.bool R) ∧ Below w.heap.size w w' := by
  have HA : Hid (Below w.heap.size w (w.alloc (.cells #[.bool lf, .slice A1 n1 d1, .slice A2 n2 d2, .slice A3 n3 d3] 28))) := alb _
  have HN := Lib.hid (Nb.made w lf (.slice A1 n1 d1) (.slice A2 n2 d2) (.slice A3 n3 d3))
  go_enter Try.func10, Try.ntmps10
  go_wp2_with fail
  generalize w.alloc (.cells #[.bool lf, .slice A1 n1 d1, .slice A2 n2 d2, .slice A3 n3 d3] 28) = w1 at *
  refine (C1.out w1 HA.out).mono ?_
  rintro e w2 ⟨rfl, hB2⟩
  have HB2 : Hid (Below w.heap.size w w2) := btr HA.out hB2
  obtain ⟨k0, k1, k2, k3⟩ := HN.out.below hB2
  clear hB2 HN HA C1
  cases R1 with
  | false =>
    go_wp2
    go_ret
    exact ⟨by rw [HR.out]; rfl, HB2.out⟩
  | true =>
    go_wp2_with fail
    refine (C2.out _ HB2.out).mono ?_
    rintro e w3 ⟨rfl, rfl⟩
    cases R2 with
    | false =>
      go_wp2
      go_ret
      exact ⟨by rw [HR.out]; rfl, HB2.out⟩
    | true =>
      go_wp2_with fail
      refine (C3.out _ HB2.out).mono ?_
      rintro e w3 ⟨rfl, rfl⟩
      cases R3 with
      | false =>
        go_wp2
        go_ret
        exact ⟨by rw [HR.out]; rfl, HB2.out⟩
      | true =>
        go_wp2_with fail
        refine (C4.out _ HB2.out).mono ?_
        rintro e w3 ⟨rfl, rfl⟩
        cases R4 with
        | false =>
          go_wp2
          go_ret
          exact ⟨by rw [HR.out]; rfl, HB2.out⟩
        | true =>
          cases lf with
          | true =>
            go_wp2_with fail
            refine (C5.out _).mono ?_
            rintro e w4 ⟨rfl, hB4⟩
            have HB4 : Hid (Below w.heap.size w w4) := btr HB2.out hB4
            have q0 := kept k0 hB4
            have q1 := kept k1 hB4
            have q2 := kept k2 hB4
            have q3 := kept k3 hB4
            clear hB4 k0 k1 k2 k3 HB2
            cases R5 with
            | false =>
              go_wp2
              go_ret
              exact ⟨by rw [HR.out]; rfl, HB4.out⟩
            | true =>
              by_cases e : n2 = n1
              · have he : ((n2 : Int) == (n1 : Int)) = true := by rw [beq_iff_eq]; omega
                obtain ⟨r, hr⟩ : ∃ r, ((n3 : Int) == 0) = r := ⟨_, rfl⟩
                have HRR : Hid (R = r) := by
                  show R = r
                  rw [HR.out, ← hr, e, beq_zero]
                  simp
                clear HR e
                go_wp2
                go_ret
                exact ⟨by rw [HRR.out]; rfl, HB4.out⟩
              · have he : ((n2 : Int) == (n1 : Int)) = false := by rw [beq_eq_false_iff_ne]; omega
                have HRR : Hid (R = false) := by
                  show R = _
                  rw [HR.out]
                  simp [e]
                clear HR e
                go_wp2
                go_ret
                exact ⟨by rw [HRR.out]; rfl, HB4.out⟩
          | false =>
            go_wp2_with fail
            refine (C6.out _).mono ?_
            rintro e w4 ⟨rfl, hB4⟩
            have HB4 : Hid (Below w.heap.size w w4) := btr HB2.out hB4
            have q0 := kept k0 hB4
            have q1 := kept k1 hB4
            have q2 := kept k2 hB4
            have q3 := kept k3 hB4
            clear hB4 k0 k1 k2 k3 HB2
            cases R6 with
            | false =>
              go_wp2
              go_ret
              exact ⟨by rw [HR.out]; rfl, HB4.out⟩
            | true =>
              by_cases e : n1 + 1 = n3
              · have he : ((n1 : Int) == ((n3 : Int) - 1)) = true := by rw [beq_iff_eq]; omega
                obtain ⟨r, hr⟩ : ∃ r, ((n2 : Int) == 0) = r := ⟨_, rfl⟩
                have HRR : Hid (R = r) := by
                  show R = r
                  rw [HR.out, ← hr, decide_eq_true e, beq_zero]
                  simp
                clear HR e
                go_wp2
                go_ret
                exact ⟨by rw [HRR.out]; rfl, HB4.out⟩
              · have he : ((n1 : Int) == ((n3 : Int) - 1)) = false := by rw [beq_eq_false_iff_ne]; omega
                have HRR : Hid (R = false) := by
                  show R = _
                  rw [HR.out]
                  simp [e]
                clear HR e
                go_wp2
                go_ret
                exact ⟨by rw [HRR.out]; rfl, HB4.out⟩
theorem nright_any (w : World) (n : N.Nd) (kv vv pv : Value) (k v : Int) (h : NV w kv vv pv n) :
    Calls Try.prog 10 #[nodv n.leaf kv vv pv, .int .i64 k, .int .i64 v] w fun e w' => e = .returned (.bool (N.right n k v)) ∧ Below w.heap.size w w' := by
  have HV := Lib.hid h
  obtain ⟨A1, d1, rfl, _, _, _⟩ := h.keys
  obtain ⟨A2, d2, rfl, _, _, _⟩ := h.vals
  obtain ⟨A3, d3, rfl, e3, m3, _⟩ := h.kids
  unfold maxLen at m3
  exact nright_core w n.leaf A1 A2 A3 n.ks.length d1 n.vs.length d2 n.ps.length d3 k v _ _ _ _ _ _ _ (by omega) (Lib.hid rfl)
    (Lib.hid fun W hW => nrising_any W _ _ (HV.out.keys.below hW)) (Lib.hid fun W hW => nallhave_any W _ _ k (HV.out.keys.below hW)) (Lib.hid fun W hW => nallhave_any W _ _ v (HV.out.vals.below hW))
    (Lib.hid fun W hW => nondisk_any W _ _ (HV.out.kids.below hW)) (Lib.hid fun W => nmay_any 3 _ k v W (by omega)) (Lib.hid fun W => nmay_any 4 _ k v W (by omega))
end Go.Proofs.Ytceoelemlokelaa
