/- The document's own Write. -/
import Derived.Test.YtceoelemlokelaaHr
namespace Go.Proofs.Ytceoelemlokelaa
open Go.RowKit
open G (four two)

set_option maxHeartbeats 3200000 in
theorem refwrite_core (w : World) (lf R : Bool) (A1 A2 A3 : Option Addr) (n1 d1 n2 d2 n3 d3 s : Nat) (k v : Int) (ks vs : List (List UInt8)) (ps : List Int) (K E : Nat) (B : List UInt8) (hK : Hid (R = true → (lf = true → K = 3) ∧ (lf = false → K = 4) ∧ E = 0)) (hN : Hid (R = false → K = 0 ∧ E = 1 ∧ B = []))
    (b1 : n1 ≤ 1000000) (L1 : Hid (ks.length = n1)) (L3 : Hid (ps.length = n3)) (RP : Hid (Rg ps))
    (HLf : Hid (R = true → lf = true → n2 = n1 ∧ n1 ≤ 498 ∧ n1 * s ≤ 498 ∧ B = N.leafTo ks vs n1 ∧ ∀ j, j < n1 → (ks.getD j []).length + (vs.getD j []).length = s))
    (HIn : Hid (R = true → lf = false → n3 ≤ 100 ∧ n3 * 4 + n1 * s ≤ 498 ∧ B = N.innerTo ks ps n3 n1 ∧ ∀ b ∈ ks, b.length = s))
    (H1 : Hid (0 < n1 → ∃ b off, A1 = some ⟨b, off, none⟩ ∧ ∀ j, j < n1 → w.cell? ⟨b, off + j, none⟩ = some (.string (str (ks.getD j [])))))
    (H2 : Hid (0 < n2 → ∃ b off, A2 = some ⟨b, off, none⟩ ∧ ∀ j, j < n2 → w.cell? ⟨b, off + j, none⟩ = some (.string (str (vs.getD j [])))))
    (H3 : Hid (0 < n3 → ∃ b off, A3 = some ⟨b, off, none⟩ ∧ ∀ j, j < n3 → w.cell? ⟨b, off + j, none⟩ = some (.int .u32 ps[j]!)))
    (C1 : Hid (∀ W, Below w.heap.size w W → Calls Try.prog 15 #[.agg #[.bool lf, .slice A1 n1 d1, .slice A2 n2 d2, .slice A3 n3 d3], .int .i64 k, .int .i64 v] W fun e w' => e = .returned (.bool R) ∧ Below W.heap.size W w')) :
    Calls Try.prog 14 #[.agg #[.bool lf, .slice A1 n1 d1, .slice A2 n2 d2, .slice A3 n3 d3], .int .i64 k, .int .i64 v] w fun e w' => e = .returned (.tuple #[.int .u8 (K : Int), .string (str B), .int .i64 (E : Int)]) ∧ Below w.heap.size w w' := by
  have HA : Hid (Below w.heap.size w (w.alloc (.cells #[.bool lf, .slice A1 n1 d1, .slice A2 n2 d2, .slice A3 n3 d3] 38))) := alb _
  have HN : Hid (Nb (w.alloc (.cells #[.bool lf, .slice A1 n1 d1, .slice A2 n2 d2, .slice A3 n3 d3] 38)) w.heap.size lf (.slice A1 n1 d1) (.slice A2 n2 d2) (.slice A3 n3 d3)) :=
    ⟨by rw [World.cell?_alloc_at _ _ _ _ rfl]; rfl, by rw [World.cell?_alloc_at _ _ _ _ rfl]; rfl, by rw [World.cell?_alloc_at _ _ _ _ rfl]; rfl, by rw [World.cell?_alloc_at _ _ _ _ rfl]; rfl⟩
  obtain ⟨sB, hsB⟩ : ∃ sB, sB = str B := ⟨_, rfl⟩
  rw [← hsB]
  have HSB := Lib.hid hsB
  clear hsB
  go_enter Try.func14, Try.ntmps14
  go_wp2_with fail
  generalize w.alloc (.cells #[.bool lf, .slice A1 n1 d1, .slice A2 n2 d2, .slice A3 n3 d3] 38) = w1 at *
  refine (C1.out w1 HA.out).mono ?_
  rintro e w2 ⟨rfl, hB2⟩
  have HB2 : Hid (Below w.heap.size w w2) := btr HA.out hB2
  have HNB := Lib.hid (HN.out.below hB2)
  obtain ⟨k0, k1, k2, k3⟩ := HNB.out
  clear hB2 HN HA C1
  cases R with
  | false =>
    obtain ⟨rfl, rfl, hb⟩ := hN.out rfl
    have e : Hid (sB = ⟨#[]⟩) := by show sB = _; rw [HSB.out, hb]; rfl
    clear hb
    go_wp2
    go_ret3
    exact ⟨by rw [e.out]; rfl, HB2.out⟩
  | true =>
    obtain ⟨e1, e2, rfl⟩ := hK.out rfl
    cases lf with
    | true =>
      obtain rfl := e1 rfl
      obtain ⟨e3, m1, m2, m3, m4⟩ := HLf.out rfl rfl
      subst e3
      have HM3 := Lib.hid m3
      have HM4 := Lib.hid m4
      clear e1 e2 m3 m4 HLf HIn
      obtain ⟨s0, hs0⟩ : ∃ s0, s0 = str (N.leafTo ks vs 0) := ⟨_, rfl⟩
      have HT := Lib.hid (reftwo_any n2 (by omega) w2)
      rw [show two n2 = N.leafTo ks vs 0 by rw [leafTo_zero, L1.out], ← hs0] at HT
      have HS0 := Lib.hid hs0
      clear hs0
      go_wp2_with fail
      refine HT.out.mono ?_
      rintro e w3 ⟨rfl, hB3⟩
      have HB3 := Lib.hid (btr HB2.out hB3)
      have HN3 := Lib.hid (HNB.out.below hB3)
      clear hB3 k0 k1 k2 k3 HT HNB
      obtain ⟨k0, k1, k2, k3⟩ := HN3.out
      go_wp2_with fail
      go_loopg [9, 10] n2 (fun g s9 s10 wr => ∃ (i : Nat) (sP : ByteArray), s10 = .int .i64 (i : Int) ∧ i ≤ n2 ∧ n2 - i ≤ g ∧ s9 = .string sP ∧ Hid (sP = str (N.leafTo ks vs i)) ∧ Hid (Nb wr w.heap.size true (.slice A1 n2 d1) (.slice A2 n2 d2) (.slice A3 n3 d3)) ∧ Hid (Below w.heap.size w wr))
      case atStart => exact ⟨0, s0, rfl, by omega, by omega, rfl, HS0, HN3, HB3⟩
      case round =>
        obtain ⟨i, sP, rfl, h1, h2, rfl, HSP, HNr, HBr⟩ := hrel
        clear k0 k1 k2 k3 HN3 HB3
        obtain ⟨k0, k1, k2, k3⟩ := HNr.out
        by_cases hi : i < n2
        · have hz : (i : Int) < (n2 : Int) := by omega
          obtain ⟨b, off, rfl, hcell⟩ := H1.out (by omega)
          obtain ⟨b2, off2, rfl, hcell2⟩ := H2.out (by omega)
          have c0 := kept (hcell i hi) HBr.out
          have c2 := kept (hcell2 i hi) HBr.out
          clear hcell hcell2
          have q0 := leafTo_len ks vs n2 s i HM4.out (by omega)
          have q1 : (i + 1) * s ≤ n2 * s := Nat.mul_le_mul_right _ (by omega)
          have q2 : (i + 1) * s = i * s + s := by rw [Nat.add_mul, Nat.one_mul]
          have q3 := HM4.out i hi
          obtain ⟨sk, hsk⟩ : ∃ sk, sk = str (ks.getD i []) := ⟨_, rfl⟩
          obtain ⟨sv, hsv⟩ : ∃ sv, sv = str (vs.getD i []) := ⟨_, rfl⟩
          obtain ⟨sm, hsm⟩ : ∃ sm, sm = str (N.leafTo ks vs i ++ ks.getD i []) := ⟨_, rfl⟩
          obtain ⟨sn, hsn⟩ : ∃ sn, sn = str (N.leafTo ks vs (i + 1)) := ⟨_, rfl⟩
          have z1 : ∀ W, (Op.stringOp .add sP sk).run Try.prog W = .ok (.string sm) W := fun W => by
            rw [HSP.out, hsk, hsm]
            exact run_str_add _ _ (by omega) W
          have z2 : ∀ W, (Op.stringOp .add sm sv).run Try.prog W = .ok (.string sn) W := fun W => by
            rw [hsm, hsv, hsn, ← leafTo_next]
            exact run_str_add _ _ (by rw [List.length_append]; omega) W
          rw [← hsk] at c0
          rw [← hsv] at c2
          have HSN := Lib.hid hsn
          clear hsk hsv hsm hsn q0 q1 q2 q3
          go_wp2
          go_quiet (fail)
          go_wp2
          go_roundg (n2 - (i + 1))
          case measure => omega
          case rel => exact ⟨i + 1, sn, by go_num, by omega, by omega, rfl, HSN, ⟨k0, k1, k2, k3⟩, bdn HBr.out _⟩
        · have hz : ¬ (i : Int) < (n2 : Int) := by omega
          obtain rfl : i = n2 := by omega
          go_wp2
          go_ret3
          exact ⟨by rw [HSB.out, HM3.out, ← HSP.out]; rfl, HBr.out⟩
    | false =>
      obtain rfl := e2 rfl
      obtain ⟨m1, m2, m3, m4⟩ := HIn.out rfl rfl
      have HM3 := Lib.hid m3
      have HM4 := Lib.hid m4
      clear e1 e2 m3 m4 HLf HIn
      obtain ⟨s0, hs0⟩ : ∃ s0, s0 = str (N.innerTo ks ps 0 0) := ⟨_, rfl⟩
      have HT := Lib.hid (reftwo_any n3 (by omega) w2)
      rw [show two n3 = N.innerTo ks ps 0 0 by rw [innerTo_zero, L3.out], ← hs0] at HT
      have HS0 := Lib.hid hs0
      clear hs0
      go_wp2_with fail
      refine HT.out.mono ?_
      rintro e w3 ⟨rfl, hB3⟩
      have HB3 := Lib.hid (btr HB2.out hB3)
      have HN3 := Lib.hid (HNB.out.below hB3)
      clear hB3 k0 k1 k2 k3 HT HNB
      obtain ⟨k0, k1, k2, k3⟩ := HN3.out
      go_wp2_with fail
      go_loopg [11, 12] n3 (fun g s11 s12 wr => ∃ (i : Nat) (sP : ByteArray), s12 = .int .i64 (i : Int) ∧ i ≤ n3 ∧ n3 - i ≤ g ∧ s11 = .string sP ∧ Hid (sP = str (N.innerTo ks ps i 0)) ∧ Hid (Nb wr w.heap.size false (.slice A1 n1 d1) (.slice A2 n2 d2) (.slice A3 n3 d3)) ∧ Hid (Below w.heap.size w wr))
      case atStart => exact ⟨0, s0, rfl, by omega, by omega, rfl, HS0, HN3, HB3⟩
      case round =>
        obtain ⟨i, sP, rfl, h1, h2, rfl, HSP, HNr, HBr⟩ := hrel
        clear k0 k1 k2 k3 HN3 HB3
        obtain ⟨k0, k1, k2, k3⟩ := HNr.out
        by_cases hi : i < n3
        · have hz : (i : Int) < (n3 : Int) := by omega
          obtain ⟨b, off, rfl, hcell⟩ := H3.out (by omega)
          have c0 := kept (hcell i hi) HBr.out
          obtain ⟨x, hx, ex⟩ := RP.out.at i (by rw [L3.out]; exact hi)
          rw [ex] at c0
          clear hcell
          have q0 := innerTo_len ks ps s i 0 HM4.out (by rw [L3.out]; omega) (by omega)
          obtain ⟨sf, hsf⟩ : ∃ sf, sf = str (four x) := ⟨_, rfl⟩
          obtain ⟨sn, hsn⟩ : ∃ sn, sn = str (N.innerTo ks ps (i + 1) 0) := ⟨_, rfl⟩
          have HF := Lib.hid (reffour_any x hx wr)
          rw [← hsf] at HF
          have z1 : ∀ W, (Op.stringOp .add sP sf).run Try.prog W = .ok (.string sn) W := fun W => by
            rw [HSP.out, hsf, hsn, ← innerTo_kid ks ps i (by rw [L3.out]; exact hi), ex, Int.toNat_natCast]
            exact run_str_add _ _ (by rw [G.four_length]; omega) W
          have HSN := Lib.hid hsn
          clear hsf hsn q0 ex
          go_wp2_with fail
          refine HF.out.mono ?_
          rintro e w5 ⟨rfl, hB5⟩
          have HB5 := Lib.hid (btr HBr.out hB5)
          have HN5 := Lib.hid (HNr.out.below hB5)
          clear hB5 k0 k1 k2 k3 HF HNr HBr
          go_wp2
          go_roundg (n3 - (i + 1))
          case measure => omega
          case rel => exact ⟨i + 1, sn, by go_num, by omega, by omega, rfl, HSN, HN5, HB5⟩
        · have hz : ¬ (i : Int) < (n3 : Int) := by omega
          obtain rfl : i = n3 := by omega
          go_wp2_with fail
          clear hz hi h1 h2
          go_loopg [11, 13] n1 (fun g s11 s13 wr => ∃ (j : Nat) (sP : ByteArray), s13 = .int .i64 (j : Int) ∧ j ≤ n1 ∧ n1 - j ≤ g ∧ s11 = .string sP ∧ Hid (sP = str (N.innerTo ks ps i j)) ∧ Hid (Nb wr w.heap.size false (.slice A1 n1 d1) (.slice A2 n2 d2) (.slice A3 i d3)) ∧ Hid (Below w.heap.size w wr))
          case atStart => exact ⟨0, sP, rfl, by omega, by omega, rfl, HSP, HNr, HBr⟩
          case round =>
            obtain ⟨j, sQ, rfl, h1, h2, rfl, HSQ, HNq, HBq⟩ := hrel
            clear k0 k1 k2 k3 HNr HBr HSP
            obtain ⟨k0, k1, k2, k3⟩ := HNq.out
            by_cases hj : j < n1
            · have hz : (j : Int) < (n1 : Int) := by omega
              obtain ⟨b, off, rfl, hcell⟩ := H1.out (by omega)
              have c0 := kept (hcell j hj) HBq.out
              clear hcell
              have q0 := innerTo_len ks ps s i j HM4.out (by rw [L3.out]; omega) (by rw [L1.out]; omega)
              have q1 : (j + 1) * s ≤ n1 * s := Nat.mul_le_mul_right _ (by omega)
              have q2 : (j + 1) * s = j * s + s := by rw [Nat.add_mul, Nat.one_mul]
              have q3 := HM4.out _ (N.getD_mem (d := []) (j := j) (by rw [L1.out]; exact hj))
              have q4 : (N.innerTo ks ps i j).length + (ks.getD j []).length ≤ 1000000 := by
                rw [q0, q3]
                omega
              obtain ⟨sk, hsk⟩ : ∃ sk, sk = str (ks.getD j []) := ⟨_, rfl⟩
              obtain ⟨sn, hsn⟩ : ∃ sn, sn = str (N.innerTo ks ps i (j + 1)) := ⟨_, rfl⟩
              have z1 : ∀ W, (Op.stringOp .add sQ sk).run Try.prog W = .ok (.string sn) W := fun W => by
                rw [HSQ.out, hsk, hsn, ← innerTo_key ks ps i j (by rw [L1.out]; exact hj)]
                exact run_str_add _ _ q4 W
              rw [← hsk] at c0
              have HSN := Lib.hid hsn
              clear hsk hsn q0 q1 q2 q3 q4
              go_wp2
              go_roundg (n1 - (j + 1))
              case measure => omega
              case rel => exact ⟨j + 1, sn, by go_num, by omega, by omega, rfl, HSN, ⟨k0, k1, k2, k3⟩, HBq⟩
            · have hz : ¬ (j : Int) < (n1 : Int) := by omega
              obtain rfl : j = n1 := by omega
              go_wp2
              go_ret3
              exact ⟨by rw [HSB.out, HM3.out, ← HSQ.out]; rfl, HBq.out⟩
theorem refwrite_any (w : World) (n : N.Nd) (kv vv pv : Value) (k v : Int) (h : RV w kv vv pv n) (hr : Rg n.ps) (b1 : n.ks.length ≤ 1000000) (b2 : n.vs.length ≤ 1000000) (b3 : n.ps.length ≤ 1000000) (hs : ∀ b ∈ n.ks, b.length ≤ 1000) :
    Calls Try.prog 14 #[nodv n.leaf kv vv pv, .int .i64 k, .int .i64 v] w fun e w' => e = .returned (.tuple #[.int .u8 ((N.wK n k v : Nat) : Int), .string (str (N.wB n k v)), .int .i64 ((N.wE n k v : Nat) : Int)]) ∧ Below w.heap.size w w' := by
  have HV := Lib.hid h
  obtain ⟨A1, d1, rfl, _, _, c1⟩ := h.keys
  obtain ⟨A2, d2, rfl, _, _, c2⟩ := h.vals
  obtain ⟨A3, d3, rfl, _, _, c3⟩ := h.kids
  refine refwrite_core w n.leaf (N.right n k v) A1 A2 A3 n.ks.length d1 n.vs.length d2 n.ps.length d3 (if n.leaf then k.toNat + v.toNat else k.toNat) k v n.ks n.vs n.ps _ _ _ (Lib.hid fun hR => ?_) (Lib.hid fun hR => ?_) b1 (Lib.hid rfl) (Lib.hid rfl) (Lib.hid hr) (Lib.hid fun hR hl => ?_) (Lib.hid fun hR hl => ?_) (Lib.hid c1) (Lib.hid c2) (Lib.hid c3) (Lib.hid fun W hW => refright_any W n _ _ _ k v (HV.out.below hW) b1 b2 b3 hs)
  · unfold N.wK N.wE N.kindOf
    rw [if_pos hR, if_pos hR]
    exact ⟨fun e => if_pos e, fun e => by rw [e]; rfl, rfl⟩
  · unfold N.wK N.wE N.wB
    rw [hR]
    exact ⟨rfl, rfl, rfl⟩
  · obtain ⟨h1, h2, h3, h4, h5⟩ := N.right_parts hR
    rcases h5 with ⟨_, hm, hv, hp⟩ | ⟨h6, _⟩
    · obtain ⟨m1, m2, m3⟩ := N.may_leaf hm
      rw [if_pos hl]
      exact ⟨hv, m2, m3, by unfold N.wB N.body; rw [if_pos hR, if_pos hl], fun j hj => by rw [h2 _ (N.getD_mem hj), h3 _ (N.getD_mem (by omega))]⟩
    · rw [hl] at h6
      cases h6
  · obtain ⟨h1, h2, h3, h4, h5⟩ := N.right_parts hR
    rcases h5 with ⟨h6, _⟩ | ⟨_, hm, hk, hv⟩
    · rw [hl] at h6
      cases h6
    · obtain ⟨m1, m2, m3⟩ := N.may_inner hm
      rw [if_neg (by rw [hl]; simp)]
      exact ⟨m2, by rw [← hk, Nat.add_sub_cancel, hk] at m3; exact m3, by unfold N.wB N.body; rw [if_pos hR, if_neg (by rw [hl]; simp)], h2⟩
end Go.Proofs.Ytceoelemlokelaa
