/- node.Write. -/
import Derived.Test.YtceoelemlokelaaHg
namespace Go.Proofs.Ytceoelemlokelaa
open Go.RowKit
open G (four two)

set_option maxHeartbeats 1600000 in
theorem nwrite_core (w : World) (lf R : Bool) (kv vv pv : Value) (k v : Int) (K E : Nat) (B : List UInt8) (hK : Hid (R = true → (lf = true → K = 3) ∧ (lf = false → K = 4) ∧ E = 0)) (hB : Hid (R = false → K = 0 ∧ E = 1 ∧ B = []))
    (C1 : Hid (∀ W, Below w.heap.size w W → Calls Try.prog 10 #[.agg #[.bool lf, kv, vv, pv], .int .i64 k, .int .i64 v] W fun e w' => e = .returned (.bool R) ∧ Below W.heap.size W w'))
    (C2 : Hid (R = true → lf = true → ∀ W, Below w.heap.size w W → Calls Try.prog 27 #[.agg #[.bool lf, kv, vv, pv]] W fun e w' => ∃ x, e = .returned x ∧ w'.ownsRow W.heap.size 5 1 x B.length (bvs B) ∧ Below W.heap.size W w'))
    (C3 : Hid (R = true → lf = false → ∀ W, Below w.heap.size w W → Calls Try.prog 28 #[.agg #[.bool lf, kv, vv, pv]] W fun e w' => ∃ x, e = .returned x ∧ w'.ownsRow W.heap.size 5 1 x B.length (bvs B) ∧ Below W.heap.size W w')) :
    Calls Try.prog 13 #[.agg #[.bool lf, kv, vv, pv], .int .i64 k, .int .i64 v] w fun e w' => ∃ x, e = .returned (.tuple #[.int .u8 (K : Int), x, .int .i64 (E : Int)]) ∧ w'.ownsRow w.heap.size 5 1 x B.length (bvs B) ∧ Below w.heap.size w w' := by
  have HA : Hid (Below w.heap.size w (w.alloc (.cells #[.bool lf, kv, vv, pv] 28))) := alb _
  have HN := Lib.hid (Nb.made w lf kv vv pv)
  go_enter Try.func13, Try.ntmps13
  go_wp2_with fail
  generalize w.alloc (.cells #[.bool lf, kv, vv, pv] 28) = w1 at *
  refine (C1.out w1 HA.out).mono ?_
  rintro e w2 ⟨rfl, hB2⟩
  have HB2 : Hid (Below w.heap.size w w2) := btr HA.out hB2
  obtain ⟨k0, k1, k2, k3⟩ := HN.out.below hB2
  clear hB2 HN HA C1
  cases R with
  | false =>
    obtain ⟨rfl, rfl, rfl⟩ := hB.out rfl
    go_wp2
    go_ret3
    exact ⟨_, rfl, World.ownsRow_nil _ _ _ _, HB2.out⟩
  | true =>
    obtain ⟨e1, e2, rfl⟩ := hK.out rfl
    cases lf with
    | true =>
      obtain rfl := e1 rfl
      have D2 := Lib.hid (C2.out rfl rfl)
      clear e1 e2 C2 C3
      go_wp2_with fail
      refine (D2.out _ HB2.out).mono ?_
      rintro e w3 ⟨x, rfl, ho, hb⟩
      go_wp2
      go_ret3
      exact ⟨_, rfl, own_low ho HB2.out.size, btr HB2.out hb⟩
    | false =>
      obtain rfl := e2 rfl
      have D3 := Lib.hid (C3.out rfl rfl)
      clear e1 e2 C2 C3
      go_wp2_with fail
      refine (D3.out _ HB2.out).mono ?_
      rintro e w3 ⟨x, rfl, ho, hb⟩
      go_wp2
      go_ret3
      exact ⟨_, rfl, own_low ho HB2.out.size, btr HB2.out hb⟩
theorem nwrite_any (w : World) (n : N.Nd) (kv vv pv : Value) (k v : Int) (h : NV w kv vv pv n) (hr : Rg n.ps) :
    Calls Try.prog 13 #[nodv n.leaf kv vv pv, .int .i64 k, .int .i64 v] w fun e w' => ∃ x, e = .returned (.tuple #[.int .u8 ((N.wK n k v : Nat) : Int), x, .int .i64 ((N.wE n k v : Nat) : Int)]) ∧
      w'.ownsRow w.heap.size 5 1 x (N.wB n k v).length (bvs (N.wB n k v)) ∧ Below w.heap.size w w' := by
  have HV := Lib.hid h
  refine nwrite_core w n.leaf (N.right n k v) kv vv pv k v _ _ _ (Lib.hid fun hR => ?_) (Lib.hid fun hR => ?_) (Lib.hid fun W hW => nright_any W n kv vv pv k v (HV.out.below hW)) (Lib.hid fun hR hl W hW => ?_) (Lib.hid fun hR hl W hW => ?_)
  · unfold N.wK N.wE N.kindOf
    rw [if_pos hR, if_pos hR]
    exact ⟨fun e => if_pos e, fun e => by rw [e]; rfl, rfl⟩
  · unfold N.wK N.wE N.wB
    rw [hR]
    exact ⟨rfl, rfl, rfl⟩
  · obtain ⟨h1, h2, h3, h4, h5⟩ := N.right_parts hR
    rcases h5 with ⟨_, hm, hv, hp⟩ | ⟨h6, _⟩
    · obtain ⟨m1, m2, m3⟩ := N.may_leaf hm
      obtain ⟨A1, d1, rfl, _, _, c1⟩ := (HV.out.below hW).keys
      obtain ⟨A2, d2, rfl, _, _, c2⟩ := (HV.out.below hW).vals
      rw [hv] at c2 ⊢
      have e : N.wB n k v = N.leafTo n.ks n.vs n.ks.length := by unfold N.wB N.body; rw [if_pos hR, if_pos hl]
      rw [e]
      exact leafbody_core W n.leaf A1 A2 n.ks.length d1 d2 (k.toNat + v.toNat) pv n.ks n.vs m2 m3 (Lib.hid rfl) (Lib.hid fun j hj => by rw [h2 _ (N.getD_mem hj), h3 _ (N.getD_mem (by omega))]) (Lib.hid c1) (Lib.hid c2)
    · rw [hl] at h6
      cases h6
  · obtain ⟨h1, h2, h3, h4, h5⟩ := N.right_parts hR
    rcases h5 with ⟨h6, _⟩ | ⟨_, hm, hk, hv⟩
    · rw [hl] at h6
      cases h6
    · obtain ⟨m1, m2, m3⟩ := N.may_inner hm
      obtain ⟨A1, d1, rfl, _, _, c1⟩ := (HV.out.below hW).keys
      obtain ⟨A3, d3, rfl, _, _, c3⟩ := (HV.out.below hW).kids
      have e : N.wB n k v = N.innerTo n.ks n.ps n.ps.length n.ks.length := by unfold N.wB N.body; rw [if_pos hR, if_neg (by rw [hl]; simp)]
      rw [e]
      exact innerbody_core W n.leaf A1 A3 n.ps.length n.ks.length d1 d3 k.toNat vv n.ks n.ps m2 (by omega) (by rw [← hk, Nat.add_sub_cancel, hk] at m3; exact m3) (Lib.hid rfl) (Lib.hid rfl) (Lib.hid h2) (Lib.hid hr) (Lib.hid c1) (Lib.hid c3)
end Go.Proofs.Ytceoelemlokelaa
