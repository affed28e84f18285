/- The document's own Caps, Rises, Right. -/
import Derived.Test.YtceoelemlokelaaHp
namespace Go.Proofs.Ytceoelemlokelaa
open Go.RowKit
open Lib (compareBytes)

/-- A slice of these texts. -/
def Sts (w : World) (v : Value) (ls : List (List UInt8)) : Prop :=
  ∃ A c, v = .slice A ls.length c ∧ ls.length ≤ c ∧ c ≤ maxLen ∧ (0 < ls.length → ∃ b off, A = some ⟨b, off, none⟩ ∧ ∀ j, j < ls.length → w.cell? ⟨b, off + j, none⟩ = some (.string (str (ls.getD j []))))
theorem Sts.below {w w1 : World} {v : Value} {ls : List (List UInt8)} (h : Sts w v ls) (hb : Below w.heap.size w w1) : Sts w1 v ls := by
  obtain ⟨A, c, e, hc, hm, h⟩ := h
  refine ⟨A, c, e, hc, hm, fun hl => ?_⟩
  obtain ⟨b, off, e2, h2⟩ := h hl
  exact ⟨b, off, e2, fun j hj => kept (h2 j hj) hb⟩
theorem Sts.nil (w : World) : Sts w (.slice none 0 0) [] := ⟨none, 0, rfl, Nat.le_refl _, Nat.zero_le _, by simp⟩
theorem Sts.own {w : World} {base : Nat} {v : Value} {ls : List (List UInt8)} (o : w.ownsRow base 9 1 v ls.length (svs ls)) : Sts w v ls := by
  have ho := o
  rcases o.2 with ⟨rfl, h0⟩ | ⟨g, cap, cur, rfl, _, _, hc, hm, _⟩
  · rw [List.eq_nil_of_length_eq_zero h0]
    exact Sts.nil w
  · refine ⟨_, cap, rfl, hc, hm, fun _ => ⟨g, 0, rfl, fun j hj => ?_⟩⟩
    rw [ho.cellAt (0 + j) (by omega), Nat.zero_add]
    simp [svs, List.getD, hj]
/-- A node as texts. -/
structure RV (w : World) (kv vv pv : Value) (n : N.Nd) : Prop where
  keys : Sts w kv n.ks
  vals : Sts w vv n.vs
  kids : Nums w pv n.ps
theorem RV.below {w w1 : World} {kv vv pv : Value} {n : N.Nd} (h : RV w kv vv pv n) (hb : Below w.heap.size w w1) : RV w1 kv vv pv n := ⟨h.keys.below hb, h.vals.below hb, h.kids.below hb⟩

theorem refcaps_no (k v : Int) (h : ¬ (1 ≤ k ∧ k ≤ 24 ∧ 0 ≤ v ∧ v ≤ 108)) (w : World) : Calls Try.prog 8 #[.int .i64 k, .int .i64 v] w fun e w' => e = .returned (.tuple #[.int .i64 0, .int .i64 0]) ∧ Below w.heap.size w w' := by
  rcases not_fits h with q | ⟨q1, q2⟩ | ⟨q1, q2, q3⟩ | ⟨q1, q2, q3, q4⟩
  all_goals
    clear h
    go_enter Try.func8, Try.ntmps8
    go_wp2
    go_ret2
    exact ⟨rfl, Below.refl _ _⟩
set_option maxHeartbeats 1600000 in
theorem refcaps_yes (k v : Int) (a b : Nat) (h1 : 1 ≤ k) (h2 : k ≤ 24) (h3 : 0 ≤ v) (h4 : v ≤ 108) (ha : a ≤ 498) (hb : b ≤ 100) (hb1 : 1 ≤ b) (w : World)
    (A1 : Hid ((a : Int) * (k + v) ≤ 498)) (A2 : Hid (498 < ((a : Int) + 1) * (k + v))) (B1 : Hid ((b : Int) * (4 + k) ≤ 498 + k)) (B2 : Hid (498 + k < ((b : Int) + 1) * (4 + k))) :
    Calls Try.prog 8 #[.int .i64 k, .int .i64 v] w fun e w' => e = .returned (.tuple #[.int .i64 (a : Int), .int .i64 (b : Int)]) ∧ Below w.heap.size w w' := by
  have n1 : ¬ k < 1 := by omega
  have n2 : ¬ 24 < k := by omega
  have n3 : ¬ v < 0 := by omega
  have n4 : ¬ 108 < v := by omega
  go_enter Try.func8, Try.ntmps8
  go_wp2_with fail
  go_loopg [6] a (fun g s6 wr => ∃ i : Nat, s6 = .int .i64 (i : Int) ∧ i ≤ a ∧ a - i ≤ g ∧ w = wr)
  case atStart => exact ⟨0, rfl, by omega, by omega, rfl⟩
  case round =>
    obtain ⟨i, rfl, i1, i2, rfl⟩ := hrel
    obtain ⟨q, hq⟩ : ∃ q, ((i : Int) + 1) * (k + v) = q := ⟨_, rfl⟩
    have q0 : 0 ≤ q := by rw [← hq]; exact Int.mul_nonneg (by omega) (by omega)
    have q1 : q ≤ 500 * 132 := by rw [← hq]; exact Int.mul_le_mul (by omega) (by omega) (by omega) (by omega)
    by_cases hi : i < a
    · have hle : q ≤ 498 := by
        rw [← hq]
        exact Int.le_trans (Int.mul_le_mul_of_nonneg_right (by omega) (by omega)) A1.out
      have hc : 2 + q ≤ 500 := by omega
      go_wp2
      go_roundg (a - (i + 1))
      case measure => omega
      case rel => exact ⟨i + 1, by go_num, by omega, by omega, rfl⟩
    · obtain rfl : i = a := by omega
      have hgt : 498 < q := by rw [← hq]; exact A2.out
      have hc : ¬ 2 + q ≤ 500 := by omega
      clear hi
      go_wp2_with fail
      clear q0 q1 hgt hc hq
      go_loopg [7] b (fun g s7 wr => ∃ j : Nat, s7 = .int .i64 (j : Int) ∧ 1 ≤ j ∧ j ≤ b ∧ b - j ≤ g ∧ w = wr)
      case atStart => exact ⟨1, rfl, by omega, by omega, by omega, rfl⟩
      case round =>
        obtain ⟨j, rfl, j0, j1, j2, rfl⟩ := hrel
        obtain ⟨r, hr⟩ : ∃ r, k * (j : Int) = r := ⟨_, rfl⟩
        have r0 : 0 ≤ r := by rw [← hr]; exact Int.mul_nonneg (by omega) (by omega)
        have r1 : r ≤ 24 * 100 := by rw [← hr]; exact Int.mul_le_mul (by omega) (by omega) (by omega) (by omega)
        have ex : ((j : Int) + 1) * (4 + k) = 4 * ((j : Int) + 1) + r + k := by
          rw [← hr, Int.mul_add, Int.add_mul (j : Int) 1 k, Int.one_mul, Int.mul_comm (j : Int) k]
          omega
        by_cases hj : j < b
        · have hle : ((j : Int) + 1) * (4 + k) ≤ 498 + k := Int.le_trans (Int.mul_le_mul_of_nonneg_right (by omega) (by omega)) B1.out
          rw [ex] at hle
          have hc : 2 + 4 * ((j : Int) + 1) + r ≤ 500 := by omega
          clear ex hle
          go_wp2
          go_roundg (b - (j + 1))
          case measure => omega
          case rel => exact ⟨j + 1, by go_num, by omega, by omega, by omega, rfl⟩
        · obtain rfl : j = b := by omega
          have hgt := B2.out
          rw [ex] at hgt
          have hc : ¬ 2 + 4 * ((j : Int) + 1) + r ≤ 500 := by omega
          clear ex hgt hj
          go_wp2
          go_ret2
          exact ⟨rfl, Below.refl _ _⟩
theorem refcaps_any (k v : Int) (w : World) : Calls Try.prog 8 #[.int .i64 k, .int .i64 v] w fun e w' => e = .returned (.tuple #[.int .i64 (N.capA k v), .int .i64 (N.capB k v)]) ∧ Below w.heap.size w w' := by
  by_cases h : 1 ≤ k ∧ k ≤ 24 ∧ 0 ≤ v ∧ v ≤ 108
  · obtain ⟨a, b, ea, eb, a3, b3, a4, b4, a1, a2, b1, b2⟩ := N.cap_law k v h
    rw [ea, eb]
    exact refcaps_yes k v a b h.1 h.2.1 h.2.2.1 h.2.2.2 (by omega) (by omega) (by omega) w (Lib.hid a1) (Lib.hid a2) (Lib.hid b1) (Lib.hid b2)
  · obtain ⟨e1, e2⟩ := N.cap_no h
    rw [e1, e2]
    exact refcaps_no k v h w
theorem wrap_i64_nat (z : Nat) (h : z < 9223372036854775808) : IntKind.i64.wrap (z : Int) = (z : Int) := by
  have e2 : ((z : Nat) : Int) % 2 ^ 64 = z := Int.emod_eq_of_lt (by omega) (by omega)
  simp only [IntKind.wrap, IntKind.bits, IntKind.signed, e2]
  rw [if_neg]
  simp
  omega
set_option maxHeartbeats 1600000 in
theorem refrises_core (w : World) (A : Option Addr) (n c : Nat) (ks : List (List UInt8)) (R : Bool) (hn : n ≤ 1000000) (HL : Hid (ks.length = n)) (HS : Hid (∀ b ∈ ks, b.length ≤ 1000)) (HR : Hid (N.rises ks = R))
    (H : Hid (0 < n → ∃ b off, A = some ⟨b, off, none⟩ ∧ ∀ j, j < n → w.cell? ⟨b, off + j, none⟩ = some (.string (str (ks.getD j []))))) :
    Calls Try.prog 21 #[.slice A n c] w fun e w' => e = .returned (.bool R) ∧ Below w.heap.size w w' := by
  go_enter Try.func21, Try.ntmps21
  go_wp2
  go_loopg [3] n (fun k s wr => ∃ i : Nat, s = .int .i64 i ∧ 1 ≤ i ∧ i ≤ n + 1 ∧ n + 1 - i ≤ k ∧ Hid (Below w.heap.size w wr) ∧ Hid (∀ j, j + 1 < i → j + 1 < n → compareBytes (ks.getD j []) (ks.getD (j + 1) []) < 0))
  case atStart => exact ⟨1, rfl, by omega, by omega, by omega, Below.refl _ _, fun j hj => by omega⟩
  case round =>
    obtain ⟨i, rfl, h0, h1, h2, HB, HI⟩ := hrel
    by_cases hi : i < n
    · have hz : (i : Int) < (n : Int) := by omega
      obtain ⟨p, rfl⟩ : ∃ p, i = p + 1 := ⟨i - 1, by omega⟩
      obtain ⟨b, off, rfl, hcell⟩ := H.out (by omega)
      have c0 := kept (hcell p (by omega)) HB.out
      have c1 := kept (hcell (p + 1) hi) HB.out
      clear hcell
      have hp2 : ((p + 1 : Nat) : Int) - 1 = (p : Int) := by omega
      have hpn : (p : Int) < (n : Int) := by omega
      have hwp := wrap_i64_nat p (by omega)
      have HC := Lib.hid (fun W => refcmpK_any (ks.getD p []) (ks.getD (p + 1) []) (by have := HS.out _ (N.getD_mem (d := []) (j := p) (by rw [HL.out]; omega)); omega) (by have := HS.out _ (N.getD_mem (d := []) (j := p + 1) (by rw [HL.out]; exact hi)); omega) W)
      obtain ⟨x, hx⟩ : ∃ x, x = compareBytes (ks.getD p []) (ks.getD (p + 1) []) := ⟨_, rfl⟩
      rw [← hx] at HC
      have HX := Lib.hid hx
      clear hx
      generalize str (ks.getD p []) = sp at *
      generalize str (ks.getD (p + 1) []) = sq at *
      go_wp2_with fail
      refine lin_start 11 rfl (by kernel_rfl) ?_
      have hdr : Below wr.heap.size wr wr.drew := (Below.refl _ _).drew
      replace c0 := kept c0 hdr
      replace c1 := kept c1 hdr
      have HB1 := Lib.hid (btr HB.out hdr)
      clear hdr HB
      generalize wr.drew = u at *
      refine lin_take 0 10 (v := ?_) rfl rfl (by kernel_rfl) (by kernel_rfl) (by kernel_rfl) (fun _ _ _ _ _ h => h) (by rfl) (fun W hW => ?_) ?_
      rotate_left
      · have k0 := kept c0 hW; have k1 := kept c1 hW; go_simp; try rfl
      try simp only [Act.put, List.setIfInBounds_toArray, List.set_cons_zero, List.set_cons_succ]
      refine lin_take 1 11 (v := ?_) rfl rfl (by kernel_rfl) (by kernel_rfl) (by kernel_rfl) (fun _ _ _ _ _ h => h) (by rfl) (fun W hW => ?_) ?_
      rotate_left
      · have k0 := kept c0 hW; have k1 := kept c1 hW; go_simp; try rfl
      try simp only [Act.put, List.setIfInBounds_toArray, List.set_cons_zero, List.set_cons_succ]
      refine lin_take 2 12 (v := ?_) rfl rfl (by kernel_rfl) (by kernel_rfl) (by kernel_rfl) (fun _ _ _ _ _ h => h) (by rfl) (fun W hW => ?_) ?_
      rotate_left
      · have k0 := kept c0 hW; have k1 := kept c1 hW; go_simp; try rfl
      try simp only [Act.put, List.setIfInBounds_toArray, List.set_cons_zero, List.set_cons_succ]
      refine lin_take 3 13 (v := ?_) rfl rfl (by kernel_rfl) (by kernel_rfl) (by kernel_rfl) (fun _ _ _ _ _ h => h) (by rfl) (fun W hW => ?_) ?_
      rotate_left
      · have k0 := kept c0 hW; have k1 := kept c1 hW; go_simp; try rfl
      try simp only [Act.put, List.setIfInBounds_toArray, List.set_cons_zero, List.set_cons_succ]
      refine lin_take 4 14 (v := ?_) rfl rfl (by kernel_rfl) (by kernel_rfl) (by kernel_rfl) (fun _ _ _ _ _ h => h) (by rfl) (fun W hW => ?_) ?_
      rotate_left
      · have k0 := kept c0 hW; have k1 := kept c1 hW; go_simp; try rfl
      try simp only [Act.put, List.setIfInBounds_toArray, List.set_cons_zero, List.set_cons_succ]
      refine lin_take 5 15 (v := ?_) rfl rfl (by kernel_rfl) (by kernel_rfl) (by kernel_rfl) (fun _ _ _ _ _ h => h) (by rfl) (fun W hW => ?_) ?_
      rotate_left
      · have k0 := kept c0 hW; have k1 := kept c1 hW; go_simp; try rfl
      try simp only [Act.put, List.setIfInBounds_toArray, List.set_cons_zero, List.set_cons_succ]
      refine lin_take 6 16 (v := ?_) rfl rfl (by kernel_rfl) (by kernel_rfl) (by kernel_rfl) (fun _ _ _ _ _ h => h) (by rfl) (fun W hW => ?_) ?_
      rotate_left
      · have k0 := kept c0 hW; have k1 := kept c1 hW; go_simp; try rfl
      try simp only [Act.put, List.setIfInBounds_toArray, List.set_cons_zero, List.set_cons_succ]
      refine lin_take 7 17 (v := ?_) rfl rfl (by kernel_rfl) (by kernel_rfl) (by kernel_rfl) (fun _ _ _ _ _ h => h) (by rfl) (fun W hW => ?_) ?_
      rotate_left
      · have k0 := kept c0 hW; have k1 := kept c1 hW; go_simp; try rfl
      try simp only [Act.put, List.setIfInBounds_toArray, List.set_cons_zero, List.set_cons_succ]
      refine lin_take 8 18 (v := ?_) rfl rfl (by kernel_rfl) (by kernel_rfl) (by kernel_rfl) (fun _ _ _ _ _ h => h) (by rfl) (fun W hW => ?_) ?_
      rotate_left
      · have k0 := kept c0 hW; have k1 := kept c1 hW; go_simp; try rfl
      try simp only [Act.put, List.setIfInBounds_toArray, List.set_cons_zero, List.set_cons_succ]
      refine lin_step 9 rfl (by kernel_rfl) (fun K hK => ?_)
      go_simp
      refine (HC.out _).mono ?_
      rintro e w2 ⟨rfl, h2⟩
      refine hK.out _ _ h2 ?_
      clear hK K
      have HB2 := Lib.hid (btr HB1.out h2)
      clear h2
      refine lin_take 10 20 (v := ?_) rfl rfl (by kernel_rfl) (by kernel_rfl) (by kernel_rfl) (fun _ _ _ _ _ h => h) (by rfl) (fun W hW => ?_) ?_
      rotate_left
      · go_simp; try rfl
      try simp only [Act.put, List.setIfInBounds_toArray, List.set_cons_zero, List.set_cons_succ]
      refine lin_done (by kernel_rfl) ?_
      by_cases hxx : x < 0
      · have hge : ¬ 0 ≤ x := by omega
        go_wp2
        go_roundg (n + 1 - (p + 1 + 1))
        case measure => omega
        case rel =>
          refine ⟨p + 1 + 1, by go_num, by omega, by omega, by omega, HB2, fun j hj hj2 => ?_⟩
          by_cases e : j + 1 < p + 1
          · exact HI.out j e hj2
          · obtain rfl : j = p := by omega
            rw [← HX.out]
            exact hxx
      · have hge : 0 ≤ x := by omega
        have HGE := Lib.hid hge
        clear hxx
        go_wp2
        go_ret
        refine ⟨?_, HB2.out⟩
        have : ¬ N.rises ks = true := fun q => by
          have h1 := (rises_iff ks).1 q p (by rw [HL.out]; omega)
          have h2 := HGE.out
          rw [← HX.out] at h1
          omega
        rw [← HR.out, Bool.eq_false_iff.2 this]
        rfl
    · have hz : ¬ (i : Int) < (n : Int) := by omega
      go_wp2
      go_ret
      refine ⟨?_, HB.out⟩
      have : N.rises ks = true := (rises_iff ks).2 (fun j hj => HI.out j (by rw [HL.out] at hj; omega) (by rw [← HL.out]; exact hj))
      rw [← HR.out, this]
      rfl
theorem refrises_any (w : World) (v : Value) (ks : List (List UInt8)) (h : Sts w v ks) (hn : ks.length ≤ 1000000) (hs : ∀ b ∈ ks, b.length ≤ 1000) : Calls Try.prog 21 #[v] w fun e w' => e = .returned (.bool (N.rises ks)) ∧ Below w.heap.size w w' := by
  obtain ⟨A, c, rfl, hc, hm, h⟩ := h
  exact refrises_core w A ks.length c ks _ hn (Lib.hid rfl) (Lib.hid hs) (Lib.hid rfl) (Lib.hid h)
end Go.Proofs.Ytceoelemlokelaa
