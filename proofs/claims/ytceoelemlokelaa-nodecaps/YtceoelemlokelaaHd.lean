/- Rows of rows of bytes, nodes, as the program has them; node.rising, allHave, onDisk. -/
import Derived.Test.YtceoelemlokelaaHc
import Derived.Deep.LoopGhost
import Derived.Deep.DeepCutAuto
namespace Go.Proofs.Ytceoelemlokelaa
open Go.RowKit
open Lib (compareBytes)

/-- A slice of these rows, wherever they lie. -/
def Brs (w : World) (v : Value) (ls : List (List UInt8)) : Prop :=
  ∃ A c, v = .slice A ls.length c ∧ ls.length ≤ c ∧ c ≤ maxLen ∧ (0 < ls.length → ∃ b off, A = some ⟨b, off, none⟩ ∧ ∀ j, j < ls.length → ∃ u, w.cell? ⟨b, off + j, none⟩ = some u ∧ Byts w u (ls.getD j []))
theorem Brs.below {w w1 : World} {v : Value} {ls : List (List UInt8)} (h : Brs w v ls) (hb : Below w.heap.size w w1) : Brs w1 v ls := by
  obtain ⟨A, c, e, hc, hm, h⟩ := h
  refine ⟨A, c, e, hc, hm, fun hl => ?_⟩
  obtain ⟨b, off, e2, h2⟩ := h hl
  refine ⟨b, off, e2, fun j hj => ?_⟩
  obtain ⟨u, h3, h4⟩ := h2 j hj
  exact ⟨u, kept h3 hb, h4.below hb⟩
theorem Brs.nil (w : World) : Brs w (.slice none 0 0) [] := ⟨none, 0, rfl, Nat.le_refl _, Nat.zero_le _, by simp⟩
/-- A node's three slices. -/
structure NV (w : World) (kv vv pv : Value) (n : N.Nd) : Prop where
  keys : Brs w kv n.ks
  vals : Brs w vv n.vs
  kids : Nums w pv n.ps
theorem NV.below {w w1 : World} {kv vv pv : Value} {n : N.Nd} (h : NV w kv vv pv n) (hb : Below w.heap.size w w1) : NV w1 kv vv pv n := ⟨h.keys.below hb, h.vals.below hb, h.kids.below hb⟩
/-- A node as a value. -/
def nodv (lf : Bool) (kv vv pv : Value) : Value := .agg #[.bool lf, kv, vv, pv]

theorem rises_iff (ks : List (List UInt8)) : N.rises ks = true ↔ ∀ j, j + 1 < ks.length → compareBytes (ks.getD j []) (ks.getD (j + 1) []) < 0 := by
  unfold N.rises
  rw [List.all_eq_true]
  constructor
  · intro h j hj
    exact of_decide_eq_true (h j (List.mem_range.2 (by omega)))
  · intro h j hj
    exact decide_eq_true (h j (by have := List.mem_range.1 hj; omega))
set_option maxHeartbeats 1600000 in
theorem nrising_core (w : World) (A : Option Addr) (n c : Nat) (ks : List (List UInt8)) (R : Bool) (hn : n ≤ 9223372036854775807) (HL : Hid (ks.length = n)) (HR : Hid (N.rises ks = R))
    (H : Hid (0 < n → ∃ b off, A = some ⟨b, off, none⟩ ∧ ∀ j, j < n → ∃ u, w.cell? ⟨b, off + j, none⟩ = some u ∧ Byts w u (ks.getD j []))) :
    Calls Try.prog 23 #[.slice A n c] w fun e w' => e = .returned (.bool R) ∧ Below w.heap.size w w' := by
  go_enter Try.func23, Try.ntmps23
  go_wp2
  go_loopg [7] n (fun k s wr => ∃ i : Nat, s = .int .i64 i ∧ i ≤ n ∧ n - i ≤ k ∧ Hid (Below w.heap.size w wr) ∧ Hid (∀ j, j + 1 < i → compareBytes (ks.getD j []) (ks.getD (j + 1) []) < 0))
  case atStart => exact ⟨0, rfl, by omega, by omega, Below.refl _ _, fun j hj => by omega⟩
  case round =>
    obtain ⟨i, rfl, h1, h2, HB, HI⟩ := hrel
    by_cases hi : i < n
    · have hz : (i : Int) < (n : Int) := by omega
      obtain ⟨b, off, rfl, hcell⟩ := H.out (by omega)
      obtain ⟨u, c0, hu⟩ := hcell i hi
      replace c0 := kept c0 HB.out
      have HU := Lib.hid (hu.below HB.out)
      by_cases h0 : i = 0
      · subst h0
        have c1 : wr.cell? ⟨b, off, none⟩ = some u := by simpa using c0
        clear hcell hu
        go_wp2
        go_roundg (n - 1)
        case measure => omega
        case rel => exact ⟨1, rfl, by omega, by omega, HB, fun j hj => by omega⟩
      · obtain ⟨p, rfl⟩ : ∃ p, i = p + 1 := ⟨i - 1, by omega⟩
        obtain ⟨u2, c1, hu2⟩ := hcell p (by omega)
        replace c1 := kept c1 HB.out
        have HU2 := Lib.hid (hu2.below HB.out)
        clear hcell hu hu2
        have hp : (0 : Int) < ((p + 1 : Nat) : Int) := by omega
        have hp2 : ((p + 1 : Nat) : Int) - 1 = (p : Int) := by omega
        have HC := Lib.hid (keycmp_any u2 u _ _ wr HU2.out HU.out)
        obtain ⟨x, hx⟩ : ∃ x, x = compareBytes (ks.getD p []) (ks.getD (p + 1) []) := ⟨_, rfl⟩
        rw [← hx] at HC
        have HX := Lib.hid hx
        clear hx
        go_wp2_with fail
        refine HC.out.mono ?_
        rintro e w2 ⟨rfl, hB2⟩
        have HB2 := Lib.hid (btr HB.out hB2)
        clear hB2 HC
        by_cases hxx : x < 0
        · have hge : ¬ x ≥ 0 := by omega
          go_wp2
          go_roundg (n - (p + 1 + 1))
          case measure => omega
          case rel =>
            refine ⟨p + 1 + 1, by go_num, by omega, by omega, HB2, fun j hj => ?_⟩
            by_cases e : j + 1 < p + 1
            · exact HI.out j e
            · obtain rfl : j = p := by omega
              rw [← HX.out]
              exact hxx
        · have hge : x ≥ 0 := by omega
          have HXX := Lib.hid hxx
          clear hxx
          go_wp2
          go_ret
          refine ⟨?_, HB2.out⟩
          have : ¬ N.rises ks = true := fun q => by
            have h1 := (rises_iff ks).1 q p (by rw [HL.out]; omega)
            have h2 := HXX.out
            rw [← HX.out] at h1
            omega
          rw [← HR.out, Bool.eq_false_iff.2 this]
          rfl
    · have hz : ¬ (i : Int) < (n : Int) := by omega
      go_wp2
      go_ret
      refine ⟨?_, HB.out⟩
      have : N.rises ks = true := (rises_iff ks).2 (fun j hj => HI.out j (by rw [HL.out] at hj; omega))
      rw [← HR.out, this]
      rfl
theorem nrising_any (w : World) (v : Value) (ks : List (List UInt8)) (h : Brs w v ks) : Calls Try.prog 23 #[v] w fun e w' => e = .returned (.bool (N.rises ks)) ∧ Below w.heap.size w w' := by
  obtain ⟨A, c, rfl, hc, hm, h⟩ := h
  unfold maxLen at hm
  exact nrising_core w A ks.length c ks _ (by omega) (Lib.hid rfl) (Lib.hid rfl) (Lib.hid h)

set_option maxHeartbeats 1600000 in
theorem nallhave_core (w : World) (A : Option Addr) (n c : Nat) (ks : List (List UInt8)) (z : Int) (R : Bool) (hn : n ≤ 9223372036854775807) (HL : Hid (ks.length = n)) (HR : Hid (N.allLen ks z = R))
    (H : Hid (0 < n → ∃ b off, A = some ⟨b, off, none⟩ ∧ ∀ j, j < n → ∃ u, w.cell? ⟨b, off + j, none⟩ = some u ∧ Byts w u (ks.getD j []))) :
    Calls Try.prog 24 #[.slice A n c, .int .i64 z] w fun e w' => e = .returned (.bool R) ∧ w = w' := by
  go_enter Try.func24, Try.ntmps24
  go_wp2
  go_loopg [9] n (fun k s wr => ∃ i : Nat, s = .int .i64 i ∧ i ≤ n ∧ n - i ≤ k ∧ w = wr ∧ Hid (∀ j, j < i → ((ks.getD j []).length : Int) = z))
  case atStart => exact ⟨0, rfl, by omega, by omega, rfl, fun j hj => by omega⟩
  case round =>
    obtain ⟨i, rfl, h1, h2, rfl, HI⟩ := hrel
    by_cases hi : i < n
    · have hz : (i : Int) < (n : Int) := by omega
      obtain ⟨b, off, rfl, hcell⟩ := H.out (by omega)
      obtain ⟨u, c0, hu⟩ := hcell i hi
      obtain ⟨A2, c2, rfl, _⟩ := hu
      clear hcell
      obtain ⟨x, hx⟩ : ∃ x, x = (ks.getD i []).length := ⟨_, rfl⟩
      rw [← hx] at c0
      have HX := Lib.hid hx
      clear hx
      by_cases hxx : (x : Int) = z
      · have hne : ((x : Int) != z) = false := by simpa using hxx
        have HXX := Lib.hid hxx
        clear hxx
        go_wp2
        go_roundg (n - (i + 1))
        case measure => omega
        case rel =>
          refine ⟨i + 1, by go_num, by omega, by omega, rfl, fun j hj => ?_⟩
          by_cases e : j < i
          · exact HI.out j e
          · obtain rfl : j = i := by omega
            rw [← HX.out]
            exact HXX.out
      · have hne : ((x : Int) != z) = true := by simpa using hxx
        have HXX := Lib.hid hxx
        clear hxx
        go_wp2
        go_ret
        refine ⟨?_, rfl⟩
        have : ¬ N.allLen ks z = true := fun q => by
          unfold N.allLen at q
          rw [List.all_eq_true] at q
          have h1 := of_decide_eq_true (q _ (N.getD_mem (d := []) (j := i) (by rw [HL.out]; exact hi)))
          rw [← HX.out] at h1
          exact HXX.out h1
        rw [← HR.out, Bool.eq_false_iff.2 this]
        rfl
    · have hz : ¬ (i : Int) < (n : Int) := by omega
      go_wp2
      go_ret
      refine ⟨?_, rfl⟩
      have : N.allLen ks z = true := by
        unfold N.allLen
        rw [List.all_eq_true]
        intro b hb
        obtain ⟨j, hj, rfl⟩ := List.getElem_of_mem hb
        have h3 := HI.out j (by rw [HL.out] at hj; omega)
        rw [show ks.getD j [] = ks[j] by simp [List.getD, hj]] at h3
        exact decide_eq_true h3
      rw [← HR.out, this]
      rfl
theorem nallhave_any (w : World) (v : Value) (ks : List (List UInt8)) (z : Int) (h : Brs w v ks) : Calls Try.prog 24 #[v, .int .i64 z] w fun e w' => e = .returned (.bool (N.allLen ks z)) ∧ w = w' := by
  obtain ⟨A, c, rfl, hc, hm, h⟩ := h
  unfold maxLen at hm
  exact nallhave_core w A ks.length c ks z _ (by omega) (Lib.hid rfl) (Lib.hid rfl) (Lib.hid h)
set_option maxHeartbeats 1600000 in
theorem nondisk_core (w : World) (A : Option Addr) (n c : Nat) (l : List Int) (R : Bool) (hn : n ≤ 9223372036854775807) (HL : Hid (l.length = n)) (HR : Hid (N.onD l = R))
    (H : Hid (0 < n → ∃ b off, A = some ⟨b, off, none⟩ ∧ ∀ j, j < n → w.cell? ⟨b, off + j, none⟩ = some (.int .u32 l[j]!))) :
    Calls Try.prog 25 #[.slice A n c] w fun e w' => e = .returned (.bool R) ∧ w = w' := by
  go_enter Try.func25, Try.ntmps25
  go_wp2
  go_loopg [7] n (fun k s8 wr => ∃ (i : Nat), s8 = .int .i64 i ∧ i ≤ n ∧ n - i ≤ k ∧ w = wr ∧ Hid (∀ j, j < i → 2 ≤ l[j]!))
  case atStart => exact ⟨0, rfl, by omega, by omega, rfl, fun j hj => by omega⟩
  case round =>
    obtain ⟨i, rfl, h1, h2, rfl, HI⟩ := hrel
    by_cases hi : i < n
    · have hz : (i : Int) < (n : Int) := by omega
      obtain ⟨b, off, rfl, hcell⟩ := H.out (by omega)
      have c0 := hcell i hi
      obtain ⟨y, hy⟩ : ∃ y, y = l[i]! := ⟨_, rfl⟩
      rw [← hy] at c0
      have HY := Lib.hid hy
      clear hcell hy
      by_cases hxy : 2 ≤ y
      · have hz3 : ¬ y < 2 := by omega
        go_wp2
        go_roundg (n - (i + 1))
        case measure => omega
        case rel =>
          refine ⟨i + 1, by go_num, by omega, by omega, rfl, fun j hj => ?_⟩
          by_cases e : j < i
          · exact HI.out j e
          · obtain rfl : j = i := by omega
            rw [← HY.out]
            exact hxy
      · have hz3 : y < 2 := by omega
        clear hxy
        have HZ := Lib.hid hz3
        go_wp2
        go_ret
        refine ⟨?_, rfl⟩
        have : ¬ N.onD l = true := fun q => by
          unfold N.onD at q
          rw [List.all_eq_true] at q
          have hl : i < l.length := by rw [HL.out]; exact hi
          have h1 := of_decide_eq_true (q l[i]! (by rw [getElem!_pos l i hl]; exact List.getElem_mem hl))
          rw [← HY.out] at h1
          have := HZ.out
          omega
        rw [← HR.out, Bool.eq_false_iff.2 this]
        rfl
    · have hz : ¬ (i : Int) < (n : Int) := by omega
      go_wp2
      go_ret
      refine ⟨?_, rfl⟩
      have : N.onD l = true := by
        unfold N.onD
        rw [List.all_eq_true]
        intro b hb
        obtain ⟨j, hj, rfl⟩ := List.getElem_of_mem hb
        have h3 := HI.out j (by rw [HL.out] at hj; omega)
        rw [getElem!_pos l j hj] at h3
        exact decide_eq_true h3
      rw [← HR.out, this]
      rfl
theorem nondisk_any (w : World) (v : Value) (l : List Int) (h : Nums w v l) : Calls Try.prog 25 #[v] w fun e w' => e = .returned (.bool (N.onD l)) ∧ w = w' := by
  obtain ⟨A, c, rfl, hc, hm, h⟩ := h
  unfold maxLen at hm
  exact nondisk_core w A l.length c l _ (by omega) (Lib.hid rfl) (Lib.hid rfl) (Lib.hid h)
end Go.Proofs.Ytceoelemlokelaa
