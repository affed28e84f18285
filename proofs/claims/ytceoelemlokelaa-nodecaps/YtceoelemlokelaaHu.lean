/- The document's own Same (of equal nodes) and Ahead. -/
import Derived.Test.YtceoelemlokelaaHt
namespace Go.Proofs.Ytceoelemlokelaa
open Go.RowKit
open Lib (compareBytes)

set_option maxHeartbeats 3200000 in
theorem refsame_core (w : World) (lf : Bool) (A1 A2 A3 B1 B2 B3 : Option Addr) (n1 d1 n2 d2 n3 d3 e1 e2 e3 : Nat) (ks vs : List (List UInt8)) (ps : List Int) (b1 : n1 ≤ 1000000) (b2 : n2 ≤ 1000000) (b3 : n3 ≤ 1000000)
    (H1 : Hid (0 < n1 → ∃ b off, A1 = some ⟨b, off, none⟩ ∧ ∀ j, j < n1 → w.cell? ⟨b, off + j, none⟩ = some (.string (str (ks.getD j [])))))
    (H2 : Hid (0 < n2 → ∃ b off, A2 = some ⟨b, off, none⟩ ∧ ∀ j, j < n2 → w.cell? ⟨b, off + j, none⟩ = some (.string (str (vs.getD j [])))))
    (H3 : Hid (0 < n3 → ∃ b off, A3 = some ⟨b, off, none⟩ ∧ ∀ j, j < n3 → w.cell? ⟨b, off + j, none⟩ = some (.int .u32 ps[j]!)))
    (G1 : Hid (0 < n1 → ∃ b off, B1 = some ⟨b, off, none⟩ ∧ ∀ j, j < n1 → w.cell? ⟨b, off + j, none⟩ = some (.string (str (ks.getD j [])))))
    (G2 : Hid (0 < n2 → ∃ b off, B2 = some ⟨b, off, none⟩ ∧ ∀ j, j < n2 → w.cell? ⟨b, off + j, none⟩ = some (.string (str (vs.getD j [])))))
    (G3 : Hid (0 < n3 → ∃ b off, B3 = some ⟨b, off, none⟩ ∧ ∀ j, j < n3 → w.cell? ⟨b, off + j, none⟩ = some (.int .u32 ps[j]!))) :
    Calls Try.prog 17 #[.agg #[.bool lf, .slice A1 n1 d1, .slice A2 n2 d2, .slice A3 n3 d3], .agg #[.bool lf, .slice B1 n1 e1, .slice B2 n2 e2, .slice B3 n3 e3]] w fun e w' => e = .returned (.bool true) ∧ Below w.heap.size w w' := by
  have HQ : Hid (∃ W, W = (w.alloc (.cells #[.bool lf, .slice A1 n1 d1, .slice A2 n2 d2, .slice A3 n3 d3] 38)).alloc (.cells #[.bool lf, .slice B1 n1 e1, .slice B2 n2 e2, .slice B3 n3 e3] 38) ∧ Below w.heap.size w W ∧ Nb W w.heap.size lf (.slice A1 n1 d1) (.slice A2 n2 d2) (.slice A3 n3 d3) ∧ Nb W (w.heap.size + 1) lf (.slice B1 n1 e1) (.slice B2 n2 e2) (.slice B3 n3 e3)) := by
    refine ⟨_, rfl, bal (alb _) _, ?_, ?_⟩
    · have : Nb (w.alloc (.cells #[.bool lf, .slice A1 n1 d1, .slice A2 n2 d2, .slice A3 n3 d3] 38)) w.heap.size lf (.slice A1 n1 d1) (.slice A2 n2 d2) (.slice A3 n3 d3) :=
        ⟨by rw [World.cell?_alloc_at _ _ _ _ rfl]; rfl, by rw [World.cell?_alloc_at _ _ _ _ rfl]; rfl, by rw [World.cell?_alloc_at _ _ _ _ rfl]; rfl, by rw [World.cell?_alloc_at _ _ _ _ rfl]; rfl⟩
      exact this.below (alb _)
    · exact ⟨by rw [World.cell?_alloc_at _ _ _ _ (World.size_alloc _ _).symm]; rfl, by rw [World.cell?_alloc_at _ _ _ _ (World.size_alloc _ _).symm]; rfl, by rw [World.cell?_alloc_at _ _ _ _ (World.size_alloc _ _).symm]; rfl, by rw [World.cell?_alloc_at _ _ _ _ (World.size_alloc _ _).symm]; rfl⟩
  obtain ⟨W, hW, HBW, HN1, HN2⟩ := HQ.out
  replace HBW := Lib.hid HBW
  replace HN1 := Lib.hid HN1
  replace HN2 := Lib.hid HN2
  clear HQ
  go_enter Try.func17, Try.ntmps17
  go_wp2_with fail
  rw [← hW]
  clear hW
  go_loopg [5] n1 (fun g s wr => ∃ i : Nat, s = .int .i64 (i : Int) ∧ i ≤ n1 ∧ n1 - i ≤ g ∧ Hid (Below w.heap.size w wr) ∧ Hid (Nb wr w.heap.size lf (.slice A1 n1 d1) (.slice A2 n2 d2) (.slice A3 n3 d3)) ∧ Hid (Nb wr (w.heap.size + 1) lf (.slice B1 n1 e1) (.slice B2 n2 e2) (.slice B3 n3 e3)))
  case atStart => exact ⟨0, rfl, by omega, by omega, HBW, HN1, HN2⟩
  case round =>
    clear HBW HN1 HN2
    obtain ⟨i, rfl, h1, h2, HBW, HN1, HN2⟩ := hrel
    obtain ⟨p0, p1, p2, p3⟩ := HN1.out
    obtain ⟨q0, q1, q2, q3⟩ := HN2.out
    by_cases hi : i < n1
    · have hz : (i : Int) < (n1 : Int) := by omega
      obtain ⟨b, off, rfl, hcell⟩ := H1.out (by omega)
      obtain ⟨b2, off2, rfl, hcell2⟩ := G1.out (by omega)
      have c0 := kept (hcell i hi) HBW.out
      have c2 := kept (hcell2 i hi) HBW.out
      clear hcell hcell2
      generalize str (ks.getD i []) = sx at *
      go_wp2
      go_quiet (fail)
      go_wp2
      go_roundg (n1 - (i + 1))
      case measure => omega
      case rel => exact ⟨i + 1, by go_num, by omega, by omega, bdn HBW.out _, ⟨p0, p1, p2, p3⟩, ⟨q0, q1, q2, q3⟩⟩
    · have hz : ¬ (i : Int) < (n1 : Int) := by omega
      go_wp2_with fail
      clear hz hi h1 h2 p0 p1 p2 p3 q0 q1 q2 q3
      go_loopg [6] n2 (fun g s wr => ∃ m : Nat, s = .int .i64 (m : Int) ∧ m ≤ n2 ∧ n2 - m ≤ g ∧ Hid (Below w.heap.size w wr) ∧ Hid (Nb wr w.heap.size lf (.slice A1 n1 d1) (.slice A2 n2 d2) (.slice A3 n3 d3)) ∧ Hid (Nb wr (w.heap.size + 1) lf (.slice B1 n1 e1) (.slice B2 n2 e2) (.slice B3 n3 e3)))
      case atStart => exact ⟨0, rfl, by omega, by omega, HBW, HN1, HN2⟩
      case round =>
        clear HBW HN1 HN2
        obtain ⟨m, rfl, h1, h2, HBW, HN1, HN2⟩ := hrel
        obtain ⟨p0, p1, p2, p3⟩ := HN1.out
        obtain ⟨q0, q1, q2, q3⟩ := HN2.out
        by_cases hi : m < n2
        · have hz : (m : Int) < (n2 : Int) := by omega
          obtain ⟨b, off, rfl, hcell⟩ := H2.out (by omega)
          obtain ⟨b2, off2, rfl, hcell2⟩ := G2.out (by omega)
          have c0 := kept (hcell m hi) HBW.out
          have c2 := kept (hcell2 m hi) HBW.out
          clear hcell hcell2
          generalize str (vs.getD m []) = sx at *
          go_wp2
          go_quiet (fail)
          go_wp2
          go_roundg (n2 - (m + 1))
          case measure => omega
          case rel => exact ⟨m + 1, by go_num, by omega, by omega, bdn HBW.out _, ⟨p0, p1, p2, p3⟩, ⟨q0, q1, q2, q3⟩⟩
        · have hz : ¬ (m : Int) < (n2 : Int) := by omega
          go_wp2_with fail
          clear hz hi h1 h2 p0 p1 p2 p3 q0 q1 q2 q3
          go_loopg [7] n3 (fun g s wr => ∃ t : Nat, s = .int .i64 (t : Int) ∧ t ≤ n3 ∧ n3 - t ≤ g ∧ Hid (Below w.heap.size w wr) ∧ Hid (Nb wr w.heap.size lf (.slice A1 n1 d1) (.slice A2 n2 d2) (.slice A3 n3 d3)) ∧ Hid (Nb wr (w.heap.size + 1) lf (.slice B1 n1 e1) (.slice B2 n2 e2) (.slice B3 n3 e3)))
          case atStart => exact ⟨0, rfl, by omega, by omega, HBW, HN1, HN2⟩
          case round =>
            clear HBW HN1 HN2
            obtain ⟨t, rfl, h1, h2, HBW, HN1, HN2⟩ := hrel
            obtain ⟨p0, p1, p2, p3⟩ := HN1.out
            obtain ⟨q0, q1, q2, q3⟩ := HN2.out
            by_cases hi : t < n3
            · have hz : (t : Int) < (n3 : Int) := by omega
              obtain ⟨b, off, rfl, hcell⟩ := H3.out (by omega)
              obtain ⟨b2, off2, rfl, hcell2⟩ := G3.out (by omega)
              have c0 := kept (hcell t hi) HBW.out
              have c2 := kept (hcell2 t hi) HBW.out
              clear hcell hcell2
              generalize ps[t]! = sx at *
              go_wp2
              go_quiet (fail)
              go_wp2
              go_roundg (n3 - (t + 1))
              case measure => omega
              case rel => exact ⟨t + 1, by go_num, by omega, by omega, bdn HBW.out _, ⟨p0, p1, p2, p3⟩, ⟨q0, q1, q2, q3⟩⟩
            · have hz : ¬ (t : Int) < (n3 : Int) := by omega
              go_wp2
              go_ret
              exact ⟨rfl, HBW.out⟩
theorem refsame_any (w : World) (n : N.Nd) (kv vv pv kv2 vv2 pv2 : Value) (h : RV w kv vv pv n) (g : RV w kv2 vv2 pv2 n) (b1 : n.ks.length ≤ 1000000) (b2 : n.vs.length ≤ 1000000) (b3 : n.ps.length ≤ 1000000) :
    Calls Try.prog 17 #[nodv n.leaf kv vv pv, nodv n.leaf kv2 vv2 pv2] w fun e w' => e = .returned (.bool true) ∧ Below w.heap.size w w' := by
  obtain ⟨A1, d1, rfl, _, _, c1⟩ := h.keys
  obtain ⟨A2, d2, rfl, _, _, c2⟩ := h.vals
  obtain ⟨A3, d3, rfl, _, _, c3⟩ := h.kids
  obtain ⟨B1, e1, rfl, _, _, g1⟩ := g.keys
  obtain ⟨B2, e2, rfl, _, _, g2⟩ := g.vals
  obtain ⟨B3, e3, rfl, _, _, g3⟩ := g.kids
  exact refsame_core w n.leaf A1 A2 A3 B1 B2 B3 n.ks.length d1 n.vs.length d2 n.ps.length d3 e1 e2 e3 n.ks n.vs n.ps b1 b2 b3 (Lib.hid c1) (Lib.hid c2) (Lib.hid c3) (Lib.hid g1) (Lib.hid g2) (Lib.hid g3)
/-- How many keys stand ahead of one; how many don't stand behind it. -/
def cntA (ks : List (List UInt8)) (key : List UInt8) (i : Nat) : Nat := (List.range i).countP fun j => decide (compareBytes (ks.getD j []) key < 0)
def cntB (ks : List (List UInt8)) (key : List UInt8) (i : Nat) : Nat := (List.range i).countP fun j => decide (compareBytes (ks.getD j []) key ≤ 0)
theorem cntA_next (ks : List (List UInt8)) (key : List UInt8) (i : Nat) : cntA ks key (i + 1) = cntA ks key i + (if compareBytes (ks.getD i []) key < 0 then 1 else 0) := by
  unfold cntA
  rw [List.range_succ, List.countP_append]
  simp
theorem cntB_next (ks : List (List UInt8)) (key : List UInt8) (i : Nat) : cntB ks key (i + 1) = cntB ks key i + (if compareBytes (ks.getD i []) key ≤ 0 then 1 else 0) := by
  unfold cntB
  rw [List.range_succ, List.countP_append]
  simp
theorem cnt_le (ks : List (List UInt8)) (key : List UInt8) (i : Nat) : cntA ks key i ≤ i ∧ cntB ks key i ≤ i := by
  have h1 := List.countP_le_length (p := fun j => decide (compareBytes (ks.getD j []) key < 0)) (l := List.range i)
  have h2 := List.countP_le_length (p := fun j => decide (compareBytes (ks.getD j []) key ≤ 0)) (l := List.range i)
  simp only [List.length_range] at h1 h2
  exact ⟨h1, h2⟩
set_option maxHeartbeats 1600000 in
theorem refahead_core (w : World) (A : Option Addr) (n c : Nat) (ks : List (List UInt8)) (key : List UInt8) (hn : n ≤ 1000000) (HL : Hid (ks.length = n)) (HS : Hid (∀ b ∈ ks, b.length ≤ 1000)) (hk : key.length ≤ 1000)
    (H : Hid (0 < n → ∃ b off, A = some ⟨b, off, none⟩ ∧ ∀ j, j < n → w.cell? ⟨b, off + j, none⟩ = some (.string (str (ks.getD j []))))) :
    Calls Try.prog 22 #[.slice A n c, .string (str key)] w fun e w' => e = .returned (.tuple #[.int .i64 ((cntA ks key n : Nat) : Int), .int .i64 ((cntB ks key n : Nat) : Int)]) ∧ Below w.heap.size w w' := by
  obtain ⟨sk, hsk⟩ : ∃ sk, sk = str key := ⟨_, rfl⟩
  rw [← hsk]
  have HSK := Lib.hid hsk
  clear hsk
  go_enter Try.func22, Try.ntmps22
  go_wp2
  go_loopg [6, 7, 8] n (fun g s6 s7 s8 wr => ∃ (i a b : Nat), s8 = .int .i64 (i : Int) ∧ i ≤ n ∧ n - i ≤ g ∧ s6 = .int .i64 (a : Int) ∧ s7 = .int .i64 (b : Int) ∧ a ≤ i ∧ b ≤ i ∧ Hid (a = cntA ks key i) ∧ Hid (b = cntB ks key i) ∧ Hid (Below w.heap.size w wr))
  case atStart => exact ⟨0, 0, 0, rfl, by omega, by omega, rfl, rfl, by omega, by omega, rfl, rfl, Below.refl _ _⟩
  case round =>
    obtain ⟨i, a, b, rfl, h1, h2, rfl, rfl, h3, h4, HCA, HCB, HB⟩ := hrel
    by_cases hi : i < n
    · have hz : (i : Int) < (n : Int) := by omega
      obtain ⟨bb, off, rfl, hcell⟩ := H.out (by omega)
      have c0 := kept (hcell i hi) HB.out
      clear hcell
      have HC := Lib.hid (refcmpK_any (ks.getD i []) key (by have := HS.out _ (N.getD_mem (d := []) (j := i) (by rw [HL.out]; exact hi)); omega) (by omega) wr)
      rw [← HSK.out] at HC
      have ea := cntA_next ks key i
      have eb := cntB_next ks key i
      rw [← HCA.out] at ea
      rw [← HCB.out] at eb
      generalize str (ks.getD i []) = sx at *
      generalize compareBytes (ks.getD i []) key = x at *
      have HEA := Lib.hid ea
      have HEB := Lib.hid eb
      clear ea eb HCA HCB
      go_wp2_with fail
      refine HC.out.mono ?_
      rintro e w2 ⟨rfl, hB2⟩
      have HB2 := Lib.hid (btr HB.out hB2)
      clear hB2 HC HB
      by_cases hx : x < 0
      · have hx2 : x ≤ 0 := by omega
        rw [if_pos hx] at HEA
        rw [if_pos hx2] at HEB
        go_wp2
        go_roundg (n - (i + 1))
        case measure => omega
        case rel => exact ⟨i + 1, a + 1, b + 1, by go_num, by omega, by omega, by go_num, by go_num, by omega, by omega, HEA.out.symm, HEB.out.symm, HB2⟩
      · by_cases hx2 : x ≤ 0
        · rw [if_neg hx, Nat.add_zero] at HEA
          rw [if_pos hx2] at HEB
          go_wp2
          go_roundg (n - (i + 1))
          case measure => omega
          case rel => exact ⟨i + 1, a, b + 1, by go_num, by omega, by omega, rfl, by go_num, by omega, by omega, HEA.out.symm, HEB.out.symm, HB2⟩
        · rw [if_neg hx, Nat.add_zero] at HEA
          rw [if_neg hx2, Nat.add_zero] at HEB
          go_wp2
          go_roundg (n - (i + 1))
          case measure => omega
          case rel => exact ⟨i + 1, a, b, by go_num, by omega, by omega, rfl, rfl, by omega, by omega, HEA.out.symm, HEB.out.symm, HB2⟩
    · have hz : ¬ (i : Int) < (n : Int) := by omega
      obtain rfl : i = n := by omega
      go_wp2
      go_ret2
      exact ⟨by rw [← HCA.out, ← HCB.out]; rfl, HB.out⟩
theorem refahead_any (w : World) (v : Value) (ks : List (List UInt8)) (key : List UInt8) (h : Sts w v ks) (hn : ks.length ≤ 1000000) (hs : ∀ b ∈ ks, b.length ≤ 1000) (hk : key.length ≤ 1000) :
    Calls Try.prog 22 #[v, .string (str key)] w fun e w' => e = .returned (.tuple #[.int .i64 ((cntA ks key ks.length : Nat) : Int), .int .i64 ((cntB ks key ks.length : Nat) : Int)]) ∧ Below w.heap.size w w' := by
  obtain ⟨A, c, rfl, hc, hm, h⟩ := h
  exact refahead_core w A ks.length c ks key hn (Lib.hid rfl) (Lib.hid hs) hk (Lib.hid h)
end Go.Proofs.Ytceoelemlokelaa
