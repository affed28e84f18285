/- super.layInto: numbers laid into bytes, one behind the other, by a closure that keeps its place. -/
import Derived.Test.YtbffpgndjbpifaaDoorUa
namespace Go.Proofs.YtbffpgndjbpifaaDoor
open Go.RowKit
open U (be)

/-- A row of bytes of the call's own, whole. -/
def Bl (w : World) (g n : Nat) (l : List UInt8) : Prop := w.heap[g]? = some (.cells (bvs l).toArray 5 (0, 0)) ∧ l.length = n ∧ n ≤ 1000
theorem Bl.lt {w : World} {g n : Nat} {l : List UInt8} (h : Bl w g n l) : g < w.heap.size := (Array.getElem?_eq_some_iff.1 h.1).1
theorem Bl.keep {F : Nat → Prop} {w w1 : World} {g n : Nat} {l : List UInt8} (h : Bl w g n l) (hb : Keep F w w1) (hf : ¬ F g) : Bl w1 g n l := ⟨(hb.block g h.lt hf).trans h.1, h.2⟩
theorem Bl.own {w : World} {g n : Nat} {l : List UInt8} (h : Bl w g n l) : w.ownsRow 0 5 1 (.slice (some ⟨g, 0, none⟩) n n) n (bvs l) :=
  own_of h.1 (Nat.zero_le _) (by rw [bvs_length]; exact h.2.1) (by have := h.2.2; unfold maxLen; omega)
theorem Bl.cell {w : World} {g n : Nat} {l : List UInt8} (h : Bl w g n l) (j : Nat) (hj : j < n) : w.cell? ⟨g, j, none⟩ = some (.int .u8 (((l.getD j 0).toNat : Nat) : Int)) := by
  have hl := h.2.1
  rw [h.own.cellAt j (by omega), bvs_get l j (by omega)]
  simp [List.getD, show j < l.length by omega]
theorem Bl.frozen {w : World} {g n : Nat} {l : List UInt8} (h : Bl w g n l) (j : Nat) : w.frozen? ⟨g, j, none⟩ = false := h.own.frozenAt j
theorem Bl.set {w : World} {g n : Nat} {l : List UInt8} (h : Bl w g n l) (p : Nat) (x : UInt8) : Bl (w.setCell ⟨g, p, none⟩ (.int .u8 ((x.toNat : Nat) : Int))) g n (l.set p x) := by
  have q := (h.own.stored p (.int .u8 ((x.toNat : Nat) : Int))).1
  rw [← bvs_set] at q
  exact ⟨own_heap q, by simpa using h.2.1, h.2.2⟩
theorem Bl.byts {w : World} {g n : Nat} {l : List UInt8} (h : Bl w g n l) : Byts w (.slice (some ⟨g, 0, none⟩) n n) l := by
  have e := h.2.1
  have := Byts.own (base := 0) (w := w) (v := .slice (some ⟨g, 0, none⟩) n n) (l := l) (by rw [e]; exact h.own)
  exact this

/-- The closure's memory: the bytes d are laid into the row at g, of 116 bytes; the slice stands at bb, the place at ab. -/
structure Lay (w : World) (g bb ab : Nat) (d : List UInt8) : Prop where
  row : ∃ y, Bl w g 116 (d ++ y)
  cb : w.cell? ⟨bb, 0, none⟩ = some (.slice (some ⟨g, 0, none⟩) 116 116)
  ca : w.cell? ⟨ab, 0, none⟩ = some (.int .i64 (d.length : Int))
  fa : w.frozen? ⟨ab, 0, none⟩ = false
  gb : g ≠ bb
  ga : g ≠ ab
  ba : bb ≠ ab
theorem Lay.keep {F : Nat → Prop} {w w1 : World} {g bb ab : Nat} {d : List UInt8} (h : Lay w g bb ab d) (k : Keep F w w1) (hg : ¬ F g) (hb : ¬ F bb) (ha : ¬ F ab) : Lay w1 g bb ab d := by
  obtain ⟨⟨y, hy⟩, cb, ca, fa, h1, h2, h3⟩ := h
  exact ⟨⟨y, hy.keep k hg⟩, k.cell cb hb, k.cell ca ha, by rw [k.frozen ca ha]; exact fa, h1, h2, h3⟩
theorem Lay.below {w w1 : World} {g bb ab : Nat} {d : List UInt8} (h : Lay w g bb ab d) (k : Below w.heap.size w w1) : Lay w1 g bb ab d := h.keep (F := fun _ => False) (Keep.of_below k) (fun h => h) (fun h => h) (fun h => h)

theorem put_split (d y : List UInt8) (s n : Nat) (h : (d ++ y).length = 116) (hs : d.length + s ≤ 116) : ∃ x z, d ++ y = d ++ (x ++ (be 0 n ++ z)) ∧ x.length = s := by
  refine ⟨y.take s, y.drop s, by simp [be], ?_⟩
  simp at h
  simp
  omega
theorem put_step (d x z : List UInt8) (c : UInt8) (t n m : Nat) (hm : m = n / 256 ^ t) : (d ++ ((x ++ [c]) ++ (be t n ++ z))).set (d.length + x.length) (UInt8.ofNat m) = d ++ (x ++ (be (t + 1) n ++ z)) := by
  subst hm
  rw [List.set_append_right _ _ (by omega), Nat.add_sub_cancel_left, List.append_assoc, List.set_append_right _ _ (by omega), Nat.sub_self]
  rfl
theorem put_byte (m : Nat) : ((m : Int) % 256) = (((UInt8.ofNat m).toNat : Nat) : Int) := by
  have : (UInt8.ofNat m).toNat = m % 256 := by simp
  rw [this]
  omega

set_option maxHeartbeats 800000 in
theorem put_any (g bb ab s n : Nat) (d : List UInt8) (w : World) (h : Lay w g bb ab d) (hs : d.length + s ≤ 116) (hn : n < 18446744073709551616) :
    Calls Tryd.prog 25 #[.int .i64 (s : Int), .int .u64 (n : Int), .pointer (some ⟨bb, 0, none⟩), .pointer (some ⟨ab, 0, none⟩)] w fun e w' =>
      e = .returned (.tuple #[]) ∧ Lay w' g bb ab (d ++ be s n) ∧ Keep (fun k => k = g ∨ k = ab) w w' := by
  obtain ⟨⟨y, hy⟩, cb, ca, fa, h1, h2, h3⟩ := h
  have HL := Lib.hid hy.2.1
  obtain ⟨x0, z0, e0, hx0⟩ := put_split d y s n hy.2.1 hs
  rw [e0] at hy
  have HY := Lib.hid hy
  clear hy e0
  have H1 := Lib.hid h1
  have H2 := Lib.hid h2
  have H3 := Lib.hid h3
  generalize hD : d.length = D at *
  have HD := Lib.hid hD
  clear hD h1 h2 h3
  have hm : n / 256 ^ 0 = n := by simp
  go_enter Tryd.func25, Tryd.ntmps25
  go_wp2
  go_loopw [6, 1] (fun i m wr => ∃ (k t : Nat) (x z : List UInt8), k + t = s ∧ x.length = k ∧ i = .int .i64 ((k : Int) - 1) ∧ m = .int .u64 ((n / 256 ^ t : Nat) : Int) ∧ Bl wr g 116 (d ++ (x ++ (be t n ++ z))) ∧
      wr.cell? ⟨bb, 0, none⟩ = some (.slice (some ⟨g, 0, none⟩) 116 116) ∧ wr.cell? ⟨ab, 0, none⟩ = some (.int .i64 (D : Int)) ∧ wr.frozen? ⟨ab, 0, none⟩ = false ∧ Keep (fun k => k = g ∨ k = ab) w wr)
    (fun i _ _ => (intOf i + 1).toNat)
  case atStart => exact ⟨s, 0, x0, z0, rfl, hx0, rfl, by rw [hm], HY.out, cb, ca, fa, Keep.refl _ _⟩
  case round =>
    obtain ⟨k, t, x, z, hkt, hx, rfl, rfl, hbl, cb, ca, fa, hk⟩ := hrel
    have hs2 := HL.out
    cases k with
    | zero =>
      obtain rfl : t = s := by omega
      have e : x = [] := List.length_eq_zero_iff.1 hx
      subst e
      have HB := Lib.hid hbl
      clear hbl
      have q1 : decide (0 ≤ ((0 : Nat) : Int) - 1) = false := by decide
      go_wp2
      go_end0
      have h1 := H1.out
      have h2 := H2.out
      have h3 := H3.out
      refine ⟨rfl, ⟨⟨z, ?_⟩, cfar (fun e => h3 e.symm) cb, ?_, fzs fa, h1, h2, h3⟩, hk.setCell (.inl (.inr rfl)) _⟩
      · rw [List.append_assoc]
        exact HB.out.keep (F := fun k => k = ab) (Keep.setCell (F := fun k => k = ab) (p := ⟨ab, 0, none⟩) (Keep.refl _ _) (.inl rfl) _) h2
      · rw [World.cell?_setCell_same _ _ _ ca, List.length_append, HD.out, U.be_length]
        first | rfl | simp
    | succ j =>
      rcases List.eq_nil_or_concat x with rfl | ⟨x, c, rfl⟩
      · simp at hx
      rw [List.concat_eq_append] at hbl
      have hj : x.length = j := by simpa using hx
      have e1 : (((j + 1 : Nat) : Int) - 1) = (j : Int) := by omega
      rw [e1]
      have c0 := hbl.cell (D + j) (by omega)
      have f0 := hbl.frozen (D + j)
      have HB := Lib.hid hbl
      clear hbl
      obtain ⟨y8, h8⟩ : ∃ y : Nat, y = (List.getD (d ++ (x ++ [c] ++ (be t n ++ z))) (D + j) 0).toNat := ⟨_, rfl⟩
      rw [← h8] at c0
      clear h8
      generalize hmm : n / 256 ^ t = m at *
      have HM := Lib.hid hmm
      clear hmm
      have hml : m < 18446744073709551616 := by rw [← HM.out]; exact Nat.lt_of_le_of_lt (Nat.div_le_self _ _) hn
      have e3 := put_byte m
      obtain ⟨u, hu⟩ : ∃ u, u = UInt8.ofNat m := ⟨_, rfl⟩
      rw [← hu] at e3
      have HU := Lib.hid hu
      clear hu
      have hu8 := u.toNat_lt
      generalize hun : u.toNat = un at *
      have HUN := Lib.hid hun
      clear hun
      have HKT := Lib.hid hkt
      have HX := Lib.hid hx
      have HJ := Lib.hid hj
      have HK := Lib.hid hk
      clear hx hj hk e1
      have q1 : decide (0 ≤ (j : Int)) = true := by simp
      have hjl : (D : Int) + (j : Int) < 116 := by omega
      clear hkt
      go_wp2
      go_roundw
      case rel =>
        have hb2 := HB.out.set (D + j) u
        have hkk := HKT.out
        have h1 := H1.out
        have h2 := H2.out
        rw [HUN.out] at hb2
        have es := put_step d x z c t n m HM.out.symm
        rw [HD.out, HJ.out, ← HU.out] at es
        rw [es] at hb2
        refine ⟨j, t + 1, x, z, by omega, HJ.out, by go_num, ?_, hb2, ?_, ?_, ?_, HK.out.setCell (.inl (.inl rfl)) _⟩
        · rw [Nat.pow_succ, ← Nat.div_div_eq_div_mul, HM.out]
          first | rfl | simp
        · exact cfar h1 cb
        · exact cfar h2 ca
        · exact fzs fa
      case measure => simp [intOf]
end Go.Proofs.YtbffpgndjbpifaaDoor
