/- What came in, opened: rows of losses, rows of operations. -/
import Derived.Test.YtcbiagdpolhbfaaLd
import Derived.Deep.SlicePairs
namespace Go.Proofs.Ytcbiagdpolhbfaa
open Go.RowKit Go.ChangeShapes Go.WideShapes
open D (St)

theorem Try.cells3 : Try.prog.cellsOf 3 = 1 := by kernel_rfl
theorem Try.cells61 : Try.prog.cellsOf 61 = 2 := by kernel_rfl
theorem Try.cells38 : Try.prog.cellsOf 38 = 6 := by kernel_rfl
theorem Try.cells34 : Try.prog.cellsOf 34 = 1 := by kernel_rfl
theorem Try.cells35 : Try.prog.cellsOf 35 = 1 := by kernel_rfl
theorem Try.cells36 : Try.prog.cellsOf 36 = 1 := by kernel_rfl
theorem losses_of {H : Type} {enc : TypeId × Value → H} {u : World} {base : Nat} {sp : Nat → Bool} {held : Bool} {fuel : Nat} {cs : List Value} {x : DataW H × List MemPlace}
    (h : DataW.trod enc Try.prog u base sp held fuel 36 cs = some x) : ∃ v l, cs = [v] ∧ Losses u v l := by
  rcases Go.Deep.open_slice_pairs Try.underlying36 Try.underlying61 Try.cells61 rfl rfl Try.cells3 Try.cells3 h with ⟨hcs, _⟩ | ⟨a, len, cap, m, n, V0, V1, D0, D1, P0, P1, hcs, hb, hl, hm, hmm, hx, hi⟩
  · exact ⟨_, [], hcs, Losses.none u⟩
  · have hlm : len ≤ m := by rw [hmm]; split <;> omega
    have each : ∀ i, i < len → ∃ q : Int × Int, u.cell? (a.add (i * 2)) = some (.int .i64 q.1) ∧ u.cell? (a.add (i * 2 + 1)) = some (.int .i64 q.2) := by
      intro i hi'
      obtain ⟨k0, k1, t0, t1⟩ := hi i (by omega)
      obtain ⟨z0, e0, _⟩ := DataW.trod_int Try.underlying3 t0
      obtain ⟨z1, e1, _⟩ := DataW.trod_int Try.underlying3 t1
      simp at e0 e1
      exact ⟨(z0, z1), by rw [k0, e0], by rw [k1, e1]⟩
    obtain ⟨f, hf⟩ := Go.Deep.choose_lt each
    refine ⟨_, (List.range len).map f, hcs, some a, cap, by simp, by simpa using hl, fun hpos => ?_⟩
    have hpos' : 0 < len := by simpa using hpos
    obtain ⟨b, off, spot⟩ := a
    have hspot : spot = none := by simpa [Addr.add] using World.cell?_spot (hf 0 hpos').1
    subst hspot
    refine ⟨b, off, rfl, fun j hj => ?_⟩
    have hj' : j < len := by simpa using hj
    have g := hf j hj'
    rw [Addr.add_mid, Addr.add_mid, ← Nat.add_assoc] at g
    simpa using g
/-- An operation. -/
structure O where
  d : Nat
  a : Int
  c : UInt8
  k : Nat
  n : Int
  l : List (Int × Int)
/-- Its numbers are what their types let them be. -/
structure OkO (o : O) : Prop where
  d : o.d < 256
  a : o.a ≤ 9223372036854775807
  a2 : -9223372036854775808 ≤ o.a
  k : o.k < 65536
  n1 : -128 ≤ o.n
  n2 : o.n ≤ 127
/-- Its cells. -/
def ocells (o : O) (lv : Value) : List Value := [.int .u8 (o.d : Int), .int .i64 o.a, .int .u8 ((o.c.toNat : Nat) : Int), .int .u16 (o.k : Int), .int .i8 o.n, lv]
/-- A slice of operations. -/
def Ops (w : World) (v : Value) (os : List O) : Prop :=
  ∃ A c, v = .slice A os.length c ∧ (∀ o ∈ os, OkO o) ∧ (0 < os.length → ∃ b off, A = some ⟨b, off, none⟩ ∧ ∀ j (h : j < os.length), ∃ lv, w.rangeAt b (off + j * 6) (ocells os[j] lv) ∧ Losses w lv os[j].l)
theorem Losses.below {B : Nat} {w w1 : World} {v : Value} {l : List (Int × Int)} (h : Losses w v l) (hB : w.heap.size ≤ B) (hb : Below B w w1) : Losses w1 v l :=
  h.keep (F := fun _ => False) (Keep.of_below (hb.mono hB)) (fun _ _ _ h => h)
theorem Ops.below {B : Nat} {w w1 : World} {v : Value} {os : List O} (h : Ops w v os) (hB : w.heap.size ≤ B) (hb : Below B w w1) : Ops w1 v os := by
  obtain ⟨A, c, e, ok, h⟩ := h
  refine ⟨A, c, e, ok, fun hl => ?_⟩
  obtain ⟨b, off, e2, h2⟩ := h hl
  refine ⟨b, off, e2, fun j hj => ?_⟩
  obtain ⟨lv, h3, h4⟩ := h2 j hj
  exact ⟨lv, range_keep (F := fun _ => False) h3 (Keep.of_below (hb.mono hB)) (fun h => h), h4.below hB hb⟩
theorem wf_u8 {z : Int} (h : (Lit.int .u8 z).wf = true) : 0 ≤ z ∧ z ≤ 255 := by simpa [Lit.wf, IntKind.min, IntKind.max, IntKind.signed, IntKind.bits] using h
theorem wf_u16 {z : Int} (h : (Lit.int .u16 z).wf = true) : 0 ≤ z ∧ z ≤ 65535 := by simpa [Lit.wf, IntKind.min, IntKind.max, IntKind.signed, IntKind.bits] using h
theorem wf_i8 {z : Int} (h : (Lit.int .i8 z).wf = true) : -128 ≤ z ∧ z ≤ 127 := by simpa [Lit.wf, IntKind.min, IntKind.max, IntKind.signed, IntKind.bits] using h
theorem wf_i64 {z : Int} (h : (Lit.int .i64 z).wf = true) : -9223372036854775808 ≤ z ∧ z ≤ 9223372036854775807 := by simpa [Lit.wf, IntKind.min, IntKind.max, IntKind.signed, IntKind.bits] using h
theorem ops_of {H : Type} {enc : TypeId × Value → H} {u : World} {base : Nat} {sp : Nat → Bool} {held : Bool} {A : Option Addr} {len cap : Nat} {d : DataW H} {p : List MemPlace}
    (h : DataW.Trod enc Try.prog u base sp held 22 (.slice A len cap) d p) : ∃ os, os.length = len ∧ Ops u (.slice A len cap) os := by
  obtain ⟨fuel, hf⟩ := h
  rcases Go.Deep.open_slice Try.underlying22 hf with ⟨hcs, _⟩ | ⟨a, l, c, m, n, Dd, Pl, hcs, hb, hl, hm, hmm, hx, hi⟩
  · simp [Value.cells] at hcs
    obtain ⟨rfl, rfl, rfl⟩ := hcs
    exact ⟨[], rfl, none, 0, rfl, fun o ho => by simp at ho, fun h => by simp at h⟩
  · simp [Value.cells] at hcs
    obtain ⟨rfl, rfl, rfl⟩ := hcs
    have hlm : len ≤ m := by rw [hmm]; split <;> omega
    have each : ∀ i, i < len → ∃ q : O, OkO q ∧ ∃ lv, (∀ j (hj : j < 6), u.cell? (a.add (i * 6 + j)) = (ocells q lv)[j]?) ∧ Losses u lv q.l := by
      intro i hi'
      obtain ⟨cs', h1, h2⟩ := hi i (by omega)
      rw [Try.cells38] at h1
      obtain ⟨_, hlen, hcell⟩ := World.cells?_some h1
      obtain ⟨xs, k, hk, hxy, _, hxl, hfs⟩ := DataW.trod_struct Try.underlying38 h2
      match xs, hxl, cs', hlen with
      | [y0, y1, y2, y3, y4, y5], _, [v0, v1, v2, v3, v4, v5], _ =>
        have g0 := hfs 0 _ rfl
        have g1 := hfs 1 _ rfl
        have g2 := hfs 2 _ rfl
        have g3 := hfs 3 _ rfl
        have g4 := hfs 4 _ rfl
        have g5 := hfs 5 _ rfl
        simp [Try.cells5] at g0 g2
        simp [Try.cells3] at g1
        simp [Try.cells34] at g3
        simp [Try.cells35] at g4
        simp [Try.cells36] at g5
        obtain ⟨z0, e0, _, f0⟩ := DataW.trod_int Try.underlying5 g0
        obtain ⟨z1, e1, _, f1⟩ := DataW.trod_int Try.underlying3 g1
        obtain ⟨z2, e2, _, f2⟩ := DataW.trod_int Try.underlying5 g2
        obtain ⟨z3, e3, _, f3⟩ := DataW.trod_int Try.underlying34 g3
        obtain ⟨z4, e4, _, f4⟩ := DataW.trod_int Try.underlying35 g4
        obtain ⟨lv, ls, e5, hls⟩ := losses_of g5
        simp at e0 e1 e2 e3 e4 e5
        subst e0 e1 e2 e3 e4 e5
        have f0 := wf_u8 f0
        have f1 := wf_i64 f1
        have f2 := wf_u8 f2
        have f3 := wf_u16 f3
        have f4 := wf_i8 f4
        obtain ⟨n0, rfl⟩ := Int.eq_ofNat_of_zero_le f0.1
        obtain ⟨n2, rfl⟩ := Int.eq_ofNat_of_zero_le f2.1
        obtain ⟨n3, rfl⟩ := Int.eq_ofNat_of_zero_le f3.1
        have e6 : ((UInt8.ofNat n2).toNat : Nat) = n2 := by simp; omega
        refine ⟨⟨n0, z1, UInt8.ofNat n2, n3, z4, ls⟩, ⟨by simp; omega, f1.2, f1.1, by simp; omega, f4.1, f4.2⟩, v5, fun j hj => ?_, hls⟩
        have := hcell j hj
        rw [Go.Deep.add_add] at this
        rw [this]
        unfold ocells
        simp only [e6]
    haveI : Inhabited O := ⟨⟨0, 0, 0, 0, 0, []⟩⟩
    obtain ⟨f, hf'⟩ := Go.Deep.choose_lt each
    have hl2 : ((List.range len).map f).length = len := by simp
    refine ⟨(List.range len).map f, hl2, some a, cap, by rw [hl2], fun o ho => ?_, fun hpos => ?_⟩
    · obtain ⟨i, hi, rfl⟩ := List.mem_map.1 ho
      exact (hf' i (List.mem_range.1 hi)).1
    · rw [hl2] at hpos
      obtain ⟨b, off, spot⟩ := a
      obtain ⟨_, lv0, h0, _⟩ := hf' 0 hpos
      have hspot : spot = none := by simpa [Addr.add] using World.cell?_spot (h0 0 (by omega))
      subst hspot
      refine ⟨b, off, rfl, fun j hj => ?_⟩
      rw [hl2] at hj
      obtain ⟨_, lv, h1, h2⟩ := hf' j hj
      refine ⟨lv, fun i v hv => ?_, by simpa using h2⟩
      have hi : i < 6 := (List.getElem?_eq_some_iff.1 hv).1
      have := h1 i hi
      rw [Addr.add_mid, ← Nat.add_assoc] at this
      rw [this]
      simpa using hv
end Go.Proofs.Ytcbiagdpolhbfaa
