/- What came in, opened: rows of operations, rows of numbers of 32 bits; the laws at every argument. -/
import Derived.Test.YtmjjkoiepoblmaaNu
import Derived.Test.YtmjjkoiepoblmaaNv
import Derived.Test.YtmjjkoiepoblmaaNw
import Derived.Test.YtmjjkoiepoblmaaNx
import Derived.Deep.SlicePairs
namespace Go.Proofs.Ytmjjkoiepoblmaa
open Go.RowKit Go.ChangeShapes Go.WideShapes

theorem Try.cells29 : Try.prog.cellsOf 29 = 2 := by kernel_rfl
theorem Try.cells5 : Try.prog.cellsOf 5 = 1 := by kernel_rfl
theorem Try.cells27 : Try.prog.cellsOf 27 = 1 := by kernel_rfl
theorem wf8 {z : Int} (h : (Lit.int .u8 z).wf = true) : 0 ≤ z ∧ z ≤ 255 := by simpa [Lit.wf, IntKind.min, IntKind.max, IntKind.signed, IntKind.bits] using h
theorem wf32 {z : Int} (h : (Lit.int .u32 z).wf = true) : 0 ≤ z ∧ z ≤ 4294967295 := by simpa [Lit.wf, IntKind.min, IntKind.max, IntKind.signed, IntKind.bits] using h
theorem open_opl {H : Type} {enc : TypeId × Value → H} {u : World} {base : Nat} {sp : Nat → Bool} {held : Bool} {A : Option Addr} {len cap : Nat} {d : DataW H} {p : List MemPlace}
    (h : DataW.Trod enc Try.prog u base sp held 22 (.slice A len cap) d p) : ∃ os : List (Nat × Int), os.length = len ∧ Opl u A os := by
  obtain ⟨fuel, hf⟩ := h
  rcases Go.Deep.open_slice_pairs Try.underlying22 Try.underlying29 Try.cells29 rfl rfl Try.cells5 Try.cells27 hf with ⟨hcs, _⟩ | ⟨a, l, c, m, n, V0, V1, D0, D1, P0, P1, hcs, hb, hl, hm, hmm, hx, hi⟩
  · simp [Value.cells] at hcs
    obtain ⟨rfl, rfl, rfl⟩ := hcs
    exact ⟨[], rfl, by simp, by simp⟩
  · simp [Value.cells] at hcs
    obtain ⟨rfl, rfl, rfl⟩ := hcs
    have hlm : len ≤ m := by rw [hmm]; split <;> omega
    have each : ∀ i, i < len → ∃ q : Nat × Int, (q.1 < 256 ∧ 0 ≤ q.2 ∧ q.2 < 4294967296) ∧ u.cell? (a.add (i * 2)) = some (.int .u8 (q.1 : Int)) ∧ u.cell? (a.add (i * 2 + 1)) = some (.int .u32 q.2) := by
      intro i hi'
      obtain ⟨k0, k1, t0, t1⟩ := hi i (by omega)
      obtain ⟨z0, e0, _, f0⟩ := DataW.trod_int Try.underlying5 t0
      obtain ⟨z1, e1, _, f1⟩ := DataW.trod_int Try.underlying27 t1
      simp at e0 e1
      have f0 := wf8 f0
      have f1 := wf32 f1
      obtain ⟨n0, rfl⟩ := Int.eq_ofNat_of_zero_le f0.1
      exact ⟨(n0, z1), ⟨by simp; omega, f1.1, by simp; omega⟩, by rw [k0, e0], by rw [k1, e1]⟩
    obtain ⟨f, hf'⟩ := Go.Deep.choose_lt each
    refine ⟨(List.range len).map f, by simp, fun o ho => ?_, fun hpos => ?_⟩
    · obtain ⟨i, hi2, rfl⟩ := List.mem_map.1 ho
      exact (hf' i (List.mem_range.1 hi2)).1
    · have hpos' : 0 < len := by simpa using hpos
      obtain ⟨b, off, spot⟩ := a
      have hspot : spot = none := by simpa [Addr.add] using World.cell?_spot (hf' 0 hpos').2.1
      subst hspot
      refine ⟨b, off, rfl, fun j hj => ?_⟩
      have hj' : j < len := by simpa using hj
      obtain ⟨_, g0, g1⟩ := hf' j hj'
      rw [Addr.add_mid] at g0 g1
      rw [← Nat.add_assoc] at g1
      have e : ((List.range len).map f)[j]! = f j := by simp [hj']
      rw [e]
      exact ⟨g0, g1⟩
theorem open_w32 {H : Type} {enc : TypeId × Value → H} {u : World} {base : Nat} {sp : Nat → Bool} {held : Bool} {A : Option Addr} {len cap : Nat} {d : DataW H} {p : List MemPlace}
    (h : DataW.Trod enc Try.prog u base sp held 26 (.slice A len cap) d p) : ∃ l : List Int, l.length = len ∧ W32 u A l := by
  obtain ⟨fuel, hf⟩ := h
  rcases open_ints Try.underlying26 Try.underlying27 Try.cells27 hf with ⟨hcs, _⟩ | ⟨a, l, c, zs, hcs, hb, hl, hm, hz, hx, hi, hw⟩
  · simp [Value.cells] at hcs
    obtain ⟨rfl, rfl, rfl⟩ := hcs
    exact ⟨[], rfl, by simp, by simp⟩
  · simp [Value.cells] at hcs
    obtain ⟨rfl, rfl, rfl⟩ := hcs
    have hlz : len ≤ zs.length := by rw [hz]; split <;> omega
    refine ⟨zs.take len, by simp; omega, fun x hx => ?_, fun hpos => ?_⟩
    · have := wf32 (hw x (List.mem_of_mem_take hx))
      omega
    · have hpos' : 0 < zs.length := by simp at hpos; omega
      obtain ⟨b, off, spot⟩ := a
      have hspot : spot = none := by simpa [Addr.add] using World.cell?_spot (hi 0 hpos')
      subst hspot
      refine ⟨b, off, rfl, fun j hj => ?_⟩
      have hj' : j < len := by simp at hj; omega
      have g := hi j (by omega)
      rw [Addr.add_mid] at g
      rw [g]
      have e : (zs.take len)[j]! = zs.getD j 0 := by
        rw [getElem!_def, List.getElem?_take_of_lt hj', List.getD, List.getElem?_eq_getElem (by omega)]
        rfl
      rw [e]
theorem plays_any (A : Option Addr) (L c : Nat) (w : World) (h : ∃ os : List (Nat × Int), os.length = L ∧ Opl w A os) :
    Calls Try.prog 3 #[.slice A L c] w fun e w' => e = .returned (.bool true) ∧ Below w.heap.size w w' := by
  obtain ⟨os, hl, ho⟩ := h
  exact plays_core w A L c os hl (Lib.hid ho)
theorem own_any (A : Option Addr) (L c : Nat) (by0 : Int) (w : World) (h : ∃ os : List (Nat × Int), os.length = L ∧ Opl w A os) :
    Calls Try.prog 6 #[.slice A L c, .int .u32 by0] w fun e w' => e = .returned (.bool true) ∧ Below w.heap.size w w' := by
  obtain ⟨os, hl, ho⟩ := h
  exact own_core w A L c by0 os hl (Lib.hid ho)
theorem copies_any (A A1 A2 : Option Addr) (L c L1 c1 L2 c2 : Nat) (w : World) (h : ∃ os : List (Nat × Int), os.length = L ∧ Opl w A os) (h1 : ∃ os : List (Nat × Int), os.length = L1 ∧ Opl w A1 os) (h2 : ∃ os : List (Nat × Int), os.length = L2 ∧ Opl w A2 os) :
    Calls Try.prog 5 #[.slice A L c, .slice A1 L1 c1, .slice A2 L2 c2] w fun e w' => e = .returned (.bool true) ∧ Below w.heap.size w w' := by
  obtain ⟨os, hl, ho⟩ := h
  obtain ⟨os1, hl1, ho1⟩ := h1
  obtain ⟨os2, hl2, ho2⟩ := h2
  exact copies_core w A A1 A2 L c L1 c1 L2 c2 os os1 os2 hl hl1 hl2 (Lib.hid ho) (Lib.hid ho1) (Lib.hid ho2)
theorem sorts_any (A : Option Addr) (L c : Nat) (w : World) (h : ∃ l : List Int, l.length = L ∧ W32 w A l) :
    Calls Try.prog 4 #[.slice A L c] w fun e w' => e = .returned (.bool true) ∧ Below w.heap.size w w' := by
  obtain ⟨l, hl, ho⟩ := h
  exact sorts_core w A L c l hl (Lib.hid ho)
end Go.Proofs.Ytmjjkoiepoblmaa
