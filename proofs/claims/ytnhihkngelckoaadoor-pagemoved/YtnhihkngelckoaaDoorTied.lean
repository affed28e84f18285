/- The table of halves: what the rows' list gives; a world for the witness; and numbers of 32 and 16 bits, and rows of four bytes, that came in. -/
import Derived.Test.YtnhihkngelckoaaDoorCards
import Derived.Test.YtnhihkngelckoaaDoorTie
import Derived.Test.YtnhihkngelckoaaDoorSum
import Derived.Deep.DeepHandedRow
import Derived.Lib.LaidTab
import Derived.ChangeOld
namespace Go.Proofs.YtnhihkngelckoaaDoor
open Go.ChangeShapes Go.WideShapes Go.ChangeAt Go.RowKit
open C (steps)

theorem gHalves : Tryd.prog.globalNamed "cashbook/crc.halves" = some 0 := by kernel_rfl
theorem gHalvesType : (Tryd.prog.globals[0]?).map (·.type) = some 54 := by kernel_rfl
theorem cellsHalves : Tryd.prog.cellsOf 54 = 16 := by kernel_rfl
theorem cellsWord : Tryd.prog.cellsOf 22 = 1 := by kernel_rfl
def halvesZ : List Int := [0, 274646895, 549293790, 820201905, 1098587580, 1361435347, 1640403810, 1905808397, 2197175160, 2460548119, 2722870694, 2987750089, 3280807620, 3553878443, 3811616794, 4084100981]
theorem halvesZ_steps : ∀ i, i < 16 → halvesZ.getD i 0 = ((steps 4 i : Nat) : Int) := by decide +kernel
theorem table {W : World} (h : laidMetH Tryd.prog [("cashbook/crc.halves", Rows.laid_cashbook_crc_halves)] W) : Lib.TabIs Tryd.prog W "cashbook/crc.halves" .u32 halvesZ :=
  Lib.tabIs_of_head (rest := []) gHalves gHalvesType Tryd.underlying54 Tryd.underlying22 cellsWord cellsHalves h
theorem tab_of {W : World} (h : laidMetH Tryd.prog [("cashbook/crc.halves", Rows.laid_cashbook_crc_halves)] W) : Tab W := fun i hi => by
  have := (table h).cell gHalves i (by simpa [halvesZ] using hi)
  rw [halvesZ_steps i hi] at this
  exact this
/-- The settled world, the table holding what its initialiser lays. -/
noncomputable def laidWorld (os : Os) : World :=
  { World.holding Tryd.prog os ⟨#[], #[], []⟩ with heap := (World.holding Tryd.prog os ⟨#[], #[], []⟩).heap.modify 0 fun
      | .cells _ t frozen => .cells (halvesZ.map (Value.int .u32)).toArray t frozen
      | o => o }

theorem open_u32 {H : Type} {enc : TypeId × Value → H} {u : World} {r : Reach} {b0 base : Nat} {sp : Nat → Bool} {held : Bool} {v : Value} {d : DataW H} {p : List MemPlace}
    (hv : Value.okWide Tryd.prog u r b0 22 v) (h : DataW.Trod enc Tryd.prog u base sp held 22 v d p) : ∃ n : Nat, n < 4294967296 ∧ v = .int .u32 (n : Int) := by
  obtain ⟨n, rfl, _, _, hw⟩ := open_int Tryd.underlying22 hv h
  have b : 0 ≤ n ∧ n ≤ 4294967295 := by simpa [Lit.wf, IntKind.min, IntKind.max, IntKind.signed, IntKind.bits] using hw
  obtain ⟨x, rfl⟩ := Int.eq_ofNat_of_zero_le b.1
  exact ⟨x, by omega, rfl⟩
theorem open_u16 {H : Type} {enc : TypeId × Value → H} {u : World} {r : Reach} {b0 base : Nat} {sp : Nat → Bool} {held : Bool} {v : Value} {d : DataW H} {p : List MemPlace}
    (hv : Value.okWide Tryd.prog u r b0 38 v) (h : DataW.Trod enc Tryd.prog u base sp held 38 v d p) : ∃ n : Nat, n < 65536 ∧ v = .int .u16 (n : Int) := by
  obtain ⟨n, rfl, _, _, hw⟩ := open_int Tryd.underlying38 hv h
  have b : 0 ≤ n ∧ n ≤ 65535 := by simpa [Lit.wf, IntKind.min, IntKind.max, IntKind.signed, IntKind.bits] using hw
  obtain ⟨x, rfl⟩ := Int.eq_ofNat_of_zero_le b.1
  exact ⟨x, by omega, rfl⟩
theorem open_four {H : Type} {enc : TypeId × Value → H} {u : World} {r : Reach} {b0 base : Nat} {sp : Nat → Bool} {held : Bool} {v : Value} {d : DataW H} {p : List MemPlace}
    (hv : Value.okWide Tryd.prog u r b0 39 v) (h : DataW.Trod enc Tryd.prog u base sp held 39 v d p) :
    ∃ x0 x1 x2 x3 : UInt8, v = .agg #[.int .u8 ((x0.toNat : Nat) : Int), .int .u8 ((x1.toNat : Nat) : Int), .int .u8 ((x2.toNat : Nat) : Int), .int .u8 ((x3.toNat : Nat) : Int)] := by
  obtain ⟨cs, rfl, hsz⟩ : ∃ cs, v = .agg cs ∧ cs.size = 4 := by
    simp only [Value.okWide, Tryd.underlying39] at hv
    obtain ⟨cs, h1, h2, _⟩ := hv
    exact ⟨cs, h1, h2.trans (by kernel_rfl)⟩
  obtain ⟨fuel, hf⟩ := h
  obtain ⟨xs, m, _, _, _, _, hel⟩ := DataW.trod_array Tryd.underlying39 hf
  have one : ∀ i (hi : i < cs.size), ∃ x : UInt8, cs[i] = .int .u8 ((x.toNat : Nat) : Int) := by
    intro i hi
    have k := hel i (by omega)
    rw [Tryd.cells5] at k
    have e : ((Value.agg cs).cells.toList.drop (i * 1)).take 1 = [cs[i]] := by
      rw [Nat.mul_one]
      show (cs.toList.drop i).take 1 = _
      rw [List.drop_eq_getElem_cons (by simpa using hi)]
      simp
    rw [e] at k
    cases hq : xs[i]? with
    | none => rw [hq] at k; rw [List.getElem?_eq_none_iff] at hq; omega
    | some y =>
      rw [hq] at k
      obtain ⟨a, e0, _, wa⟩ := DataW.trod_int Tryd.underlying5 k
      simp only [List.cons.injEq, and_true] at e0
      have ba : 0 ≤ a ∧ a ≤ 255 := by simpa [Lit.wf, IntKind.min, IntKind.max, IntKind.signed, IntKind.bits] using wa
      refine ⟨UInt8.ofNat a.toNat, ?_⟩
      rw [e0]
      congr 1
      have : (UInt8.ofNat a.toNat).toNat = a.toNat := by simp; omega
      rw [this]
      omega
  obtain ⟨x0, e0⟩ := one 0 (by omega)
  obtain ⟨x1, e1⟩ := one 1 (by omega)
  obtain ⟨x2, e2⟩ := one 2 (by omega)
  obtain ⟨x3, e3⟩ := one 3 (by omega)
  refine ⟨x0, x1, x2, x3, ?_⟩
  congr 1
  apply Array.ext
  · simpa using hsz
  · intro i h1 h2
    have : i = 0 ∨ i = 1 ∨ i = 2 ∨ i = 3 := by omega
    rcases this with rfl | rfl | rfl | rfl
    · simpa using e0
    · simpa using e1
    · simpa using e2
    · simpa using e3
end Go.Proofs.YtnhihkngelckoaaDoor
