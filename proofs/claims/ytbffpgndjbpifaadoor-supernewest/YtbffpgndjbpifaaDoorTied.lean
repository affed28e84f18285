/- The table of halves: what the rows' list gives; a world for the witness; and numbers of 32 and 16 bits, and rows of four bytes, that came in. -/
import Derived.Test.YtbffpgndjbpifaaDoorCards
import Derived.Test.YtbffpgndjbpifaaDoorTie
import Derived.Test.YtbffpgndjbpifaaDoorSum
import Derived.Deep.DeepHandedRow
import Derived.Lib.LaidTab
import Derived.ChangeOld
namespace Go.Proofs.YtbffpgndjbpifaaDoor
open Go.ChangeShapes Go.WideShapes Go.ChangeAt Go.RowKit
open C (steps)

theorem gHalves : Tryd.prog.globalNamed "cashbook/crc.halves" = some 0 := by kernel_rfl
theorem gHalvesType : (Tryd.prog.globals[0]?).map (·.type) = some 69 := by kernel_rfl
theorem cellsHalves : Tryd.prog.cellsOf 69 = 16 := by kernel_rfl
theorem cellsWord : Tryd.prog.cellsOf 23 = 1 := by kernel_rfl
def halvesZ : List Int := [0, 274646895, 549293790, 820201905, 1098587580, 1361435347, 1640403810, 1905808397, 2197175160, 2460548119, 2722870694, 2987750089, 3280807620, 3553878443, 3811616794, 4084100981]
theorem halvesZ_steps : ∀ i, i < 16 → halvesZ.getD i 0 = ((steps 4 i : Nat) : Int) := by decide +kernel
theorem table {W : World} (h : laidMetH Tryd.prog [("cashbook/crc.halves", Rows.laid_cashbook_crc_halves)] W) : Lib.TabIs Tryd.prog W "cashbook/crc.halves" .u32 halvesZ :=
  Lib.tabIs_of_head (rest := []) gHalves gHalvesType Tryd.underlying69 Tryd.underlying23 cellsWord cellsHalves h
theorem tab_of {W : World} (h : laidMetH Tryd.prog [("cashbook/crc.halves", Rows.laid_cashbook_crc_halves)] W) : Tab W := fun i hi => by
  have := (table h).cell gHalves i (by simpa [halvesZ] using hi)
  rw [halvesZ_steps i hi] at this
  exact this
/-- The settled world, the table holding what its initialiser lays. -/
noncomputable def laidWorld (os : Os) : World :=
  { World.holding Tryd.prog os ⟨#[], #[], []⟩ with heap := (World.holding Tryd.prog os ⟨#[], #[], []⟩).heap.modify 0 fun
      | .cells _ t frozen => .cells (halvesZ.map (Value.int .u32)).toArray t frozen
      | o => o }

theorem open_u32 {H : Type} {enc : TypeId × Value → H} {u : World} {r : Reach} {b0 base : Nat} {sp : Nat → Bool} {held : Bool} {v : Value} {d : DataW H} {p : List MemPlace}
    (hv : Value.okWide Tryd.prog u r b0 23 v) (h : DataW.Trod enc Tryd.prog u base sp held 23 v d p) : ∃ n : Nat, n < 4294967296 ∧ v = .int .u32 (n : Int) := by
  obtain ⟨n, rfl, _, _, hw⟩ := open_int Tryd.underlying23 hv h
  have b : 0 ≤ n ∧ n ≤ 4294967295 := by simpa [Lit.wf, IntKind.min, IntKind.max, IntKind.signed, IntKind.bits] using hw
  obtain ⟨x, rfl⟩ := Int.eq_ofNat_of_zero_le b.1
  exact ⟨x, by omega, rfl⟩
end Go.Proofs.YtbffpgndjbpifaaDoor
