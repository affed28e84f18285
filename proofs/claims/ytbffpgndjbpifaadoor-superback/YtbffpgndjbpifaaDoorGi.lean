/- Arguments that came in: a byte, a bool, and what becomes of four bytes in a row. -/
import Derived.Test.YtbffpgndjbpifaaDoorTied
namespace Go.Proofs.YtbffpgndjbpifaaDoor
open Go.ChangeShapes Go.WideShapes Go.ChangeAt Go.RowKit

theorem byte_of {z : Int} (h : (Lit.int .u8 z).wf = true) : ∃ x : UInt8, z = ((x.toNat : Nat) : Int) := by
  have b : 0 ≤ z ∧ z ≤ 255 := by simpa [Lit.wf, IntKind.min, IntKind.max, IntKind.signed, IntKind.bits] using h
  refine ⟨UInt8.ofNat z.toNat, ?_⟩
  have : (UInt8.ofNat z.toNat).toNat = z.toNat := by simp; omega
  rw [this]
  omega
theorem open_byte {H : Type} {enc : TypeId × Value → H} {u : World} {r : Reach} {b0 base : Nat} {sp : Nat → Bool} {held : Bool} {v : Value} {d : DataW H} {p : List MemPlace}
    (hv : Value.okWide Tryd.prog u r b0 5 v) (h : DataW.Trod enc Tryd.prog u base sp held 5 v d p) : ∃ x : UInt8, v = .int .u8 ((x.toNat : Nat) : Int) := by
  obtain ⟨z, rfl, _, _, hw⟩ := open_int Tryd.underlying5 hv h
  obtain ⟨x, rfl⟩ := byte_of hw
  exact ⟨x, rfl⟩
end Go.Proofs.YtbffpgndjbpifaaDoor
