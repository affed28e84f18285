/- The walk of the law CrcSums. -/
import Derived.Test.YtbffpgndjbpifaaDoorRefSum
import Derived.Test.YtbffpgndjbpifaaDoorLin
namespace Go.Proofs.YtbffpgndjbpifaaDoor
open Go.RowKit
open C (crc)

/-- A slice whose text is s, in this world and in every one in which what is there stays. -/
def Cvs (w : World) (v : Value) (s : ByteArray) : Prop := ∀ W, Below w.heap.size w W → (convert 29 9 v).run Tryd.prog W = .ok (.string s) W
theorem Cvs.below {w w1 : World} {v : Value} {s : ByteArray} (h : Cvs w v s) (hb : Below w.heap.size w w1) : Cvs w1 v s := fun W hW => h W (btr hb hW)
theorem Byts.cvs {w : World} {v : Value} {l : List UInt8} (h : Byts w v l) : Cvs w v (str l) := fun _ hW => (h.below hW).conv
theorem Byts.form {w : World} {v : Value} {l : List UInt8} (h : Byts w v l) : ∃ A c, v = .slice A l.length c := by
  obtain ⟨A, c, e, _⟩ := h
  exact ⟨A, c, e⟩
/-- A call that leaves the world as it is. -/
theorem same_below {f : FuncId} {args : Array Value} {W : World} {v : Value} (h : Calls Tryd.prog f args W fun e w' => e = .returned v ∧ w' = W) :
    Calls Tryd.prog f args W fun e w' => e = .returned v ∧ Below W.heap.size W w' :=
  h.mono fun _ _ ⟨e, hw⟩ => ⟨e, by subst hw; exact Below.refl _ _⟩

end Go.Proofs.YtbffpgndjbpifaaDoor
