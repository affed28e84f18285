/- Contracts of Add, Sub, Rest and Cmp at the cases that the laws part on. -/
import Derived.Test.YtfofhnaomlcioaaRefTwo
namespace Go.Proofs.Ytfofhnaomlcioaa
open Go.RowKit
open W (hi lo addN addB subN subB cmpN dig MM)

theorem addN_ok {a b : Nat} (h : a + b < MM) : addN a b = a + b := by unfold W.addN; rw [if_pos h]
theorem addN_no {a b : Nat} (h : ¬ a + b < MM) : addN a b = 0 := by unfold W.addN; rw [if_neg h]
end Go.Proofs.Ytfofhnaomlcioaa
