/- Bytes and rows of losses that came in. -/
import Derived.Test.YtcbiagdpolhbfaaLg
import Derived.ChangeOld
namespace Go.Proofs.Ytcbiagdpolhbfaa
open Go.RowKit Go.ChangeShapes Go.WideShapes Go.ChangeAt

theorem open_u8 {H : Type} {enc : TypeId × Value → H} {u : World} {r : Reach} {b0 base : Nat} {sp : Nat → Bool} {held : Bool} {v : Value} {d : DataW H} {p : List MemPlace}
    (hv : Value.okWide Try.prog u r b0 5 v) (h : DataW.Trod enc Try.prog u base sp held 5 v d p) : ∃ n : Nat, n ≤ 255 ∧ v = .int .u8 (n : Int) := by
  obtain ⟨z, rfl⟩ := okWide_int Try.underlying5 hv
  obtain ⟨fuel, hf⟩ := h
  obtain ⟨y, e, _, hw⟩ := DataW.trod_int Try.underlying5 hf
  simp [Value.cells] at e
  subst e
  have := wf_u8 hw
  obtain ⟨n, rfl⟩ := Int.eq_ofNat_of_zero_le this.1
  exact ⟨n, by omega, rfl⟩
theorem open_losses {H : Type} {enc : TypeId × Value → H} {u : World} {r : Reach} {b0 base : Nat} {sp : Nat → Bool} {held : Bool} {v : Value} {d : DataW H} {p : List MemPlace}
    (hv : Value.okWide Try.prog u r b0 36 v) (h : DataW.Trod enc Try.prog u base sp held 36 v d p) : ∃ l, Losses u v l := by
  obtain ⟨A, len, cap, rfl⟩ := okWide_slice Try.underlying36 hv
  obtain ⟨fuel, hf⟩ := h
  obtain ⟨v, l, e, hl⟩ := losses_of hf
  simp [Value.cells] at e
  subst e
  exact ⟨l, hl⟩
end Go.Proofs.Ytcbiagdpolhbfaa
