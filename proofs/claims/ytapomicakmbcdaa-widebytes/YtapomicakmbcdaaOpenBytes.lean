/- A slice of bytes that came in: it reads as numbers below 256. -/
import Derived.Test.YtapomicakmbcdaaBytesLaw
namespace Go.Proofs.Ytapomicakmbcdaa
open Go.RowKit Go.ChangeShapes Go.WideShapes
open W (hi lo MM)

theorem Try.cells5 : Try.prog.cellsOf 5 = 1 := by kernel_rfl
theorem open_bytes {H : Type} {enc : TypeId × Value → H} {u : World} {base : Nat} {sp : Nat → Bool} {held : Bool} {A : Option Addr} {len cap : Nat} {d : DataW H} {p : List MemPlace}
    (hsp : ∀ b, sp b = true) (h : DataW.Trod enc Try.prog u base sp held 37 (.slice A len cap) d p) : ∃ f : Nat → Nat, len ≤ cap ∧ BtsO u A f len := by
  obtain ⟨fuel, hf⟩ := h
  rcases open_ints Try.underlying37 Try.underlying5 Try.cells5 hf with ⟨hcs, _⟩ | ⟨x, l, c, zs, hcs, _, hl, hm, hz, _, hcell, hwz⟩
  · simp [Value.cells] at hcs
    obtain ⟨rfl, rfl, rfl⟩ := hcs
    exact ⟨fun _ => 0, Nat.le_refl _, fun _ => by show (0 : Nat) < 256; omega, fun h => by omega⟩
  · simp [Value.cells] at hcs
    obtain ⟨rfl, rfl, rfl⟩ := hcs
    rw [hsp] at hz
    have hz' : zs.length = cap := by simpa using hz
    have bd : ∀ j, 0 ≤ zs.getD j 0 ∧ zs.getD j 0 ≤ 255 := by
      intro j
      by_cases hj : j < zs.length
      · have h1 := hwz (zs.getD j 0) (by simp [List.getD, hj])
        simpa [Lit.wf, IntKind.min, IntKind.max, IntKind.signed, IntKind.bits] using h1
      · simp [List.getD, List.getElem?_eq_none (by omega : zs.length ≤ j)]
    refine ⟨fun j => (zs.getD j 0).toNat, hl, fun j => by have := bd j; show (zs.getD j 0).toNat < 256; omega, fun hpos => ?_⟩
    obtain ⟨b, off, spot⟩ := x
    have hspot : spot = none := by simpa [Addr.add] using World.cell?_spot (hcell 0 (by omega))
    subst hspot
    refine ⟨b, off, rfl, fun k hk => ?_⟩
    have g := hcell k (by omega)
    have e : (((zs.getD k 0).toNat : Nat) : Int) = zs.getD k 0 := by have := bd k; omega
    show u.cell? ⟨b, off + k, none⟩ = some (.int .u8 (((zs.getD k 0).toNat : Nat) : Int))
    rw [e, ← g]
    unfold Addr.add
    by_cases hk0 : k = 0
    · simp [hk0]
    · simp [hk0]
end Go.Proofs.Ytapomicakmbcdaa
