/- A slice of wide numbers that came in: it reads as a list of numbers. -/
import Derived.Test.YtapomicakmbcdaaLists
namespace Go.Proofs.Ytapomicakmbcdaa
open Go.RowKit
open W (hi lo MM)

theorem wide_of_cells {H : Type} {enc : TypeId × Value → H} {u : World} {base n : Nat} {sp : Nat → Bool} {held : Bool} {v0 v1 : Value} {y0 y1 : DataW H × List MemPlace}
    (h0 : DataW.trod enc Try.prog u base sp held n 22 [v0] = some y0) (h1 : DataW.trod enc Try.prog u base sp held n 22 [v1] = some y1) :
    ∃ m, m < MM ∧ v0 = .int .u64 (hi m : Nat) ∧ v1 = .int .u64 (lo m : Nat) := by
  obtain ⟨a, e0, rfl, wa⟩ := DataW.trod_int Try.underlying22 h0
  obtain ⟨b, e1, rfl, wb⟩ := DataW.trod_int Try.underlying22 h1
  simp at e0 e1
  subst e0 e1
  have ba : 0 ≤ a ∧ a ≤ 18446744073709551615 := by simpa [Lit.wf, IntKind.min, IntKind.max, IntKind.signed, IntKind.bits] using wa
  have bb : 0 ≤ b ∧ b ≤ 18446744073709551615 := by simpa [Lit.wf, IntKind.min, IntKind.max, IntKind.signed, IntKind.bits] using wb
  obtain ⟨x, rfl⟩ := Int.eq_ofNat_of_zero_le ba.1
  obtain ⟨y, rfl⟩ := Int.eq_ofNat_of_zero_le bb.1
  obtain ⟨m, hm, rfl, rfl⟩ := W.parts x y (by omega) (by omega)
  exact ⟨m, hm, rfl, rfl⟩

theorem open_wides {H : Type} {enc : TypeId × Value → H} {u : World} {base : Nat} {sp : Nat → Bool} {held : Bool} {A : Option Addr} {len cap : Nat} {d : DataW H} {p : List MemPlace}
    (h : DataW.Trod enc Try.prog u base sp held 33 (.slice A len cap) d p) : ∃ ns : List Nat, ns.length = len ∧ Wides u A ns := by
  obtain ⟨fuel, hf⟩ := h
  rcases Go.Deep.open_slice_pairs Try.underlying33 Try.underlying24 Try.cells24 rfl rfl Try.cells22 Try.cells22 hf with ⟨hcs, _⟩ | ⟨a, l, c, m, n, V0, V1, D0, D1, P0, P1, hcs, hb, hl, hm, hmm, hx, hi⟩
  · simp [Value.cells] at hcs
    obtain ⟨rfl, rfl, rfl⟩ := hcs
    exact ⟨[], rfl, fun k hk => by simp at hk, fun hl => by simp at hl⟩
  · simp [Value.cells] at hcs
    obtain ⟨rfl, rfl, rfl⟩ := hcs
    have hlm : len ≤ m := by rw [hmm]; split <;> omega
    have each : ∀ i, i < len → ∃ q : Nat, q < MM ∧ u.cell? (a.add (i * 2)) = some (.int .u64 (W.hi q : Nat)) ∧ u.cell? (a.add (i * 2 + 1)) = some (.int .u64 (lo q : Nat)) := by
      intro i hi'
      obtain ⟨k0, k1, t0, t1⟩ := hi i (by omega)
      obtain ⟨q, hq, e0, e1⟩ := wide_of_cells t0 t1
      exact ⟨q, hq, by rw [k0, e0], by rw [k1, e1]⟩
    obtain ⟨f, hf'⟩ := Go.Deep.choose_lt each
    have hget : ∀ k, k < len → ((List.range len).map f).getD k 0 = f k := by
      intro k hk
      simp [List.getD, hk]
    refine ⟨(List.range len).map f, by simp, fun k hk => ?_, fun hpos => ?_⟩
    · rw [hget k (by simpa using hk)]
      exact (hf' k (by simpa using hk)).1
    · have hpos' : 0 < len := by simpa using hpos
      obtain ⟨b, off, spot⟩ := a
      have hspot : spot = none := by simpa [Addr.add] using World.cell?_spot (hf' 0 hpos').2.1
      subst hspot
      refine ⟨b, off, rfl, fun k hk => ?_⟩
      have hk' : k < len := by simpa using hk
      rw [hget k hk']
      obtain ⟨_, g0, g1⟩ := hf' k hk'
      constructor
      · by_cases hz : k * 2 = 0
        · rw [hz] at g0 ⊢; simpa [Addr.add] using g0
        · simpa [Addr.add, hz] using g0
      · simpa [Addr.add, Nat.add_assoc] using g1
end Go.Proofs.Ytapomicakmbcdaa
