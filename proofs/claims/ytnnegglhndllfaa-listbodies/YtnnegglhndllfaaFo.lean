/- What came in, opened: rows of numbers of 32 bits. -/
import Derived.Test.YtnnegglhndllfaaFd
namespace Go.Proofs.Ytnnegglhndllfaa
open Go.RowKit Go.ChangeShapes Go.WideShapes

theorem open_nums {H : Type} {enc : TypeId × Value → H} {u : World} {r : Reach} {b0 base : Nat} {sp : Nat → Bool} {held : Bool} {v : Value} {d : DataW H} {p : List MemPlace}
    (hv : Value.okWide Try.prog u r b0 25 v) (h : DataW.Trod enc Try.prog u base sp held 25 v d p) : ∃ l, Nums u v l ∧ Rg l := by
  obtain ⟨A, len, cap, rfl⟩ := okWide_slice Try.underlying25 hv
  obtain ⟨fuel, hf⟩ := h
  rcases open_ints Try.underlying25 Try.underlying35 Try.cells35 hf with ⟨hcs, _⟩ | ⟨a, l, c, zs, hcs, hb, hl, hm, hz, hx, hi, hw⟩
  · simp [Value.cells] at hcs
    obtain ⟨rfl, rfl, rfl⟩ := hcs
    exact ⟨[], Nums.nil u, fun x hx => by simp at hx⟩
  · simp [Value.cells] at hcs
    obtain ⟨rfl, rfl, rfl⟩ := hcs
    have hlz : len ≤ zs.length := by rw [hz]; split <;> omega
    have hlen : (zs.take len).length = len := by simp; omega
    refine ⟨zs.take len, ⟨some a, cap, by rw [hlen], by rw [hlen]; exact hl, ?_, fun hpos => ?_⟩, fun x hx => ?_⟩
    · exact hm
    · have hpos' : 0 < zs.length := by simp at hpos; omega
      obtain ⟨b, off, spot⟩ := a
      have hspot : spot = none := by simpa [Addr.add] using World.cell?_spot (hi 0 hpos')
      subst hspot
      refine ⟨b, off, rfl, fun j hj => ?_⟩
      have hj' : j < len := by simp at hj; omega
      have g := hi j (by omega)
      rw [Addr.add_mid] at g
      rw [g]
      have e : (zs.take len)[j]! = zs.getD j 0 := by
        rw [getElem!_def, List.getElem?_take_of_lt hj', List.getD, List.getElem?_eq_getElem (by omega)]
        rfl
      rw [e]
    · have := wf32 (hw x (List.mem_of_mem_take hx))
      omega
end Go.Proofs.Ytnnegglhndllfaa
