/- Arguments that came in: a byte, a bool, and what becomes of four bytes in a row. -/
import Derived.Test.YtnhihkngelckoaaDoorTied
namespace Go.Proofs.YtnhihkngelckoaaDoor
open Go.ChangeShapes Go.WideShapes Go.ChangeAt Go.RowKit

theorem byte_of {z : Int} (h : (Lit.int .u8 z).wf = true) : ∃ x : UInt8, z = ((x.toNat : Nat) : Int) := by
  have b : 0 ≤ z ∧ z ≤ 255 := by simpa [Lit.wf, IntKind.min, IntKind.max, IntKind.signed, IntKind.bits] using h
  refine ⟨UInt8.ofNat z.toNat, ?_⟩
  have : (UInt8.ofNat z.toNat).toNat = z.toNat := by simp; omega
  rw [this]
  omega
theorem open_byte {H : Type} {enc : TypeId × Value → H} {u : World} {r : Reach} {b0 base : Nat} {sp : Nat → Bool} {held : Bool} {v : Value} {d : DataW H} {p : List MemPlace}
    (hv : Value.okWide Tryd.prog u r b0 5 v) (h : DataW.Trod enc Tryd.prog u base sp held 5 v d p) : ∃ x : UInt8, v = .int .u8 ((x.toNat : Nat) : Int) := by
  obtain ⟨z, rfl, _, _, hw⟩ := open_int Tryd.underlying5 hv h
  obtain ⟨x, rfl⟩ := byte_of hw
  exact ⟨x, rfl⟩
theorem Tryd.cellsC41 : Tryd.prog.cellsOf 41 = 5 := by kernel_rfl
theorem Tryd.cellsC38 : Tryd.prog.cellsOf 38 = 1 := by kernel_rfl
theorem Tryd.cellsC39 : Tryd.prog.cellsOf 39 = 4 := by kernel_rfl
theorem open_change {H : Type} {enc : TypeId × Value → H} {u : World} {r : Reach} {b0 base : Nat} {sp : Nat → Bool} {held : Bool} {v : Value} {d : DataW H} {p : List MemPlace}
    (hv : Value.okWide Tryd.prog u r b0 41 v) (h : DataW.Trod enc Tryd.prog u base sp held 41 v d p) :
    ∃ (t : Nat) (x0 x1 x2 x3 : UInt8), t < 65536 ∧ v = .agg #[.int .u16 (t : Int), .int .u8 ((x0.toNat : Nat) : Int), .int .u8 ((x1.toNat : Nat) : Int), .int .u8 ((x2.toNat : Nat) : Int), .int .u8 ((x3.toNat : Nat) : Int)] := by
  obtain ⟨cs, rfl, hsz⟩ := okWide_struct Tryd.underlying41 hv
  rw [Tryd.cellsC41] at hsz
  obtain ⟨c0, c1, c2, c3, c4, rfl⟩ : ∃ c0 c1 c2 c3 c4, cs = #[c0, c1, c2, c3, c4] := by
    obtain ⟨l⟩ := cs
    match l, hsz with
    | [c0, c1, c2, c3, c4], _ => exact ⟨c0, c1, c2, c3, c4, rfl⟩
  obtain ⟨fuel, hf⟩ := h
  obtain ⟨y0, y1, m, hx, _, h0, h1⟩ := trod_struct2 Tryd.underlying41 hf
  simp only [Value.cells, Tryd.cellsC38, Tryd.cellsC39, List.drop_zero, List.take_succ_cons, List.take_zero, List.drop_succ_cons] at h0 h1
  obtain ⟨z, e0, rfl, wa⟩ := DataW.trod_int Tryd.underlying38 h0
  simp only [List.cons.injEq, and_true] at e0
  have ba : 0 ≤ z ∧ z ≤ 65535 := by simpa [Lit.wf, IntKind.min, IntKind.max, IntKind.signed, IntKind.bits] using wa
  obtain ⟨t, rfl⟩ := Int.eq_ofNat_of_zero_le ba.1
  obtain ⟨xs, m2, _, _, _, _, hel⟩ := DataW.trod_array Tryd.underlying39 h1
  have one : ∀ i (c : Value), i < 4 → (([c1, c2, c3, c4].drop (i * 1)).take 1) = [c] → ∃ x : UInt8, c = .int .u8 ((x.toNat : Nat) : Int) := by
    intro i c hi e
    have k := hel i hi
    rw [Tryd.cells5, e] at k
    cases hq : xs[i]? with
    | none => rw [hq] at k; rw [List.getElem?_eq_none_iff] at hq; omega
    | some y =>
      rw [hq] at k
      obtain ⟨a, e0, _, wa⟩ := DataW.trod_int Tryd.underlying5 k
      simp only [List.cons.injEq, and_true] at e0
      obtain ⟨x, rfl⟩ := byte_of wa
      exact ⟨x, e0⟩
  obtain ⟨x0, rfl⟩ := one 0 c1 (by omega) rfl
  obtain ⟨x1, rfl⟩ := one 1 c2 (by omega) rfl
  obtain ⟨x2, rfl⟩ := one 2 c3 (by omega) rfl
  obtain ⟨x3, rfl⟩ := one 3 c4 (by omega) rfl
  exact ⟨t, x0, x1, x2, x3, by omega, by rw [e0]⟩
end Go.Proofs.YtnhihkngelckoaaDoor
