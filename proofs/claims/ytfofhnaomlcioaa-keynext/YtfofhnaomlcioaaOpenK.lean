/- Arguments that came in: slices of bytes, numbers of 64 bits, ints, and numbers with a stamp. -/
import Derived.Test.YtfofhnaomlcioaaRowb
namespace Go.Proofs.Ytfofhnaomlcioaa
open Go.RowKit Go.ChangeShapes Go.WideShapes
open W (hi lo MM)

theorem Try.cells5 : Try.prog.cellsOf 5 = 1 := by kernel_rfl
theorem open_byts {H : Type} {enc : TypeId × Value → H} {u : World} {r : Reach} {b0 base : Nat} {sp : Nat → Bool} {held : Bool} {v : Value} {d : DataW H} {p : List MemPlace}
    (hsp : ∀ b, sp b = true) (hv : Value.okWide Try.prog u r b0 22 v) (h : DataW.Trod enc Try.prog u base sp held 22 v d p) : ∃ l, Byts u v l := by
  obtain ⟨A, len, cap, rfl⟩ := okWide_slice Try.underlying22 hv
  obtain ⟨fuel, hf⟩ := h
  rcases open_ints Try.underlying22 Try.underlying5 Try.cells5 hf with ⟨hcs, _⟩ | ⟨x, l, c, zs, hcs, _, hl, hm, hz, _, hcell, hwz⟩
  · simp [Value.cells] at hcs
    obtain ⟨rfl, rfl, rfl⟩ := hcs
    exact ⟨[], Byts.none u⟩
  · simp [Value.cells] at hcs
    obtain ⟨rfl, rfl, rfl⟩ := hcs
    rw [hsp] at hz
    have hz' : zs.length = cap := by simpa using hz
    have bd : ∀ j, j < zs.length → 0 ≤ zs.getD j 0 ∧ zs.getD j 0 ≤ 255 := by
      intro j hj
      have h1 := hwz (zs.getD j 0) (by simp [List.getD, hj])
      simpa [Lit.wf, IntKind.min, IntKind.max, IntKind.signed, IntKind.bits] using h1
    have hlen : ((zs.take len).map fun z => UInt8.ofNat z.toNat).length = len := by simp; omega
    refine ⟨(zs.take len).map fun z => UInt8.ofNat z.toNat, some x, cap, by rw [hlen], by rw [hlen]; exact hl, fun hpos => ?_⟩
    rw [hlen] at hpos
    obtain ⟨b, off, spot⟩ := x
    have hspot : spot = none := by simpa [Addr.add] using World.cell?_spot (hcell 0 (by omega))
    subst hspot
    refine ⟨b, off, rfl, fun k hk => ?_⟩
    rw [hlen] at hk
    have g := hcell k (by omega)
    have hb := bd k (by omega)
    have e1 : ((zs.take len).map fun z => UInt8.ofNat z.toNat)[k].toNat = (zs.getD k 0).toNat := by
      simp only [List.getElem_map, List.getElem_take]
      have e : zs.getD k 0 = zs[k] := by simp [List.getD, show k < zs.length by omega]
      rw [e] at hb ⊢
      simp
      omega
    have e : (((zs.getD k 0).toNat : Nat) : Int) = zs.getD k 0 := by omega
    rw [e1, e, ← g]
    unfold Addr.add
    by_cases hk0 : k = 0
    · simp [hk0]
    · simp [hk0]
theorem open_word {H : Type} {enc : TypeId × Value → H} {u : World} {r : Reach} {b0 base : Nat} {sp : Nat → Bool} {held : Bool} {v : Value} {d : DataW H} {p : List MemPlace}
    (hv : Value.okWide Try.prog u r b0 33 v) (h : DataW.Trod enc Try.prog u base sp held 33 v d p) : ∃ n : Nat, n < 18446744073709551616 ∧ v = .int .u64 (n : Int) := by
  obtain ⟨n, rfl, _, _, hw⟩ := open_int Try.underlying33 hv h
  have b : 0 ≤ n ∧ n ≤ 18446744073709551615 := by simpa [Lit.wf, IntKind.min, IntKind.max, IntKind.signed, IntKind.bits] using hw
  obtain ⟨x, rfl⟩ := Int.eq_ofNat_of_zero_le b.1
  exact ⟨x, by omega, rfl⟩
theorem open_stamped {H : Type} {enc : TypeId × Value → H} {u : World} {r : Reach} {b0 base : Nat} {sp : Nat → Bool} {held : Bool} {v : Value} {d : DataW H} {p : List MemPlace}
    (hv : Value.okWide Try.prog u r b0 37 v) (h : DataW.Trod enc Try.prog u base sp held 37 v d p) :
    ∃ a n : Nat, a < MM ∧ n < 18446744073709551616 ∧ v = .agg #[.int .u64 (hi a : Nat), .int .u64 (lo a : Nat), .int .u64 (n : Int)] := by
  obtain ⟨cs, rfl, hsz⟩ := okWide_struct Try.underlying37 hv
  have hC : Try.prog.cellsOf 37 = 3 := by kernel_rfl
  obtain ⟨c0, c1, c2, rfl⟩ := Go.Joins.array3 (hsz.trans hC)
  obtain ⟨fuel, hf⟩ := h
  obtain ⟨y0, y1, m, hx, _, h0, h1⟩ := trod_struct2 Try.underlying37 hf
  simp only [Value.cells, Try.cells35, Try.cells33, List.drop_zero, List.take_succ_cons, List.take_zero, List.drop_succ_cons] at h0 h1
  obtain ⟨z0, z1, m2, hx2, _, k0, k1⟩ := trod_struct2 Try.underlying35 h0
  simp only [Try.cells33, List.drop_zero, List.take_succ_cons, List.take_zero, List.drop_succ_cons] at k0 k1
  obtain ⟨a, e0, rfl, wa⟩ := DataW.trod_int Try.underlying33 k0
  obtain ⟨b, e1, rfl, wb⟩ := DataW.trod_int Try.underlying33 k1
  obtain ⟨n, e2, rfl, wn⟩ := DataW.trod_int Try.underlying33 h1
  simp at e0 e1 e2
  subst e0 e1 e2
  have ba : 0 ≤ a ∧ a ≤ 18446744073709551615 := by simpa [Lit.wf, IntKind.min, IntKind.max, IntKind.signed, IntKind.bits] using wa
  have bb : 0 ≤ b ∧ b ≤ 18446744073709551615 := by simpa [Lit.wf, IntKind.min, IntKind.max, IntKind.signed, IntKind.bits] using wb
  have bn : 0 ≤ n ∧ n ≤ 18446744073709551615 := by simpa [Lit.wf, IntKind.min, IntKind.max, IntKind.signed, IntKind.bits] using wn
  obtain ⟨x, rfl⟩ := Int.eq_ofNat_of_zero_le ba.1
  obtain ⟨y, rfl⟩ := Int.eq_ofNat_of_zero_le bb.1
  obtain ⟨z, rfl⟩ := Int.eq_ofNat_of_zero_le bn.1
  obtain ⟨q, hq, rfl, rfl⟩ := W.parts x y (by omega) (by omega)
  exact ⟨q, z, hq, by omega, rfl⟩
end Go.Proofs.Ytfofhnaomlcioaa
