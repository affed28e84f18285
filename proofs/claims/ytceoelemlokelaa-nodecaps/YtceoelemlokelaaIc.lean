/- What comes in: nodes, how long keys and values are, bytes' kinds. -/
import Derived.Test.YtceoelemlokelaaIb
import Derived.Deep.SlicePairs
namespace Go.Proofs.Ytceoelemlokelaa
open Go.RowKit Go.ChangeShapes Go.WideShapes

theorem Try.cells4 : Try.prog.cellsOf 4 = 1 := by kernel_rfl
theorem Try.cells3 : Try.prog.cellsOf 3 = 1 := by kernel_rfl
theorem Try.cells34 : Try.prog.cellsOf 34 = 2 := by kernel_rfl
theorem byts_of {H : Type} {enc : TypeId × Value → H} {u : World} {base : Nat} {sp : Nat → Bool} {held : Bool} {fuel : Nat} {cs : List Value} {x : DataW H × List MemPlace} (hsp : ∀ b, sp b = true)
    (h : DataW.trod enc Try.prog u base sp held fuel 29 cs = some x) : ∃ v l, cs = [v] ∧ Byts u v l := by
  rcases open_ints Try.underlying29 Try.underlying5 Try.cells5 h with ⟨hcs, _⟩ | ⟨a, len, c, zs, hcs, _, hl, hm, hz, _, hcell, hwz⟩
  · exact ⟨_, [], hcs, Byts.none u⟩
  · rw [hsp] at hz
    have hz' : zs.length = c := by simpa using hz
    have bd : ∀ j, j < zs.length → 0 ≤ zs.getD j 0 ∧ zs.getD j 0 ≤ 255 := by
      intro j hj
      have h1 := hwz (zs.getD j 0) (by simp [List.getD, hj])
      simpa [Lit.wf, IntKind.min, IntKind.max, IntKind.signed, IntKind.bits] using h1
    have hlen : ((zs.take len).map fun z => UInt8.ofNat z.toNat).length = len := by simp; omega
    refine ⟨_, (zs.take len).map fun z => UInt8.ofNat z.toNat, hcs, some a, c, by rw [hlen], by rw [hlen]; exact hl, fun hpos => ?_⟩
    rw [hlen] at hpos
    obtain ⟨b, off, spot⟩ := a
    have hspot : spot = none := by simpa [Addr.add] using World.cell?_spot (hcell 0 (by omega))
    subst hspot
    refine ⟨b, off, rfl, fun k hk => ?_⟩
    rw [hlen] at hk
    have g := hcell k (by omega)
    have hb := bd k (by omega)
    have e1 : ((zs.take len).map fun z => UInt8.ofNat z.toNat)[k].toNat = (zs.getD k 0).toNat := by
      simp only [List.getElem_map, List.getElem_take]
      have e : zs.getD k 0 = zs[k] := by simp [List.getD, show k < zs.length by omega]
      rw [e] at hb ⊢
      simp
      omega
    have e : (((zs.getD k 0).toNat : Nat) : Int) = zs.getD k 0 := by omega
    rw [e1, e, ← g, Addr.add_mid]
theorem brs_of {H : Type} {enc : TypeId × Value → H} {u : World} {base : Nat} {sp : Nat → Bool} {held : Bool} {fuel : Nat} {cs : List Value} {x : DataW H × List MemPlace} (hsp : ∀ b, sp b = true)
    (h : DataW.trod enc Try.prog u base sp held fuel 25 cs = some x) : ∃ v ls, cs = [v] ∧ Brs u v ls := by
  rcases Go.Deep.open_slice Try.underlying25 h with ⟨hcs, _⟩ | ⟨a, len, cap, m, n, Dd, Pl, hcs, hb, hl, hm, hmm, hx, hi⟩
  · exact ⟨_, [], hcs, Brs.nil u⟩
  · have hlm : len ≤ m := by rw [hmm]; split <;> omega
    have each : ∀ i, i < len → ∃ l : List UInt8, ∃ v, u.cell? (a.add i) = some v ∧ Byts u v l := by
      intro i hi'
      obtain ⟨cs', h1, h2⟩ := hi i (by omega)
      rw [Try.cells29] at h1
      obtain ⟨_, hlen, hcell⟩ := World.cells?_some h1
      obtain ⟨v, l, rfl, hby⟩ := byts_of hsp h2
      have g := hcell 0 (by omega)
      rw [Nat.mul_one] at g
      exact ⟨l, v, by simpa [Addr.add] using g, hby⟩
    obtain ⟨f, hf⟩ := Go.Deep.choose_lt each
    have hl2 : ((List.range len).map f).length = len := by simp
    refine ⟨_, (List.range len).map f, hcs, some a, cap, by rw [hl2], by rw [hl2]; exact hl, hm, fun hpos => ?_⟩
    rw [hl2] at hpos
    obtain ⟨b, off, spot⟩ := a
    obtain ⟨v0, h0, _⟩ := hf 0 hpos
    have hspot : spot = none := by simpa [Addr.add] using World.cell?_spot h0
    subst hspot
    refine ⟨b, off, rfl, fun j hj => ?_⟩
    rw [hl2] at hj
    obtain ⟨v, h1, h2⟩ := hf j hj
    rw [Addr.add_mid] at h1
    exact ⟨v, h1, by simpa [List.getD, hj] using h2⟩
theorem nums_of {H : Type} {enc : TypeId × Value → H} {u : World} {base : Nat} {sp : Nat → Bool} {held : Bool} {fuel : Nat} {cs : List Value} {x : DataW H × List MemPlace}
    (h : DataW.trod enc Try.prog u base sp held fuel 26 cs = some x) : ∃ v l, cs = [v] ∧ Nums u v l ∧ Rg l := by
  rcases open_ints Try.underlying26 Try.underlying63 Try.cells63 h with ⟨hcs, _⟩ | ⟨a, len, c, zs, hcs, hb, hl, hm, hz, hx, hi, hw⟩
  · exact ⟨_, [], hcs, Nums.nil u, fun x hx => by simp at hx⟩
  · have hlz : len ≤ zs.length := by rw [hz]; split <;> omega
    have hlen : (zs.take len).length = len := by simp; omega
    refine ⟨_, zs.take len, hcs, ⟨some a, c, by rw [hlen], by rw [hlen]; exact hl, hm, fun hpos => ?_⟩, fun x hx => ?_⟩
    · have hpos' : 0 < zs.length := by simp at hpos; omega
      obtain ⟨b, off, spot⟩ := a
      have hspot : spot = none := by simpa [Addr.add] using World.cell?_spot (hi 0 hpos')
      subst hspot
      refine ⟨b, off, rfl, fun j hj => ?_⟩
      have hj' : j < len := by simp at hj; omega
      have g := hi j (by omega)
      rw [Addr.add_mid] at g
      rw [g]
      have e : (zs.take len)[j]! = zs.getD j 0 := by
        rw [getElem!_def, List.getElem?_take_of_lt hj', List.getD, List.getElem?_eq_getElem (by omega)]
        rfl
      rw [e]
    · have := wf32 (hw x (List.mem_of_mem_take hx))
      omega
/-- A node that came in. -/
theorem open_node {H : Type} {enc : TypeId × Value → H} {u : World} {r : Reach} {b0 base : Nat} {sp : Nat → Bool} {held : Bool} {v : Value} {d : DataW H} {p : List MemPlace} (hsp : ∀ b, sp b = true)
    (hv : Value.okWide Try.prog u r b0 28 v) (h : DataW.Trod enc Try.prog u base sp held 28 v d p) : ∃ (n : N.Nd) (kv vv pv : Value), v = nodv n.leaf kv vv pv ∧ NV u kv vv pv n ∧ Rg n.ps := by
  obtain ⟨c0, c1, c2, c3, y0, y1, y2, y3, m, rfl, _, _, h0, h1, h2, h3⟩ := Go.Joins.open_agg4 Try.underlying28 (by kernel_rfl) Try.cells28 hv h
  obtain ⟨a, e0, _⟩ := DataW.trod_bool Try.underlying4 h0
  obtain ⟨kv, ks, e1, hk⟩ := brs_of hsp h1
  obtain ⟨vv, vs, e2, hvs⟩ := brs_of hsp h2
  obtain ⟨pv, ps, e3, hps, hr⟩ := nums_of h3
  simp only [List.cons.injEq, and_true] at e0 e1 e2 e3
  subst e0 e1 e2 e3
  exact ⟨⟨a, ks, vs, ps⟩, _, _, _, rfl, ⟨hk, hvs, hps⟩, hr⟩
theorem wf_u8n {z : Int} (h : (Lit.int .u8 z).wf = true) : 0 ≤ z ∧ z ≤ 255 := by simpa [Lit.wf, IntKind.min, IntKind.max, IntKind.signed, IntKind.bits] using h
theorem open_u8n {H : Type} {enc : TypeId × Value → H} {u : World} {r : Reach} {b0 base : Nat} {sp : Nat → Bool} {held : Bool} {v : Value} {d : DataW H} {p : List MemPlace}
    (hv : Value.okWide Try.prog u r b0 5 v) (h : DataW.Trod enc Try.prog u base sp held 5 v d p) : ∃ n : Nat, n ≤ 255 ∧ v = .int .u8 (n : Int) := by
  obtain ⟨z, rfl⟩ := okWide_int Try.underlying5 hv
  obtain ⟨fuel, hf⟩ := h
  obtain ⟨y, e, _, hw⟩ := DataW.trod_int Try.underlying5 hf
  simp [Value.cells] at e
  subst e
  have := wf_u8n hw
  obtain ⟨n, rfl⟩ := Int.eq_ofNat_of_zero_le this.1
  exact ⟨n, by omega, rfl⟩
/-- How long keys and values are. -/
theorem open_widths {H : Type} {enc : TypeId × Value → H} {u : World} {r : Reach} {b0 base : Nat} {sp : Nat → Bool} {held : Bool} {v : Value} {d : DataW H} {p : List MemPlace}
    (hv : Value.okWide Try.prog u r b0 34 v) (h : DataW.Trod enc Try.prog u base sp held 34 v d p) : ∃ (a b : Int), v = .agg #[.int .i64 a, .int .i64 b] := by
  obtain ⟨c0, c1, y0, y1, m, rfl, _, _, h0, h1⟩ := Go.Joins.open_agg2 Try.underlying34 (by kernel_rfl) Try.cells34 hv h
  obtain ⟨a, e0, _⟩ := DataW.trod_int Try.underlying3 h0
  obtain ⟨b, e1, _⟩ := DataW.trod_int Try.underlying3 h1
  simp only [List.cons.injEq, and_true] at e0 e1
  subst e0 e1
  exact ⟨a, b, rfl⟩
end Go.Proofs.Ytceoelemlokelaa
