/- A super that came in: its numbers; and a place that came in. -/
import Derived.Test.YtbffpgndjbpifaaDoorUa
import Derived.Test.YtbffpgndjbpifaaDoorGi
namespace Go.Proofs.YtbffpgndjbpifaaDoor
open Go.ChangeShapes Go.WideShapes Go.ChangeAt Go.RowKit

section
variable {H : Type} {enc : TypeId × Value → H} {u : World} {base : Nat} {sp : Nat → Bool} {held : Bool}
theorem field_of {t : TypeId} {fs : Array Field} {fuel : Nat} {cs : List Value} {x : DataW H × List MemPlace} (ht : Tryd.prog.underlying t = some (.struct fs)) (h : DataW.trod enc Tryd.prog u base sp held fuel t cs = some x) (i : Nat) (f : Field) (hf : fs[i]? = some f) :
    ∃ n y, DataW.trod enc Tryd.prog u base sp held n f.type ((cs.drop f.offset).take (Tryd.prog.cellsOf f.type)) = some y := by
  obtain ⟨xs, n, _, _, _, hl, hfs⟩ := DataW.trod_struct ht h
  have k := hfs i f hf
  have hi : i < xs.length := by rw [hl]; exact (Array.getElem?_eq_some_iff.1 hf).1
  rw [List.getElem?_eq_getElem hi] at k
  exact ⟨n, _, k⟩
theorem item_of {t e : TypeId} {m : Nat} {fuel : Nat} {cs : List Value} {x : DataW H × List MemPlace} (ht : Tryd.prog.underlying t = some (.array m e)) (h : DataW.trod enc Tryd.prog u base sp held fuel t cs = some x) (i : Nat) (hi : i < m) :
    ∃ n y, DataW.trod enc Tryd.prog u base sp held n e ((cs.drop (i * Tryd.prog.cellsOf e)).take (Tryd.prog.cellsOf e)) = some y := by
  obtain ⟨xs, n, _, _, _, hl, hfs⟩ := DataW.trod_array ht h
  have k := hfs i hi
  rw [List.getElem?_eq_getElem (by omega)] at k
  exact ⟨n, _, k⟩
theorem u32_of {fuel : Nat} {cs : List Value} {x : DataW H × List MemPlace} (h : DataW.trod enc Tryd.prog u base sp held fuel 23 cs = some x) : ∃ n : Nat, n < 4294967296 ∧ cs = [.int .u32 (n : Int)] := by
  obtain ⟨a, e0, _, wa⟩ := DataW.trod_int Tryd.underlying23 h
  have b : 0 ≤ a ∧ a ≤ 4294967295 := by simpa [Lit.wf, IntKind.min, IntKind.max, IntKind.signed, IntKind.bits] using wa
  obtain ⟨n, rfl⟩ := Int.eq_ofNat_of_zero_le b.1
  exact ⟨n, by omega, e0⟩
theorem u64_of {fuel : Nat} {cs : List Value} {x : DataW H × List MemPlace} (h : DataW.trod enc Tryd.prog u base sp held fuel 22 cs = some x) : ∃ n : Nat, n < 18446744073709551616 ∧ cs = [.int .u64 (n : Int)] := by
  obtain ⟨a, e0, _, wa⟩ := DataW.trod_int Tryd.underlying22 h
  have b : 0 ≤ a ∧ a ≤ 18446744073709551615 := by simpa [Lit.wf, IntKind.min, IntKind.max, IntKind.signed, IntKind.bits] using wa
  obtain ⟨n, rfl⟩ := Int.eq_ofNat_of_zero_le b.1
  exact ⟨n, by omega, e0⟩
theorem cut_get {cs : List Value} {o : Nat} {v : Value} (h : (cs.drop o).take 1 = [v]) : cs[o]? = some v := by
  have := congrArg (fun l : List Value => l[0]?) h
  simpa using this
theorem Tryd.cellsW : Tryd.prog.cellsOf 23 = 1 := by kernel_rfl
theorem Tryd.cellsRt : Tryd.prog.cellsOf 25 = 3 := by kernel_rfl
theorem Tryd.cellsRs : Tryd.prog.cellsOf 26 = 24 := by kernel_rfl
theorem Tryd.cellsSp : Tryd.prog.cellsOf 28 = 28 := by kernel_rfl
theorem root_of {fuel : Nat} {cs : List Value} {x : DataW H × List MemPlace} (h : DataW.trod enc Tryd.prog u base sp held fuel 25 cs = some x) (j : Nat) (hj : j < 3) : ∃ n : Nat, n < 4294967296 ∧ cs[j]? = some (.int .u32 (n : Int)) := by
  have one : ∀ (i : Nat) (f : Field), (Tryd.prog.fieldsOf 25)[i]? = some f → f.type = 23 → f.offset = i → ∃ n : Nat, n < 4294967296 ∧ cs[i]? = some (.int .u32 (n : Int)) := by
    intro i f hf ht ho
    obtain ⟨n, y, k⟩ := field_of (fs := Tryd.prog.fieldsOf 25) (by kernel_rfl) h i f hf
    rw [ht, ho, Tryd.cellsW] at k
    obtain ⟨m, hm, e⟩ := u32_of k
    exact ⟨m, hm, cut_get e⟩
  have hj : j = 0 ∨ j = 1 ∨ j = 2 := by omega
  rcases hj with rfl | rfl | rfl
  · exact one 0 _ rfl rfl rfl
  · exact one 1 _ rfl rfl rfl
  · exact one 2 _ rfl rfl rfl
theorem roots_of {fuel : Nat} {cs : List Value} {x : DataW H × List MemPlace} (h : DataW.trod enc Tryd.prog u base sp held fuel 26 cs = some x) (j : Nat) (hj : j < 24) : ∃ n : Nat, n < 4294967296 ∧ cs[j]? = some (.int .u32 (n : Int)) := by
  obtain ⟨n, y, k⟩ := item_of Tryd.underlying26 h (j / 3) (by omega)
  rw [Tryd.cellsRt] at k
  obtain ⟨m, hm, e⟩ := root_of k (j % 3) (by omega)
  refine ⟨m, hm, ?_⟩
  rw [List.getElem?_take_of_lt (by omega), List.getElem?_drop] at e
  rw [← e]
  congr 1
  omega
theorem super_of {fuel : Nat} {cs : List Value} {x : DataW H × List MemPlace} (h : DataW.trod enc Tryd.prog u base sp held fuel 28 cs = some x) :
    (∃ q : Nat, q < 18446744073709551616 ∧ cs[0]? = some (.int .u64 (q : Int))) ∧ ∀ j, j < 27 → ∃ n : Nat, n < 4294967296 ∧ cs[j + 1]? = some (.int .u32 (n : Int)) := by
  have one : ∀ (i : Nat) (f : Field), (Tryd.prog.fieldsOf 28)[i]? = some f → f.type = 23 → f.offset = i → ∃ n : Nat, n < 4294967296 ∧ cs[i]? = some (.int .u32 (n : Int)) := by
    intro i f hf ht ho
    obtain ⟨n, y, k⟩ := field_of (fs := Tryd.prog.fieldsOf 28) (by kernel_rfl) h i f hf
    rw [ht, ho, Tryd.cellsW] at k
    obtain ⟨m, hm, e⟩ := u32_of k
    exact ⟨m, hm, cut_get e⟩
  have all : ∀ (i : Nat) (f : Field), (Tryd.prog.fieldsOf 28)[i]? = some f → f.type = 26 → f.offset = 4 → ∀ j, j < 24 → ∃ n : Nat, n < 4294967296 ∧ cs[4 + j]? = some (.int .u32 (n : Int)) := by
    intro i f hf ht ho j hj
    obtain ⟨n, y, k⟩ := field_of (fs := Tryd.prog.fieldsOf 28) (by kernel_rfl) h i f hf
    rw [ht, ho, Tryd.cellsRs] at k
    obtain ⟨m, hm, e⟩ := roots_of k j hj
    refine ⟨m, hm, ?_⟩
    rw [List.getElem?_take_of_lt (by omega), List.getElem?_drop] at e
    exact e
  refine ⟨?_, fun j hj => ?_⟩
  · have z : ∀ (i : Nat) (f : Field), (Tryd.prog.fieldsOf 28)[i]? = some f → f.type = 22 → f.offset = i → ∃ n : Nat, n < 18446744073709551616 ∧ cs[i]? = some (.int .u64 (n : Int)) := by
      intro i f hf ht ho
      obtain ⟨n, y, k⟩ := field_of (fs := Tryd.prog.fieldsOf 28) (by kernel_rfl) h i f hf
      rw [ht, ho, Tryd.cells22] at k
      obtain ⟨m, hm, e⟩ := u64_of k
      exact ⟨m, hm, cut_get e⟩
    exact z 0 _ rfl rfl rfl
  · by_cases h3 : 3 ≤ j
    · obtain ⟨m, hm, e⟩ := all 4 _ rfl rfl rfl (j - 3) (by omega)
      refine ⟨m, hm, ?_⟩
      rw [← e]
      congr 1
      omega
    · have hj : j = 0 ∨ j = 1 ∨ j = 2 := by omega
      rcases hj with rfl | rfl | rfl
      · exact one 1 _ rfl rfl rfl
      · exact one 2 _ rfl rfl rfl
      · exact one 3 _ rfl rfl rfl
end
/-- The number of a cell. -/
def numOf : Value → Nat
  | .int _ z => z.toNat
  | _ => 0
theorem open_super {H : Type} {enc : TypeId × Value → H} {u : World} {r : Reach} {b0 base : Nat} {sp : Nat → Bool} {held : Bool} {v : Value} {d : DataW H} {p : List MemPlace}
    (hv : Value.okWide Tryd.prog u r b0 28 v) (h : DataW.Trod enc Tryd.prog u base sp held 28 v d p) :
    ∃ (q : Nat) (r : List Nat), q < 18446744073709551616 ∧ r.length = 27 ∧ (∀ x ∈ r, x < 4294967296) ∧ v = .agg (sva q r) := by
  obtain ⟨cs, rfl, hsz⟩ := okWide_struct Tryd.underlying28 hv
  rw [Tryd.cellsSp] at hsz
  obtain ⟨l⟩ := cs
  obtain ⟨fuel, hf⟩ := h
  obtain ⟨⟨q, hq, e0⟩, hr⟩ := super_of hf
  replace e0 : l[0]? = some (.int .u64 (q : Int)) := e0
  replace hr : ∀ j, j < 27 → ∃ n : Nat, n < 4294967296 ∧ l[j + 1]? = some (.int .u32 (n : Int)) := hr
  match l, hsz, e0, hr with
  | c :: t, hsz, e0, hr =>
    have ht : t.length = 27 := by simpa using hsz
    have hk : ∀ j, j < 27 → ∃ n : Nat, n < 4294967296 ∧ t[j]? = some (.int .u32 (n : Int)) := fun j hj => by simpa using hr j hj
    have e0 : c = .int .u64 (q : Int) := by simpa using e0
    refine ⟨q, t.map numOf, hq, by simpa using ht, ?_, ?_⟩
    · intro x hx
      obtain ⟨y, hy, rfl⟩ := List.mem_map.1 hx
      obtain ⟨j, hj, rfl⟩ := List.getElem_of_mem hy
      obtain ⟨n, hn, e⟩ := hk j (by omega)
      rw [List.getElem?_eq_getElem hj] at e
      rw [Option.some.inj e]
      simpa [numOf] using hn
    · subst e0
      have e : t = (t.map numOf).map (fun x => .int .u32 ((x : Nat) : Int)) := by
        apply List.ext_getElem?
        intro j
        by_cases hj : j < 27
        · obtain ⟨n, hn, e⟩ := hk j hj
          rw [List.getElem?_map, List.getElem?_map, e]
          simp [numOf]
        · rw [List.getElem?_eq_none (by omega), List.getElem?_eq_none (by simp; omega)]
      show Value.agg (Value.int .u64 (q : Int) :: t).toArray = _
      conv => lhs; rw [e]
      rfl
theorem open_place {H : Type} {enc : TypeId × Value → H} {u : World} {r : Reach} {b0 base : Nat} {sp : Nat → Bool} {held : Bool} {v : Value} {d : DataW H} {p : List MemPlace}
    (hv : Value.okWide Tryd.prog u r b0 3 v) (h : DataW.Trod enc Tryd.prog u base sp held 3 v d p) : ∃ z : Int, -9223372036854775808 ≤ z ∧ z ≤ 9223372036854775807 ∧ v = .int .i64 z := by
  obtain ⟨n, rfl, _, _, hw⟩ := open_int Tryd.underlying3 hv h
  have b : -9223372036854775808 ≤ n ∧ n ≤ 9223372036854775807 := by simpa [Lit.wf, IntKind.min, IntKind.max, IntKind.signed, IntKind.bits] using hw
  exact ⟨n, b.1, b.2, rfl⟩
end Go.Proofs.YtbffpgndjbpifaaDoor
