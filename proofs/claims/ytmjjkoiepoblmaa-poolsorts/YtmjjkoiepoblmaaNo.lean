/- Rows of operations, as the laws are handed them. -/
import Derived.Test.YtmjjkoiepoblmaaNk
import Derived.Test.YtmjjkoiepoblmaaNl
namespace Go.Proofs.Ytmjjkoiepoblmaa
open Go.RowKit Go.Sort Go.Maps

/-- A slice of operations. -/
def Opl (w : World) (A : Option Addr) (os : List (Nat × Int)) : Prop :=
  (∀ o ∈ os, o.1 < 256 ∧ 0 ≤ o.2 ∧ o.2 < 4294967296) ∧ (0 < os.length → ∃ b off, A = some ⟨b, off, none⟩ ∧ ∀ j, j < os.length → w.cell? ⟨b, off + j * 2, none⟩ = some (.int .u8 (os[j]!.1 : Int)) ∧ w.cell? ⟨b, off + j * 2 + 1, none⟩ = some (.int .u32 os[j]!.2))
theorem Opl.below {w w' : World} {A : Option Addr} {os : List (Nat × Int)} (h : Opl w A os) (k : Below w.heap.size w w') : Opl w' A os := by
  refine ⟨h.1, fun h0 => ?_⟩
  obtain ⟨b, off, rfl, hc⟩ := h.2 h0
  exact ⟨b, off, rfl, fun j hj => ⟨kept (hc j hj).1 k, kept (hc j hj).2 k⟩⟩
theorem Opl.get {w : World} {A : Option Addr} {os : List (Nat × Int)} (h : Opl w A os) {i : Nat} (hi : i < os.length) : ∃ (b off d : Nat) (n : Int), A = some ⟨b, off, none⟩ ∧ os[i]! = (d, n) ∧ d < 256 ∧ 0 ≤ n ∧ n < 4294967296 ∧ w.cell? ⟨b, off + i * 2, none⟩ = some (.int .u8 (d : Int)) ∧ w.cell? ⟨b, off + i * 2 + 1, none⟩ = some (.int .u32 n) := by
  obtain ⟨b, off, rfl, hc⟩ := h.2 (by omega)
  have hm := h.1 os[i] (List.getElem_mem hi)
  have c := hc i hi
  have e : os[i]! = os[i] := by simp [hi]
  rw [e] at c
  exact ⟨b, off, os[i].1, os[i].2, rfl, e, hm.1, hm.2.1, hm.2.2, c.1, c.2⟩
/-- The walk's state: the pool and its list behind w0. -/
structure At (w0 w : World) (p : Nat) (v : Value) (s : List Int) : Prop where
  on : ∃ F, On w p F v s ∧ ∀ b, F b → w0.heap.size ≤ b
  below : Below w0.heap.size w0 w
theorem At.next {w0 w w' : World} {p : Nat} {F : Nat → Prop} {v v' : Value} {s' : List Int} (hF : ∀ b, F b → w0.heap.size ≤ b) (hB : Below w0.heap.size w0 w) (h : Mixed w w' p F v v' s') : At w0 w' p v' s' := by
  obtain ⟨F', h1, h2, h3, _⟩ := On.next h
  have hs := hB.size
  exact ⟨⟨F', h1, fun b hb => (h3 b hb).elim (hF b) (fun q => by omega)⟩, hB.trans (h2.below hs hF)⟩
theorem At.step {w0 w : World} {p : Nat} {v : Value} {s : List Int} (h : At w0 w p v s) (d : Nat) (n : Int) (h0 : 0 ≤ n) (h1 : n < 4294967296) (hl : s.length < 50000) :
    Calls Try.prog 9 #[.pointer (some ⟨p, 0, none⟩), v, .agg #[.int .u8 (d : Int), .int .u32 n]] w fun e w' => ∃ v', e = .returned (.tuple #[v', .bool true]) ∧ At w0 w' p v' (stp d n s) := by
  obtain ⟨⟨F, ho, hF⟩, hB⟩ := h
  refine (step_any w p F v s d n ho h0 h1 hl).mono ?_
  rintro e w' ⟨v', rfl, m⟩
  exact ⟨v', rfl, At.next hF hB m⟩
theorem At.drop {w0 w w' : World} {p : Nat} {v : Value} {s : List Int} (h : At w0 w p v s) (k : Below w.heap.size w w') : At w0 w' p v s := by
  obtain ⟨⟨F, ho, hF⟩, hB⟩ := h
  exact ⟨⟨F, ho.below k, hF⟩, btr hB k⟩
theorem At.own {w0 w : World} {p : Nat} {v : Value} {s : List Int} (h : At w0 w p v s) : Own w0 w p s := by
  obtain ⟨⟨F, ho, hF⟩, hB⟩ := h
  exact ⟨F, ho.po, hF, hB⟩
theorem At.ris {w0 w : World} {p : Nat} {v : Value} {s : List Int} (h : At w0 w p v s) : Ris s := by
  obtain ⟨⟨F, ho, hF⟩, hB⟩ := h
  exact ho.po.ris
theorem At.nums {w0 w : World} {p : Nat} {v : Value} {s : List Int} (h : At w0 w p v s) : Nums w v s := by
  obtain ⟨⟨F, ho, hF⟩, hB⟩ := h
  exact ho.nums
theorem At.start {w0 w : World} {p : Nat} (h : Own w0 w p []) : At w0 w p (.slice none 0 0) [] := by
  obtain ⟨F, ho, hF, hB⟩ := h
  exact ⟨⟨F, ⟨ho, Nums.nil w, fun b hb => by simp [Value.ownBlock] at hb⟩, hF⟩, hB⟩
/-- The pool's List and its list are the same. -/
theorem At.same {w0 w : World} {p : Nat} {v : Value} {s : List Int} (h : At w0 w p v s) (hl : s.length < 65536) :
    Calls Try.prog 12 #[.pointer (some ⟨p, 0, none⟩)] w fun e w' => ∃ v', e = .returned v' ∧ Nums w' v' s ∧ Below w.heap.size w w' := by
  refine (own_list h.own hl).mono ?_
  rintro e w' ⟨v', rfl, o, k⟩
  exact ⟨v', rfl, Nums.own o, k⟩
end Go.Proofs.Ytmjjkoiepoblmaa
