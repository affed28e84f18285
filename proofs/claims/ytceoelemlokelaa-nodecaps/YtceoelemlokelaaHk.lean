/- A node of the call's own that grows: its four cells in one block, three rows in blocks of their own. -/
import Derived.Test.YtceoelemlokelaaHj
import Derived.Test.YtceoelemlokelaaBs
namespace Go.Proofs.Ytceoelemlokelaa
open Go.RowKit

theorem cell_of_heap {w : World} {b : Nat} {cs : Array Value} {t : TypeId} (h : w.heap[b]? = some (.cells cs t (0, 0))) (i : Nat) : w.cell? ⟨b, i, none⟩ = cs[i]? := by
  simp [World.cell?, h]
theorem frozen_of_heap {w : World} {b : Nat} {cs : Array Value} {t : TypeId} (h : w.heap[b]? = some (.cells cs t (0, 0))) (i : Nat) : w.frozen? ⟨b, i, none⟩ = false := by
  simp [World.frozen?, h]
theorem heap_set {w : World} {b : Nat} {cs : Array Value} {t : TypeId} (h : w.heap[b]? = some (.cells cs t (0, 0))) (i : Nat) (v : Value) : (w.setCell ⟨b, i, none⟩ v).heap[b]? = some (.cells (cs.setIfInBounds i v) t (0, 0)) := by
  exact heap_setCell_same w b i cs t v h
/-- A node that grows. -/
structure Gx (base : Nat) (wr : World) (b : Nat) (N T : TypeId) (lf : Bool) (kv vv pv : Value) (xs ys zs : List Value) : Prop where
  box : wr.heap[b]? = some (.cells #[.bool lf, kv, vv, pv] N (0, 0))
  o0 : wr.ownsRow 0 T 1 kv xs.length xs
  o1 : wr.ownsRow 0 T 1 vv ys.length ys
  o2 : wr.ownsRow 0 63 1 pv zs.length zs
  l0 : ∀ k, kv.ownBlock = some k → base ≤ k
  l1 : ∀ k, vv.ownBlock = some k → base ≤ k
  l2 : ∀ k, pv.ownBlock = some k → base ≤ k
  d01 : ∀ k, kv.ownBlock = some k → vv.ownBlock = some k → False
  d02 : ∀ k, kv.ownBlock = some k → pv.ownBlock = some k → False
  d12 : ∀ k, vv.ownBlock = some k → pv.ownBlock = some k → False
  hb : b < base
theorem Gx.nb {base : Nat} {wr : World} {b : Nat} {N T : TypeId} {lf : Bool} {kv vv pv : Value} {xs ys zs : List Value} (h : Gx base wr b N T lf kv vv pv xs ys zs) : Nb wr b lf kv vv pv :=
  ⟨by rw [cell_of_heap h.box]; rfl, by rw [cell_of_heap h.box]; rfl, by rw [cell_of_heap h.box]; rfl, by rw [cell_of_heap h.box]; rfl⟩
theorem Gx.blt {base : Nat} {wr : World} {b : Nat} {N T : TypeId} {lf : Bool} {kv vv pv : Value} {xs ys zs : List Value} (h : Gx base wr b N T lf kv vv pv xs ys zs) : b < wr.heap.size := (Array.getElem?_eq_some_iff.1 h.box).1
theorem Gx.keep {base : Nat} {wr w5 : World} {b : Nat} {N T : TypeId} {lf : Bool} {kv vv pv : Value} {xs ys zs : List Value} {G : Nat → Prop} (h : Gx base wr b N T lf kv vv pv xs ys zs) (k : Keep G wr w5)
    (hG : ∀ i, G i → i ≠ b ∧ kv.ownBlock ≠ some i ∧ vv.ownBlock ≠ some i ∧ pv.ownBlock ≠ some i) : Gx base w5 b N T lf kv vv pv xs ys zs :=
  ⟨(k.block b h.blt (fun q => (hG b q).1 rfl)).trans h.box, own_keep h.o0 k (fun i hi q => (hG i q).2.1 hi), own_keep h.o1 k (fun i hi q => (hG i q).2.2.1 hi), own_keep h.o2 k (fun i hi q => (hG i q).2.2.2 hi), h.l0, h.l1, h.l2, h.d01, h.d02, h.d12, h.hb⟩
theorem Gx.below {base : Nat} {wr w5 : World} {b : Nat} {N T : TypeId} {lf : Bool} {kv vv pv : Value} {xs ys zs : List Value} (h : Gx base wr b N T lf kv vv pv xs ys zs) (k : Below wr.heap.size wr w5) : Gx base w5 b N T lf kv vv pv xs ys zs :=
  h.keep (G := fun _ => False) (Keep.of_below k) (fun _ q => q.elim)
theorem Gx.made (w : World) (N T : TypeId) (lf : Bool) (base : Nat) (hb : base = w.heap.size + 1) : Gx base (w.alloc (.cells #[.bool lf, .slice none 0 0, .slice none 0 0, .slice none 0 0] N)) w.heap.size N T lf (.slice none 0 0) (.slice none 0 0) (.slice none 0 0) [] [] [] :=
  ⟨by show (w.heap.push _)[w.heap.size]? = _; simp, World.ownsRow_nil _ _ _ _, World.ownsRow_nil _ _ _ _, World.ownsRow_nil _ _ _ _, fun k hk => by simp [Value.ownBlock] at hk, fun k hk => by simp [Value.ownBlock] at hk, fun k hk => by simp [Value.ownBlock] at hk, fun k hk => by simp [Value.ownBlock] at hk, fun k hk => by simp [Value.ownBlock] at hk, fun k hk => by simp [Value.ownBlock] at hk, by omega⟩
theorem Gx.app0 {base : Nat} {wr w5 : World} {b : Nat} {N T : TypeId} {lf : Bool} {kv vv pv v5 : Value} {xs ys zs : List Value} {x : Value} {ob : Obj} (h : Gx base wr b N T lf kv vv pv xs ys zs) (hbase : base ≤ wr.heap.size)
    (g5 : (wr.alloc ob).grownBy w5 kv.ownBlock) (o5 : w5.ownsRow 0 T 1 v5 (xs ++ [x]).length (xs ++ [x])) (f5 : ∀ k, v5.ownBlock = some k → kv.ownBlock = some k ∨ (wr.alloc ob).heap.size ≤ k) :
    Nb w5 b lf kv vv pv ∧ (∀ i, w5.frozen? ⟨b, i, none⟩ = false) ∧ Gx base (w5.setCell ⟨b, 1, none⟩ v5) b N T lf v5 vv pv (xs ++ [x]) ys zs ∧ Keep (fun k => k = b ∨ kv.ownBlock = some k) wr (w5.setCell ⟨b, 1, none⟩ v5) := by
  have k : Keep (fun k => kv.ownBlock = some k) wr w5 := ((Keep.refl _ wr).alloc ob).grown g5 (fun k hk => .inl hk)
  have hbl := h.blt
  have hbb := h.hb
  have hbox : w5.heap[b]? = some (.cells #[.bool lf, kv, vv, pv] N (0, 0)) := (k.block b hbl (fun q => by have := h.l0 b q; omega)).trans h.box
  have ks : Keep (fun k => k = b) w5 (w5.setCell ⟨b, 1, none⟩ v5) := Keep.setCell (F := fun k => k = b) (p := ⟨b, 1, none⟩) (Keep.refl _ _) (.inl rfl) _
  have hal : (wr.alloc ob).heap.size = wr.heap.size + 1 := by simp
  have new : ∀ k, v5.ownBlock = some k → base ≤ k := fun k hk => by
    rcases f5 k hk with q | q
    · exact h.l0 k q
    · omega
  have set := heap_set hbox 1 v5
  refine ⟨⟨by rw [cell_of_heap hbox]; rfl, by rw [cell_of_heap hbox]; rfl, by rw [cell_of_heap hbox]; rfl, by rw [cell_of_heap hbox]; rfl⟩, fun i => frozen_of_heap hbox i, ⟨set, own_keep o5 ks (fun k hk e => by have := new k hk; have e : k = b := e; omega), own_keep (own_keep h.o1 k (fun k hk e => (h.d01 k e hk))) ks (fun k hk e => by have := h.l1 k hk; have e : k = b := e; omega), own_keep (own_keep h.o2 k (fun k hk e => (h.d02 k e hk))) ks (fun k hk e => by have := h.l2 k hk; have e : k = b := e; omega), new, h.l1, h.l2, fun k hk h2 => by
    rcases f5 k hk with q | q
    · exact h.d01 k q h2
    · have := (h.o1.lt k h2).2; omega, fun k hk h2 => by
    rcases f5 k hk with q | q
    · exact h.d02 k q h2
    · have := (h.o2.lt k h2).2; omega, h.d12, hbb⟩, (k.mono (fun i _ hi => .inr hi)).trans ks (fun i hi => .inl (.inl hi))⟩
theorem Gx.app1 {base : Nat} {wr w5 : World} {b : Nat} {N T : TypeId} {lf : Bool} {kv vv pv v5 : Value} {xs ys zs : List Value} {x : Value} {ob : Obj} (h : Gx base wr b N T lf kv vv pv xs ys zs) (hbase : base ≤ wr.heap.size)
    (g5 : (wr.alloc ob).grownBy w5 vv.ownBlock) (o5 : w5.ownsRow 0 T 1 v5 (ys ++ [x]).length (ys ++ [x])) (f5 : ∀ k, v5.ownBlock = some k → vv.ownBlock = some k ∨ (wr.alloc ob).heap.size ≤ k) :
    Nb w5 b lf kv vv pv ∧ (∀ i, w5.frozen? ⟨b, i, none⟩ = false) ∧ Gx base (w5.setCell ⟨b, 2, none⟩ v5) b N T lf kv v5 pv xs (ys ++ [x]) zs ∧ Keep (fun k => k = b ∨ vv.ownBlock = some k) wr (w5.setCell ⟨b, 2, none⟩ v5) := by
  have k : Keep (fun k => vv.ownBlock = some k) wr w5 := ((Keep.refl _ wr).alloc ob).grown g5 (fun k hk => .inl hk)
  have hbl := h.blt
  have hbb := h.hb
  have hbox : w5.heap[b]? = some (.cells #[.bool lf, kv, vv, pv] N (0, 0)) := (k.block b hbl (fun q => by have := h.l1 b q; omega)).trans h.box
  have ks : Keep (fun k => k = b) w5 (w5.setCell ⟨b, 2, none⟩ v5) := Keep.setCell (F := fun k => k = b) (p := ⟨b, 2, none⟩) (Keep.refl _ _) (.inl rfl) _
  have hal : (wr.alloc ob).heap.size = wr.heap.size + 1 := by simp
  have new : ∀ k, v5.ownBlock = some k → base ≤ k := fun k hk => by
    rcases f5 k hk with q | q
    · exact h.l1 k q
    · omega
  have set := heap_set hbox 2 v5
  refine ⟨⟨by rw [cell_of_heap hbox]; rfl, by rw [cell_of_heap hbox]; rfl, by rw [cell_of_heap hbox]; rfl, by rw [cell_of_heap hbox]; rfl⟩, fun i => frozen_of_heap hbox i, ⟨set, own_keep (own_keep h.o0 k (fun k hk e => (h.d01 k hk e))) ks (fun k hk e => by have := h.l0 k hk; have e : k = b := e; omega), own_keep o5 ks (fun k hk e => by have := new k hk; have e : k = b := e; omega), own_keep (own_keep h.o2 k (fun k hk e => (h.d12 k e hk))) ks (fun k hk e => by have := h.l2 k hk; have e : k = b := e; omega), h.l0, new, h.l2, fun k h2 hk => by
    rcases f5 k hk with q | q
    · exact h.d01 k h2 q
    · have := (h.o0.lt k h2).2; omega, h.d02, fun k hk h2 => by
    rcases f5 k hk with q | q
    · exact h.d12 k q h2
    · have := (h.o2.lt k h2).2; omega, hbb⟩, (k.mono (fun i _ hi => .inr hi)).trans ks (fun i hi => .inl (.inl hi))⟩
theorem Gx.app2 {base : Nat} {wr w5 : World} {b : Nat} {N T : TypeId} {lf : Bool} {kv vv pv v5 : Value} {xs ys zs : List Value} {x : Value} {ob : Obj} (h : Gx base wr b N T lf kv vv pv xs ys zs) (hbase : base ≤ wr.heap.size)
    (g5 : (wr.alloc ob).grownBy w5 pv.ownBlock) (o5 : w5.ownsRow 0 63 1 v5 (zs ++ [x]).length (zs ++ [x])) (f5 : ∀ k, v5.ownBlock = some k → pv.ownBlock = some k ∨ (wr.alloc ob).heap.size ≤ k) :
    Nb w5 b lf kv vv pv ∧ (∀ i, w5.frozen? ⟨b, i, none⟩ = false) ∧ Gx base (w5.setCell ⟨b, 3, none⟩ v5) b N T lf kv vv v5 xs ys (zs ++ [x]) ∧ Keep (fun k => k = b ∨ pv.ownBlock = some k) wr (w5.setCell ⟨b, 3, none⟩ v5) := by
  have k : Keep (fun k => pv.ownBlock = some k) wr w5 := ((Keep.refl _ wr).alloc ob).grown g5 (fun k hk => .inl hk)
  have hbl := h.blt
  have hbb := h.hb
  have hbox : w5.heap[b]? = some (.cells #[.bool lf, kv, vv, pv] N (0, 0)) := (k.block b hbl (fun q => by have := h.l2 b q; omega)).trans h.box
  have ks : Keep (fun k => k = b) w5 (w5.setCell ⟨b, 3, none⟩ v5) := Keep.setCell (F := fun k => k = b) (p := ⟨b, 3, none⟩) (Keep.refl _ _) (.inl rfl) _
  have hal : (wr.alloc ob).heap.size = wr.heap.size + 1 := by simp
  have new : ∀ k, v5.ownBlock = some k → base ≤ k := fun k hk => by
    rcases f5 k hk with q | q
    · exact h.l2 k q
    · omega
  have set := heap_set hbox 3 v5
  refine ⟨⟨by rw [cell_of_heap hbox]; rfl, by rw [cell_of_heap hbox]; rfl, by rw [cell_of_heap hbox]; rfl, by rw [cell_of_heap hbox]; rfl⟩, fun i => frozen_of_heap hbox i, ⟨set, own_keep (own_keep h.o0 k (fun k hk e => (h.d02 k hk e))) ks (fun k hk e => by have := h.l0 k hk; have e : k = b := e; omega), own_keep (own_keep h.o1 k (fun k hk e => (h.d12 k hk e))) ks (fun k hk e => by have := h.l1 k hk; have e : k = b := e; omega), own_keep o5 ks (fun k hk e => by have := new k hk; have e : k = b := e; omega), h.l0, h.l1, new, h.d01, fun k h2 hk => by
    rcases f5 k hk with q | q
    · exact h.d02 k h2 q
    · have := (h.o0.lt k h2).2; omega, fun k h2 hk => by
    rcases f5 k hk with q | q
    · exact h.d12 k h2 q
    · have := (h.o1.lt k h2).2; omega, hbb⟩, (k.mono (fun i _ hi => .inr hi)).trans ks (fun i hi => .inl (.inl hi))⟩
end Go.Proofs.Ytceoelemlokelaa
