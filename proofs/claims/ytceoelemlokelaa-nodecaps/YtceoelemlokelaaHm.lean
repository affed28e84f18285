/- node.said: the node whose parts are handed over. -/
import Derived.Test.YtceoelemlokelaaHl
import Derived.Test.YtceoelemlokelaaLz
namespace Go.Proofs.Ytceoelemlokelaa
open Go.RowKit

/-- Rows of bytes, each in a block of its own. -/
def Els (B : Nat) (wr : World) (xs : List Value) (ls : List (List UInt8)) : Prop := xs.length = ls.length ∧ ∀ i, i < ls.length → ∃ g, xs[i]? = some (.slice (some ⟨g, 0, none⟩) (ls.getD i []).length (ls.getD i []).length) ∧ B ≤ g ∧ Bk wr g (ls.getD i [])
theorem Els.nil (B : Nat) (wr : World) : Els B wr [] [] := ⟨rfl, fun i h => by simp at h⟩
theorem Els.keep {B : Nat} {wr w5 : World} {xs : List Value} {ls : List (List UInt8)} {G : Nat → Prop} (h : Els B wr xs ls) (k : Keep G wr w5) (hG : ∀ i, G i → B ≤ i → ∀ cur, wr.heap[i]? ≠ some (.cells cur 5 (0, 0))) : Els B w5 xs ls := by
  refine ⟨h.1, fun i hi => ?_⟩
  obtain ⟨g, e, hg, hb⟩ := h.2 i hi
  exact ⟨g, e, hg, (k.block g hb.lt (fun q => hG g q hg _ hb.1)).trans hb.1, hb.2⟩
theorem Els.below {B : Nat} {wr w5 : World} {xs : List Value} {ls : List (List UInt8)} (h : Els B wr xs ls) (k : Below wr.heap.size wr w5) : Els B w5 xs ls := h.keep (G := fun _ => False) (Keep.of_below k) (fun _ q => q.elim)
theorem Els.snoc {B : Nat} {wr : World} {xs : List Value} {ls : List (List UInt8)} {g : Nat} {l : List UInt8} (h : Els B wr xs ls) (hb : Bk wr g l) (hg : B ≤ g) : Els B wr (xs ++ [.slice (some ⟨g, 0, none⟩) l.length l.length]) (ls ++ [l]) := by
  refine ⟨by simp [h.1], fun i hi => ?_⟩
  by_cases e : i < ls.length
  · obtain ⟨g', e', hg', hb'⟩ := h.2 i e
    have e2 : (ls ++ [l]).getD i [] = ls.getD i [] := by simp [List.getD, List.getElem?_append_left e]
    rw [e2]
    exact ⟨g', by rw [List.getElem?_append_left (by rw [h.1]; exact e)]; exact e', hg', hb'⟩
  · obtain rfl : i = ls.length := by simp at hi; omega
    have e2 : (ls ++ [l]).getD ls.length [] = l := by simp [List.getD]
    rw [e2]
    exact ⟨g, by rw [List.getElem?_append_right (by rw [h.1]; exact Nat.le_refl _), h.1]; simp, hg, hb⟩
theorem Els.brs {B : Nat} {wr : World} {base : Nat} {v : Value} {xs : List Value} {ls : List (List UInt8)} (h : Els B wr xs ls) (o : wr.ownsRow base 29 1 v xs.length xs) : Brs wr v ls := by
  have ho := o
  rcases o.2 with ⟨rfl, h0⟩ | ⟨g, cap, cur, rfl, _, _, hc, hm, _⟩
  · have : ls.length = 0 := by rw [← h.1]; exact h0
    rw [List.eq_nil_of_length_eq_zero this]
    exact Brs.nil wr
  · rw [h.1] at hc ho ⊢
    refine ⟨_, cap, rfl, hc, hm, fun _ => ⟨g, 0, rfl, fun j hj => ?_⟩⟩
    obtain ⟨g2, e2, _, hb⟩ := h.2 j hj
    exact ⟨_, by rw [ho.cellAt (0 + j) (by omega), Nat.zero_add]; exact e2, hb.byts⟩
theorem gx_not8 {base : Nat} {wr : World} {b : Nat} {N T : TypeId} {lf : Bool} {kv vv pv : Value} {xs ys zs : List Value} (h : Gx base wr b N T lf kv vv pv xs ys zs) (hN : N ≠ 5) (hT : T ≠ 5) :
    (∀ i, (i = b ∨ kv.ownBlock = some i) → ∀ cur, wr.heap[i]? ≠ some (.cells cur 5 (0, 0))) ∧ (∀ i, (i = b ∨ vv.ownBlock = some i) → ∀ cur, wr.heap[i]? ≠ some (.cells cur 5 (0, 0))) ∧ (∀ i, (i = b ∨ pv.ownBlock = some i) → ∀ cur, wr.heap[i]? ≠ some (.cells cur 5 (0, 0))) := by
  have hb : ∀ cur, wr.heap[b]? ≠ some (.cells cur 5 (0, 0)) := fun cur e => by
    rw [h.box] at e
    simp only [Option.some.injEq, Obj.cells.injEq] at e
    exact hN e.2.1
  have row : ∀ (U : TypeId) (v : Value) (n : Nat) (us : List Value), U ≠ 5 → wr.ownsRow 0 U 1 v n us → ∀ i, v.ownBlock = some i → ∀ cur, wr.heap[i]? ≠ some (.cells cur 5 (0, 0)) := fun U v n us hU o i hi cur e => by
    obtain ⟨cur2, hc, _⟩ := own_block o hi
    rw [hc] at e
    simp only [Option.some.injEq, Obj.cells.injEq] at e
    exact hU e.2.1
  refine ⟨fun i q => ?_, fun i q => ?_, fun i q => ?_⟩
  · rcases q with rfl | q
    · exact hb
    · exact row _ _ _ _ hT h.o0 i q
  · rcases q with rfl | q
    · exact hb
    · exact row _ _ _ _ hT h.o1 i q
  · rcases q with rfl | q
    · exact hb
    · exact row _ _ _ _ (by decide) h.o2 i q
/-- What said has made so far; what is left. -/
structure Sd (w wr : World) (lb b0 : Nat) (lf : Bool) (kv vv pv : Value) (xs ys : List Value) (ks vs : List (List UInt8)) (ps : List Int) (l : List UInt8) : Prop where
  gx : Gx (w.heap.size + 2) wr (w.heap.size + 1) 28 29 lf kv vv pv xs ys (us ps)
  rb : wr.heap[w.heap.size]? = some (.cells #[.bool false, .slice none 0 0, .slice none 0 0, .slice none 0 0] 28 (0, 0))
  e0 : Els (w.heap.size + 2) wr xs ks
  e1 : Els (w.heap.size + 2) wr ys vs
  lf : Lf wr lb b0 l
  kp : Keep (fun k => k = lb) w wr
  l1 : lb < w.heap.size
  l2 : b0 < w.heap.size
theorem Sd.size {w wr : World} {lb b0 : Nat} {lf : Bool} {kv vv pv : Value} {xs ys : List Value} {ks vs : List (List UInt8)} {ps : List Int} {l : List UInt8} (h : Sd w wr lb b0 lf kv vv pv xs ys ks vs ps l) : w.heap.size + 2 ≤ wr.heap.size := by
  have := h.gx.blt
  omega
theorem Sd.keep {w wr w2 : World} {lb b0 : Nat} {lf : Bool} {kv vv pv : Value} {xs ys : List Value} {ks vs : List (List UInt8)} {ps : List Int} {l l2 : List UInt8} (h : Sd w wr lb b0 lf kv vv pv xs ys ks vs ps l) (hl : Lf w2 lb b0 l2) (k : Keep (fun k => k = lb) wr w2) : Sd w w2 lb b0 lf kv vv pv xs ys ks vs ps l2 := by
  have h1 := h.l1
  have n8 : ∀ i, i = lb → w.heap.size + 2 ≤ i → ∀ cur, wr.heap[i]? ≠ some (.cells cur 5 (0, 0)) := fun i e q => by omega
  exact ⟨h.gx.keep k (fun i e => by
    have e : i = lb := e
    refine ⟨by omega, fun q => ?_, fun q => ?_, fun q => ?_⟩
    · have := h.gx.l0 i q; omega
    · have := h.gx.l1 i q; omega
    · have := h.gx.l2 i q; omega), (k.block _ (by have := h.size; omega) (fun e => by have e : w.heap.size = lb := e; omega)).trans h.rb, h.e0.keep k n8, h.e1.keep k n8, hl, h.kp.trans k (fun i e => .inl e), h.l1, h.l2⟩
theorem Sd.key {w wr w5 : World} {lb b0 : Nat} {lf : Bool} {kv vv pv v5 : Value} {xs ys : List Value} {ks vs : List (List UInt8)} {ps : List Int} {l a : List UInt8} {g n : Nat} {ob : Obj} (h : Sd w wr lb b0 lf kv vv pv xs ys ks vs ps l)
    (hb : Bk wr g a) (hn : a.length = n) (hg : w.heap.size + 2 ≤ g) (g5 : (wr.alloc ob).grownBy w5 kv.ownBlock) (o5 : w5.ownsRow 0 29 1 v5 (xs ++ [Value.slice (some ⟨g, 0, none⟩) n n]).length (xs ++ [Value.slice (some ⟨g, 0, none⟩) n n]))
    (f5 : ∀ k, v5.ownBlock = some k → kv.ownBlock = some k ∨ (wr.alloc ob).heap.size ≤ k) :
    Nb w5 (w.heap.size + 1) lf kv vv pv ∧ (∀ i, w5.frozen? ⟨w.heap.size + 1, i, none⟩ = false) ∧ Sd w (w5.setCell ⟨w.heap.size + 1, 1, none⟩ v5) lb b0 lf v5 vv pv (xs ++ [Value.slice (some ⟨g, 0, none⟩) n n]) ys (ks ++ [a]) vs ps l := by
  subst hn
  have hsz := h.size
  have hl1 := h.l1
  have hl2 := h.l2
  obtain ⟨a1, a2, a3, a4⟩ := h.gx.app0 hsz g5 o5 f5
  have n8 := gx_not8 h.gx (by decide) (by decide)
  have lo : ∀ i, (i = w.heap.size + 1 ∨ kv.ownBlock = some i) → w.heap.size + 1 ≤ i := fun i q => by
    rcases q with q | q
    · omega
    · have := h.gx.l0 i q; omega
  refine ⟨a1, a2, ⟨a3, (a4.block _ (by omega) (fun q => by have := lo _ q; omega)).trans h.rb, (h.e0.snoc hb hg).keep a4 (fun i q _ => n8.1 i q), h.e1.keep a4 (fun i q _ => n8.1 i q), h.lf.keep a4 (fun q => by have := lo _ q; omega) (fun q => by have := lo _ q; omega), h.kp.trans a4 (fun i q => .inr (by have := lo _ q; omega)), hl1, hl2⟩⟩
theorem Sd.val {w wr w5 : World} {lb b0 : Nat} {lf : Bool} {kv vv pv v5 : Value} {xs ys : List Value} {ks vs : List (List UInt8)} {ps : List Int} {l a : List UInt8} {g n : Nat} {ob : Obj} (h : Sd w wr lb b0 lf kv vv pv xs ys ks vs ps l)
    (hb : Bk wr g a) (hn : a.length = n) (hg : w.heap.size + 2 ≤ g) (g5 : (wr.alloc ob).grownBy w5 vv.ownBlock) (o5 : w5.ownsRow 0 29 1 v5 (ys ++ [Value.slice (some ⟨g, 0, none⟩) n n]).length (ys ++ [Value.slice (some ⟨g, 0, none⟩) n n]))
    (f5 : ∀ k, v5.ownBlock = some k → vv.ownBlock = some k ∨ (wr.alloc ob).heap.size ≤ k) :
    Nb w5 (w.heap.size + 1) lf kv vv pv ∧ (∀ i, w5.frozen? ⟨w.heap.size + 1, i, none⟩ = false) ∧ Sd w (w5.setCell ⟨w.heap.size + 1, 2, none⟩ v5) lb b0 lf kv v5 pv xs (ys ++ [Value.slice (some ⟨g, 0, none⟩) n n]) ks (vs ++ [a]) ps l := by
  subst hn
  have hsz := h.size
  have hl1 := h.l1
  have hl2 := h.l2
  obtain ⟨a1, a2, a3, a4⟩ := h.gx.app1 hsz g5 o5 f5
  have n8 := gx_not8 h.gx (by decide) (by decide)
  have lo : ∀ i, (i = w.heap.size + 1 ∨ vv.ownBlock = some i) → w.heap.size + 1 ≤ i := fun i q => by
    rcases q with q | q
    · omega
    · have := h.gx.l1 i q; omega
  refine ⟨a1, a2, ⟨a3, (a4.block _ (by omega) (fun q => by have := lo _ q; omega)).trans h.rb, h.e0.keep a4 (fun i q _ => n8.2.1 i q), (h.e1.snoc hb hg).keep a4 (fun i q _ => n8.2.1 i q), h.lf.keep a4 (fun q => by have := lo _ q; omega) (fun q => by have := lo _ q; omega), h.kp.trans a4 (fun i q => .inr (by have := lo _ q; omega)), hl1, hl2⟩⟩
theorem Sd.kid {w wr w5 : World} {lb b0 : Nat} {lf : Bool} {kv vv pv v5 : Value} {xs ys : List Value} {ks vs : List (List UInt8)} {ps : List Int} {l : List UInt8} {z : Int} {ob : Obj} (h : Sd w wr lb b0 lf kv vv pv xs ys ks vs ps l)
    (g5 : (wr.alloc ob).grownBy w5 pv.ownBlock) (o5 : w5.ownsRow 0 63 1 v5 (us ps ++ [Value.int .u32 z]).length (us ps ++ [Value.int .u32 z]))
    (f5 : ∀ k, v5.ownBlock = some k → pv.ownBlock = some k ∨ (wr.alloc ob).heap.size ≤ k) :
    Nb w5 (w.heap.size + 1) lf kv vv pv ∧ (∀ i, w5.frozen? ⟨w.heap.size + 1, i, none⟩ = false) ∧ Sd w (w5.setCell ⟨w.heap.size + 1, 3, none⟩ v5) lb b0 lf kv vv v5 xs ys ks vs (ps ++ [z]) l := by
  have hsz := h.size
  have hl1 := h.l1
  have hl2 := h.l2
  obtain ⟨a1, a2, a3, a4⟩ := h.gx.app2 hsz g5 o5 f5
  have n8 := gx_not8 h.gx (by decide) (by decide)
  have lo : ∀ i, (i = w.heap.size + 1 ∨ pv.ownBlock = some i) → w.heap.size + 1 ≤ i := fun i q => by
    rcases q with q | q
    · omega
    · have := h.gx.l2 i q; omega
  have e : us (ps ++ [z]) = us ps ++ [Value.int .u32 z] := by simp [us]
  refine ⟨a1, a2, ⟨by rw [e]; exact a3, (a4.block _ (by omega) (fun q => by have := lo _ q; omega)).trans h.rb, h.e0.keep a4 (fun i q _ => n8.2.2 i q), h.e1.keep a4 (fun i q _ => n8.2.2 i q), h.lf.keep a4 (fun q => by have := lo _ q; omega) (fun q => by have := lo _ q; omega), h.kp.trans a4 (fun i q => .inr (by have := lo _ q; omega)), hl1, hl2⟩⟩
theorem Sd.below {w wr w2 : World} {lb b0 : Nat} {lf : Bool} {kv vv pv : Value} {xs ys : List Value} {ks vs : List (List UInt8)} {ps : List Int} {l : List UInt8} (h : Sd w wr lb b0 lf kv vv pv xs ys ks vs ps l) (k : Below wr.heap.size wr w2) : Sd w w2 lb b0 lf kv vv pv xs ys ks vs ps l :=
  h.keep (h.lf.below k) (Keep.of_below k)
end Go.Proofs.Ytceoelemlokelaa
