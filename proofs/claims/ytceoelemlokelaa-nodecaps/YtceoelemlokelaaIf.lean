/- NodeCaps: its keys as mathematics; its node as it grows. -/
import Derived.Test.YtceoelemlokelaaIa
import Derived.Test.YtceoelemlokelaaLy
namespace Go.Proofs.Ytceoelemlokelaa
open Go.RowKit
open Lib (compareBytes)

/-- The i-th key that the statement makes. -/
def xK (k i : Nat) : List UInt8 := if k = 1 then [UInt8.ofNat i] else UInt8.ofNat (i / 256) :: UInt8.ofNat i :: List.replicate (k - 2) 0
theorem xK_length (k i : Nat) (h : 1 ≤ k) : (xK k i).length = k := by
  unfold xK
  split
  · simp; omega
  · simp; omega
def keysC (k m : Nat) : List (List UInt8) := (List.range m).map (xK k)
def valsC (v m : Nat) : List (List UInt8) := (List.range m).map fun _ => List.replicate v 0
theorem keysC_length (k m : Nat) : (keysC k m).length = m := by simp [keysC]
theorem valsC_length (v m : Nat) : (valsC v m).length = m := by simp [valsC]
theorem keysC_next (k m : Nat) : keysC k (m + 1) = keysC k m ++ [xK k m] := by simp [keysC, List.range_succ]
theorem valsC_next (v m : Nat) : valsC v (m + 1) = valsC v m ++ [List.replicate v 0] := by simp [valsC, List.range_succ]
theorem keysC_get (k m j : Nat) (h : j < m) : (keysC k m).getD j [] = xK k j := by simp [keysC, List.getD, h]
theorem keysC_take (k m n : Nat) (h : n ≤ m) : (keysC k m).take n = keysC k n := by
  unfold keysC
  rw [← List.map_take, List.take_range, Nat.min_eq_left h]
theorem valsC_take (v m n : Nat) (h : n ≤ m) : (valsC v m).take n = valsC v n := by
  unfold valsC
  rw [← List.map_take, List.take_range, Nat.min_eq_left h]
theorem xK_lt (k i : Nat) (h : k = 1 → i + 1 < 256) (hi : i + 1 < 65536) : compareBytes (xK k i) (xK k (i + 1)) < 0 := by
  unfold xK
  by_cases hk : k = 1
  · have := h hk
    rw [if_pos hk, if_pos hk]
    unfold compareBytes
    have e : UInt8.ofNat i < UInt8.ofNat (i + 1) := by
      rw [UInt8.lt_iff_toNat_lt, UInt8.toNat_ofNat', UInt8.toNat_ofNat']
      omega
    rw [if_pos e]
    omega
  · rw [if_neg hk, if_neg hk]
    unfold compareBytes
    by_cases e : i / 256 < (i + 1) / 256
    · have e1 : UInt8.ofNat (i / 256) < UInt8.ofNat ((i + 1) / 256) := by
        rw [UInt8.lt_iff_toNat_lt, UInt8.toNat_ofNat', UInt8.toNat_ofNat']
        omega
      rw [if_pos e1]
      omega
    · have e0 : i / 256 = (i + 1) / 256 := by omega
      have e1 : ¬ UInt8.ofNat ((i + 1) / 256) < UInt8.ofNat ((i + 1) / 256) := fun c => by
        have := UInt8.lt_iff_toNat_lt.1 c
        omega
      rw [e0, if_neg e1, if_neg e1]
      unfold compareBytes
      have e2 : UInt8.ofNat i < UInt8.ofNat (i + 1) := by
        rw [UInt8.lt_iff_toNat_lt, UInt8.toNat_ofNat', UInt8.toNat_ofNat']
        omega
      rw [if_pos e2]
      omega
theorem caps_more (k v : Int) (a kn vn : Nat) (ha : N.capA k v = a) : N.right ⟨true, keysC kn (a + 1), valsC vn (a + 1), []⟩ k v = false := by
  refine Bool.eq_false_iff.2 fun h => ?_
  obtain ⟨_, _, _, _, h5⟩ := N.right_parts h
  rcases h5 with ⟨_, hm, _⟩ | ⟨q, _⟩
  · have h2 : 1 ≤ (keysC kn (a + 1)).length ∧ (((keysC kn (a + 1)).length : Nat) : Int) ≤ N.capA k v := by simpa [N.may] using hm
    rw [keysC_length, ha] at h2
    omega
  · cases q
theorem caps_right (k v : Int) (a kn vn : Nat) (hk : k = kn) (hv : v = vn) (ha : N.capA k v = a) (h1 : 1 ≤ a) (h5 : a ≤ 498) (hk1 : 1 ≤ kn) (h : kn = 1 → a ≤ 256) : N.right ⟨true, keysC kn a, valsC vn a, []⟩ k v = true := by
  unfold N.right
  have r1 : N.rises (keysC kn a) = true := (rises_iff _).2 fun j hj => by
    rw [keysC_length] at hj
    rw [keysC_get kn a j (by omega), keysC_get kn a (j + 1) hj]
    exact xK_lt kn j (fun e => by have := h e; omega) (by omega)
  have r2 : N.allLen (keysC kn a) k = true := by
    unfold N.allLen
    rw [List.all_eq_true]
    intro b hb
    obtain ⟨j, _, rfl⟩ := List.mem_map.1 hb
    rw [xK_length kn j hk1, hk]
    simp
  have r3 : N.allLen (valsC vn a) v = true := by
    unfold N.allLen
    rw [List.all_eq_true]
    intro b hb
    obtain ⟨j, _, rfl⟩ := List.mem_map.1 hb
    rw [List.length_replicate, hv]
    simp
  simp only [r1, r2, r3, keysC_length, valsC_length, Bool.true_and]
  unfold N.onD N.may
  simp
  omega
theorem Brs.cut {w : World} {A : Option Addr} {n c m : Nat} {ls : List (List UInt8)} (h : Brs w (.slice A n c) ls) (hm : m ≤ n) : Brs w (.slice A m c) (ls.take m) := by
  obtain ⟨A2, c2, e, hc, hx, h⟩ := h
  cases e
  have hl : (ls.take m).length = m := by rw [List.length_take]; omega
  refine ⟨_, _, by rw [hl], by rw [hl]; omega, hx, fun hp => ?_⟩
  rw [hl] at hp
  obtain ⟨b, off, rfl, hc2⟩ := h (by omega)
  refine ⟨b, off, rfl, fun j hj => ?_⟩
  rw [hl] at hj
  obtain ⟨u, h3, h4⟩ := hc2 j (by omega)
  exact ⟨u, h3, by rw [show (ls.take m).getD j [] = ls.getD j [] by simp [List.getD, hj]]; exact h4⟩
/-- The node that the statement makes, as it grows in the block b. -/
structure Cd (w wr : World) (b : Nat) (kv vv : Value) (xs ys : List Value) (ks vs : List (List UInt8)) : Prop where
  gx : Gx (b + 1) wr b 28 29 true kv vv (.slice none 0 0) xs ys []
  e0 : Els (b + 1) wr xs ks
  e1 : Els (b + 1) wr ys vs
  kp : Below w.heap.size w wr
  lt : w.heap.size ≤ b
theorem Cd.below {w wr w2 : World} {b : Nat} {kv vv : Value} {xs ys : List Value} {ks vs : List (List UInt8)} (h : Cd w wr b kv vv xs ys ks vs) (k : Below wr.heap.size wr w2) : Cd w w2 b kv vv xs ys ks vs :=
  ⟨h.gx.below k, h.e0.below k, h.e1.below k, btr h.kp k, h.lt⟩
theorem Cd.size {w wr : World} {b : Nat} {kv vv : Value} {xs ys : List Value} {ks vs : List (List UInt8)} (h : Cd w wr b kv vv xs ys ks vs) : b + 1 ≤ wr.heap.size := by
  have := h.gx.blt
  omega
/-- Both rows have one more; the box bears them. -/
theorem Cd.both {w wr w5 : World} {b g3 g8 n3 n8 : Nat} {kv vv kv5 vv5 : Value} {xs ys : List Value} {ks vs : List (List UInt8)} {x y : List UInt8} (h : Cd w wr b kv vv xs ys ks vs)
    (K : Keep (fun i => kv.ownBlock = some i ∨ vv.ownBlock = some i) wr w5)
    (hx : Bk w5 g3 x) (hn3 : x.length = n3) (hg3 : b + 1 ≤ g3) (hy : Bk w5 g8 y) (hn8 : y.length = n8) (hg8 : b + 1 ≤ g8)
    (o4 : w5.ownsRow 0 29 1 kv5 (xs.length + 1) (xs ++ [Value.slice (some ⟨g3, 0, none⟩) n3 n3])) (f4 : ∀ k, kv5.ownBlock = some k → kv.ownBlock = some k ∨ wr.heap.size ≤ k)
    (o10 : w5.ownsRow 0 29 1 vv5 (ys.length + 1) (ys ++ [Value.slice (some ⟨g8, 0, none⟩) n8 n8])) (f10 : ∀ k, vv5.ownBlock = some k → vv.ownBlock = some k ∨ wr.heap.size ≤ k)
    (d : ∀ k, kv5.ownBlock = some k → vv5.ownBlock = some k → False) :
    Cd w ((w5.setCell ⟨b, 1, none⟩ kv5).setCell ⟨b, 2, none⟩ vv5) b kv5 vv5 (xs ++ [Value.slice (some ⟨g3, 0, none⟩) n3 n3]) (ys ++ [Value.slice (some ⟨g8, 0, none⟩) n8 n8]) (ks ++ [x]) (vs ++ [y]) := by
  subst hn3 hn8
  have hsz := h.size
  have hbl := h.gx.blt
  have lk : ∀ k, kv5.ownBlock = some k → b + 1 ≤ k := fun k hk => by
    rcases f4 k hk with q | q
    · exact h.gx.l0 k q
    · omega
  have lv : ∀ k, vv5.ownBlock = some k → b + 1 ≤ k := fun k hk => by
    rcases f10 k hk with q | q
    · exact h.gx.l1 k q
    · omega
  have hbox : w5.heap[b]? = some (.cells #[.bool true, kv, vv, .slice none 0 0] 28 (0, 0)) := (K.block b hbl (fun q => by
    rcases q with q | q
    · have := h.gx.l0 b q; omega
    · have := h.gx.l1 b q; omega)).trans h.gx.box
  have n8 := gx_not8 h.gx (by decide) (by decide)
  have not8 : ∀ i, (kv.ownBlock = some i ∨ vv.ownBlock = some i) → b + 1 ≤ i → ∀ cur, wr.heap[i]? ≠ some (.cells cur 5 (0, 0)) := fun i q _ => by
    rcases q with q | q
    · exact n8.1 i (.inr q)
    · exact n8.2.1 i (.inr q)
  have ks2 : Keep (fun i => i = b) w5 ((w5.setCell ⟨b, 1, none⟩ kv5).setCell ⟨b, 2, none⟩ vv5) := ((Keep.refl (fun i => i = b) w5).setCell (p := ⟨b, 1, none⟩) (.inl rfl) kv5).setCell (p := ⟨b, 2, none⟩) (.inl rfl) vv5
  have set := heap_set (heap_set hbox 1 kv5) 2 vv5
  have e0 := ((h.e0.keep K not8).snoc hx hg3).keep ks2 (fun i q hi cur => by have e : i = b := q; omega)
  have e1 := ((h.e1.keep K not8).snoc hy hg8).keep ks2 (fun i q hi cur => by have e : i = b := q; omega)
  refine ⟨⟨set, own_keep (by rw [List.length_append]; exact o4) ks2 (fun k hk e => by have := lk k hk; have e : k = b := e; omega), own_keep (by rw [List.length_append]; exact o10) ks2 (fun k hk e => by have := lv k hk; have e : k = b := e; omega), World.ownsRow_nil _ _ _ _, lk, lv, h.gx.l2, d, fun k _ q => by simp [Value.ownBlock] at q, fun k _ q => by simp [Value.ownBlock] at q, by omega⟩, e0, e1, ?_, h.lt⟩
  exact (h.kp.trans (K.below h.kp.size (fun i q => by
    have := h.lt
    rcases q with q | q
    · have := h.gx.l0 i q; omega
    · have := h.gx.l1 i q; omega))).trans (ks2.below (Nat.le_trans h.kp.size K.size) (fun i q => by have := h.lt; have e : i = b := q; omega))
theorem Cd.nv {w wr : World} {b : Nat} {kv vv : Value} {xs ys : List Value} {ks vs : List (List UInt8)} (h : Cd w wr b kv vv xs ys ks vs) : NV wr kv vv (.slice none 0 0) ⟨true, ks, vs, []⟩ := ⟨h.e0.brs h.gx.o0, h.e1.brs h.gx.o1, Nums.nil wr⟩
theorem Cd.cap0 {w wr : World} {b g n p : Nat} {vv : Value} {xs ys : List Value} {ks vs : List (List UInt8)} (h : Cd w wr b (.slice (some ⟨g, 0, none⟩) n p) vv xs ys ks vs) : n ≤ p := by
  obtain ⟨A, c, e, hc, _⟩ := h.nv.keys
  cases e
  exact hc
theorem Cd.cap1 {w wr : World} {b g n p : Nat} {kv : Value} {xs ys : List Value} {ks vs : List (List UInt8)} (h : Cd w wr b kv (.slice (some ⟨g, 0, none⟩) n p) xs ys ks vs) : n ≤ p := by
  obtain ⟨A, c, e, hc, _⟩ := h.nv.vals
  cases e
  exact hc
theorem run_cutA (A : Option Addr) (k c n : Nat) (hn : n ≤ c) (W : World) : (Instr.slice 25 (.slice A k c) none (some (.int .i64 (n : Int))) none).run Try.prog W = .ok (.slice A n c) W := by
  rw [run_slice_h (w := W) 25 A k c Try.underlying25 .i64 (n : Int) (by omega) (by omega)]
  have e : (sizeOf (Try.prog.elem 25)).run Try.prog W = .ok 1 W := by kernel_rfl
  rw [e]
  simp only [Result.andThen, sliced, Nat.zero_mul, Int.toNat_natCast, Nat.sub_zero]
  congr 2
  split
  · rfl
  · cases A with
    | none => rfl
    | some a => simp [Addr.add]
theorem run_cutR (g k c n : Nat) (hn : n ≤ c) (W : World) : (Instr.slice 25 (.slice (some ⟨g, 0, none⟩) k c) none (some (.int .i64 (n : Int))) none).run Try.prog W = .ok (.slice (some ⟨g, 0, none⟩) n c) W := run_cutA _ k c n hn W
/-- Both slices cut. -/
theorem Cd.cut {w wr : World} {b g1 g2 a p1 p2 kn vn : Nat} {xs ys : List Value} (h : Cd w wr b (.slice (some ⟨g1, 0, none⟩) (a + 1) p1) (.slice (some ⟨g2, 0, none⟩) (a + 1) p2) xs ys (keysC kn (a + 1)) (valsC vn (a + 1))) (m : Nat) (hm : m ≤ a + 1) (x1 x2 : Value) :
    Nb ((wr.setCell ⟨b, 1, none⟩ x1).setCell ⟨b, 2, none⟩ x2) b true x1 x2 (.slice none 0 0) ∧ NV ((wr.setCell ⟨b, 1, none⟩ x1).setCell ⟨b, 2, none⟩ x2) (.slice (some ⟨g1, 0, none⟩) m p1) (.slice (some ⟨g2, 0, none⟩) m p2) (.slice none 0 0) ⟨true, keysC kn m, valsC vn m, []⟩ ∧ Below w.heap.size w ((wr.setCell ⟨b, 1, none⟩ x1).setCell ⟨b, 2, none⟩ x2) := by
  have k : Keep (fun i => i = b) wr ((wr.setCell ⟨b, 1, none⟩ x1).setCell ⟨b, 2, none⟩ x2) := ((Keep.refl (fun i => i = b) wr).setCell (p := ⟨b, 1, none⟩) (.inl rfl) x1).setCell (p := ⟨b, 2, none⟩) (.inl rfl) x2
  have set := heap_set (heap_set h.gx.box 1 x1) 2 x2
  have e0 := h.e0.keep k (fun i q hi cur => by have e : i = b := q; omega)
  have e1 := h.e1.keep k (fun i q hi cur => by have e : i = b := q; omega)
  have o0 := own_keep h.gx.o0 k (fun i hi q => by have := h.gx.l0 i hi; have e : i = b := q; omega)
  have o1 := own_keep h.gx.o1 k (fun i hi q => by have := h.gx.l1 i hi; have e : i = b := q; omega)
  refine ⟨⟨by rw [cell_of_heap set]; rfl, by rw [cell_of_heap set]; rfl, by rw [cell_of_heap set]; rfl, by rw [cell_of_heap set]; rfl⟩, ⟨?_, ?_, Nums.nil _⟩, h.kp.trans (k.below h.kp.size (fun i q => by have e : i = b := q; have := h.lt; omega))⟩
  · have := (e0.brs o0).cut hm
    rw [keysC_take kn (a + 1) m hm] at this
    exact this
  · have := (e1.brs o1).cut hm
    rw [valsC_take vn (a + 1) m hm] at this
    exact this
end Go.Proofs.Ytceoelemlokelaa
