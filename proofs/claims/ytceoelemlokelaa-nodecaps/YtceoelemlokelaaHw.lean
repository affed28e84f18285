/- The document's own Read. -/
import Derived.Test.YtceoelemlokelaaHv
namespace Go.Proofs.Ytceoelemlokelaa
open Go.RowKit

/-- A node as texts that grows in the block b, behind the result's. -/
structure Qd (w wr : World) (b : Nat) (lf : Bool) (kv vv pv : Value) (ks vs : List (List UInt8)) (ps : List Int) : Prop where
  gx : Gx (b + 1) wr b 38 9 lf kv vv pv (svs ks) (svs vs) (us ps)
  rb : wr.heap[w.heap.size]? = some (.cells #[.bool false, .slice none 0 0, .slice none 0 0, .slice none 0 0] 38 (0, 0))
  kp : Below w.heap.size w wr
  lt : w.heap.size < b
theorem Qd.size {w wr : World} {b : Nat} {lf : Bool} {kv vv pv : Value} {ks vs : List (List UInt8)} {ps : List Int} (h : Qd w wr b lf kv vv pv ks vs ps) : b + 1 ≤ wr.heap.size := by
  have := h.gx.blt
  omega
theorem Qd.below {w wr w2 : World} {b : Nat} {lf : Bool} {kv vv pv : Value} {ks vs : List (List UInt8)} {ps : List Int} (h : Qd w wr b lf kv vv pv ks vs ps) (k : Below wr.heap.size wr w2) : Qd w w2 b lf kv vv pv ks vs ps :=
  ⟨h.gx.below k, (k.block _ (by have := h.size; have := h.lt; omega)).trans h.rb, btr h.kp k, h.lt⟩
theorem Qd.rv {w wr W : World} {b : Nat} {lf : Bool} {kv vv pv : Value} {ks vs : List (List UInt8)} {ps : List Int} (h : Qd w wr b lf kv vv pv ks vs ps) (k : Keep (fun i => i = w.heap.size) wr W) : RV W kv vv pv ⟨lf, ks, vs, ps⟩ := by
  have lt := h.lt
  have lo : ∀ (v : Value), (∀ k, v.ownBlock = some k → b + 1 ≤ k) → ∀ i, v.ownBlock = some i → ¬ i = w.heap.size := fun v hv i hi e => by
    have := hv i hi
    omega
  exact ⟨Sts.own (base := 0) (by have := own_keep h.gx.o0 k (lo _ h.gx.l0); rw [svs_length] at this; exact this), Sts.own (base := 0) (by have := own_keep h.gx.o1 k (lo _ h.gx.l1); rw [svs_length] at this; exact this), Nums.own (base := 0) (by have := own_keep h.gx.o2 k (lo _ h.gx.l2); rw [us_length] at this; exact this)⟩
theorem Qd.key {w wr w5 : World} {b : Nat} {lf : Bool} {kv vv pv v5 : Value} {ks vs : List (List UInt8)} {ps : List Int} {l : List UInt8} {ob : Obj} (h : Qd w wr b lf kv vv pv ks vs ps)
    (g5 : (wr.alloc ob).grownBy w5 kv.ownBlock) (o5 : w5.ownsRow 0 9 1 v5 (svs ks ++ [Value.string (str l)]).length (svs ks ++ [Value.string (str l)]))
    (f5 : ∀ k, v5.ownBlock = some k → kv.ownBlock = some k ∨ (wr.alloc ob).heap.size ≤ k) :
    Nb w5 b lf kv vv pv ∧ (∀ i, w5.frozen? ⟨b, i, none⟩ = false) ∧ Qd w (w5.setCell ⟨b, 1, none⟩ v5) b lf v5 vv pv (ks ++ [l]) vs ps := by
  have hsz := h.size
  have hlt := h.lt
  obtain ⟨a1, a2, a3, a4⟩ := h.gx.app0 hsz g5 o5 f5
  have lo : ∀ i, (i = b ∨ kv.ownBlock = some i) → b ≤ i := fun i q => by
    rcases q with q | q
    · omega
    · have := h.gx.l0 i q; omega
  refine ⟨a1, a2, ⟨by rw [svs_snoc]; exact a3, (a4.block _ (by omega) (fun q => by have := lo _ q; omega)).trans h.rb, h.kp.trans (a4.below h.kp.size (fun i q => by have := lo _ q; omega)), hlt⟩⟩
theorem Qd.far0 {w wr : World} {b : Nat} {lf : Bool} {kv vv pv : Value} {ks vs : List (List UInt8)} {ps : List Int} (h : Qd w wr b lf kv vv pv ks vs ps) :
    ∀ W', Keep (fun i => kv.ownBlock = some i) wr W' → Nb W' b lf kv vv pv := fun W' hW => by
  have lo : ∀ i, kv.ownBlock = some i → b + 1 ≤ i := fun i q => h.gx.l0 i q
  exact nb_keep h.gx.nb hW (fun q => by have := lo _ q; omega)
theorem Qd.val {w wr w5 : World} {b : Nat} {lf : Bool} {kv vv pv v5 : Value} {ks vs : List (List UInt8)} {ps : List Int} {l : List UInt8} {ob : Obj} (h : Qd w wr b lf kv vv pv ks vs ps)
    (g5 : (wr.alloc ob).grownBy w5 vv.ownBlock) (o5 : w5.ownsRow 0 9 1 v5 (svs vs ++ [Value.string (str l)]).length (svs vs ++ [Value.string (str l)]))
    (f5 : ∀ k, v5.ownBlock = some k → vv.ownBlock = some k ∨ (wr.alloc ob).heap.size ≤ k) :
    Nb w5 b lf kv vv pv ∧ (∀ i, w5.frozen? ⟨b, i, none⟩ = false) ∧ Qd w (w5.setCell ⟨b, 2, none⟩ v5) b lf kv v5 pv ks (vs ++ [l]) ps := by
  have hsz := h.size
  have hlt := h.lt
  obtain ⟨a1, a2, a3, a4⟩ := h.gx.app1 hsz g5 o5 f5
  have lo : ∀ i, (i = b ∨ vv.ownBlock = some i) → b ≤ i := fun i q => by
    rcases q with q | q
    · omega
    · have := h.gx.l1 i q; omega
  refine ⟨a1, a2, ⟨by rw [svs_snoc]; exact a3, (a4.block _ (by omega) (fun q => by have := lo _ q; omega)).trans h.rb, h.kp.trans (a4.below h.kp.size (fun i q => by have := lo _ q; omega)), hlt⟩⟩
theorem Qd.far1 {w wr : World} {b : Nat} {lf : Bool} {kv vv pv : Value} {ks vs : List (List UInt8)} {ps : List Int} (h : Qd w wr b lf kv vv pv ks vs ps) :
    ∀ W', Keep (fun i => vv.ownBlock = some i) wr W' → Nb W' b lf kv vv pv := fun W' hW => by
  have lo : ∀ i, vv.ownBlock = some i → b + 1 ≤ i := fun i q => h.gx.l1 i q
  exact nb_keep h.gx.nb hW (fun q => by have := lo _ q; omega)
theorem Qd.kid {w wr w5 : World} {b : Nat} {lf : Bool} {kv vv pv v5 : Value} {ks vs : List (List UInt8)} {ps : List Int} {z : Int} {ob : Obj} (h : Qd w wr b lf kv vv pv ks vs ps)
    (g5 : (wr.alloc ob).grownBy w5 pv.ownBlock) (o5 : w5.ownsRow 0 63 1 v5 (us ps ++ [Value.int .u32 z]).length (us ps ++ [Value.int .u32 z]))
    (f5 : ∀ k, v5.ownBlock = some k → pv.ownBlock = some k ∨ (wr.alloc ob).heap.size ≤ k) :
    Nb w5 b lf kv vv pv ∧ (∀ i, w5.frozen? ⟨b, i, none⟩ = false) ∧ Qd w (w5.setCell ⟨b, 3, none⟩ v5) b lf kv vv v5 ks vs (ps ++ [z]) := by
  have hsz := h.size
  have hlt := h.lt
  obtain ⟨a1, a2, a3, a4⟩ := h.gx.app2 hsz g5 o5 f5
  have lo : ∀ i, (i = b ∨ pv.ownBlock = some i) → b ≤ i := fun i q => by
    rcases q with q | q
    · omega
    · have := h.gx.l2 i q; omega
  refine ⟨a1, a2, ⟨by rw [show us (ps ++ [z]) = us ps ++ [Value.int .u32 z] by simp [us]]; exact a3, (a4.block _ (by omega) (fun q => by have := lo _ q; omega)).trans h.rb, h.kp.trans (a4.below h.kp.size (fun i q => by have := lo _ q; omega)), hlt⟩⟩
theorem Qd.far2 {w wr : World} {b : Nat} {lf : Bool} {kv vv pv : Value} {ks vs : List (List UInt8)} {ps : List Int} (h : Qd w wr b lf kv vv pv ks vs ps) :
    ∀ W', Keep (fun i => pv.ownBlock = some i) wr W' → Nb W' b lf kv vv pv := fun W' hW => by
  have lo : ∀ i, pv.ownBlock = some i → b + 1 ≤ i := fun i q => h.gx.l2 i q
  exact nb_keep h.gx.nb hW (fun q => by have := lo _ q; omega)
theorem run_sub (b : List UInt8) (f s : Nat) (z z2 : Int) (hz : z = (f : Int)) (hz2 : z2 = (f : Int) + (s : Int)) (h : f + s ≤ b.length) (W : World) :
    (Instr.slice 9 (.string (str b)) (some (.int .i64 z)) (some (.int .i64 z2)) none).run Try.prog W = .ok (.string (str ((b.drop f).take s))) W := by
  subst hz hz2
  rw [run_slice_string_if (w := W) 9 (str b) .i64 .i64 (f : Int) ((f : Int) + (s : Int)) Try.underlying9]
  rw [if_pos (by rw [str_size]; omega)]
  have e : ((f : Int) + (s : Int)).toNat = f + s := by omega
  rw [e, Int.toNat_natCast, str_extract, Nat.add_sub_cancel_left, if_pos (by omega)]
theorem heap_new (w : World) (o : Obj) : (w.alloc o).heap[w.heap.size]? = some o := by
  show (w.heap.push o)[w.heap.size]? = some o
  simp
theorem rq_fin {w wr : World} {lf : Bool} {kv vv pv : Value} (h : wr.heap[w.heap.size]? = some (.cells #[.bool lf, kv, vv, pv] 38 (0, 0))) (hB : Below w.heap.size w wr) (x0 x1 x2 x3 : Value) :
    ((((wr.setCell ⟨w.heap.size, 0, none⟩ x0).setCell ⟨w.heap.size, 1, none⟩ x1).setCell ⟨w.heap.size, 2, none⟩ x2).setCell ⟨w.heap.size, 3, none⟩ x3).heap[w.heap.size]? = some (.cells #[x0, x1, x2, x3] 38 (0, 0)) ∧
    Below w.heap.size w ((((wr.setCell ⟨w.heap.size, 0, none⟩ x0).setCell ⟨w.heap.size, 1, none⟩ x1).setCell ⟨w.heap.size, 2, none⟩ x2).setCell ⟨w.heap.size, 3, none⟩ x3) := by
  have k : Keep (fun k => k = w.heap.size) wr ((((wr.setCell ⟨w.heap.size, 0, none⟩ x0).setCell ⟨w.heap.size, 1, none⟩ x1).setCell ⟨w.heap.size, 2, none⟩ x2).setCell ⟨w.heap.size, 3, none⟩ x3) :=
    (((((Keep.refl (fun k => k = w.heap.size) wr).setCell (p := ⟨w.heap.size, 0, none⟩) (.inl rfl) x0).setCell (p := ⟨w.heap.size, 1, none⟩) (.inl rfl) x1).setCell (p := ⟨w.heap.size, 2, none⟩) (.inl rfl) x2).setCell (p := ⟨w.heap.size, 3, none⟩) (.inl rfl) x3)
  refine ⟨heap_set (heap_set (heap_set (heap_set h 0 x0) 1 x1) 2 x2) 3 x3, ?_⟩
  exact hB.trans (k.below hB.size (fun i e => by have e : i = w.heap.size := e; omega))
theorem Qd.fin {w wr : World} {b : Nat} {lf : Bool} {kv vv pv : Value} {ks vs : List (List UInt8)} {ps : List Int} (h : Qd w wr b lf kv vv pv ks vs ps) (x0 x1 x2 x3 : Value) :
    RV ((((wr.setCell ⟨w.heap.size, 0, none⟩ x0).setCell ⟨w.heap.size, 1, none⟩ x1).setCell ⟨w.heap.size, 2, none⟩ x2).setCell ⟨w.heap.size, 3, none⟩ x3) kv vv pv ⟨lf, ks, vs, ps⟩ :=
  h.rv (((((Keep.refl (fun k => k = w.heap.size) wr).setCell (p := ⟨w.heap.size, 0, none⟩) (.inl rfl) x0).setCell (p := ⟨w.heap.size, 1, none⟩) (.inl rfl) x1).setCell (p := ⟨w.heap.size, 2, none⟩) (.inl rfl) x2).setCell (p := ⟨w.heap.size, 3, none⟩) (.inl rfl) x3)
theorem count_at (l : List UInt8) (h : 2 ≤ l.length) : N.count l = (l.getD 0 0).toNat * 256 + (l.getD 1 0).toNat := by
  match l, h with
  | a :: b :: r, _ =>
    show valL [a, b] = _
    rw [valL_two]
    rfl
set_option maxRecDepth 100000 in
set_option maxHeartbeats 1600000 in
theorem refread_no (w : World) (kd n : Nat) (k v a b : Int) (sl : ByteArray) (hn : n ≤ 1000000) (hsz : sl.size = n) (hC : a = 0 ∨ (a ≠ 0 ∧ n < 2) ∨ (a ≠ 0 ∧ 2 ≤ n ∧ 500 < n) ∨ (a ≠ 0 ∧ 2 ≤ n ∧ n ≤ 500 ∧ kd ≠ 3 ∧ kd ≠ 4))
    (C0 : Hid (∀ W, Calls Try.prog 8 #[.int .i64 k, .int .i64 v] W fun e w' => e = .returned (.tuple #[.int .i64 a, .int .i64 b]) ∧ Below W.heap.size W w')) :
    Calls Try.prog 18 #[.int .u8 (kd : Int), .string sl, .int .i64 k, .int .i64 v] w fun e w' => e = .returned (.tuple #[nodv false (.slice none 0 0) (.slice none 0 0) (.slice none 0 0), .int .i64 2]) ∧ Below w.heap.size w w' := by
  have HRZ0 : Hid ((w.alloc (.cells #[.bool false, .slice none 0 0, .slice none 0 0, .slice none 0 0] 38)).heap[w.heap.size]? = some (.cells #[.bool false, .slice none 0 0, .slice none 0 0, .slice none 0 0] 38 (0, 0))) := heap_new _ _
  have HA : Hid (Below w.heap.size w (w.alloc (.cells #[.bool false, .slice none 0 0, .slice none 0 0, .slice none 0 0] 38))) := alb _
  go_enter Try.func18, Try.ntmps18
  go_wp2_with fail
  generalize w.alloc (.cells #[.bool false, .slice none 0 0, .slice none 0 0, .slice none 0 0] 38) = w1 at *
  refine (C0.out w1).mono ?_
  rintro e w4 ⟨rfl, hb4⟩
  have HBZ : Hid (Below w.heap.size w w4) := btr HA.out hb4
  have HRZ : Hid (w4.heap[w.heap.size]? = some (.cells #[.bool false, .slice none 0 0, .slice none 0 0, .slice none 0 0] 38 (0, 0))) := (hb4.block _ (Array.getElem?_eq_some_iff.1 HRZ0.out).1).trans HRZ0.out
  obtain ⟨r0, r1, r2, r3⟩ : Nb w4 w.heap.size false (.slice none 0 0) (.slice none 0 0) (.slice none 0 0) := ⟨by rw [cell_of_heap HRZ.out]; rfl, by rw [cell_of_heap HRZ.out]; rfl, by rw [cell_of_heap HRZ.out]; rfl, by rw [cell_of_heap HRZ.out]; rfl⟩
  have fr0 := frozen_of_heap HRZ.out 0
  have fr1 := frozen_of_heap HRZ.out 1
  have fr2 := frozen_of_heap HRZ.out 2
  have fr3 := frozen_of_heap HRZ.out 3
  clear hb4 C0 HA HRZ0
  rcases hC with e1 | ⟨e1, e2⟩ | ⟨e1, e2, e3⟩ | ⟨e1, e2, e3, e4, e5⟩
  · have g1 : (a == 0) = true := by simpa using e1
    clear e1
    go_wp2
    obtain ⟨f1, f2⟩ := rq_fin HRZ.out HBZ.out (.bool false) (.slice none 0 0) (.slice none 0 0) (.slice none 0 0)
    have z0 := cell_of_heap f1 0
    have z1 := cell_of_heap f1 1
    have z2 := cell_of_heap f1 2
    have z3 := cell_of_heap f1 3
    simp at z0 z1 z2 z3
    have HF2 := Lib.hid f2
    clear f1 f2
    generalize (((w4.setCell ⟨w.heap.size, 0, none⟩ (.bool false)).setCell ⟨w.heap.size, 1, none⟩ (.slice none 0 0)).setCell ⟨w.heap.size, 2, none⟩ (.slice none 0 0)).setCell ⟨w.heap.size, 3, none⟩ (.slice none 0 0) = wf at *
    exact bodyPost_ret (v := .tuple #[.agg #[.bool false, .slice none 0 0, .slice none 0 0, .slice none 0 0], .int .i64 2]) (by simp [results, Try.results18, go_sem, z0, z1, z2, z3]) rfl ⟨rfl, HF2.out⟩
  · have g1 : (a == 0) = false := by simpa using e1
    have g2 : (n : Int) < 2 := by omega
    clear e1
    go_wp2
    obtain ⟨f1, f2⟩ := rq_fin HRZ.out HBZ.out (.bool false) (.slice none 0 0) (.slice none 0 0) (.slice none 0 0)
    have z0 := cell_of_heap f1 0
    have z1 := cell_of_heap f1 1
    have z2 := cell_of_heap f1 2
    have z3 := cell_of_heap f1 3
    simp at z0 z1 z2 z3
    have HF2 := Lib.hid f2
    clear f1 f2
    generalize (((w4.setCell ⟨w.heap.size, 0, none⟩ (.bool false)).setCell ⟨w.heap.size, 1, none⟩ (.slice none 0 0)).setCell ⟨w.heap.size, 2, none⟩ (.slice none 0 0)).setCell ⟨w.heap.size, 3, none⟩ (.slice none 0 0) = wf at *
    exact bodyPost_ret (v := .tuple #[.agg #[.bool false, .slice none 0 0, .slice none 0 0, .slice none 0 0], .int .i64 2]) (by simp [results, Try.results18, go_sem, z0, z1, z2, z3]) rfl ⟨rfl, HF2.out⟩
  · have g1 : (a == 0) = false := by simpa using e1
    have g2 : ¬ (n : Int) < 2 := by omega
    have g3 : 500 < (n : Int) := by omega
    clear e1
    go_wp2
    obtain ⟨f1, f2⟩ := rq_fin HRZ.out HBZ.out (.bool false) (.slice none 0 0) (.slice none 0 0) (.slice none 0 0)
    have z0 := cell_of_heap f1 0
    have z1 := cell_of_heap f1 1
    have z2 := cell_of_heap f1 2
    have z3 := cell_of_heap f1 3
    simp at z0 z1 z2 z3
    have HF2 := Lib.hid f2
    clear f1 f2
    generalize (((w4.setCell ⟨w.heap.size, 0, none⟩ (.bool false)).setCell ⟨w.heap.size, 1, none⟩ (.slice none 0 0)).setCell ⟨w.heap.size, 2, none⟩ (.slice none 0 0)).setCell ⟨w.heap.size, 3, none⟩ (.slice none 0 0) = wf at *
    exact bodyPost_ret (v := .tuple #[.agg #[.bool false, .slice none 0 0, .slice none 0 0, .slice none 0 0], .int .i64 2]) (by simp [results, Try.results18, go_sem, z0, z1, z2, z3]) rfl ⟨rfl, HF2.out⟩
  · have g1 : (a == 0) = false := by simpa using e1
    have g2 : ¬ (n : Int) < 2 := by omega
    have g3 : ¬ 500 < (n : Int) := by omega
    have g4 : ((kd : Int) != 3) = true := by rw [bne_iff_ne]; omega
    have g5 : ((kd : Int) != 4) = true := by rw [bne_iff_ne]; omega
    clear e1 e4 e5
    go_wp2
    obtain ⟨f1, f2⟩ := rq_fin HRZ.out HBZ.out (.bool false) (.slice none 0 0) (.slice none 0 0) (.slice none 0 0)
    have z0 := cell_of_heap f1 0
    have z1 := cell_of_heap f1 1
    have z2 := cell_of_heap f1 2
    have z3 := cell_of_heap f1 3
    simp at z0 z1 z2 z3
    have HF2 := Lib.hid f2
    clear f1 f2
    generalize (((w4.setCell ⟨w.heap.size, 0, none⟩ (.bool false)).setCell ⟨w.heap.size, 1, none⟩ (.slice none 0 0)).setCell ⟨w.heap.size, 2, none⟩ (.slice none 0 0)).setCell ⟨w.heap.size, 3, none⟩ (.slice none 0 0) = wf at *
    exact bodyPost_ret (v := .tuple #[.agg #[.bool false, .slice none 0 0, .slice none 0 0, .slice none 0 0], .int .i64 2]) (by simp [results, Try.results18, go_sem, z0, z1, z2, z3]) rfl ⟨rfl, HF2.out⟩
end Go.Proofs.Ytceoelemlokelaa
