/- Supers held against each other: equal ones; and the chapter's example. -/
import Derived.Test.YtbffpgndjbpifaaDoorUe
import Derived.ChangeKeysEq
import Derived.Lib.SlBytesConst
namespace Go.Proofs.YtbffpgndjbpifaaDoor
open Go.RowKit

theorem eqFields_self {P : Program} (d : Nat) (xs : Array Value) (w : World) : ∀ fs : List Field, (∀ f ∈ fs, ∃ a, (part f.type xs f.offset).run P w = .ok a w ∧ (Op.equalIn d f.type a a).run P w = .ok true w) →
    (Op.eqFields d xs xs fs).run P w = .ok true w
  | [], _ => by simp [Op.eqFields]
  | f :: fs, h => by
    obtain ⟨a, h1, h2⟩ := h f (by simp)
    have ih := eqFields_self d xs w fs (fun g hg => h g (by simp [hg]))
    simp only [Op.eqFields, Sem.run_ite, Sem.run_bind, h1, h2, Result.andThen_ok]
    split
    · simpa using ih
    · exact ih
theorem eqItems_self {P : Program} (d : Nat) (e : TypeId) (c : Nat) (xs : Array Value) (w : World) : ∀ is : List Nat, (∀ i ∈ is, ∃ a, (part e xs (i * c)).run P w = .ok a w ∧ (Op.equalIn d e a a).run P w = .ok true w) →
    (Op.eqItems d e c xs xs is).run P w = .ok true w
  | [], _ => by simp [Op.eqItems]
  | i :: is, h => by
    obtain ⟨a, h1, h2⟩ := h i (by simp)
    have ih := eqItems_self d e c xs w is (fun g hg => h g (by simp [hg]))
    simp only [Op.eqItems, Sem.run_bind, h1, h2, Result.andThen_ok]
    simpa using ih
theorem of_map {Q : TypeId → Nat → Prop} {fs : List Field} {L : List (TypeId × Nat)} (h : fs.map (fun f => (f.type, f.offset)) = L) (hL : ∀ p ∈ L, Q p.1 p.2) : ∀ f ∈ fs, Q f.type f.offset := fun f hf => hL (f.type, f.offset) (by rw [← h]; exact List.mem_map.2 ⟨f, hf, rfl⟩)
theorem Tryd.fieldsS : (Tryd.prog.fieldsOf 28).toList.map (fun f => (f.type, f.offset)) = [(22, 0), (23, 1), (23, 2), (23, 3), (26, 4)] := by kernel_rfl
theorem Tryd.fieldsR : (Tryd.prog.fieldsOf 25).toList.map (fun f => (f.type, f.offset)) = [(23, 0), (23, 1), (23, 2)] := by kernel_rfl
theorem Tryd.structS : Tryd.prog.underlying 28 = some (.struct (Tryd.prog.fieldsOf 28)) := by kernel_rfl
theorem Tryd.structR : Tryd.prog.underlying 25 = some (.struct (Tryd.prog.fieldsOf 25)) := by kernel_rfl
theorem Tryd.stoodS : Tryd.prog.stoodInHeld 28 = false := by kernel_rfl
theorem Tryd.stoodR : Tryd.prog.stoodInHeld 25 = false := by kernel_rfl
theorem Tryd.infoR : ∃ i, Tryd.prog.info? 25 = some i := by
  have := Tryd.sizeRI
  cases h : Tryd.prog.info? 25 with
  | none => rw [h] at this; simp at this
  | some i => exact ⟨i, rfl⟩
theorem Tryd.cellsR : Tryd.prog.cellsOf 25 = 3 := by kernel_rfl
theorem Tryd.flat64 : ∀ w : World, (isAgg 22).run Tryd.prog w = .ok false w := fun _ => by kernel_rfl
theorem Tryd.flat32 : ∀ w : World, (isAgg 23).run Tryd.prog w = .ok false w := fun _ => by kernel_rfl
theorem Tryd.aggA : ∀ w : World, (isAgg 26).run Tryd.prog w = .ok true w := fun _ => by kernel_rfl
theorem Tryd.sizeAW : ∀ w : World, (sizeOf 26).run Tryd.prog w = .ok 24 w := fun _ => by kernel_rfl
theorem part_u32 (xs : Array Value) (o : Nat) (v : Value) (h : xs[o]? = some v) (w : World) : (part 23 xs o).run Tryd.prog w = .ok v w := by
  simp only [part, Sem.run_bind, Tryd.flat32, Result.andThen_ok, Bool.false_eq_true, if_false, h, Sem.run_pure]
theorem part_u64 (xs : Array Value) (o : Nat) (v : Value) (h : xs[o]? = some v) (w : World) : (part 22 xs o).run Tryd.prog w = .ok v w := by
  simp only [part, Sem.run_bind, Tryd.flat64, Result.andThen_ok, Bool.false_eq_true, if_false, h, Sem.run_pure]
theorem eq_u32 (d : Nat) (x : Int) (w : World) : (Op.equalIn (d + 1) 23 (.int .u32 x) (.int .u32 x)).run Tryd.prog w = .ok true w := by
  rw [run_equalIn_int w d 23 .u32 .u32 x x Tryd.underlying23]
  simp
theorem eq_u64 (d : Nat) (x : Int) (w : World) : (Op.equalIn (d + 1) 22 (.int .u64 x) (.int .u64 x)).run Tryd.prog w = .ok true w := by
  rw [run_equalIn_int w d 22 .u64 .u64 x x Tryd.underlying22]
  simp
theorem eq_root (d : Nat) (x y z : Int) (w : World) : (Op.equalIn (d + 2) 25 (.agg #[.int .u32 x, .int .u32 y, .int .u32 z]) (.agg #[.int .u32 x, .int .u32 y, .int .u32 z])).run Tryd.prog w = .ok true w := by
  rw [run_equalIn_struct w (d + 1) 25 _ _ Tryd.structR Tryd.stoodR]
  refine eqFields_self (d + 1) _ w _ (of_map (Q := fun t o => ∃ a, (part t #[.int .u32 x, .int .u32 y, .int .u32 z] o).run Tryd.prog w = .ok a w ∧ (Op.equalIn (d + 1) t a a).run Tryd.prog w = .ok true w) Tryd.fieldsR ?_)
  intro p hp
  simp only [List.mem_cons, List.not_mem_nil, or_false] at hp
  rcases hp with rfl | rfl | rfl
  · exact ⟨_, part_u32 _ _ _ rfl w, eq_u32 d x w⟩
  · exact ⟨_, part_u32 _ _ _ rfl w, eq_u32 d y w⟩
  · exact ⟨_, part_u32 _ _ _ rfl w, eq_u32 d z w⟩
theorem part_root (q : Nat) (r : List Nat) (hr : r.length = 27) (i : Nat) (hi : i < 8) (w : World) : ∃ x y z : Int, (part 25 ((svs q r).drop 4).toArray (i * 3)).run Tryd.prog w = .ok (.agg #[.int .u32 x, .int .u32 y, .int .u32 z]) w := by
  have h := run_index_root q r hr i hi w
  have h2 : (0 : Int) ≤ (i : Int) ∧ (i : Int) < (8 : Nat) := by omega
  simp only [Instr.index, asIntOf, Sem.run_bind, Sem.run_pure, Result.andThen_ok, run_underlying Tryd.underlying26, if_pos h2, Tryd.sizeR, Int.toNat_natCast] at h
  exact ⟨_, _, _, h⟩
theorem eq_roots (d q : Nat) (r : List Nat) (hr : r.length = 27) (w : World) : (Op.equalIn (d + 3) 26 (.agg ((svs q r).drop 4).toArray) (.agg ((svs q r).drop 4).toArray)).run Tryd.prog w = .ok true w := by
  obtain ⟨i, hi⟩ := Tryd.infoR
  rw [run_equalIn_array w (d + 2) _ _ Tryd.underlying26 hi, Tryd.cellsR]
  refine eqItems_self (d + 2) _ 3 _ w _ (fun i hi => ?_)
  obtain ⟨x, y, z, h⟩ := part_root q r hr i (List.mem_range.1 hi) w
  exact ⟨_, h, eq_root d x y z w⟩
theorem sva_get (q : Nat) (r : List Nat) (i : Nat) (h : i < r.length) : (sva q r)[i + 1]? = some (.int .u32 ((r[i] : Nat) : Int)) := by
  rw [sva, List.getElem?_toArray]
  exact svs_get q r i h
theorem part_roots (q : Nat) (r : List Nat) (hr : r.length = 27) (w : World) : (part 26 (sva q r) 4).run Tryd.prog w = .ok (.agg ((svs q r).drop 4).toArray) w := by
  have hl := svs_length (q := q) hr
  have e : (sva q r).extract 4 (4 + 24) = ((svs q r).drop 4).toArray := by
    rw [sva, List.extract_toArray, List.extract_eq_take_drop, List.take_of_length_le (by rw [List.length_drop]; omega)]
  simp only [part, Sem.run_bind, Tryd.aggA, Result.andThen_ok, if_true, Tryd.sizeAW, Sem.run_pure, e]
theorem eq_sup (d q : Nat) (r : List Nat) (hr : r.length = 27) (w : World) : (Op.equalIn (d + 4) 28 (.agg (sva q r)) (.agg (sva q r))).run Tryd.prog w = .ok true w := by
  rw [run_equalIn_struct w (d + 3) 28 _ _ Tryd.structS Tryd.stoodS]
  refine eqFields_self (d + 3) _ w _ (of_map (Q := fun t o => ∃ a, (part t (sva q r) o).run Tryd.prog w = .ok a w ∧ (Op.equalIn (d + 3) t a a).run Tryd.prog w = .ok true w) Tryd.fieldsS ?_)
  intro p hp
  simp only [List.mem_cons, List.not_mem_nil, or_false] at hp
  rcases hp with rfl | rfl | rfl | rfl | rfl
  · exact ⟨_, part_u64 _ _ _ rfl w, eq_u64 (d + 2) _ w⟩
  · exact ⟨_, part_u32 _ _ _ (sva_get q r 0 (by omega)) w, eq_u32 (d + 2) _ w⟩
  · exact ⟨_, part_u32 _ _ _ (sva_get q r 1 (by omega)) w, eq_u32 (d + 2) _ w⟩
  · exact ⟨_, part_u32 _ _ _ (sva_get q r 2 (by omega)) w, eq_u32 (d + 2) _ w⟩
  · exact ⟨_, part_roots q r hr w, eq_roots d q r hr w⟩
theorem eqg_sup : Tryd.prog.eqGuardType Tryd.prog.depth 28 = false := by kernel_rfl
theorem run_eql_sup (q : Nat) (r : List Nat) (hr : r.length = 27) (w : World) : (binOp .eql 28 (.agg (sva q r)) (.agg (sva q r))).run Tryd.prog w = .ok (.bool true) w := by
  rw [run_eql_struct, eq_sup 9996 q r hr w]
  rfl
theorem run_neq_sup (q : Nat) (r : List Nat) (hr : r.length = 27) (w : World) : (binOp .neq 28 (.agg (sva q r)) (.agg (sva q r))).run Tryd.prog w = .ok (.bool false) w := by
  rw [run_neq_struct, eq_sup 9996 q r hr w]
  rfl
theorem run_loadAt_sup {w : World} {b q : Nat} {r : List Nat} (h : Sup w b q r) : (Instr.loadAt 28 (.pointer (some ⟨b, 0, none⟩))).run Tryd.prog w = .ok (.agg (sva q r)) w :=
  run_loadAt_mid w b 0 28 (svs q r) _ h.1 Tryd.underlying28 rfl (info_svs h.2.2)
theorem wpList_wants {P : Program} {ops : Array Oper} {Q : Exit → Act → World → Prop} {a : Act} {w : World} {rest : List Oper} {o : Oper} (hw : Region.wanted o (yielded ops a.tmps) = true)
    (h : ∀ K : Act → World → Prop, (∀ a w, wpList P ops Q rest a w → K a w) → o.wp P a w K Q) : wpList P ops Q (o :: rest) a w := wpList_step fun K hK => by rw [if_pos hw]; exact h K hK
theorem wpList_load_supG {ops : Array Oper} {rest : List Oper} {op : Oper} {a : Act} {w : World} {Q : Exit → Act → World → Prop} (hw : Region.wanted op (yielded ops a.tmps) = true) (x : Operand) (ho : op.op = .load 28 x)
    (b q : Nat) (r : List Nat) (hx : a.eval x = .pointer (some ⟨b, 0, none⟩)) (hs : Sup w b q r) (h : wpList Tryd.prog ops Q rest (a.put op.dst (.agg (sva q r))) w) : wpList Tryd.prog ops Q (op :: rest) a w :=
  wpList_wants hw fun _ hK => wp_load_mid 28 x ho b 0 hx (svs q r) _ hs.1 Tryd.underlying28 rfl (info_svs hs.2.2) (hK _ _ h)
theorem wpList_eql_sup {ops : Array Oper} {rest : List Oper} {op : Oper} {a : Act} {w : World} {Q : Exit → Act → World → Prop} (hw : Region.wanted op (yielded ops a.tmps) = true) (x y : Operand) (ho : op.op = .binOp .eql 28 x y 28)
    (q : Nat) (r : List Nat) (hx : a.eval x = .agg (sva q r)) (hy : a.eval y = .agg (sva q r)) (hr : r.length = 27) (h : wpList Tryd.prog ops Q rest (a.put op.dst (.bool true)) w) : wpList Tryd.prog ops Q (op :: rest) a w :=
  wpList_wants hw fun _ hK => by
    unfold Oper.wp execOp
    simp only [ho, hx, hy, Sem.run_bind, run_eqGuard_agg w _ _ _ _ _ _ eqg_sup, Result.andThen_ok, run_eql_sup q r hr w, Sem.run_pure]
    exact hK _ _ h
theorem wpList_neq_sup {ops : Array Oper} {rest : List Oper} {op : Oper} {a : Act} {w : World} {Q : Exit → Act → World → Prop} (hw : Region.wanted op (yielded ops a.tmps) = true) (x y : Operand) (ho : op.op = .binOp .neq 28 x y 28)
    (q : Nat) (r : List Nat) (hx : a.eval x = .agg (sva q r)) (hy : a.eval y = .agg (sva q r)) (hr : r.length = 27) (h : wpList Tryd.prog ops Q rest (a.put op.dst (.bool false)) w) : wpList Tryd.prog ops Q (op :: rest) a w :=
  wpList_wants hw fun _ hK => by
    unfold Oper.wp execOp
    simp only [ho, hx, hy, Sem.run_bind, run_eqGuard_agg w _ _ _ _ _ _ eqg_sup, Result.andThen_ok, run_neq_sup q r hr w, Sem.run_pure]
    exact hK _ _ h

/-- The chapter's example. -/
def r9 : List Nat := 9 :: List.replicate 26 0
def anyL : List UInt8 := [97, 110, 121, 116, 104, 105, 110, 103, 32, 101, 108, 115, 101]
def anyC : Array Value := #[.int .u8 97, .int .u8 110, .int .u8 121, .int .u8 116, .int .u8 104, .int .u8 105, .int .u8 110, .int .u8 103, .int .u8 32, .int .u8 101, .int .u8 108, .int .u8 115, .int .u8 101]
theorem any_cells (w : World) (fr : Nat × Nat) : Byts (w.alloc (.cells anyC 5 fr)) (.slice (some ⟨w.heap.size, 0, none⟩) 13 13) anyL := by
  refine ⟨_, _, rfl, Nat.le_refl _, fun _ => ⟨w.heap.size, 0, rfl, fun j hj => ?_⟩⟩
  rw [Nat.zero_add, Go.Joins.cell_alloc_mark_at w anyC _ fr _ j rfl]
  have e : anyC = (bvs anyL).toArray := rfl
  rw [e, List.getElem?_toArray, bvs_get anyL j hj]
theorem run_build9 (w : World) : (Instr.build 28 #[(0, .int .u64 4), (1, .int .u32 9)]).run Tryd.prog w = .ok (.agg (sva 4 r9)) w := by kernel_rfl
theorem run_build5 (w : World) : (Instr.build 28 #[(0, .int .u64 5)]).run Tryd.prog w = .ok (.agg (sva 5 U.none27)) w := by kernel_rfl
theorem new9 : U.newE (U.wr 4 r9) anyL = 0 ∧ U.newQ (U.wr 4 r9) anyL = 4 ∧ U.newR (U.wr 4 r9) anyL = r9 := by
  obtain ⟨h0, h1, h2⟩ := U.read_own 4 r9 rfl (by omega) (by decide) 0 rfl
  have h3 : U.readE 1 anyL ≠ 0 := by
    intro h
    have := ((U.readE_zero 1 anyL (by omega)).1 h).1
    simp [G.openE, anyL] at this
  have f : U.fst (U.wr 4 r9) anyL = true := by
    have h0' : U.readE 0 (U.wr 4 r9) = 0 := h0
    simp [U.fst, h0', h3]
  exact ⟨if_neg (fun h => h.1 h0), (if_pos f).trans h1, (if_pos f).trans h2⟩
theorem read5 : U.readE 0 (U.wr 5 U.none27) = 4 ∧ U.readQ 0 (U.wr 5 U.none27) = 0 ∧ U.readR 0 (U.wr 5 U.none27) = U.none27 := U.read_other 5 U.none27 rfl 0 (by omega) (by omega)
set_option maxHeartbeats 1600000 in
theorem fixed_any (w : World) (hT : Tab w) : Calls Tryd.prog 9 #[] w fun e w' => e = .returned (.bool true) ∧ Below w.heap.size w w' := by
  have HT := Lib.hid hT
  clear hT
  have b9 := run_build9
  have b5 := run_build5
  go_enter Tryd.func9, Tryd.ntmps9
  go_wp2_with fail
  refine (write_any 4 r9 rfl (by omega) (by decide) w HT.out).mono ?_
  rintro e w1 ⟨g, rfl, hk1, -, hb1⟩
  have HK := Lib.hid hk1
  have HB1 := Lib.hid hb1
  clear hk1 hb1
  have kc := Lib.run_convert_bytes_const (P := Tryd.prog) w1 29 5 anyC 13 13 Tryd.underlying29 Tryd.underlying5
  have H1 := Lib.hid (newest_any (.slice (some ⟨g, 0, none⟩) 512 512) (.slice (some ⟨w1.heap.size, 0, none⟩) 13 13) (U.wr 4 r9) anyL (w1.alloc (.cells anyC 5 (13, 14))) (HK.out.byts.below (alb _)) (any_cells w1 (13, 14)) (HT.out.below (bal HB1.out _)))
  obtain ⟨n1, n2, n3⟩ := new9
  rw [n1, n2, n3] at H1
  clear n1 n2 n3
  have HB2 : Hid (Below w.heap.size w (w1.alloc (.cells anyC 5 (13, 14)))) := bal HB1.out _
  simp only [anyC] at kc H1 HB2
  go_wp2_with fail
  refine H1.out.mono ?_
  rintro e w2 ⟨rfl, hb2⟩
  have HB3 := Lib.hid (btr HB2.out hb2)
  clear hb2 HB2 H1 kc HB1 HK
  have HT2 : Hid ((w2.alloc (.cells #[.int .u64 0, .int .u32 0, .int .u32 0, .int .u32 0, .int .u32 0, .int .u32 0, .int .u32 0, .int .u32 0, .int .u32 0, .int .u32 0, .int .u32 0, .int .u32 0, .int .u32 0, .int .u32 0, .int .u32 0, .int .u32 0, .int .u32 0, .int .u32 0, .int .u32 0, .int .u32 0, .int .u32 0, .int .u32 0, .int .u32 0, .int .u32 0, .int .u32 0, .int .u32 0, .int .u32 0, .int .u32 0] 28)).there w2.heap.size 0 28) := there_new w2 _ _ 28 rfl
  go_wp2_with (first
    | (refine wpList_store_sup rfl (.tmp 2) (.tmp 13) rfl w2.heap.size 4 r9 rfl rfl rfl HT2.out ?_)
    | go_in)
  intro w3 HS3 hk3
  have HB4 := Lib.hid (low_of (bal HB3.out _) (by have := HB3.out.size; simp; omega) hk3 HB3.out.size)
  clear hk3 HT2 HB3
  generalize w2.heap.size = b2 at *
  go_wp2_with fail
  refine (write_any 5 U.none27 rfl (by omega) (by decide) w3 (HT.out.below HB4.out)).mono ?_
  rintro e w4 ⟨g, rfl, hk4, -, hb4⟩
  have H2 := Lib.hid (read_any 0 (.slice (some ⟨g, 0, none⟩) 512 512) (U.wr 5 U.none27) w4 hk4.byts (HT.out.below (btr HB4.out hb4)))
  obtain ⟨n1, n2, n3⟩ := read5
  rw [n1, n2, n3] at H2
  have HB5 := Lib.hid (btr HB4.out hb4)
  have HS4 := Lib.hid (HS3.out.below hb4)
  clear n1 n2 n3 hk4 hb4 HB4 HS3
  go_wp2_with fail
  refine H2.out.mono ?_
  rintro e w5 ⟨rfl, hb5⟩
  have HB6 := Lib.hid (btr HB5.out hb5)
  have HS5 := Lib.hid (HS4.out.below hb5)
  clear hb5 HB5 HS4 H2
  have HT2 : Hid ((w5.alloc (.cells #[.int .u64 0, .int .u32 0, .int .u32 0, .int .u32 0, .int .u32 0, .int .u32 0, .int .u32 0, .int .u32 0, .int .u32 0, .int .u32 0, .int .u32 0, .int .u32 0, .int .u32 0, .int .u32 0, .int .u32 0, .int .u32 0, .int .u32 0, .int .u32 0, .int .u32 0, .int .u32 0, .int .u32 0, .int .u32 0, .int .u32 0, .int .u32 0, .int .u32 0, .int .u32 0, .int .u32 0, .int .u32 0] 28)).there w5.heap.size 0 28) := there_new w5 _ _ 28 rfl
  go_wp2_with (first
    | (refine wpList_store_sup rfl (.tmp 4) (.tmp 19) rfl w5.heap.size 0 U.none27 rfl rfl rfl HT2.out ?_)
    | go_in)
  intro w6 HS6 hk6
  have HB7 := Lib.hid (low_of (bal HB6.out _) (by have := HB6.out.size; simp; omega) hk6 HB6.out.size)
  have HS7 := Lib.hid (Sup.keep (HS5.out.below (alb _)) hk6 (by have := HS5.out.lt; omega))
  clear hk6 HT2 HB6 HS5 HS6
  go_wp2_with (first
    | (refine wpList_load_supG rfl (.tmp 2) rfl b2 4 r9 rfl HS7.out ?_)
    | (refine wpList_eql_sup rfl (.tmp 24) (.tmp 25) rfl 4 r9 rfl rfl rfl ?_)
    | go_in)
  go_ret
  exact ⟨rfl, HB7.out⟩
end Go.Proofs.YtbffpgndjbpifaaDoor
