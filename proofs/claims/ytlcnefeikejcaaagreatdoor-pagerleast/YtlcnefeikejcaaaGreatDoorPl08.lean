/- Contracts that the claim reaches (Vt Vu Vw Vx Vy Wc Wd We Wf Wa Fg). -/
import Derived.Test.YtlcnefeikejcaaaGreatDoorPl07
import Derived.ChangeKeysEq
import Derived.BigQuiet
import Derived.Lib.Builder
namespace Go.Proofs.YtlcnefeikejcaaaGreatDoor
open Go.RowKit
set_option maxRecDepth 100000
theorem eqFields_all {P : Program} (d : Nat) (xs ys : Array Value) (w : World) (q : Nat → Bool) : ∀ fs : List Field, (∀ f ∈ fs, f.name ≠ "_" ∧ ∃ a b, (part f.type xs f.offset).run P w = .ok a w ∧ (part f.type ys f.offset).run P w = .ok b w ∧ (Op.equalIn d f.type a b).run P w = .ok (q f.offset) w) →
    (Op.eqFields d xs ys fs).run P w = .ok (fs.all (fun f => q f.offset)) w
  | [], _ => by simp [Op.eqFields]
  | f :: fs, h => by
    obtain ⟨h0, a, b, h1, h2, h3⟩ := h f (by simp)
    have ih := eqFields_all d xs ys w q fs (fun g hg => h g (by simp [hg]))
    simp only [Op.eqFields, Sem.run_ite, Sem.run_bind, if_pos h0, h1, h2, h3, Result.andThen_ok]
    cases hq : q f.offset with
    | true => simp [hq, ih]
    | false => simp [hq]
theorem eqItems_all {P : Program} (d : Nat) (e : TypeId) (c : Nat) (xs ys : Array Value) (w : World) (q : Nat → Bool) : ∀ is : List Nat, (∀ i ∈ is, ∃ a b, (part e xs (i * c)).run P w = .ok a w ∧ (part e ys (i * c)).run P w = .ok b w ∧ (Op.equalIn d e a b).run P w = .ok (q i) w) →
    (Op.eqItems d e c xs ys is).run P w = .ok (is.all q) w
  | [], _ => by simp [Op.eqItems]
  | i :: is, h => by
    obtain ⟨a, b, h1, h2, h3⟩ := h i (by simp)
    have ih := eqItems_all d e c xs ys w q is (fun g hg => h g (by simp [hg]))
    simp only [Op.eqItems, Sem.run_ite, Sem.run_bind, h1, h2, h3, Result.andThen_ok]
    cases hq : q i with
    | true => simp [hq, ih]
    | false => simp [hq]
theorem Tryz.fieldsRt : (Tryz.prog.fieldsOf 33).toList.map (fun f => (f.type, f.offset, f.name == "_")) = [(31, 0, false), (31, 1, false), (31, 2, false)] := by kernel_rfl
theorem Tryz.structRt : Tryz.prog.underlying 33 = some (.struct (Tryz.prog.fieldsOf 33)) := by kernel_rfl
theorem Tryz.stoodRt : Tryz.prog.stoodInHeld 33 = false := by kernel_rfl
theorem Tryz.infoRt : ∃ i, Tryz.prog.info? 33 = some i := by
  have := Tryz.sizeRt
  cases h : Tryz.prog.info? 33 with
  | none => rw [h] at this; simp at this
  | some i => exact ⟨i, rfl⟩
theorem Tryz.cellsRot : Tryz.prog.cellsOf 33 = 3 := by kernel_rfl
theorem Tryz.flat32t : ∀ w : World, (isAgg 31).run Tryz.prog w = .ok false w := fun _ => by kernel_rfl
theorem part_u32t (xs : Array Value) (o : Nat) (v : Value) (h : xs[o]? = some v) (w : World) : (part 31 xs o).run Tryz.prog w = .ok v w := by
  simp only [part, Sem.run_bind, Tryz.flat32t, Result.andThen_ok, Bool.false_eq_true, if_false, h, Sem.run_pure]
theorem eq_roott (d : Nat) (x y z x' y' z' : Int) (w : World) : (Op.equalIn (d + 2) 33 (.agg #[.int .u32 x, .int .u32 y, .int .u32 z]) (.agg #[.int .u32 x', .int .u32 y', .int .u32 z'])).run Tryz.prog w = .ok ((x == x') && ((y == y') && (z == z'))) w := by
  rw [run_equalIn_struct w (d + 1) 33 _ _ Tryz.structRt Tryz.stoodRt]
  have key := eqFields_all (P := Tryz.prog) (d + 1) #[.int .u32 x, .int .u32 y, .int .u32 z] #[.int .u32 x', .int .u32 y', .int .u32 z'] w (fun o => match o with | 0 => x == x' | 1 => y == y' | _ => z == z') (Tryz.prog.fieldsOf 33).toList ?_
  · rw [key]
    have e := congrArg (fun l => l.all (fun p : TypeId × Nat × Bool => (match p.2.1 with | 0 => x == x' | 1 => y == y' | _ => z == z' : Bool))) Tryz.fieldsRt
    simp only [List.all_map, List.all_cons, List.all_nil, Bool.and_true] at e
    rw [← e]
    rfl
  · intro f hf
    have hm : (f.type, f.offset, f.name == "_") ∈ [(31, 0, false), (31, 1, false), (31, 2, false)] := by
      rw [← Tryz.fieldsRt]
      exact List.mem_map.2 ⟨f, hf, rfl⟩
    simp only [List.mem_cons, Prod.mk.injEq, List.not_mem_nil, or_false, beq_eq_false_iff_ne] at hm
    rcases hm with ⟨h1, h2, h3⟩ | ⟨h1, h2, h3⟩ | ⟨h1, h2, h3⟩
    all_goals
      refine ⟨h3, ?_⟩
      rw [h1, h2]
    · exact ⟨.int .u32 x, .int .u32 x', part_u32t _ _ _ rfl w, part_u32t _ _ _ rfl w, run_equalIn_int w d 31 .u32 .u32 x x' Tryz.underlying31⟩
    · exact ⟨.int .u32 y, .int .u32 y', part_u32t _ _ _ rfl w, part_u32t _ _ _ rfl w, run_equalIn_int w d 31 .u32 .u32 y y' Tryz.underlying31⟩
    · exact ⟨.int .u32 z, .int .u32 z', part_u32t _ _ _ rfl w, part_u32t _ _ _ rfl w, run_equalIn_int w d 31 .u32 .u32 z z' Tryz.underlying31⟩
theorem Tryz.aggRt : ∀ w : World, (isAgg 33).run Tryz.prog w = .ok true w := fun _ => by kernel_rfl
theorem Tryz.sizeRWt : ∀ w : World, (sizeOf 33).run Tryz.prog w = .ok 3 w := fun _ => by kernel_rfl
theorem part_rt (a : List Nat) (h : a.length = 24) (i : Nat) (hi : i < 8) (w : World) : (part 33 (rcs a).toArray (i * 3)).run Tryz.prog w = .ok (.agg #[.int .u32 ((a.getD (3 * i) 0 : Nat) : Int), .int .u32 ((a.getD (3 * i + 1) 0 : Nat) : Int), .int .u32 ((a.getD (3 * i + 2) 0 : Nat) : Int)]) w := by
  simp only [part, Sem.run_bind, Tryz.aggRt, Result.andThen_ok, if_true, Tryz.sizeRWt, Sem.run_pure]
  match a, h with
  | [x0, x1, x2, x3, x4, x5, x6, x7, x8, x9, x10, x11, x12, x13, x14, x15, x16, x17, x18, x19, x20, x21, x22, x23], _ =>
    have : i = 0 ∨ i = 1 ∨ i = 2 ∨ i = 3 ∨ i = 4 ∨ i = 5 ∨ i = 6 ∨ i = 7 := by omega
    rcases this with rfl | rfl | rfl | rfl | rfl | rfl | rfl | rfl <;> rfl
theorem eq_rts (d : Nat) (a b : List Nat) (ha : a.length = 24) (hb : b.length = 24) (w : World) : (Op.equalIn (d + 3) 34 (.agg (rcs a).toArray) (.agg (rcs b).toArray)).run Tryz.prog w = .ok (decide (a = b)) w := by
  obtain ⟨i, hi⟩ := Tryz.infoRt
  rw [run_equalIn_array w (d + 2) _ _ Tryz.underlying34 hi, Tryz.cellsRot]
  rw [eqItems_all (P := Tryz.prog) (d + 2) _ 3 _ _ w (fun i => ((a.getD (3 * i) 0 : Nat) : Int) == ((b.getD (3 * i) 0 : Nat) : Int) && (((a.getD (3 * i + 1) 0 : Nat) : Int) == ((b.getD (3 * i + 1) 0 : Nat) : Int) && ((a.getD (3 * i + 2) 0 : Nat) : Int) == ((b.getD (3 * i + 2) 0 : Nat) : Int))) _ (fun i hi => ⟨_, _, part_rt a ha i (List.mem_range.1 hi) w, part_rt b hb i (List.mem_range.1 hi) w, eq_roott d _ _ _ _ _ _ w⟩)]
  congr 1
  by_cases hab : a = b
  · subst hab
    simp
  · rw [decide_eq_false hab]
    rw [List.all_eq_false]
    by_cases hex : ∃ j, j < 24 ∧ a.getD j 0 ≠ b.getD j 0
    · obtain ⟨j, hj, hne⟩ := hex
      refine ⟨j / 3, List.mem_range.2 (by omega), fun q => ?_⟩
      simp only [Bool.and_eq_true, beq_iff_eq, Int.natCast_inj] at q
      obtain ⟨q0, q1, q2⟩ := q
      have : j % 3 = 0 ∨ j % 3 = 1 ∨ j % 3 = 2 := by omega
      rcases this with h | h | h
      · rw [show 3 * (j / 3) = j by omega] at q0; exact hne q0
      · rw [show 3 * (j / 3) + 1 = j by omega] at q1; exact hne q1
      · rw [show 3 * (j / 3) + 2 = j by omega] at q2; exact hne q2
    · refine absurd (List.ext_getElem (by omega) (fun j h1 h2 => ?_)) hab
      have : a.getD j 0 = b.getD j 0 := Classical.byContradiction (fun q => hex ⟨j, by omega, q⟩)
      simpa [List.getD, h1, h2] using this
theorem eqg_rt : Tryz.prog.eqGuardType Tryz.prog.depth 34 = false := by kernel_rfl
theorem run_neq_rt {op : Oper} {a : Act} {w : World} (x y : Operand) (ho : op.op = .binOp .neq 34 x y 34) (l m : List Nat) (hl : l.length = 24) (hm : m.length = 24) (hx : a.eval x = .agg (rcs l).toArray) (hy : a.eval y = .agg (rcs m).toArray) :
    (execOp a.eval op).run Tryz.prog w = .ok (.value (.bool (!decide (l = m)))) w := by
  unfold execOp
  simp only [ho, hx, hy, Sem.run_bind, run_eqGuard_agg w _ _ _ _ _ _ eqg_rt, Result.andThen_ok, run_neq_struct, eq_rts 9997 l m hl hm w, Sem.run_pure]
end Go.Proofs.YtlcnefeikejcaaaGreatDoor
namespace Go.Proofs.YtlcnefeikejcaaaGreatDoor
open Go.RowKit Go.Sort Go.Maps
set_option maxRecDepth 100000
def Pm.chd (s : Pm) : Bool := decide (0 < s.x.fresh.length) || (decide (0 < s.x.defd.length) || !decide (s.rt = s.r.drop 3))
set_option maxHeartbeats 3200000 in
theorem changed_core (w : World) (col : Nat → Nat) (p pd mb nd : Nat) (fs : List Fr) (D : DataW Value) (M : Mc w col mb fs D) (rt r0 : List Nat) (h1 : rt.length = 24) (h2 : r0.length = 24) (R1 : w.rangeAt p 57 (rcs rt)) (R2 : w.rangeAt p 30 (rcs r0))
    (c82 : w.cell? ⟨p, 82, none⟩ = some (.pointer (some ⟨pd, 0, none⟩))) (c83 : w.cell? ⟨p, 83, none⟩ = some (.map (some mb)))
    (HL : Hid (∀ W, Below w.heap.size w W → Calls Tryz.prog 88 #[.pointer (some ⟨pd, 0, none⟩)] W fun e w' => e = .returned (.int .i64 (nd : Int)) ∧ W = w')) :
    Calls Tryz.prog 81 #[.pointer (some ⟨p, 0, none⟩)] w fun e w' => e = .returned (.bool (decide (0 < fs.length) || (decide (0 < nd) || !decide (rt = r0)))) ∧ Below w.heap.size w w' := by
  have HM := Lib.hid M
  have HS := Lib.hid M.size
  have C82 := Lib.hid c82
  have C83 := Lib.hid c83
  have HR1 := Lib.hid R1
  have HR2 := Lib.hid R2
  have H1 := Lib.hid h1
  have H2 := Lib.hid h2
  clear M c82 c83 R1 R2 h1 h2
  obtain ⟨ms, hms⟩ : ∃ z, z = Maps.size D := ⟨_, rfl⟩
  have HMS := Lib.hid hms
  have hfs : fs.length = ms := by rw [hms]; exact HS.out.symm
  rw [hfs]
  clear hms hfs
  by_cases hA : 0 < ms
  · rw [decide_eq_true hA]
    have hA2 : (0 : Int) < (ms : Int) := by omega
    go_enter Tryz.func81, Tryz.ntmps81
    go_wp2_with fail
    refine lin_start 30 rfl (by kernel_rfl) ?_
    have BD : Hid (Below w.heap.size w w.drew) := (Below.refl _ _).drew
    refine lin_take 0 3 (v := ?_) rfl rfl (by kernel_rfl) (by kernel_rfl) (by kernel_rfl) (fun _ _ _ _ _ h => h) (by rfl) (fun W hW => ?_) ?_
    rotate_left
    · go_simp; try rfl
    try simp only [Act.put, List.setIfInBounds_toArray, List.set_cons_zero, List.set_cons_succ]
    refine lin_take 1 4 (v := ?_) rfl rfl (by kernel_rfl) (by kernel_rfl) (by kernel_rfl) (fun _ _ _ _ _ h => h) (by rfl) (fun W hW => ?_) ?_
    rotate_left
    · go_simp; try rfl
    try simp only [Act.put, List.setIfInBounds_toArray, List.set_cons_zero, List.set_cons_succ]
    refine lin_take 2 5 (v := ?_) rfl rfl (by kernel_rfl) (by kernel_rfl) (by kernel_rfl) (fun _ _ _ _ _ h => h) (by rfl) (fun W hW => ?_) ?_
    rotate_left
    · go_simp; try rfl
    try simp only [Act.put, List.setIfInBounds_toArray, List.set_cons_zero, List.set_cons_succ]
    refine lin_take 3 6 (v := ?_) rfl rfl (by kernel_rfl) (by kernel_rfl) (by kernel_rfl) (fun _ _ _ _ _ h => h) (by rfl) (fun W hW => ?_) ?_
    rotate_left
    · go_simp; try rfl
    try simp only [Act.put, List.setIfInBounds_toArray, List.set_cons_zero, List.set_cons_succ]
    refine lin_take 4 7 (v := ?_) rfl rfl (by kernel_rfl) (by kernel_rfl) (by kernel_rfl) (fun _ _ _ _ _ h => h) (by rfl) (fun W hW => ?_) ?_
    rotate_left
    · have q := kept C83.out (btr BD.out hW); go_simp; try rfl
    try simp only [Act.put, List.setIfInBounds_toArray, List.set_cons_zero, List.set_cons_succ]
    refine lin_take 5 8 (v := ?_) rfl rfl (by kernel_rfl) (by kernel_rfl) (by kernel_rfl) (fun _ _ _ _ _ h => h) (by rfl) (fun W hW => ?_) ?_
    rotate_left
    · have q := (HM.out.keep (F := fun _ => False) (Keep.of_below (btr BD.out hW)) (fun h => h) (fun _ _ h => h)).own.len Tryz.underlying125 3; rw [← HMS.out] at q; go_simp; try rfl
    try simp only [Act.put, List.setIfInBounds_toArray, List.set_cons_zero, List.set_cons_succ]
    refine lin_take 6 9 (v := ?_) rfl rfl (by kernel_rfl) (by kernel_rfl) (by kernel_rfl) (fun _ _ _ _ _ h => h) (by rfl) (fun W hW => ?_) ?_
    rotate_left
    · go_simp; try rfl
    try simp only [Act.put, List.setIfInBounds_toArray, List.set_cons_zero, List.set_cons_succ]
    refine lin_take 7 10 (v := ?_) rfl rfl (by kernel_rfl) (by kernel_rfl) (by kernel_rfl) (fun _ _ _ _ _ h => h) (by rfl) (fun W hW => ?_) ?_
    rotate_left
    · go_simp; try rfl
    try simp only [Act.put, List.setIfInBounds_toArray, List.set_cons_zero, List.set_cons_succ]
    refine lin_skip 8 11 rfl rfl (by kernel_rfl) (by kernel_rfl) (by kernel_rfl) (fun _ _ _ _ _ h => h) (by rfl) ?_
    try simp only [Act.put, List.setIfInBounds_toArray, List.set_cons_zero, List.set_cons_succ]
    refine lin_skip 9 12 rfl rfl (by kernel_rfl) (by kernel_rfl) (by kernel_rfl) (fun _ _ _ _ _ h => h) (by rfl) ?_
    try simp only [Act.put, List.setIfInBounds_toArray, List.set_cons_zero, List.set_cons_succ]
    refine lin_skip 10 13 rfl rfl (by kernel_rfl) (by kernel_rfl) (by kernel_rfl) (fun _ _ _ _ _ h => h) (by rfl) ?_
    try simp only [Act.put, List.setIfInBounds_toArray, List.set_cons_zero, List.set_cons_succ]
    refine lin_skip 11 14 rfl rfl (by kernel_rfl) (by kernel_rfl) (by kernel_rfl) (fun _ _ _ _ _ h => h) (by rfl) ?_
    try simp only [Act.put, List.setIfInBounds_toArray, List.set_cons_zero, List.set_cons_succ]
    refine lin_skip 12 15 rfl rfl (by kernel_rfl) (by kernel_rfl) (by kernel_rfl) (fun _ _ _ _ _ h => h) (by rfl) ?_
    try simp only [Act.put, List.setIfInBounds_toArray, List.set_cons_zero, List.set_cons_succ]
    refine lin_skip 13 16 rfl rfl (by kernel_rfl) (by kernel_rfl) (by kernel_rfl) (fun _ _ _ _ _ h => h) (by rfl) ?_
    try simp only [Act.put, List.setIfInBounds_toArray, List.set_cons_zero, List.set_cons_succ]
    refine lin_skip 14 17 rfl rfl (by kernel_rfl) (by kernel_rfl) (by kernel_rfl) (fun _ _ _ _ _ h => h) (by rfl) ?_
    try simp only [Act.put, List.setIfInBounds_toArray, List.set_cons_zero, List.set_cons_succ]
    refine lin_take 15 18 (v := ?_) rfl rfl (by kernel_rfl) (by kernel_rfl) (by kernel_rfl) (fun _ _ _ _ _ h => h) (by rfl) (fun W hW => ?_) ?_
    rotate_left
    · go_simp; try rfl
    try simp only [Act.put, List.setIfInBounds_toArray, List.set_cons_zero, List.set_cons_succ]
    refine lin_take 16 19 (v := ?_) rfl rfl (by kernel_rfl) (by kernel_rfl) (by kernel_rfl) (fun _ _ _ _ _ h => h) (by rfl) (fun W hW => ?_) ?_
    rotate_left
    · go_simp; try rfl
    try simp only [Act.put, List.setIfInBounds_toArray, List.set_cons_zero, List.set_cons_succ]
    refine lin_skip 17 20 rfl rfl (by kernel_rfl) (by kernel_rfl) (by kernel_rfl) (fun _ _ _ _ _ h => h) (by rfl) ?_
    try simp only [Act.put, List.setIfInBounds_toArray, List.set_cons_zero, List.set_cons_succ]
    refine lin_skip 18 21 rfl rfl (by kernel_rfl) (by kernel_rfl) (by kernel_rfl) (fun _ _ _ _ _ h => h) (by rfl) ?_
    try simp only [Act.put, List.setIfInBounds_toArray, List.set_cons_zero, List.set_cons_succ]
    refine lin_skip 19 22 rfl rfl (by kernel_rfl) (by kernel_rfl) (by kernel_rfl) (fun _ _ _ _ _ h => h) (by rfl) ?_
    try simp only [Act.put, List.setIfInBounds_toArray, List.set_cons_zero, List.set_cons_succ]
    refine lin_skip 20 23 rfl rfl (by kernel_rfl) (by kernel_rfl) (by kernel_rfl) (fun _ _ _ _ _ h => h) (by rfl) ?_
    try simp only [Act.put, List.setIfInBounds_toArray, List.set_cons_zero, List.set_cons_succ]
    refine lin_skip 21 24 rfl rfl (by kernel_rfl) (by kernel_rfl) (by kernel_rfl) (fun _ _ _ _ _ h => h) (by rfl) ?_
    try simp only [Act.put, List.setIfInBounds_toArray, List.set_cons_zero, List.set_cons_succ]
    refine lin_skip 22 25 rfl rfl (by kernel_rfl) (by kernel_rfl) (by kernel_rfl) (fun _ _ _ _ _ h => h) (by rfl) ?_
    try simp only [Act.put, List.setIfInBounds_toArray, List.set_cons_zero, List.set_cons_succ]
    refine lin_skip 23 26 rfl rfl (by kernel_rfl) (by kernel_rfl) (by kernel_rfl) (fun _ _ _ _ _ h => h) (by rfl) ?_
    try simp only [Act.put, List.setIfInBounds_toArray, List.set_cons_zero, List.set_cons_succ]
    refine lin_skip 24 27 rfl rfl (by kernel_rfl) (by kernel_rfl) (by kernel_rfl) (fun _ _ _ _ _ h => h) (by rfl) ?_
    try simp only [Act.put, List.setIfInBounds_toArray, List.set_cons_zero, List.set_cons_succ]
    refine lin_skip 25 28 rfl rfl (by kernel_rfl) (by kernel_rfl) (by kernel_rfl) (fun _ _ _ _ _ h => h) (by rfl) ?_
    try simp only [Act.put, List.setIfInBounds_toArray, List.set_cons_zero, List.set_cons_succ]
    refine lin_skip 26 29 rfl rfl (by kernel_rfl) (by kernel_rfl) (by kernel_rfl) (fun _ _ _ _ _ h => h) (by rfl) ?_
    try simp only [Act.put, List.setIfInBounds_toArray, List.set_cons_zero, List.set_cons_succ]
    refine lin_skip 27 30 rfl rfl (by kernel_rfl) (by kernel_rfl) (by kernel_rfl) (fun _ _ _ _ _ h => h) (by rfl) ?_
    try simp only [Act.put, List.setIfInBounds_toArray, List.set_cons_zero, List.set_cons_succ]
    refine lin_take 28 31 (v := ?_) rfl rfl (by kernel_rfl) (by kernel_rfl) (by kernel_rfl) (fun _ _ _ _ _ h => h) (by rfl) (fun W hW => ?_) ?_
    rotate_left
    · go_simp; try rfl
    try simp only [Act.put, List.setIfInBounds_toArray, List.set_cons_zero, List.set_cons_succ]
    refine lin_take 29 2 (v := ?_) rfl rfl (by kernel_rfl) (by kernel_rfl) (by kernel_rfl) (fun _ _ _ _ _ h => h) (by rfl) (fun W hW => ?_) ?_
    rotate_left
    · go_simp; try rfl
    try simp only [Act.put, List.setIfInBounds_toArray, List.set_cons_zero, List.set_cons_succ]
    refine lin_done (by kernel_rfl) ?_
    go_wp2
    go_ret
    exact ⟨by simp, BD.out⟩
  · rw [decide_eq_false hA]
    have hA2 : ¬ (0 : Int) < (ms : Int) := by omega
    by_cases hB : 0 < nd
    · rw [decide_eq_true hB]
      have hB2 : (0 : Int) < (nd : Int) := by omega
      go_enter Tryz.func81, Tryz.ntmps81
      go_wp2_with fail
      refine lin_start 30 rfl (by kernel_rfl) ?_
      have BD : Hid (Below w.heap.size w w.drew) := (Below.refl _ _).drew
      refine lin_take 0 3 (v := ?_) rfl rfl (by kernel_rfl) (by kernel_rfl) (by kernel_rfl) (fun _ _ _ _ _ h => h) (by rfl) (fun W hW => ?_) ?_
      rotate_left
      · go_simp; try rfl
      try simp only [Act.put, List.setIfInBounds_toArray, List.set_cons_zero, List.set_cons_succ]
      refine lin_take 1 4 (v := ?_) rfl rfl (by kernel_rfl) (by kernel_rfl) (by kernel_rfl) (fun _ _ _ _ _ h => h) (by rfl) (fun W hW => ?_) ?_
      rotate_left
      · go_simp; try rfl
      try simp only [Act.put, List.setIfInBounds_toArray, List.set_cons_zero, List.set_cons_succ]
      refine lin_take 2 5 (v := ?_) rfl rfl (by kernel_rfl) (by kernel_rfl) (by kernel_rfl) (fun _ _ _ _ _ h => h) (by rfl) (fun W hW => ?_) ?_
      rotate_left
      · go_simp; try rfl
      try simp only [Act.put, List.setIfInBounds_toArray, List.set_cons_zero, List.set_cons_succ]
      refine lin_take 3 6 (v := ?_) rfl rfl (by kernel_rfl) (by kernel_rfl) (by kernel_rfl) (fun _ _ _ _ _ h => h) (by rfl) (fun W hW => ?_) ?_
      rotate_left
      · go_simp; try rfl
      try simp only [Act.put, List.setIfInBounds_toArray, List.set_cons_zero, List.set_cons_succ]
      refine lin_take 4 7 (v := ?_) rfl rfl (by kernel_rfl) (by kernel_rfl) (by kernel_rfl) (fun _ _ _ _ _ h => h) (by rfl) (fun W hW => ?_) ?_
      rotate_left
      · have q := kept C83.out (btr BD.out hW); go_simp; try rfl
      try simp only [Act.put, List.setIfInBounds_toArray, List.set_cons_zero, List.set_cons_succ]
      refine lin_take 5 8 (v := ?_) rfl rfl (by kernel_rfl) (by kernel_rfl) (by kernel_rfl) (fun _ _ _ _ _ h => h) (by rfl) (fun W hW => ?_) ?_
      rotate_left
      · have q := (HM.out.keep (F := fun _ => False) (Keep.of_below (btr BD.out hW)) (fun h => h) (fun _ _ h => h)).own.len Tryz.underlying125 3; rw [← HMS.out] at q; go_simp; try rfl
      try simp only [Act.put, List.setIfInBounds_toArray, List.set_cons_zero, List.set_cons_succ]
      refine lin_take 6 9 (v := ?_) rfl rfl (by kernel_rfl) (by kernel_rfl) (by kernel_rfl) (fun _ _ _ _ _ h => h) (by rfl) (fun W hW => ?_) ?_
      rotate_left
      · go_simp; try rfl
      try simp only [Act.put, List.setIfInBounds_toArray, List.set_cons_zero, List.set_cons_succ]
      refine lin_take 7 10 (v := ?_) rfl rfl (by kernel_rfl) (by kernel_rfl) (by kernel_rfl) (fun _ _ _ _ _ h => h) (by rfl) (fun W hW => ?_) ?_
      rotate_left
      · go_simp; try rfl
      try simp only [Act.put, List.setIfInBounds_toArray, List.set_cons_zero, List.set_cons_succ]
      refine lin_take 8 11 (v := ?_) rfl rfl (by kernel_rfl) (by kernel_rfl) (by kernel_rfl) (fun _ _ _ _ _ h => h) (by rfl) (fun W hW => ?_) ?_
      rotate_left
      · go_simp; try rfl
      try simp only [Act.put, List.setIfInBounds_toArray, List.set_cons_zero, List.set_cons_succ]
      refine lin_take 9 12 (v := ?_) rfl rfl (by kernel_rfl) (by kernel_rfl) (by kernel_rfl) (fun _ _ _ _ _ h => h) (by rfl) (fun W hW => ?_) ?_
      rotate_left
      · go_simp; try rfl
      try simp only [Act.put, List.setIfInBounds_toArray, List.set_cons_zero, List.set_cons_succ]
      refine lin_take 10 13 (v := ?_) rfl rfl (by kernel_rfl) (by kernel_rfl) (by kernel_rfl) (fun _ _ _ _ _ h => h) (by rfl) (fun W hW => ?_) ?_
      rotate_left
      · go_simp; try rfl
      try simp only [Act.put, List.setIfInBounds_toArray, List.set_cons_zero, List.set_cons_succ]
      refine lin_take 11 14 (v := ?_) rfl rfl (by kernel_rfl) (by kernel_rfl) (by kernel_rfl) (fun _ _ _ _ _ h => h) (by rfl) (fun W hW => ?_) ?_
      rotate_left
      · go_simp; try rfl
      try simp only [Act.put, List.setIfInBounds_toArray, List.set_cons_zero, List.set_cons_succ]
      refine lin_take 12 15 (v := ?_) rfl rfl (by kernel_rfl) (by kernel_rfl) (by kernel_rfl) (fun _ _ _ _ _ h => h) (by rfl) (fun W hW => ?_) ?_
      rotate_left
      · have q := kept C82.out (btr BD.out hW); go_simp; try rfl
      try simp only [Act.put, List.setIfInBounds_toArray, List.set_cons_zero, List.set_cons_succ]
      refine lin_step 13 rfl (by kernel_rfl) (fun K hK => ?_)
      go_simp
      refine (HL.out _ BD.out).mono ?_
      rintro e w1 ⟨rfl, rfl⟩
      refine hK.out _ _ (Below.refl _ _) ?_
      clear hK K
      try simp only [Act.put, List.setIfInBounds_toArray, List.set_cons_zero, List.set_cons_succ]
      refine lin_take 14 17 (v := ?_) rfl rfl (by kernel_rfl) (by kernel_rfl) (by kernel_rfl) (fun _ _ _ _ _ h => h) (by rfl) (fun W hW => ?_) ?_
      rotate_left
      · go_simp; try rfl
      try simp only [Act.put, List.setIfInBounds_toArray, List.set_cons_zero, List.set_cons_succ]
      refine lin_take 15 18 (v := ?_) rfl rfl (by kernel_rfl) (by kernel_rfl) (by kernel_rfl) (fun _ _ _ _ _ h => h) (by rfl) (fun W hW => ?_) ?_
      rotate_left
      · go_simp; try rfl
      try simp only [Act.put, List.setIfInBounds_toArray, List.set_cons_zero, List.set_cons_succ]
      refine lin_take 16 19 (v := ?_) rfl rfl (by kernel_rfl) (by kernel_rfl) (by kernel_rfl) (fun _ _ _ _ _ h => h) (by rfl) (fun W hW => ?_) ?_
      rotate_left
      · go_simp; try rfl
      try simp only [Act.put, List.setIfInBounds_toArray, List.set_cons_zero, List.set_cons_succ]
      refine lin_skip 17 20 rfl rfl (by kernel_rfl) (by kernel_rfl) (by kernel_rfl) (fun _ _ _ _ _ h => h) (by rfl) ?_
      try simp only [Act.put, List.setIfInBounds_toArray, List.set_cons_zero, List.set_cons_succ]
      refine lin_skip 18 21 rfl rfl (by kernel_rfl) (by kernel_rfl) (by kernel_rfl) (fun _ _ _ _ _ h => h) (by rfl) ?_
      try simp only [Act.put, List.setIfInBounds_toArray, List.set_cons_zero, List.set_cons_succ]
      refine lin_skip 19 22 rfl rfl (by kernel_rfl) (by kernel_rfl) (by kernel_rfl) (fun _ _ _ _ _ h => h) (by rfl) ?_
      try simp only [Act.put, List.setIfInBounds_toArray, List.set_cons_zero, List.set_cons_succ]
      refine lin_skip 20 23 rfl rfl (by kernel_rfl) (by kernel_rfl) (by kernel_rfl) (fun _ _ _ _ _ h => h) (by rfl) ?_
      try simp only [Act.put, List.setIfInBounds_toArray, List.set_cons_zero, List.set_cons_succ]
      refine lin_skip 21 24 rfl rfl (by kernel_rfl) (by kernel_rfl) (by kernel_rfl) (fun _ _ _ _ _ h => h) (by rfl) ?_
      try simp only [Act.put, List.setIfInBounds_toArray, List.set_cons_zero, List.set_cons_succ]
      refine lin_skip 22 25 rfl rfl (by kernel_rfl) (by kernel_rfl) (by kernel_rfl) (fun _ _ _ _ _ h => h) (by rfl) ?_
      try simp only [Act.put, List.setIfInBounds_toArray, List.set_cons_zero, List.set_cons_succ]
      refine lin_skip 23 26 rfl rfl (by kernel_rfl) (by kernel_rfl) (by kernel_rfl) (fun _ _ _ _ _ h => h) (by rfl) ?_
      try simp only [Act.put, List.setIfInBounds_toArray, List.set_cons_zero, List.set_cons_succ]
      refine lin_skip 24 27 rfl rfl (by kernel_rfl) (by kernel_rfl) (by kernel_rfl) (fun _ _ _ _ _ h => h) (by rfl) ?_
      try simp only [Act.put, List.setIfInBounds_toArray, List.set_cons_zero, List.set_cons_succ]
      refine lin_skip 25 28 rfl rfl (by kernel_rfl) (by kernel_rfl) (by kernel_rfl) (fun _ _ _ _ _ h => h) (by rfl) ?_
      try simp only [Act.put, List.setIfInBounds_toArray, List.set_cons_zero, List.set_cons_succ]
      refine lin_skip 26 29 rfl rfl (by kernel_rfl) (by kernel_rfl) (by kernel_rfl) (fun _ _ _ _ _ h => h) (by rfl) ?_
      try simp only [Act.put, List.setIfInBounds_toArray, List.set_cons_zero, List.set_cons_succ]
      refine lin_skip 27 30 rfl rfl (by kernel_rfl) (by kernel_rfl) (by kernel_rfl) (fun _ _ _ _ _ h => h) (by rfl) ?_
      try simp only [Act.put, List.setIfInBounds_toArray, List.set_cons_zero, List.set_cons_succ]
      refine lin_take 28 31 (v := ?_) rfl rfl (by kernel_rfl) (by kernel_rfl) (by kernel_rfl) (fun _ _ _ _ _ h => h) (by rfl) (fun W hW => ?_) ?_
      rotate_left
      · go_simp; try rfl
      try simp only [Act.put, List.setIfInBounds_toArray, List.set_cons_zero, List.set_cons_succ]
      refine lin_take 29 2 (v := ?_) rfl rfl (by kernel_rfl) (by kernel_rfl) (by kernel_rfl) (fun _ _ _ _ _ h => h) (by rfl) (fun W hW => ?_) ?_
      rotate_left
      · go_simp; try rfl
      try simp only [Act.put, List.setIfInBounds_toArray, List.set_cons_zero, List.set_cons_succ]
      refine lin_done (by kernel_rfl) ?_
      go_wp2
      go_ret
      exact ⟨by simp, BD.out⟩
    · rw [decide_eq_false hB]
      have hB2 : ¬ (0 : Int) < (nd : Int) := by omega
      go_enter Tryz.func81, Tryz.ntmps81
      go_wp2_with fail
      refine lin_start 30 rfl (by kernel_rfl) ?_
      have BD : Hid (Below w.heap.size w w.drew) := (Below.refl _ _).drew
      refine lin_take 0 3 (v := ?_) rfl rfl (by kernel_rfl) (by kernel_rfl) (by kernel_rfl) (fun _ _ _ _ _ h => h) (by rfl) (fun W hW => ?_) ?_
      rotate_left
      · go_simp; try rfl
      try simp only [Act.put, List.setIfInBounds_toArray, List.set_cons_zero, List.set_cons_succ]
      refine lin_take 1 4 (v := ?_) rfl rfl (by kernel_rfl) (by kernel_rfl) (by kernel_rfl) (fun _ _ _ _ _ h => h) (by rfl) (fun W hW => ?_) ?_
      rotate_left
      · go_simp; try rfl
      try simp only [Act.put, List.setIfInBounds_toArray, List.set_cons_zero, List.set_cons_succ]
      refine lin_take 2 5 (v := ?_) rfl rfl (by kernel_rfl) (by kernel_rfl) (by kernel_rfl) (fun _ _ _ _ _ h => h) (by rfl) (fun W hW => ?_) ?_
      rotate_left
      · go_simp; try rfl
      try simp only [Act.put, List.setIfInBounds_toArray, List.set_cons_zero, List.set_cons_succ]
      refine lin_take 3 6 (v := ?_) rfl rfl (by kernel_rfl) (by kernel_rfl) (by kernel_rfl) (fun _ _ _ _ _ h => h) (by rfl) (fun W hW => ?_) ?_
      rotate_left
      · go_simp; try rfl
      try simp only [Act.put, List.setIfInBounds_toArray, List.set_cons_zero, List.set_cons_succ]
      refine lin_take 4 7 (v := ?_) rfl rfl (by kernel_rfl) (by kernel_rfl) (by kernel_rfl) (fun _ _ _ _ _ h => h) (by rfl) (fun W hW => ?_) ?_
      rotate_left
      · have q := kept C83.out (btr BD.out hW); go_simp; try rfl
      try simp only [Act.put, List.setIfInBounds_toArray, List.set_cons_zero, List.set_cons_succ]
      refine lin_take 5 8 (v := ?_) rfl rfl (by kernel_rfl) (by kernel_rfl) (by kernel_rfl) (fun _ _ _ _ _ h => h) (by rfl) (fun W hW => ?_) ?_
      rotate_left
      · have q := (HM.out.keep (F := fun _ => False) (Keep.of_below (btr BD.out hW)) (fun h => h) (fun _ _ h => h)).own.len Tryz.underlying125 3; rw [← HMS.out] at q; go_simp; try rfl
      try simp only [Act.put, List.setIfInBounds_toArray, List.set_cons_zero, List.set_cons_succ]
      refine lin_take 6 9 (v := ?_) rfl rfl (by kernel_rfl) (by kernel_rfl) (by kernel_rfl) (fun _ _ _ _ _ h => h) (by rfl) (fun W hW => ?_) ?_
      rotate_left
      · go_simp; try rfl
      try simp only [Act.put, List.setIfInBounds_toArray, List.set_cons_zero, List.set_cons_succ]
      refine lin_take 7 10 (v := ?_) rfl rfl (by kernel_rfl) (by kernel_rfl) (by kernel_rfl) (fun _ _ _ _ _ h => h) (by rfl) (fun W hW => ?_) ?_
      rotate_left
      · go_simp; try rfl
      try simp only [Act.put, List.setIfInBounds_toArray, List.set_cons_zero, List.set_cons_succ]
      refine lin_take 8 11 (v := ?_) rfl rfl (by kernel_rfl) (by kernel_rfl) (by kernel_rfl) (fun _ _ _ _ _ h => h) (by rfl) (fun W hW => ?_) ?_
      rotate_left
      · go_simp; try rfl
      try simp only [Act.put, List.setIfInBounds_toArray, List.set_cons_zero, List.set_cons_succ]
      refine lin_take 9 12 (v := ?_) rfl rfl (by kernel_rfl) (by kernel_rfl) (by kernel_rfl) (fun _ _ _ _ _ h => h) (by rfl) (fun W hW => ?_) ?_
      rotate_left
      · go_simp; try rfl
      try simp only [Act.put, List.setIfInBounds_toArray, List.set_cons_zero, List.set_cons_succ]
      refine lin_take 10 13 (v := ?_) rfl rfl (by kernel_rfl) (by kernel_rfl) (by kernel_rfl) (fun _ _ _ _ _ h => h) (by rfl) (fun W hW => ?_) ?_
      rotate_left
      · go_simp; try rfl
      try simp only [Act.put, List.setIfInBounds_toArray, List.set_cons_zero, List.set_cons_succ]
      refine lin_take 11 14 (v := ?_) rfl rfl (by kernel_rfl) (by kernel_rfl) (by kernel_rfl) (fun _ _ _ _ _ h => h) (by rfl) (fun W hW => ?_) ?_
      rotate_left
      · go_simp; try rfl
      try simp only [Act.put, List.setIfInBounds_toArray, List.set_cons_zero, List.set_cons_succ]
      refine lin_take 12 15 (v := ?_) rfl rfl (by kernel_rfl) (by kernel_rfl) (by kernel_rfl) (fun _ _ _ _ _ h => h) (by rfl) (fun W hW => ?_) ?_
      rotate_left
      · have q := kept C82.out (btr BD.out hW); go_simp; try rfl
      try simp only [Act.put, List.setIfInBounds_toArray, List.set_cons_zero, List.set_cons_succ]
      refine lin_step 13 rfl (by kernel_rfl) (fun K hK => ?_)
      go_simp
      refine (HL.out _ BD.out).mono ?_
      rintro e w1 ⟨rfl, rfl⟩
      refine hK.out _ _ (Below.refl _ _) ?_
      clear hK K
      try simp only [Act.put, List.setIfInBounds_toArray, List.set_cons_zero, List.set_cons_succ]
      refine lin_take 14 17 (v := ?_) rfl rfl (by kernel_rfl) (by kernel_rfl) (by kernel_rfl) (fun _ _ _ _ _ h => h) (by rfl) (fun W hW => ?_) ?_
      rotate_left
      · go_simp; try rfl
      try simp only [Act.put, List.setIfInBounds_toArray, List.set_cons_zero, List.set_cons_succ]
      refine lin_take 15 18 (v := ?_) rfl rfl (by kernel_rfl) (by kernel_rfl) (by kernel_rfl) (fun _ _ _ _ _ h => h) (by rfl) (fun W hW => ?_) ?_
      rotate_left
      · go_simp; try rfl
      try simp only [Act.put, List.setIfInBounds_toArray, List.set_cons_zero, List.set_cons_succ]
      refine lin_take 16 19 (v := ?_) rfl rfl (by kernel_rfl) (by kernel_rfl) (by kernel_rfl) (fun _ _ _ _ _ h => h) (by rfl) (fun W hW => ?_) ?_
      rotate_left
      · go_simp; try rfl
      try simp only [Act.put, List.setIfInBounds_toArray, List.set_cons_zero, List.set_cons_succ]
      refine lin_take 17 20 (v := ?_) rfl rfl (by kernel_rfl) (by kernel_rfl) (by kernel_rfl) (fun _ _ _ _ _ h => h) (by rfl) (fun W hW => ?_) ?_
      rotate_left
      · go_simp; try rfl
      try simp only [Act.put, List.setIfInBounds_toArray, List.set_cons_zero, List.set_cons_succ]
      refine lin_take 18 21 (v := ?_) rfl rfl (by kernel_rfl) (by kernel_rfl) (by kernel_rfl) (fun _ _ _ _ _ h => h) (by rfl) (fun W hW => ?_) ?_
      rotate_left
      · go_simp; try rfl
      try simp only [Act.put, List.setIfInBounds_toArray, List.set_cons_zero, List.set_cons_succ]
      refine lin_take 19 22 (v := ?_) rfl rfl (by kernel_rfl) (by kernel_rfl) (by kernel_rfl) (fun _ _ _ _ _ h => h) (by rfl) (fun W hW => ?_) ?_
      rotate_left
      · go_simp; try rfl
      try simp only [Act.put, List.setIfInBounds_toArray, List.set_cons_zero, List.set_cons_succ]
      refine lin_take 20 23 (v := ?_) rfl rfl (by kernel_rfl) (by kernel_rfl) (by kernel_rfl) (fun _ _ _ _ _ h => h) (by rfl) (fun W hW => ?_) ?_
      rotate_left
      · go_simp; try rfl
      try simp only [Act.put, List.setIfInBounds_toArray, List.set_cons_zero, List.set_cons_succ]
      refine lin_take 21 24 (v := ?_) rfl rfl (by kernel_rfl) (by kernel_rfl) (by kernel_rfl) (fun _ _ _ _ _ h => h) (by rfl) (fun W hW => ?_) ?_
      rotate_left
      · refine run_load_mid 34 (.tmp 23) ?_ p 57 ?_ (rcs rt) _ (range_keep (F := fun _ => False) HR1.out (Keep.of_below (btr BD.out hW)) (fun h => h)) Tryz.underlying34 rfl (info_rcs H1.out) <;> rfl
      try simp only [Act.put, List.setIfInBounds_toArray, List.set_cons_zero, List.set_cons_succ]
      refine lin_take 22 25 (v := ?_) rfl rfl (by kernel_rfl) (by kernel_rfl) (by kernel_rfl) (fun _ _ _ _ _ h => h) (by rfl) (fun W hW => ?_) ?_
      rotate_left
      · go_simp; try rfl
      try simp only [Act.put, List.setIfInBounds_toArray, List.set_cons_zero, List.set_cons_succ]
      refine lin_take 23 26 (v := ?_) rfl rfl (by kernel_rfl) (by kernel_rfl) (by kernel_rfl) (fun _ _ _ _ _ h => h) (by rfl) (fun W hW => ?_) ?_
      rotate_left
      · go_simp; try rfl
      try simp only [Act.put, List.setIfInBounds_toArray, List.set_cons_zero, List.set_cons_succ]
      refine lin_take 24 27 (v := ?_) rfl rfl (by kernel_rfl) (by kernel_rfl) (by kernel_rfl) (fun _ _ _ _ _ h => h) (by rfl) (fun W hW => ?_) ?_
      rotate_left
      · go_simp; try rfl
      try simp only [Act.put, List.setIfInBounds_toArray, List.set_cons_zero, List.set_cons_succ]
      refine lin_take 25 28 (v := ?_) rfl rfl (by kernel_rfl) (by kernel_rfl) (by kernel_rfl) (fun _ _ _ _ _ h => h) (by rfl) (fun W hW => ?_) ?_
      rotate_left
      · go_simp; try rfl
      try simp only [Act.put, List.setIfInBounds_toArray, List.set_cons_zero, List.set_cons_succ]
      refine lin_take 26 29 (v := ?_) rfl rfl (by kernel_rfl) (by kernel_rfl) (by kernel_rfl) (fun _ _ _ _ _ h => h) (by rfl) (fun W hW => ?_) ?_
      rotate_left
      · refine run_load_mid 34 (.tmp 28) ?_ p 30 ?_ (rcs r0) _ (range_keep (F := fun _ => False) HR2.out (Keep.of_below (btr BD.out hW)) (fun h => h)) Tryz.underlying34 rfl (info_rcs H2.out) <;> rfl
      try simp only [Act.put, List.setIfInBounds_toArray, List.set_cons_zero, List.set_cons_succ]
      refine lin_take 27 30 (v := ?_) rfl rfl (by kernel_rfl) (by kernel_rfl) (by kernel_rfl) (fun _ _ _ _ _ h => h) (by rfl) (fun W hW => ?_) ?_
      rotate_left
      · refine run_neq_rt (.tmp 24) (.tmp 29) ?_ rt r0 H1.out H2.out ?_ ?_ <;> rfl
      try simp only [Act.put, List.setIfInBounds_toArray, List.set_cons_zero, List.set_cons_succ]
      refine lin_take 28 31 (v := ?_) rfl rfl (by kernel_rfl) (by kernel_rfl) (by kernel_rfl) (fun _ _ _ _ _ h => h) (by rfl) (fun W hW => ?_) ?_
      rotate_left
      · go_simp; try rfl
      try simp only [Act.put, List.setIfInBounds_toArray, List.set_cons_zero, List.set_cons_succ]
      refine lin_take 29 2 (v := ?_) rfl rfl (by kernel_rfl) (by kernel_rfl) (by kernel_rfl) (fun _ _ _ _ _ h => h) (by rfl) (fun W hW => ?_) ?_
      rotate_left
      · go_simp; try rfl
      try simp only [Act.put, List.setIfInBounds_toArray, List.set_cons_zero, List.set_cons_succ]
      refine lin_done (by kernel_rfl) ?_
      go_wp2
      go_ret
      exact ⟨by simp, BD.out⟩
theorem changed_any (w : World) (col : Nat → Nat) (p : Nat) (dv : Value) (s : Pm) (h : Pgr w col p dv s) :
    Calls Tryz.prog 81 #[.pointer (some ⟨p, 0, none⟩)] w fun e w' => e = .returned (.bool s.chd) ∧ Below w.heap.size w w' := by
  obtain ⟨ok, cp, lv, pf0, pd0, m0, pf, pd, mb, C, S0, S, _⟩ := h
  obtain ⟨D, M⟩ := S.map
  obtain ⟨G, P2, _⟩ := S.defd
  exact changed_core w col p pd mb s.x.defd.length s.x.fresh D M s.rt (s.r.drop 3) ok.rtl ok.dl (scs_roots C.rn) (scs_roots C.rb) (scs_defd C.rn ok.rtl) (scs_map C.rn ok.rtl) (Lib.hid fun W hW => plen_any W pd G s.x.defd (P2.below hW))
end Go.Proofs.YtlcnefeikejcaaaGreatDoor
namespace Go.Proofs.YtlcnefeikejcaaaGreatDoor
open Go.RowKit Go.Sort Go.Maps
open D (St)
set_option maxRecDepth 100000
def Pm.q1 (s : Pm) : Nat := (s.q + 1) % 18446744073709551616
def Pm.pages (s : Pm) : List Int := s.x.free.take s.need
def Pm.r1 (s : Pm) : List Nat := s.r.getD 0 0 :: (s.pages.getD 0 0).toNat :: s.names.length :: s.rt
def Pm.jobs (s : Pm) : List (Nat × List UInt8) := jobsF s.x.fresh ++ jobsL s.pages (L.bodiesL s.names s.pages)
def Pm.next (s : Pm) : Pm := ⟨s.q1, s.r1, s.pages, s.names, s.rt, ⟨s.names, [], []⟩, s.e + 1, s.o⟩
def Pm.comm (s : Pm) (d : St) : St × Int := Go.Proofs.YtlcnefeikejcaaaGreatDoor.comm d s.jobs (s.q1 % 2) (U.wr s.q1 s.r1)
def Pm.all (s : Pm) (d : St) : Pm × St × Int := if s.x.free.length < s.need then (s, d, 6) else if (s.comm d).2 ≠ 0 then (Pm.gone (s.e + 1), s.comm d) else (s.next, (s.comm d).1, 0)
theorem pages_pgn {s : Pm} (ok : POk s) : Pgn (s.r.getD 0 0) s.pages := fun x hx => ok.freep x (List.mem_of_mem_take hx)
theorem pages_len {s : Pm} (ok : POk s) : s.pages.length ≤ 4096 := by
  have h1 := ok.freep.len ok.free ok.bl
  simp only [Pm.pages, List.length_take]
  omega
theorem names_len {s : Pm} (ok : POk s) : s.names.length ≤ 4096 := (names_pgn ok).len (names_ris ok) ok.bl
theorem page0 {s : Pm} (ok : POk s) : 0 ≤ s.pages.getD 0 0 ∧ s.pages.getD 0 0 < 4294967296 := by
  have hb := ok.bl
  cases hp : s.pages with
  | nil => simp
  | cons y r =>
    have := pages_pgn ok y (by rw [hp]; simp)
    simp
    omega
theorem r1_lt {s : Pm} (ok : POk s) : ∀ x ∈ s.r1, x < 4294967296 := by
  intro x hx
  have hb := ok.bl
  have hn := names_len ok
  have h0 := page0 ok
  simp only [Pm.r1, List.mem_cons] at hx
  rcases hx with rfl | rfl | rfl | hx
  · omega
  · omega
  · omega
  · exact ok.rtlt x hx
theorem next_ok {s : Pm} (ok : POk s) (he : s.e < 1000000000) : POk s.next := by
  have hB : s.r1.getD 0 0 = s.r.getD 0 0 := by simp [Pm.r1]
  have hq : s.q1 < 18446744073709551616 := by unfold Pm.q1; omega
  have hl : s.r1.length = 27 := by simp [Pm.r1, ok.rtl]
  have hlt := r1_lt ok
  unfold Pm.next
  generalize s.r1 = r1 at *
  generalize s.q1 = q1 at *
  have k1 := pages_pgn ok
  have k2 := names_pgn ok
  rw [← hB] at k1 k2
  exact ⟨hq, hl, hlt, by rw [hB]; exact ok.bl, ok.rtl, ok.rtlt, k1, pages_len ok, names_ris ok, k2, names_ris ok, k2, Ris.nil, fun x hx => by simp at hx, Ris.nil, fun x hx => by simp [nums] at hx, fun f hf => by simp at hf, by show s.e + 1 ≤ _; omega⟩
theorem jobs_len {s : Pm} (ok : POk s) : s.jobs.length ≤ 8192 := by
  have h1 : s.x.fresh.length ≤ 4096 := by have := ok.frl; simpa [nums] using this
  have h2 := pages_len ok
  have h3 : (L.bodiesL s.names s.pages).length ≤ s.pages.length := by
    unfold L.bodiesL
    split <;> simp
  simp only [Pm.jobs, jobsF, jobsL, List.length_append, List.length_map, List.length_range]
  omega
structure Pgd (w : World) (col : Nat → Nat) (p dp g : Nat) (s : Pm) (d : St) : Prop where
  pg : Pgr w col p (if s.o then .pointer none else .pointer (some ⟨dp, 0, none⟩)) s
  dk : ∃ wv, Dsk w dp g wv d ∧ ∀ b, dfp dp g wv b → col b = 30
  tab : Tab w
  t99 : col 0 = 99
def Chd (w w' : World) (col : Nat → Nat) (p dp g : Nat) (s' : Pm) (d' : St) : Prop := ∃ col', (∀ b, b < w.heap.size → col' b = col b) ∧ Pgd w' col' p dp g s' d' ∧ Keep (fun b => 1 ≤ col b ∧ col b ≤ 30) w w'
set_option maxHeartbeats 3200000 in
theorem writeall_full (w : World) (col : Nat → Nat) (p : Nat) (dv : Value) (s : Pm) (hP : Pgr w col p dv s) (hd : Dj s) (hn : s.x.free.length < s.need) :
    Calls Tryz.prog 82 #[.pointer (some ⟨p, 0, none⟩)] w fun e w' => e = .returned (.int .i64 6) ∧ Below w.heap.size w w' := by
  have hz := (zero_of_info Tryz.zero121).1
  have HN := Lib.hid (nextlist_any w col p dv s hP hd)
  have HH := Lib.hid hn
  clear hP hd hn
  go_enter Tryz.func82, Tryz.ntmps82
  go_wp2_with (first
    | (refine wpList_store_list rfl (.tmp 3) (.tmp 10) rfl w1.heap.size none none 0 0 0 0 rfl rfl (there_newN w1 zlist 121 2 rfl) ?_)
    | (go_at_call 120; refine HN.out.mono ?_; rintro e w1 ⟨_, h2, b1⟩; obtain rfl := h2 HH.out; have HB1 := Lib.hid b1; clear h2 b1))
  intro w2 HW2 k2
  go_wp2
  go_ret
  exact ⟨rfl, (btr HB1.out (alb _)).trans (k2.below (btr HB1.out (alb (w := w1) (.cells zlist 121))).size (fun b hb => by subst hb; exact HB1.out.size))⟩
end Go.Proofs.YtlcnefeikejcaaaGreatDoor
namespace Go.Proofs.YtlcnefeikejcaaaGreatDoor
open Go.RowKit Go.Sort Go.Maps
open D (St)
set_option maxRecDepth 100000
def Pm.res (s : Pm) (d : St) : Pm := if (s.comm d).2 ≠ 0 then Pm.gone (s.e + 1) else s.next
set_option maxHeartbeats 6400000 in
theorem writeall_ok (w : World) (col : Nat → Nat) (p dp g : Nat) (s : Pm) (d : St) (hP : Pgr w col p (.pointer (some ⟨dp, 0, none⟩)) s) (ho : s.o = false) (wv : Value) (hd : Dsk w dp g wv d) (hcol : ∀ b, dfp dp g wv b → col b = 30) (hT : Tab w) (h99 : col 0 = 99) (hj : Dj s) (hn : s.need ≤ s.x.free.length) (he : s.e < 1000000000)
    (h1 : d.waits.length ≤ 800000) (h2 : d.writes ≤ 800000) :
    Calls Tryz.prog 82 #[.pointer (some ⟨p, 0, none⟩)] w fun e w' => e = .returned (.int .i64 (s.comm d).2) ∧ Chd w w' col p dp g (s.res d) (s.comm d).1 := by
  have hz := (zero_of_info Tryz.zero121).1
  have hz2 := (zero_of_info Tryz.zeroZ36).1
  have hzs := Lib.hid zsup_size
  obtain ⟨pg, hpg⟩ : ∃ z, z = s.pages := ⟨_, rfl⟩
  obtain ⟨nm, hnm⟩ : ∃ z, z = s.names := ⟨_, rfl⟩
  have HPG := Lib.hid hpg
  have HNM := Lib.hid hnm
  have HN := Lib.hid (nextlist_any w col p _ s hP hj)
  rw [show s.x.free.take s.need = s.pages from rfl, ← hpg, ← hnm] at HN
  have HR1E : Hid (s.r1 = s.r.getD 0 0 :: (pg.getD 0 0).toNat :: nm.length :: s.rt) := Lib.hid (by rw [hpg, hnm]; rfl)
  have HX0 : Hid (0 ≤ pg.getD 0 0 ∧ pg.getD 0 0 < 4294967296) := Lib.hid (by rw [hpg]; exact page0 hP.ok)
  have HNL : Hid (nm.length ≤ 4096) := Lib.hid (by rw [hnm]; exact names_len hP.ok)
  have HPL : Hid (pg.length ≤ 4096) := Lib.hid (by rw [hpg]; exact pages_len hP.ok)
  clear hpg hnm
  have HH := Lib.hid hn
  have HP := Lib.hid hP
  have HO := Lib.hid ho
  have HD := Lib.hid hd
  have HDL := Lib.hid hd.lt
  have HCO := Lib.hid hcol
  have HT := Lib.hid hT
  have H99 := Lib.hid h99
  have HE := Lib.hid he
  have H1 := Lib.hid h1
  have H2 := Lib.hid h2
  have OK := Lib.hid hP.ok
  have h0w : Hid (0 < w.heap.size) := by
    show 0 < _
    have := World.block_lt_of_cell? w ⟨0, 0, none⟩ (hT 0 (by omega))
    exact this
  clear hP ho hd hcol hT h99 hj hn he h1 h2
  have hr27 : s.r1.length = 27 := by simp [Pm.r1, OK.out.rtl]
  have HR27 := Lib.hid hr27
  clear hr27
  obtain ⟨c1, hc1⟩ : ∃ c1, c1 = upd col w.heap.size 2 := ⟨_, rfl⟩
  have HCL : Hid (∀ b, b < w.heap.size → c1 b = col b) := fun b hb => by rw [hc1, upd_old hb]
  have HC2 : Hid (∀ b, w.heap.size ≤ b → c1 b = 2) := fun b hb => by rw [hc1, upd_new hb]
  clear hc1
  generalize zsup = Z at *
  go_enter Tryz.func82, Tryz.ntmps82
  go_wp2_with (first
    | (refine wpList_store_list rfl (.tmp 3) (.tmp 10) rfl w1.heap.size A1 A2 pg.length k1 nm.length k2 rfl rfl (there_newN w1 zlist 121 2 rfl) ?_)
    | (go_at_call 120; refine HN.out.mono ?_; rintro e w1 ⟨h1, _, b1⟩; obtain ⟨lpv, lnv, rfl, n1, r1, n2, r2, bl1, bl2⟩ := h1 HH.out; obtain ⟨A1, k1, e1, _, _, _⟩ := id n1; obtain ⟨A2, k2, e2, _, _, _⟩ := id n2; subst e1 e2; have HB1 := Lib.hid b1; have N1 := Lib.hid n1; have N2 := Lib.hid n2; have R1 := Lib.hid r1; have R2 := Lib.hid r2; have BL1 := Lib.hid bl1; have BL2 := Lib.hid bl2; clear h1 b1 n1 r1 n2 r2 bl1 bl2))
  intro w2 HW2 j2
  have s12 : Hid (w.heap.size ≤ w1.heap.size) := HB1.out.size
  have hal : Hid ((w1.alloc (.cells zlist 121)).heap.size = w1.heap.size + 1) := by
    show _ = _
    simp
  have sz2 : Hid (w1.heap.size < w2.heap.size) := by
    show _ < _
    have := j2.size
    have := hal.out
    omega
  have HB2 : Hid (Below w.heap.size w w2) := (btr HB1.out (alb _)).trans (j2.below (by have := HB1.out.size; have := hal.out; omega) (fun b hb => by subst hb; exact s12.out))
  have N1' : Hid (Nums w2 (.slice A1 pg.length k1) pg) := nkeep (N1.out.below (alb _)) j2 (fun h0 b hb e => by have := nlt N1.out h0 b hb; omega)
  have N2' : Hid (Nums w2 (.slice A2 nm.length k2) nm) := nkeep (N2.out.below (alb _)) j2 (fun h0 b hb e => by have := nlt N2.out h0 b hb; omega)
  have HP2 := Lib.hid ((HP.out.recol HCL.out).below HB2.out)
  clear j2 N1 N2 HN
  obtain ⟨lv0, pf0, pd0, m0, pf, pd, mb, C2⟩ := HP2.out.cells
  have HC2' := Lib.hid C2
  clear C2
  have hx0 := HX0.out
  have hnl : nm.length < 4294967296 := by have := HNL.out; omega
  have NS := Lib.hid (nextsuper_core w2 p s.q (s.r.getD 0 0) lv0 s.r _ s.rt pf pd mb s.e s.o _ HC2'.out OK.out.rtl rfl A1 A2 pg.length k1 nm.length k2 hnl pg N1'.out (pg.getD 0 0).toNat (by omega))
  clear hx0 hnl
  have NS2 : Hid (Calls Tryz.prog 121 #[.pointer (some ⟨p, 0, none⟩), .agg #[.slice A1 pg.length k1, .slice A2 nm.length k2]] w2 fun e w' => e = .returned (.agg (sva s.q1 s.r1)) ∧ Below w2.heap.size w2 w') := Lib.hid (by rw [HR1E.out]; exact NS.out)
  clear NS
  have HQ1 : Hid (s.q1 < 18446744073709551616) := by
    show _ < _
    unfold Pm.q1
    omega
  have HR1L := Lib.hid (r1_lt OK.out)
  obtain ⟨q1, hq1⟩ : ∃ z, z = s.q1 := ⟨_, rfl⟩
  obtain ⟨r1, hr1⟩ : ∃ z, z = s.r1 := ⟨_, rfl⟩
  have HQQ := Lib.hid hq1
  have HRR := Lib.hid hr1
  rw [← hq1] at NS2 HQ1
  rw [← hr1] at NS2 HR27 HR1L
  clear hq1 hr1
  go_wp2_with (first
    | (refine wpList_load_mid rfl 121 (.tmp 3) rfl w1.heap.size 0 rfl [.slice A1 pg.length k1, .slice A2 nm.length k2] _ HW2.out Tryz.underlying121 rfl Tryz.sizeL ?_)
    | (refine wpList_store_sup rfl (.tmp 5) (.tmp 16) rfl w3.heap.size q1 r1 rfl rfl HR27.out (there_newN w3 Z 36 28 hzs.out) ?_)
    | (go_at_call 121; refine NS2.out.mono ?_; rintro e w3 ⟨rfl, b3⟩; have B3 := Lib.hid b3; clear b3))
  intro w4 HS4 j4
  have hal3 : Hid ((w3.alloc (.cells Z 36)).heap.size = w3.heap.size + 1) := by
    show _ = _
    simp
  have s23 : Hid (w2.heap.size ≤ w3.heap.size) := B3.out.size
  have B24 : Hid (Below w2.heap.size w2 w4) := (btr B3.out (alb _)).trans (j4.below (by have := s23.out; have := hal3.out; omega) (fun b hb => by subst hb; exact s23.out))
  have B4 : Hid (Below w.heap.size w w4) := btr HB2.out B24.out
  have HL4 := Lib.hid (range_keep (F := fun _ => False) HW2.out (Keep.of_below B24.out) (fun h => h))
  have HP4 := Lib.hid (HP2.out.below B24.out)
  have HD4 := Lib.hid (HD.out.below B4.out)
  have HT4 := Lib.hid (HT.out.below B4.out)
  have M1 := Lib.hid (N1'.out.below B24.out)
  have M2 := Lib.hid (N2'.out.below B24.out)
  have s24 : Hid (w3.heap.size < w4.heap.size) := by
    show _ < _
    have := j4.size
    have := hal3.out
    omega
  have hc1 : Hid (∀ b, dfp dp g wv b → c1 b = 30) := fun b hb => (HCL.out b (HDL.out b hb)).trans (HCO.out b hb)
  have h991 : Hid (c1 0 = 99) := (HCL.out 0 h0w.out).trans H99.out
  have HJ : Hid (jobsF s.x.fresh ++ jobsL pg (L.bodiesL nm pg) = s.jobs) := Lib.hid (by rw [HPG.out, HNM.out]; rfl)
  have gp1 : Pgn 4096 pg := fun x hx => by
    have h1 := pages_pgn OK.out x (by rw [← HPG.out]; exact hx)
    have h2 := OK.out.bl
    omega
  have gp2 : Pgn 4096 nm := fun x hx => by
    have h1 := names_pgn OK.out x (by rw [← HNM.out]; exact hx)
    have h2 := OK.out.bl
    omega
  have HWP : Hid (∀ W, Below w4.heap.size w4 W → Calls Tryz.prog 151 #[.pointer (some ⟨p, 0, none⟩), .agg #[.slice A1 pg.length k1, .slice A2 nm.length k2]] W fun e w' => e = .returned (.int .i64 (wrL d s.jobs).2) ∧ DTurned W w' dp g wv (wrL d s.jobs).1) := fun W hW => by
    have h := writepages_any W c1 p dp g wv d s (HP4.out.below hW) (HD4.out.below hW) hc1.out (HT4.out.below hW) h991.out A1 A2 k1 k2 pg nm (M1.out.below hW) (M2.out.below hW) (fun b hb => by rw [HC2.out b (BL1.out b hb)]; omega) (fun b hb => by rw [HC2.out b (BL2.out b hb)]; omega) gp1 gp2 HPL.out (by have := H1.out; omega) (by have := H2.out; omega)
    rw [HJ.out] at h
    exact h
  have hjl := jobs_len OK.out
  obtain ⟨_, _, _, _, _, _, _, C4⟩ := HP4.out.cells
  have PW := Lib.hid (pwrite_core w4 c1 p dp g wv d HD4.out hc1.out HP4.out.cp HT4.out h991.out C4.cd q1 r1 HR27.out HQ1.out HR1L.out A1 A2 pg.length nm.length k1 k2 s.jobs (by have := H1.out; omega) (by have := H2.out; omega) HWP)
  have HCM : Hid (comm d s.jobs (q1 % 2) (U.wr q1 r1) = s.comm d) := Lib.hid (by rw [HQQ.out, HRR.out]; rfl)
  rw [HCM.out] at PW
  clear HWP gp1 gp2 hjl C4 HCM HJ j4 B3 HP2 HB1 HW2 HH
  obtain ⟨E, hE⟩ : ∃ z, z = (s.comm d).2 := ⟨_, rfl⟩
  obtain ⟨CD, hCD⟩ : ∃ z, z = (s.comm d).1 := ⟨_, rfl⟩
  rw [← hE, ← hCD] at PW
  have HEE := Lib.hid hE
  have HCD := Lib.hid hCD
  clear hE hCD
  obtain ⟨c2, hc2⟩ : ∃ c2, c2 = upd c1 w4.heap.size 30 := ⟨_, rfl⟩
  have H2L : Hid (∀ b, b < w4.heap.size → c2 b = c1 b) := fun b hb => by rw [hc2, upd_old hb]
  have H2N : Hid (∀ b, w4.heap.size ≤ b → c2 b = 30) := fun b hb => by rw [hc2, upd_new hb]
  clear hc2
  have HP4' := Lib.hid (HP4.out.recol H2L.out)
  have d30 : Hid (∀ b, dfp dp g wv b → c2 b = 30) := fun b hb => (H2L.out b (HD4.out.lt b hb)).trans (hc1.out b hb)
  have c299 : Hid (c2 0 = 99) := (H2L.out 0 (by have := h0w.out; have := B4.out.size; omega)).trans h991.out
  have C2W : Hid (∀ b, b < w.heap.size → c2 b = col b) := fun b hb => (H2L.out b (by have := B4.out.size; omega)).trans (HCL.out b hb)
  by_cases hE0 : E = 0
  · subst hE0
    go_wp2_with (first
      | (go_at_call 59; refine BG.out.mono ?_; rintro e w6 ⟨rfl, col', ag, P6, K6⟩)
      | (refine wpList_load_sup rfl (.tmp 5) rfl w3.heap.size q1 r1 rfl HS5.out ?_)
      | (refine wpList_load_mid rfl 121 (.tmp 3) rfl w1.heap.size 0 rfl [.slice A1 pg.length k1, .slice A2 nm.length k2] _ HL5.out Tryz.underlying121 rfl Tryz.sizeL ?_)
      | (go_at_call 122; refine PW.out.mono ?_; rintro e w5 ⟨rfl, wv5, D5, K5, f5⟩; have HS5 := Lib.hid (HS4.out.keep K5 (fun q => by have := HDL.out _ q; have := s12.out; have := sz2.out; have := s23.out; omega)); have HL5 := Lib.hid (range_keep HL4.out K5 (fun q => by have := HDL.out _ q; have := s12.out; omega)); have HP5 := Lib.hid (HP4'.out.keep K5 (fun b hb q => by have := d30.out b q; have := hb.2; omega)); have X1 := Lib.hid (nkeep M1.out K5 (fun h0 b hb q => by have := HDL.out b q; have := BL1.out b hb; omega)); have X2 := Lib.hid (nkeep M2.out K5 (fun h0 b hb q => by have := HDL.out b q; have := BL2.out b hb; omega)); obtain ⟨lv5, pf5, pd5, m5, pf6, pd6, mb6, C5⟩ := HP5.out.cells; have BG := Lib.hid (begin_any w5 c2 p _ s.q s.r lv5 _ _ s.e s.o C5 HP5.out.cp q1 r1 (.slice A1 pg.length k1) (.slice A2 nm.length k2) pg nm X1.out R1.out (fun h0 b hb => (H2L.out b (nlt M1.out h0 b hb)).trans (HC2.out b (BL1.out b hb))) X2.out (fun h0 b hb e => by have h1 := BL2.out b hb; have h2 := HP.out.cp; obtain ⟨_, _, _, _, _, _, _, C0⟩ := HP.out.cells; have h3 := C0.lt; omega) (by have := next_ok OK.out HE.out; rw [HQQ.out, HRR.out, HPG.out, HNM.out]; exact this)); have HD5 := Lib.hid D5; have HK5 := Lib.hid K5; have HF5 := Lib.hid f5; clear D5 K5 f5 C5)
      | (refine wpList_load_sup rfl (.tmp 5) rfl w3.heap.size q1 r1 rfl HS4.out ?_)
      | (refine wpList_load_mid rfl 121 (.tmp 3) rfl w1.heap.size 0 rfl [.slice A1 pg.length k1, .slice A2 nm.length k2] _ HL4.out Tryz.underlying121 rfl Tryz.sizeL ?_))
    go_ret
    have HRS : Hid (s.res d = s.next) := Lib.hid (by unfold Pm.res; rw [← HEE.out]; rfl)
    rw [HRS.out, ← HEE.out, ← HCD.out]
    have np5 : ∀ b, dfp dp g wv5 b → c2 b = 30 := fun b hb => by
      rcases hb with q | q | q
      · exact d30.out b (.inl q)
      · exact d30.out b (.inr (.inl q))
      · rcases HF5.out b q with q2 | q2
        · exact d30.out b (.inr (.inr q2))
        · exact H2N.out b q2
    have cp2 : c2 p = 1 := HP5.out.cp
    have h0 : 0 < w4.heap.size := by have := h0w.out; have := B4.out.size; omega
    have s5 := HK5.out.size
    refine ⟨rfl, col', fun b hb => (ag b (by have := B4.out.size; omega)).trans (C2W.out b hb), ⟨?_, ⟨wv5, HD5.out.keep K6 (fun b hb e => by have := np5 b hb; rw [e, cp2] at this; omega), fun b hb => (ag b (HD5.out.lt b hb)).trans (np5 b hb)⟩, (HT4.out.keep HK5.out (fun q => by have := d30.out 0 q; have := c299.out; omega)).keep K6 (fun e => by rw [← e, c299.out] at cp2; omega), (ag 0 (by omega)).trans c299.out⟩, ?_⟩
    · have e1 : s.next = ⟨q1, r1, pg, nm, r1.drop 3, ⟨nm, [], []⟩, s.e + 1, s.o⟩ := by
        rw [HQQ.out, HRR.out, HPG.out, HNM.out]
        rfl
      have e2 : s.next.o = false := HO.out
      rw [e2, if_neg (by simp), e1]
      exact P6
    · refine ((Keep.of_below B4.out).trans HK5.out (fun i hi => .inl ?_)).trans K6 (fun i hi => .inl ?_)
      · have := HCO.out i hi
        omega
      · have := HP.out.cp
        rw [hi]
        omega
  · have q1' : (E == 0) = false := by simpa using hE0
    have q2' : (E != 0) = true := by simpa using hE0
    have HRS : Hid (s.res d = Pm.gone (s.e + 1)) := Lib.hid (by unfold Pm.res; rw [← HEE.out, if_pos hE0])
    clear hE0
    go_wp2_with (first
      | (go_at_call 83; refine EN.out.mono ?_; rintro e w6 ⟨rfl, col', ag, P6, K6⟩)
      | (go_at_call 122; refine PW.out.mono ?_; rintro e w5 ⟨rfl, wv5, D5, K5, f5⟩; have HP5 := Lib.hid (HP4'.out.keep K5 (fun b hb q => by have := d30.out b q; have := hb.2; omega)); have EN := Lib.hid (end_any w5 c2 p _ s HP5.out HE.out E); have HD5 := Lib.hid D5; have HK5 := Lib.hid K5; have HF5 := Lib.hid f5; clear D5 K5 f5)
      | (refine wpList_load_sup rfl (.tmp 5) rfl w3.heap.size q1 r1 rfl HS4.out ?_)
      | (refine wpList_load_mid rfl 121 (.tmp 3) rfl w1.heap.size 0 rfl [.slice A1 pg.length k1, .slice A2 nm.length k2] _ HL4.out Tryz.underlying121 rfl Tryz.sizeL ?_))
    go_ret
    rw [HRS.out, ← HEE.out, ← HCD.out]
    have np5 : ∀ b, dfp dp g wv5 b → c2 b = 30 := fun b hb => by
      rcases hb with q | q | q
      · exact d30.out b (.inl q)
      · exact d30.out b (.inr (.inl q))
      · rcases HF5.out b q with q2 | q2
        · exact d30.out b (.inr (.inr q2))
        · exact H2N.out b q2
    have h0 : 0 < w4.heap.size := by have := h0w.out; have := B4.out.size; omega
    have s5 := HK5.out.size
    refine ⟨rfl, col', fun b hb => (ag b (by have := B4.out.size; omega)).trans (C2W.out b hb), ⟨?_, ⟨wv5, HD5.out.keep K6 (fun b hb e => by have := np5 b hb; have := e.2; omega), fun b hb => (ag b (HD5.out.lt b hb)).trans (np5 b hb)⟩, (HT4.out.keep HK5.out (fun q => by have := d30.out 0 q; have := c299.out; omega)).keep K6 (fun e => by have := e.2; have := c299.out; omega), (ag 0 (by omega)).trans c299.out⟩, ?_⟩
    · rw [show (Pm.gone (s.e + 1)).o = true from rfl, if_pos rfl]
      exact P6
    · refine ((Keep.of_below B4.out).trans HK5.out (fun i hi => .inl ?_)).trans K6 (fun i hi => ?_)
      · have := HCO.out i hi
        omega
      · rcases Nat.lt_or_ge i w.heap.size with q | q
        · left
          have h1 := C2W.out i q
          have h2 := hi.1
          have h3 := hi.2
          omega
        · exact .inr q
end Go.Proofs.YtlcnefeikejcaaaGreatDoor
namespace Go.Proofs.YtlcnefeikejcaaaGreatDoor
open Go.RowKit Go.Sort Go.Maps
open D (St)
set_option maxRecDepth 100000
def Pm.commit (s : Pm) (d : St) : Pm × St × Int :=
  if s.o then (s, d, 7) else if s.chd then (if s.x.free.length < s.need then (s, d, 6) else (s.res d, s.comm d)) else if d.down then (Pm.gone (s.e + 1), d, 7) else (s, d, 0)
theorem Pgd.below {w w' : World} {col : Nat → Nat} {p dp g : Nat} {s : Pm} {d : St} (h : Pgd w col p dp g s d) (k : Below w.heap.size w w') : Pgd w' col p dp g s d := by
  obtain ⟨wv, D, c⟩ := h.dk
  exact ⟨h.pg.below k, ⟨wv, D.below k, c⟩, h.tab.below k, h.t99⟩
theorem Chd.same {w w' : World} {col : Nat → Nat} {p dp g : Nat} {s : Pm} {d : St} (h : Pgd w col p dp g s d) (k : Below w.heap.size w w') : Chd w w' col p dp g s d := ⟨col, fun _ _ => rfl, h.below k, Keep.of_below k⟩
theorem Chd.pre {w w1 w2 : World} {col : Nat → Nat} {p dp g : Nat} {s : Pm} {d : St} (k : Below w.heap.size w w1) (h : Chd w1 w2 col p dp g s d) : Chd w w2 col p dp g s d := by
  obtain ⟨c, a, P, K⟩ := h
  exact ⟨c, fun b hb => a b (Nat.lt_of_lt_of_le hb k.size), P, (Keep.of_below k).trans K (fun i hi => .inl hi)⟩
set_option maxHeartbeats 1600000 in
theorem commit_any (w : World) (col : Nat → Nat) (p dp g : Nat) (s : Pm) (d : St) (h : Pgd w col p dp g s d) (hj : s.o = false → Dj s) (he : s.e < 1000000000) (h1 : d.waits.length ≤ 800000) (h2 : d.writes ≤ 800000) :
    Calls Tryz.prog 29 #[.pointer (some ⟨p, 0, none⟩)] w fun e w' => e = .returned (.int .i64 (s.commit d).2.2) ∧ Chd w w' col p dp g (s.commit d).1 (s.commit d).2.1 := by
  have HH := Lib.hid h
  obtain ⟨lv, pf0, pd0, m0, pf, pd, mb, C⟩ := h.pg.cells
  have c85 := C.co
  cases ho : s.o with
  | true =>
    have e1 : s.commit d = (s, d, 7) := by simp [Pm.commit, ho]
    rw [e1]
    rw [ho] at c85
    clear e1 C h
    go_enter Tryz.func29, Tryz.ntmps29
    go_wp2
    go_ret
    exact ⟨rfl, Chd.same HH.out (Below.refl _ _)⟩
  | false =>
    rw [ho] at c85
    have hpg := h.pg
    rw [ho, if_neg (by simp)] at hpg
    obtain ⟨wv, hd, hcol⟩ := h.dk
    have HC := Lib.hid (changed_any w col p _ s hpg)
    cases hq : s.chd with
    | true =>
      rw [hq] at HC
      have HWA : Hid (∀ W, Below w.heap.size w W → Calls Tryz.prog 82 #[.pointer (some ⟨p, 0, none⟩)] W fun e w' => e = .returned (.int .i64 (s.commit d).2.2) ∧ Chd W w' col p dp g (s.commit d).1 (s.commit d).2.1) := fun W hW => by
        by_cases hn : s.x.free.length < s.need
        · have e1 : s.commit d = (s, d, 6) := by simp [Pm.commit, ho, hq, hn]
          rw [e1]
          refine (writeall_full W col p _ s (hpg.below hW) (hj ho) hn).mono ?_
          rintro e w' ⟨rfl, hb⟩
          exact ⟨rfl, Chd.same (HH.out.below hW) hb⟩
        · have e1 : s.commit d = (s.res d, s.comm d) := by simp [Pm.commit, ho, hq, hn]
          rw [e1]
          exact writeall_ok W col p dp g s d (hpg.below hW) ho wv (hd.below hW) hcol (h.tab.below hW) h.t99 (hj ho) (by omega) he h1 h2
      clear C h hpg hd hcol hj
      generalize s.commit d = R at *
      go_enter Tryz.func29, Tryz.ntmps29
      go_wp2_with (first
        | (go_at_call 82; refine (HWA.out _ HB1.out).mono ?_; rintro e w2 ⟨rfl, h2⟩)
        | (go_at_call 81; refine HC.out.mono ?_; rintro e w1 ⟨rfl, b1⟩; have HB1 := Lib.hid b1))
      go_ret
      exact ⟨rfl, Chd.pre HB1.out h2⟩
    | false =>
      rw [hq] at HC
      have HDN : Hid (∀ W, Below w.heap.size w W → Calls Tryz.prog 55 #[.pointer (some ⟨dp, 0, none⟩)] W fun e w' => e = .returned (.bool d.down) ∧ w' = W) := fun W hW => ddown_any (hd.below hW)
      have C0 := Lib.hid C.cd
      rw [ho, if_neg (by simp)] at C0
      cases hdn : d.down with
      | true =>
        rw [hdn] at HDN
        have e1 : s.commit d = (Pm.gone (s.e + 1), d, 7) := by simp [Pm.commit, ho, hq, hdn]
        rw [e1]
        have HEN : Hid (∀ W, Below w.heap.size w W → Calls Tryz.prog 83 #[.pointer (some ⟨p, 0, none⟩), .int .i64 7] W fun e w' => e = .returned (.int .i64 7) ∧ Chd W w' col p dp g (Pm.gone (s.e + 1)) d) := fun W hW => by
          refine (end_any W col p _ s (hpg.below hW) he 7).mono ?_
          rintro e w' ⟨rfl, c, a, P, K⟩
          have hdw := hd.below hW
          have h0 : 0 < W.heap.size := World.block_lt_of_cell? W ⟨0, 0, none⟩ ((h.tab.below hW) 0 (by omega))
          exact ⟨rfl, c, a, ⟨P, ⟨wv, hdw.keep K (fun b hb e => by have := hcol b hb; have := e.2; omega), fun b hb => (a b (hdw.lt b hb)).trans (hcol b hb)⟩, (h.tab.below hW).keep K (fun e => by have := e.2; have := h.t99; omega), (a 0 h0).trans h.t99⟩, K.mono (fun b _ e => ⟨e.1, by have := e.2; omega⟩)⟩
        clear C h hpg hd hcol hj e1
        go_enter Tryz.func29, Tryz.ntmps29
        go_wp2_with (first
          | (go_at_call 83; refine (HEN.out _ HB1.out).mono ?_; rintro e w2 ⟨rfl, h2⟩)
          | (go_at_call 55; refine (HDN.out _ HB1.out).mono ?_; rintro e w2 ⟨rfl, rfl⟩)
          | (go_at_call 81; refine HC.out.mono ?_; rintro e w1 ⟨rfl, b1⟩; have HB1 := Lib.hid b1; have c0 := kept C0.out b1))
        go_ret
        exact ⟨rfl, Chd.pre HB1.out h2⟩
      | false =>
        rw [hdn] at HDN
        have e1 : s.commit d = (s, d, 0) := by simp [Pm.commit, ho, hq, hdn]
        rw [e1]
        clear C h hpg hd hcol hj e1
        go_enter Tryz.func29, Tryz.ntmps29
        go_wp2_with (first
          | (go_at_call 55; refine (HDN.out _ HB1.out).mono ?_; rintro e w2 ⟨rfl, rfl⟩)
          | (go_at_call 81; refine HC.out.mono ?_; rintro e w1 ⟨rfl, b1⟩; have HB1 := Lib.hid b1; have c0 := kept C0.out b1))
        go_ret
        exact ⟨rfl, Chd.same HH.out HB1.out⟩
end Go.Proofs.YtlcnefeikejcaaaGreatDoor
namespace Go.Proofs.YtlcnefeikejcaaaGreatDoor
open Go.RowKit Go.Sort Go.Maps
set_option maxRecDepth 100000
theorem wpList_append_nums2 {w : World} {ops : Array Oper} {rest : List Oper} {o : Oper} {a : Act} {Q : Exit → Act → World → Prop} (hg : o.guard = none) (s x : Operand) (t : TypeId)
    (ho : o.op = .call { callee := .builtin .append, args := #[s, x], argTypes := #[t, t] }) (ht : Tryz.prog.underlying t = some (.slice 31))
    (v : Value) (xs : List Int) (hs : a.eval s = v) (hown : w.ownsRow 0 31 1 v xs.length (us xs)) (vx : Value) (l : List Int) (hx : a.eval x = vx) (hn : Nums w vx l) (hr : Real vx) (hlen : xs.length + l.length ≤ 1000000)
    (h : ∀ v' w', w'.ownsRow 0 31 1 v' (xs ++ l).length (us (xs ++ l)) → w.grownBy w' v.ownBlock → (∀ b, v'.ownBlock = some b → v.ownBlock = some b ∨ w.heap.size ≤ b) → wpList Tryz.prog ops Q rest (a.put o.dst v') w') : wpList Tryz.prog ops Q (o :: rest) a w := by
  obtain ⟨i0, hi0, hz0, hz1, hz2⟩ := info_parts Tryz.info31
  have e : us (xs ++ l) = us xs ++ us l := by simp [us]
  refine wpList_plain hg fun K hK => ?_
  obtain ⟨A, c, rfl, hc, hm, q⟩ := id hn
  cases A with
  | none =>
    obtain ⟨h1, rfl⟩ := hr _ _ rfl
    obtain rfl : l = [] := List.eq_nil_of_length_eq_zero h1
    have hr := run_append_owned_none (P := Tryz.prog) w 0 t o.type 31 i0 1 ht hi0 v xs.length (us xs) hown
    unfold Oper.wp execOp
    simp only [ho, resolve, invoke, builtin, Sem.run_bind, Sem.run_pure, Result.andThen_ok, List.map_toArray, List.map_cons, List.map_nil, hs, hx, List.length_nil, hr]
    exact hK _ _ (h v w (by simpa using hown) (World.grownBy.refl _ _) (fun b hb => .inl hb))
  | some ad =>
    obtain ⟨v', w', hr, h2, h3, h4⟩ := run_append_own2 (P := Tryz.prog) w t o.type 31 i0 _ 1 4 ht hi0 hz0 hz1 hz2 rfl (by decide) v xs.length (us xs) hown ad l.length c (us l) (by rw [us_length, Nat.mul_one]) (nums_cells hn rfl ad rfl) (us_one l) (by unfold maxLen; omega) (by omega)
    unfold Oper.wp execOp
    simp only [ho, resolve, invoke, builtin, Sem.run_bind, Sem.run_pure, Result.andThen_ok, List.map_toArray, List.map_cons, List.map_nil, hs, hx, hr]
    refine hK _ _ (h v' w' ?_ h3 h4)
    rw [e, List.length_append]
    exact h2
def pnew (dp : Nat) : Array Value := (pcs (.pointer (some ⟨dp, 0, none⟩)) 0 U.none27 (.slice none 0 0) zst.toList zst.toList 0 false).toArray
theorem run_build_pager (dp : Nat) (w : World) : (Instr.build 129 #[(0, .pointer (some ⟨dp, 0, none⟩))]).run Tryz.prog w = .ok (.agg (pnew dp)) w := run_build w _ _ _ (by kernel_rfl)
theorem pnew_size (dp : Nat) : (pnew dp).size = 86 := rfl
theorem pgc_new (w : World) (dp : Nat) : Pgc (w.alloc (.cells (pnew dp) 129)) w.heap.size (.pointer (some ⟨dp, 0, none⟩)) 0 U.none27 (.slice none 0 0) zst.toList zst.toList 0 false :=
  ⟨there_newN w (pnew dp) _ 86 (pnew_size dp), by
    have := two_new w (pnew dp) 129
    simpa [pnew] using this, rfl, rfl, rfl⟩
end Go.Proofs.YtlcnefeikejcaaaGreatDoor
namespace Go.Proofs.YtlcnefeikejcaaaGreatDoor
open Go.RowKit Go.Sort Go.Maps
open D (St)
set_option maxRecDepth 100000
def Z2 : List (Nat × List UInt8) := [(0, D.zero), (1, D.zero)]
theorem z2_get (i : Nat) (hi : i < Z2.length) : Z2[i] = (i, D.zero) := by
  have : i = 0 ∨ i = 1 := by simp [Z2] at hi; omega
  rcases this with rfl | rfl <;> rfl
def from2 (k : Nat) : List Int := (List.range (k - 2)).map fun i => ((i + 2 : Nat) : Int)
theorem from2_length (k : Nat) : (from2 k).length = k - 2 := by simp [from2]
theorem from2_succ {k : Nat} (h : 2 ≤ k) : from2 (k + 1) = from2 k ++ [(k : Int)] := by
  unfold from2
  rw [show k + 1 - 2 = (k - 2) + 1 by omega, List.range_succ, List.map_append]
  simp
  omega
theorem mem_from2 {k : Nat} {x : Int} : x ∈ from2 k ↔ 2 ≤ x ∧ x < (k : Int) := by
  simp only [from2, List.mem_map, List.mem_range]
  constructor
  · rintro ⟨i, hi, rfl⟩
    omega
  · rintro ⟨h1, h2⟩
    exact ⟨(x - 2).toNat, by omega, by omega⟩
theorem from2_ris {k : Nat} (h : k ≤ 4096) : Ris (from2 k) := by
  refine ⟨?_, fun x hx => by have := mem_from2.1 hx; omega⟩
  unfold from2
  rw [List.pairwise_map]
  exact List.pairwise_lt_range.imp (fun h => by omega)
def Pm.fmt (B : Nat) : Pm := ⟨0, B :: U.none27.drop 1, [], from2 B, U.none27.drop 3, ⟨from2 B, [], []⟩, 1, false⟩
theorem fmt_ok {B : Nat} (h : B ≤ 4096) : POk (Pm.fmt B) := by
  have p : Pgn B (from2 B) := fun x hx => mem_from2.1 hx
  refine ⟨by show 0 < _; omega, rfl, fun x hx => ?_, h, rfl, fun x hx => none_lt x (List.mem_of_mem_drop hx), fun x hx => by simp [Pm.fmt] at hx, by simp [Pm.fmt], from2_ris h, p, from2_ris h, p, Ris.nil, fun x hx => by simp [Pm.fmt] at hx, Ris.nil, fun x hx => by simp [Pm.fmt, nums] at hx, fun f hf => by simp [Pm.fmt] at hf, by show 1 ≤ _; omega⟩
  simp only [Pm.fmt, List.mem_cons] at hx
  rcases hx with rfl | hx
  · omega
  · exact none_lt x (List.mem_of_mem_drop hx)
theorem fmt_dj (B : Nat) : Dj (Pm.fmt B) := ⟨List.nodup_nil, fun x _ => ⟨by simp [Pm.fmt], by simp [Pm.fmt], by simp [Pm.fmt, nums]⟩, fun x hx => by simp [Pm.fmt] at hx, fun x hx => by simp [Pm.fmt, nums] at hx, fun x _ => by simp [Pm.fmt]⟩
def pfmt (d : St) : St × Int :=
  if (wrL d Z2).2 ≠ 0 then wrL d Z2 else if D.syncE (wrL d Z2).1 ≠ 0 then (D.sync (wrL d Z2).1, D.syncE (wrL d Z2).1) else
    (Pm.fmt d.safe.length).comm (D.sync (wrL d Z2).1)
theorem fmt_need {B : Nat} : (Pm.fmt B).need ≤ (Pm.fmt B).x.free.length := by
  have e : (Pm.fmt B).x.free.length = B - 2 := from2_length B
  have h1 := need_eq (s := Pm.fmt B)
  rw [e] at h1 ⊢
  simp only [Pm.fmt, List.length_nil] at h1 ⊢
  unfold L.needZ at h1
  split at h1 <;> omega
theorem write_safe (d : St) (n : Int) (b : List UInt8) : (D.write d n b).safe = d.safe := by
  unfold D.write
  split
  · rw [D.act_safe]; rfl
  · rfl
theorem wrL_safe : ∀ (J : List (Nat × List UInt8)) (d : St), (wrL d J).1.safe = d.safe
  | [], _ => rfl
  | x :: r, d => by
    simp only [wrL]
    split
    · rw [wrL_safe r, write_safe]
    · exact write_safe _ _ _
theorem sync_safe (d : St) : (D.sync d).safe.length = d.safe.length := by
  unfold D.sync
  split
  · rfl
  · split
    · rfl
    · exact D.lay_length _ _
structure Grow (w wr : World) (bl : Nat) (v : Value) (xs : List Int) : Prop where
  low : Below w.heap.size w wr
  box : wr.rangeAt bl 0 [.slice none 0 0, v]
  th : wr.there bl 0 2
  own : wr.ownsRow 0 31 1 v xs.length (us xs)
  new : ∀ b, v.ownBlock = some b → bl < b
  bl : w.heap.size ≤ bl
theorem run_build_sup1 (B : Nat) (w : World) : (Instr.build 36 #[(1, .int .u32 (B : Int))]).run Tryz.prog w = .ok (.agg (sva 0 (B :: U.none27.drop 1))) w := run_build w _ _ _ (by kernel_rfl)
theorem zero_byts {w : World} {base b : Nat} (h : w.ownsRow base 5 1 (.slice (some ⟨b, 0, none⟩) 512 512) 512 (madeCells (Value.int .u8 0).cells (512 * 1)).toList) : Byts w (.slice (some ⟨b, 0, none⟩) 512 512) D.zero := by
  rw [Nat.mul_one, show (Value.int .u8 0).cells = #[Value.int .u8 0] from rfl, made_zeros] at h
  exact Byts.own (l := D.zero) (by simpa [D.zero] using h)
theorem Grow.cell {w wr w5 : World} {bl : Nat} {v : Value} {xs : List Int} {ob : Obj} (h : Grow w wr bl v xs) (g5 : (wr.alloc ob).grownBy w5 v.ownBlock) : w5.cell? ⟨bl, 1, none⟩ = some v ∧ w5.frozen? ⟨bl, 1, none⟩ = false ∧ w5.there bl 0 2 ∧ w5.rangeAt bl 0 [.slice none 0 0, v] := by
  have k : Keep (fun b => v.ownBlock = some b) wr w5 := ((Keep.refl _ wr).alloc ob).grown g5 (fun k hk => .inl hk)
  have hn : ¬ v.ownBlock = some bl := fun e => by have := h.new bl e; omega
  have t := there_keep h.th k hn
  have r := range_keep h.box k hn
  exact ⟨r 1 _ rfl, by have := (t 1 (by omega)).2; rwa [Nat.zero_add] at this, t, r⟩
theorem Grow.step {w wr w5 : World} {bl : Nat} {v v5 : Value} {xs ys : List Int} {ob : Obj} (h : Grow w wr bl v xs) (g5 : (wr.alloc ob).grownBy w5 v.ownBlock) (o5 : w5.ownsRow 0 31 1 v5 ys.length (us ys)) (f5 : ∀ b, v5.ownBlock = some b → v.ownBlock = some b ∨ (wr.alloc ob).heap.size ≤ b) : Grow w (w5.setCell ⟨bl, 1, none⟩ v5) bl v5 ys := by
  obtain ⟨_, _, t, r⟩ := h.cell g5
  have hbl : bl < wr.heap.size := World.block_lt_of_cell? wr _ (h.box 0 _ rfl)
  have ks : Keep (fun b => b = bl) w5 (w5.setCell ⟨bl, 1, none⟩ v5) := Keep.setCell (F := fun b => b = bl) (p := ⟨bl, 1, none⟩) (Keep.refl _ _) (.inl rfl) _
  have hnew : ∀ b, v5.ownBlock = some b → bl < b := fun b hb => by
    rcases f5 b hb with q | q
    · exact h.new b q
    · have : (wr.alloc ob).heap.size = wr.heap.size + 1 := by simp
      omega
  have low5 : Below w.heap.size w w5 := (h.low.alloc h.low.size ob).grown g5 (by have := h.low.size; simp; omega) (fun k hk => by have := h.new k hk; have := h.bl; omega)
  refine ⟨low5.trans (ks.below low5.size (fun k hk => by subst hk; exact h.bl)), ?_, World.there_setCells t bl 1 [v5], own_keep o5 ks (fun b hb e => by have := hnew b hb; omega), hnew, h.bl⟩
  intro j u hj
  match j with
  | 0 =>
    rw [World.cell?_setCell_other _ _ _ _ (by simp)]
    exact r 0 u hj
  | 1 =>
    have e : v5 = u := by simpa using hj
    rw [← e]
    exact World.cell?_setCell_same _ _ _ (r 1 _ rfl)
  | j + 2 => simp at hj
open Classical in
set_option maxHeartbeats 6400000 in
theorem format_any (w : World) (dp g : Nat) (wv : Value) (d : St) (hd : Dsk w dp g wv d) (hT : Tab w) (h0 : ¬ dfp dp g wv 0) (h1 : d.waits.length ≤ 700000) (h2 : d.writes ≤ 700000) :
    Calls Tryz.prog 71 #[.pointer (some ⟨dp, 0, none⟩)] w fun e w' => e = .returned (.int .i64 (pfmt d).2) ∧ DTurned w w' dp g wv (pfmt d).1 := by
  obtain ⟨i0, hi0, hz0, hz1, hz2⟩ := info_parts Tryz.info5
  have hz := (zero_of_info Tryz.zero121).1
  have HD := Lib.hid hd
  have HT := Lib.hid hT
  have H0 := Lib.hid h0
  have H1 := Lib.hid h1
  have H2 := Lib.hid h2
  have h0w : Hid (0 < w.heap.size) := Lib.hid (World.block_lt_of_cell? w ⟨0, 0, none⟩ (hT 0 (by omega)))
  clear hd hT h0 h1 h2
  obtain ⟨R, hR⟩ : ∃ z, z = pfmt d := ⟨_, rfl⟩
  have HR := Lib.hid hR
  rw [← hR]
  clear hR
  go_enter Tryz.func71, Tryz.ntmps71
  go_wp2
  go_loopg [10] 2 (fun k s wr => ∃ i : Nat, s = .int .i64 i ∧ i ≤ 2 ∧ 2 - i ≤ k ∧ Hid (DTurned w wr dp g wv (wrL d (Z2.take i)).1 ∧ (wrL d (Z2.take i)).2 = 0))
  case atStart => exact ⟨0, rfl, by omega, by omega, Lib.hid ⟨by rw [List.take_zero]; exact DTurned.refl HD.out, by rw [List.take_zero]; rfl⟩⟩
  case round =>
    obtain ⟨i, rfl, hi1, hi2, HI⟩ := hrel
    obtain ⟨wv', D', K', f'⟩ := HI.out.1
    have HK' := Lib.hid K'
    have HD' := Lib.hid D'
    have HF' := Lib.hid f'
    clear K' D' f'
    by_cases hi : i < 2
    · have hlt : (i : Int) < 2 := by omega
      obtain ⟨l1, l2⟩ := wrL_len (Z2.take i) d
      rw [List.length_take] at l1 l2
      have HW : Hid (∀ (W : World) b, Below wr.heap.size wr W → Byts W b D.zero → Calls Tryz.prog 13 #[.pointer (some ⟨dp, 0, none⟩), .int .i64 (i : Int), b] W fun e w' => e = .returned (.int .i64 (D.writeE (wrL d (Z2.take i)).1 (i : Int) D.zero)) ∧ DTurned W w' dp g wv' (D.write (wrL d (Z2.take i)).1 (i : Int) D.zero)) :=
        fun W b hW hb => dwrite_any (HD'.out.below hW) (i : Int) b _ hb (by have := H1.out; omega) (by have := H2.out; omega)
      have HNX := Lib.hid (wrL_next d Z2 i (by simp [Z2]; omega) HI.out.2)
      rw [z2_get i (by simp [Z2]; omega)] at HNX
      clear l1 l2
      by_cases hE : D.writeE (wrL d (Z2.take i)).1 (i : Int) D.zero = 0
      · rw [hE] at HW HNX
        go_wp2_with (first
          | (go_at_call 13; refine (HW.out _ _ HB1.out HY1.out).mono ?_; rintro e w2 ⟨rfl, t2⟩)
          | (refine wpList_make_full _ rfl _ _ 48 rfl wr.heap.size 5 i0 _ 1 Tryz.underlying48 hi0 hz0 hz1 .i64 .i64 _ _ 512 rfl rfl rfl rfl (by rw [hz2]; omega) (by unfold maxLen; omega) (Nat.le_refl _) ?_; intro w1 ho hg; have HB1 : Hid (Below wr.heap.size wr w1) := (Below.refl _ _).grown hg (Nat.le_refl _) (by intro k hk; cases hk); have HY1 := Lib.hid (zero_byts ho); clear ho hg))
        have HT2 : Hid (DTurned w w2 dp g wv (wrL d (Z2.take (i + 1))).1) := Lib.hid (by
          rw [HNX.out]
          exact DTurned.of HK'.out HF'.out (DTurned.pre HB1.out t2))
        have HZ2 : Hid ((wrL d (Z2.take (i + 1))).2 = 0) := Lib.hid (by rw [HNX.out])
        clear t2
        go_roundg (2 - (i + 1))
        case measure => omega
        case rel => exact ⟨i + 1, by simp, by omega, by omega, Lib.hid ⟨HT2.out, HZ2.out⟩⟩
      · have q1 : (D.writeE (wrL d (Z2.take i)).1 (i : Int) D.zero == 0) = false := by simpa using hE
        have q2 : (D.writeE (wrL d (Z2.take i)).1 (i : Int) D.zero != 0) = true := by simpa using hE
        have HRES : Hid (R = (D.write (wrL d (Z2.take i)).1 (i : Int) D.zero, D.writeE (wrL d (Z2.take i)).1 (i : Int) D.zero)) := Lib.hid (by
          have h1 := HNX.out
          have h2 := wrL_stop d Z2 (i + 1) (by rw [h1]; exact hE)
          rw [HR.out, pfmt, h2, h1, if_pos hE])
        clear hE
        generalize D.writeE (wrL d (Z2.take i)).1 (i : Int) D.zero = WE at *
        go_wp2_with (first
          | (go_at_call 13; refine (HW.out _ _ HB1.out HY1.out).mono ?_; rintro e w2 ⟨rfl, t2⟩)
          | (refine wpList_make_full _ rfl _ _ 48 rfl wr.heap.size 5 i0 _ 1 Tryz.underlying48 hi0 hz0 hz1 .i64 .i64 _ _ 512 rfl rfl rfl rfl (by rw [hz2]; omega) (by unfold maxLen; omega) (Nat.le_refl _) ?_; intro w1 ho hg; have HB1 : Hid (Below wr.heap.size wr w1) := (Below.refl _ _).grown hg (Nat.le_refl _) (by intro k hk; cases hk); have HY1 := Lib.hid (zero_byts ho); clear ho hg))
        go_ret
        rw [HRES.out]
        exact ⟨rfl, DTurned.of HK'.out HF'.out (DTurned.pre HB1.out t2)⟩
    · obtain rfl : i = 2 := by omega
      have hz3 : ¬ ((2 : Nat) : Int) < 2 := by omega
      have e22 : Z2.take 2 = Z2 := rfl
      rw [e22] at HD' HI
      have HZ8 : Hid ((wrL d Z2).2 = 0) := Lib.hid HI.out.2
      have HSF : Hid ((wrL d Z2).1.safe.length = d.safe.length) := Lib.hid (by rw [wrL_safe])
      obtain ⟨l1, l2⟩ := wrL_len Z2 d
      have zl : Z2.length = 2 := rfl
      rw [zl] at l1 l2
      have HLL : Hid ((wrL d Z2).1.waits.length ≤ 800000 - 10 ∧ (wrL d Z2).1.writes ≤ 800000 - 10) := Lib.hid ⟨by have := H1.out; omega, by have := H2.out; omega⟩
      clear HI l1 l2 e22 hi zl
      obtain ⟨w8, hw8⟩ : ∃ x, x = wr := ⟨_, rfl⟩
      subst hw8
      have HR2 : Hid (∀ z, D.syncE (wrL d Z2).1 = z → R = if z ≠ 0 then (D.sync (wrL d Z2).1, z) else (Pm.fmt d.safe.length).comm (D.sync (wrL d Z2).1)) := Lib.hid (by
        rintro z rfl
        rw [HR.out, pfmt, if_neg (by rw [HZ8.out]; simp)])
      have SY := Lib.hid (sync_any HD'.out)
      have HSS : Hid ((D.sync (wrL d Z2).1).safe.length = d.safe.length) := Lib.hid (by rw [sync_safe, HSF.out])
      obtain ⟨sl1, sl2⟩ := sync_len (wrL d Z2).1
      have HL9 : Hid ((D.sync (wrL d Z2).1).waits.length ≤ 800000 ∧ (D.sync (wrL d Z2).1).writes ≤ 800000) := Lib.hid ⟨by have := HLL.out.1; omega, by have := HLL.out.2; omega⟩
      clear sl1 sl2 HR HZ8 HLL
      generalize hsy : D.sync (wrL d Z2).1 = d2 at *
      obtain ⟨e2, he2⟩ : ∃ z, z = D.syncE (wrL d Z2).1 := ⟨_, rfl⟩
      have HR3 := Lib.hid (HR2.out e2 he2.symm)
      rw [← he2] at SY
      clear he2 HR2 hsy
      by_cases hE2 : e2 = 0
      · subst hE2
        obtain ⟨B, hB⟩ : ∃ z, z = d.safe.length := ⟨_, rfl⟩
        have HB : Hid (8 ≤ B ∧ B ≤ 4096) := Lib.hid ⟨by have := HD.out.ok.few; omega, by have := HD.out.ok.many; omega⟩
        have HR4 : Hid (R = (Pm.fmt B).comm d2) := Lib.hid (by rw [HR3.out, if_neg (by simp), hB])
        have HSB : Hid (d2.safe.length = B) := Lib.hid (by rw [HSS.out, hB])
        clear HR3 hB HSS
        have hwB : IntKind.u32.wrap (B : Int) = (B : Int) := by have := HB.out.2; rw [IntKind.wrap_u32]; omega
        go_wp2_with (first
          | (go_at_call 57; refine BLK.out.mono ?_; rintro e w10 ⟨rfl, rfl⟩)
          | (go_at_call 117; refine SY.out.mono ?_; rintro e w9 ⟨rfl, t9⟩; obtain ⟨wv9, D9, K9, f9⟩ := DTurned.of HK'.out HF'.out t9; have BLK := Lib.hid (blocks_any D9); rw [HSB.out] at BLK))
        have G0 : Hid (Grow w10 (w10.alloc (.cells zlist 121)) w10.heap.size (.slice none 0 0) (from2 2)) := ⟨alb _, two_new w10 zlist _, there_newN w10 zlist _ 2 rfl, World.ownsRow_nil _ _ _ _, fun b hb => by simp [Value.ownBlock] at hb, Nat.le_refl _⟩
        have HD9 := Lib.hid D9
        have HK9 := Lib.hid K9
        have HF9 := Lib.hid f9
        clear D9 K9 f9 t9 SY BLK HD' HK' HF'
        go_loopg [8] B (fun k s wr => ∃ (kk : Nat) (v : Value), s = .int .u32 (kk : Int) ∧ 2 ≤ kk ∧ kk ≤ B ∧ B - kk ≤ k ∧ Hid (Grow w10 wr w10.heap.size v (from2 kk)))
        case atStart => exact ⟨2, _, rfl, by omega, by have := HB.out.1; omega, by omega, G0⟩
        case round =>
          clear G0
          obtain ⟨kk, v, rfl, hk1, hk2, hk3, HG⟩ := hrel
          obtain ⟨A, c, ev⟩ := own_form HG.out.own
          subst ev
          have cv := HG.out.box 1 _ rfl
          by_cases hkB : kk < B
          · have hlt : (kk : Int) < (B : Int) := by omega
            have hbB := HB.out.2
            have hwk : IntKind.u32.wrap ((kk : Int) + 1) = ((kk + 1 : Nat) : Int) := by rw [IntKind.wrap_u32]; omega
            have hlen : (from2 kk).length + [((kk : Nat) : Int)].length ≤ 1000000 := by rw [from2_length]; simp; omega
            have HSU := Lib.hid (from2_succ hk1)
            go_wp2_with (first
              | (at_builtin; refine wpList_append_nums2 rfl _ _ 37 rfl Tryz.underlying37 _ (from2 kk) rfl (HG.out.own.alloc _) _ [((kk : Nat) : Int)] rfl (nums_one wr kk) (Real.some _ _ _) hlen ?_; intro v5 w5 o5 g5 f5; obtain ⟨A5, c5, e5⟩ := own_form o5; subst e5; obtain ⟨x1, x2, _, _⟩ := HG.out.cell g5)
              | go_in)
            have o5' : w5.ownsRow 0 31 1 (.slice A5 (from2 kk ++ [((kk : Nat) : Int)]).length c5) (from2 kk ++ [((kk : Nat) : Int)]).length (us (from2 kk ++ [((kk : Nat) : Int)])) := o5
            have HG5 := Lib.hid (HG.out.step g5 o5' f5)
            have e6 : (from2 (kk + 1)).length = (from2 kk).length + 1 := by rw [from2_length, from2_length]; omega
            rw [← HSU.out, e6] at HG5
            clear e6
            clear o5 o5' g5 f5 x1 x2 HG cv
            go_roundg (B - (kk + 1))
            case measure => omega
            case rel => exact ⟨kk + 1, _, by simp, by omega, by omega, by omega, HG5⟩
          · obtain rfl : kk = B := by omega
            have hltn : ¬ (kk : Int) < (kk : Int) := by omega
            have hbl : w10.heap.size < wr.heap.size := World.block_lt_of_cell? wr _ (HG.out.box 0 _ rfl)
            have HBL := Lib.hid hbl
            have s9 := HK9.out.size
            have hal : (wr.alloc (.cells (pnew dp) 129)).heap.size = wr.heap.size + 1 := by simp
            have HAL := Lib.hid hal
            obtain ⟨cc, hcc⟩ : ∃ cc : Nat → Nat, cc = (fun b => if dfp dp g wv9 b then 30 else if b = 0 then 99 else if b = wr.heap.size then 1 else 0) := ⟨_, rfl⟩
            have D9L : ∀ b, dfp dp g wv9 b → b < w10.heap.size := HD9.out.lt
            have c30 : Hid (∀ b, dfp dp g wv9 b → cc b = 30) := fun b hb => by rw [hcc]; exact if_pos hb
            have n0 : ¬ dfp dp g wv9 0 := fun q => by
              have h0 := h0w.out
              rcases q with q | q | q
              · exact H0.out (.inl q)
              · exact H0.out (.inr (.inl q))
              · rcases HF9.out 0 q with q2 | q2
                · exact H0.out (.inr (.inr q2))
                · omega
            have c99 : Hid (cc 0 = 99) := Lib.hid (by rw [hcc]; simp only; rw [if_neg n0]; simp)
            have c1 : Hid (cc wr.heap.size = 1) := Lib.hid (by
              rw [hcc]
              simp only
              have h0 := h0w.out
              rw [if_neg (fun q => by have := D9L _ q; omega), if_neg (by omega)]
              simp)
            have cold : Hid (∀ b, b < w.heap.size → 1 ≤ cc b → cc b ≤ 30 → dfp dp g wv9 b) := fun b hb h1 h2 => by
              rw [hcc] at h1 h2
              simp only at h1 h2
              by_cases q : dfp dp g wv9 b
              · exact q
              · rw [if_neg q] at h1 h2
                by_cases q0 : b = 0
                · rw [if_pos q0] at h2; omega
                · rw [if_neg q0, if_neg (by omega)] at h1; omega
            clear hcc hal hbl n0
            have NV : Hid (Nums (wr.alloc (.cells (pnew dp) 129)) (.slice A (from2 kk).length c) (from2 kk)) := Lib.hid ((Nums.own HG.out.own).below (alb _))
            have OKK : POk ⟨0, kk :: U.none27.drop 1, [], from2 kk, (kk :: U.none27.drop 1).drop 3, ⟨from2 kk, [], []⟩, 0 + 1, false⟩ := fmt_ok HB.out.2
            have BG := Lib.hid (begin_any _ cc wr.heap.size _ 0 U.none27 (.slice none 0 0) zst.toList zst.toList 0 false (pgc_new wr dp) c1.out 0 (kk :: U.none27.drop 1) (.slice none 0 0) (.slice A (from2 kk).length c) [] (from2 kk) (Nums.nil _) Real.nil (fun h => by simp at h) NV.out (fun h0 b hb => by have := nlt (Nums.own HG.out.own) h0 b hb; omega) OKK)
            have HLB : Hid ((wr.alloc (.cells (pnew dp) 129)).rangeAt w10.heap.size 0 [.slice none 0 0, .slice A (from2 kk).length c]) := World.rangeAt_alloc HG.out.box _
            have hb1 := run_build_sup1 kk
            have hb2 := run_build_pager dp
            have HLOW := Lib.hid HG.out.low
            have HT10 : Hid (Tab w10) := HT.out.keep HK9.out H0.out
            clear cv HG NV OKK D9L s9
            go_wp2_with (first
              | (go_at_call 82; refine WA.out.mono ?_; rintro e w13 ⟨rfl, h13⟩)
              | (go_at_call 59; refine BG.out.mono ?_; rintro e w12 ⟨rfl, col', ag, P12, K12⟩; have HD12 := Lib.hid (((HD9.out.below HLOW.out).below (alb (.cells (pnew dp) 129))).keep K12 (fun b hb e => by have h1 := HD9.out.lt b hb; have h2 := HBL.out; omega)); have X30 : Hid (∀ b, dfp dp g wv9 b → col' b = 30) := (fun b hb => (ag b (by have h1 := HD9.out.lt b hb; have h2 := HBL.out; have h3 := HAL.out; omega)).trans (c30.out b hb)); have X99 : Hid (col' 0 = 99) := ((ag 0 (by have h2 := HBL.out; have h3 := HAL.out; omega)).trans c99.out); have T12 := Lib.hid (((HT10.out.below HLOW.out).below (alb (.cells (pnew dp) 129))).keep K12 (fun e => by have h1 := HBL.out; have h2 := c99.out; have h3 := c1.out; have e2 : 0 = wr.heap.size := e; rw [← e2] at h3; omega)); have WA := Lib.hid (writeall_ok w12 col' wr.heap.size dp g (Pm.fmt kk) d2 P12 rfl wv9 HD12.out X30.out T12.out X99.out (fmt_dj kk) fmt_need (by show (1 : Nat) < _; omega) HL9.out.1 HL9.out.2); have AG := Lib.hid ag; have HK12 := Lib.hid K12)
              | (refine wpList_load_mid rfl 121 (.tmp 7) rfl w10.heap.size 0 rfl [.slice none 0 0, .slice A (from2 kk).length c] _ HLB.out Tryz.underlying121 rfl Tryz.sizeL ?_))
            go_ret
            rw [HR4.out]
            refine ⟨rfl, ?_⟩
            obtain ⟨col3, ag3, P3, K3⟩ := h13
            obtain ⟨wv13, D13, c13⟩ := P3.dk
            have s10 := HK9.out.size
            have slow := HLOW.out.size
            have s12 := HK12.out.size
            have hal2 := HAL.out
            have hbl2 := HBL.out
            have old : ∀ b, b < w.heap.size → col' b = cc b := fun b hb => AG.out b (by omega)
            refine ⟨wv13, D13, (((HK9.out.step HLOW.out).step (alb _)).trans HK12.out (fun i hi => .inr (by rw [hi]; omega))).trans K3 (fun i hi => ?_), fun b hb => ?_⟩
            · rcases Nat.lt_or_ge i w.heap.size with q | q
              · left
                have h1 := old i q
                rcases cold.out i q (by omega) (by omega) with r | r | r
                · exact .inl r
                · exact .inr (.inl r)
                · rcases HF9.out i r with r2 | r2
                  · exact .inr (.inr r2)
                  · omega
              · exact .inr q
            · rcases Nat.lt_or_ge b w.heap.size with q | q
              · have h1 := c13 b (.inr (.inr hb))
                have h2 := ag3 b (by omega)
                have h3 := old b q
                rcases cold.out b q (by omega) (by omega) with r | r | r
                · exact absurd (by rw [hb, r]) D13.nep
                · exact absurd (by rw [hb, r]) D13.neg
                · exact HF9.out b r
              · exact .inr q
      · have q1 : (e2 == 0) = false := by simpa using hE2
        have q2 : (e2 != 0) = true := by simpa using hE2
        have HRES : Hid (R = (d2, e2)) := Lib.hid (by rw [HR3.out, if_pos hE2])
        clear hE2 HR3
        go_wp2_with (go_at_call 117; refine SY.out.mono ?_; rintro e w9 ⟨rfl, t9⟩)
        go_ret
        rw [HRES.out]
        exact ⟨rfl, DTurned.of HK'.out HF'.out t9⟩
end Go.Proofs.YtlcnefeikejcaaaGreatDoor
namespace Go.Proofs.YtlcnefeikejcaaaGreatDoor
open Go.RowKit Go.Sort Go.Maps
open D (St)
set_option maxRecDepth 100000
def mcs (p e : Nat) (rt : List Nat) (pf pd mb : Nat) : List Value := .pointer (some ⟨p, 0, none⟩) :: .int .u64 ((e : Nat) : Int) :: scs rt pf pd mb
structure Mkr (w : World) (col : Nat → Nat) (mp p e : Nat) (rt : List Nat) (x : Wk) : Prop where
  cp : col mp = 34
  rl : rt.length = 24
  ex : ∃ pf pd mb, w.rangeAt mp 0 (mcs p e rt pf pd mb) ∧ Stt w col 31 pf pd mb x
theorem Mkr.lt {w : World} {col : Nat → Nat} {mp p e : Nat} {rt : List Nat} {x : Wk} (h : Mkr w col mp p e rt x) : mp < w.heap.size := by
  obtain ⟨pf, pd, mb, r, _⟩ := h.ex
  exact World.block_lt_of_cell? w _ (r 0 _ rfl)
theorem Mkr.keep {w w' : World} {col : Nat → Nat} {mp p e : Nat} {rt : List Nat} {x : Wk} (h : Mkr w col mp p e rt x) (k : Keep (Pgs col) w w') (h7 : ∀ b, col b = 7 → ¬ Pgs col b ∨ False) : Mkr w' col mp p e rt x := by
  obtain ⟨cp, rl, pf, pd, mb, r, S⟩ := h
  refine ⟨cp, rl, pf, pd, mb, range_keep r k (fun q => by have := q.2; omega), S.keep k (fun b hb q => ?_)⟩
  have := q.2
  rcases hb with h | h | h | h
  · omega
  · omega
  · omega
  · rcases h7 b h with h8 | h8
    · exact h8 q
    · exact h8
theorem Mkr.below {w w' : World} {col : Nat → Nat} {mp p e : Nat} {rt : List Nat} {x : Wk} (h : Mkr w col mp p e rt x) (k : Below w.heap.size w w') : Mkr w' col mp p e rt x := by
  obtain ⟨cp, rl, pf, pd, mb, r, S⟩ := h
  exact ⟨cp, rl, pf, pd, mb, range_keep (F := fun _ => False) r (Keep.of_below k) (fun q => q), S.below k⟩
theorem Mkr.recol {w : World} {col col' : Nat → Nat} {mp p e : Nat} {rt : List Nat} {x : Wk} (h : Mkr w col mp p e rt x) (hc : ∀ b, b < w.heap.size → col' b = col b) : Mkr w col' mp p e rt x := by
  have hl := h.lt
  obtain ⟨cp, rl, pf, pd, mb, r, S⟩ := h
  exact ⟨(hc _ hl).trans cp, rl, pf, pd, mb, r, S.recol hc⟩
end Go.Proofs.YtlcnefeikejcaaaGreatDoor
namespace Go.Proofs.YtlcnefeikejcaaaGreatDoor
open Go.RowKit Go.Sort Go.Maps
open D (St)
set_option maxRecDepth 100000
end Go.Proofs.YtlcnefeikejcaaaGreatDoor
namespace Go.Proofs.YtlcnefeikejcaaaGreatDoor
open Go.RowKit Go.Sort Go.Maps
set_option maxRecDepth 100000
def risB (B : Int) : Int → List Int → Bool
  | _, [] => true
  | a, x :: r => decide (a < x) && (decide (x < B) && risB B x r)
theorem risB_step {l : List Int} {i : Nat} (hi : i < l.length) (B a : Int) : risB B a (l.drop i) = (decide (a < l[i]!) && (decide (l[i]! < B) && risB B l[i]! (l.drop (i + 1)))) := by
  rw [List.drop_eq_getElem_cons hi, getElem!_pos l i hi]
  rfl
theorem risB_true {B a : Int} : ∀ {l : List Int}, risB B a l = true ↔ l.Pairwise (· < ·) ∧ ∀ x ∈ l, a < x ∧ x < B
  | [] => by simp [risB]
  | y :: r => by
    simp only [risB, Bool.and_eq_true, decide_eq_true_eq, risB_true (l := r), List.pairwise_cons, List.mem_cons]
    constructor
    · rintro ⟨h1, h2, h3, h4⟩
      refine ⟨⟨fun z hz => (h4 z hz).1, h3⟩, fun x hx => ?_⟩
      rcases hx with rfl | hx
      · exact ⟨h1, h2⟩
      · have := h4 x hx; omega
    · rintro ⟨⟨h1, h2⟩, h3⟩
      have := h3 y (.inl rfl)
      exact ⟨this.1, this.2, h2, fun x hx => ⟨h1 x hx, (h3 x (.inr hx)).2⟩⟩
set_option maxHeartbeats 1600000 in
theorem prising_core (w : World) (A : Option Addr) (n c : Nat) (B : Int) (l : List Int) (R : Bool) (hn : n ≤ 9223372036854775807) (hl : l.length = n) (HR : Hid (risB B 1 l = R))
    (H : Hid (0 < n → ∃ b off, A = some ⟨b, off, none⟩ ∧ ∀ j, j < n → w.cell? ⟨b, off + j, none⟩ = some (.int .u32 l[j]!))) :
    Calls Tryz.prog 101 #[.slice A n c, .int .u32 B] w fun e w' => e = .returned (.bool R) ∧ w = w' := by
  have HL := Lib.hid hl
  clear hl
  go_enter Tryz.func101, Tryz.ntmps101
  go_wp2
  go_loopg [5, 10] n (fun k s3 s8 wr => ∃ (i : Nat) (a : Int), s3 = .int .u32 a ∧ s8 = .int .i64 i ∧ i ≤ n ∧ n - i ≤ k ∧ w = wr ∧ Hid (risB B a (l.drop i) = R))
  case atStart => exact ⟨0, 1, rfl, rfl, by omega, by omega, rfl, HR⟩
  case round =>
    obtain ⟨i, a, rfl, rfl, h1, h2, rfl, HI⟩ := hrel
    by_cases hi : i < n
    · have hz : (i : Int) < (n : Int) := by omega
      obtain ⟨b, off, rfl, hcell⟩ := H.out (by omega)
      have c0 := hcell i hi
      have HS := Lib.hid (risB_step (l := l) (i := i) (by rw [HL.out]; exact hi) B a)
      generalize l[i]! = y at *
      clear hcell
      by_cases hxy : a < y
      · by_cases hyB : y < B
        · have hz3 : ¬ y ≤ a := by omega
          have hz4 : ¬ B ≤ y := by omega
          go_wp2
          go_roundg (n - (i + 1))
          case measure => omega
          case rel =>
            refine ⟨i + 1, y, rfl, by simp, by omega, by omega, rfl, ?_⟩
            have := HI.out
            rw [HS.out] at this
            refine Lib.hid ?_
            simpa [hxy, hyB] using this
        · have hz3 : ¬ y ≤ a := by omega
          have hz4 : B ≤ y := by omega
          have HD := Lib.hid (decide_eq_false hyB)
          have HD2 := Lib.hid (decide_eq_true hxy)
          clear hxy hyB
          go_wp2
          go_ret
          refine ⟨?_, rfl⟩
          have := HI.out
          rw [HS.out, HD.out, HD2.out] at this
          rw [← this]
          rfl
      · have hz3 : y ≤ a := by omega
        have HD := Lib.hid (decide_eq_false hxy)
        clear hxy
        go_wp2
        go_ret
        refine ⟨?_, rfl⟩
        have := HI.out
        rw [HS.out, HD.out] at this
        rw [← this]
        rfl
    · have hz : ¬ (i : Int) < (n : Int) := by omega
      go_wp2
      go_ret
      refine ⟨?_, rfl⟩
      have := HI.out
      rw [List.drop_eq_nil_of_le (by rw [HL.out]; omega)] at this
      rw [← this]
      rfl
theorem prising_any (w : World) (v : Value) (l : List Int) (B : Int) (h : Nums w v l) : Calls Tryz.prog 101 #[v, .int .u32 B] w fun e w' => e = .returned (.bool (risB B 1 l)) ∧ w = w' := by
  obtain ⟨A, c, rfl, hc, hm, h⟩ := h
  unfold maxLen at hm
  exact prising_core w A l.length c B l _ (by omega) rfl (Lib.hid rfl) (Lib.hid h)
set_option maxHeartbeats 1600000 in
theorem nindexf_any (w : World) (v : Value) (l s : List Int) (q : Nat) (F : Nat → Prop) (h : Nums w v l) (hP : Po w q F s) (hl : ∀ x ∈ l, 0 ≤ x ∧ x < 4294967296) :
    Calls Tryz.prog 134 #[v, .func (.func 103) #[.pointer (some ⟨q, 0, none⟩)] #[]] w fun e w' => (∃ z : Int, e = .returned (.int .i64 z) ∧ decide (0 ≤ z) = decide (∃ x ∈ l, x ∈ s)) ∧ Below w.heap.size w w' := by
  obtain ⟨A, c, rfl, hc, hm, h⟩ := h
  have H := Lib.hid h
  have HL := Lib.hid hl
  have HH : Hid (∀ (W : World) (x : Int), Below w.heap.size w W → 0 ≤ x → x < 4294967296 → Calls Tryz.prog 103 #[.pointer (some ⟨q, 0, none⟩), .int .u32 x] W fun e w' => e = .returned (.bool (decide (x ∈ s))) ∧ Below W.heap.size W w') := fun W x hW x0 x1 => phas_any W q F s x (hP.below hW) x0 x1
  clear h hl hP
  have hlm : l.length ≤ maxLen := by omega
  unfold maxLen at hlm
  go_enter Tryz.func134, Tryz.ntmps134
  go_wp2
  go_loopg [8] l.length (fun k s8 wr => ∃ i : Nat, s8 = .int .i64 i ∧ i ≤ l.length ∧ l.length - i ≤ k ∧ Below w.heap.size w wr ∧ Hid (∀ j, j < i → l[j]! ∉ s))
  case atStart => exact ⟨0, rfl, by omega, by omega, Below.refl _ _, fun j hj => by omega⟩
  case round =>
    obtain ⟨i, rfl, h1, h2, hB, HI⟩ := hrel
    have HB := Lib.hid hB
    clear hB
    by_cases hi : i < l.length
    · obtain ⟨b, off, rfl, hcell⟩ := H.out (by omega)
      have c0 := kept (hcell i hi) HB.out
      obtain ⟨y, hy⟩ : ∃ y, y = l[i]! := ⟨_, rfl⟩
      have hyl : y ∈ l := by rw [hy, getElem!_pos l i hi]; exact List.getElem_mem _
      obtain ⟨y0, y1⟩ := HL.out y hyl
      rw [← hy] at c0
      have HY := Lib.hid hy
      have HYL := Lib.hid hyl
      have HC := Lib.hid (HH.out wr y HB.out y0 y1)
      clear hcell hy y0 y1 hyl
      have hlt : (i : Int) < (l.length : Int) := by omega
      by_cases hxy : y ∈ s
      · rw [decide_eq_true hxy] at HC
        have HX := Lib.hid hxy
        clear hxy
        go_wp2_with (go_at_call 103; refine HC.out.mono ?_; rintro e w1 ⟨rfl, b1⟩)
        go_ret
        refine ⟨⟨_, rfl, ?_⟩, btr HB.out b1⟩
        have : ∃ x ∈ l, x ∈ s := ⟨y, HYL.out, HX.out⟩
        rw [decide_eq_true this]
        simp
      · rw [decide_eq_false hxy] at HC
        have HX := Lib.hid hxy
        clear hxy
        go_wp2_with (go_at_call 103; refine HC.out.mono ?_; rintro e w1 ⟨rfl, b1⟩)
        go_roundg (l.length - (i + 1))
        case measure => omega
        case rel =>
          refine ⟨i + 1, by simp, by omega, by omega, btr HB.out b1, fun j hj => ?_⟩
          rcases Nat.lt_or_ge j i with q | q
          · exact HI.out j q
          · obtain rfl : j = i := by omega
            rw [← HY.out]
            exact HX.out
    · have hz : ¬ (i : Int) < (l.length : Int) := by omega
      go_wp2
      go_ret
      refine ⟨⟨_, rfl, ?_⟩, HB.out⟩
      have : ¬ ∃ x ∈ l, x ∈ s := fun ⟨x, hx, hs⟩ => by
        obtain ⟨k, hk, e⟩ := List.getElem_of_mem hx
        have := HI.out k (by omega)
        rw [getElem!_pos l k hk, e] at this
        exact this hs
      exact ⟨fun h => absurd h (by decide), fun h => absurd h this⟩
theorem ncontainsf_any (w : World) (v : Value) (l s : List Int) (q : Nat) (F : Nat → Prop) (h : Nums w v l) (hP : Po w q F s) (hl : ∀ x ∈ l, 0 ≤ x ∧ x < 4294967296) :
    Calls Tryz.prog 102 #[v, .func (.func 103) #[.pointer (some ⟨q, 0, none⟩)] #[]] w fun e w' => e = .returned (.bool (decide (∃ x ∈ l, x ∈ s))) ∧ Below w.heap.size w w' := by
  have C := Lib.hid (nindexf_any w v l s q F h hP hl)
  obtain ⟨A, c, rfl, -⟩ := id h
  generalize decide (∃ x ∈ l, x ∈ s) = d at *
  clear h hP hl
  generalize l.length = n at *
  go_enter Tryz.func102, Tryz.ntmps102
  go_wp2_with (go_at_call 134; refine C.out.mono ?_; rintro e w1 ⟨⟨z, rfl, hz⟩, b1⟩)
  go_ret
  exact ⟨by rw [← hz]; rfl, b1⟩
end Go.Proofs.YtlcnefeikejcaaaGreatDoor
namespace Go.Proofs.YtlcnefeikejcaaaGreatDoor
open Go.RowKit
open G (four two)
def fsvs (bs : List (List UInt8)) : List Value := bs.map fun b => .string (str b)
def Strs (W : World) (base : Nat) (v : Value) (bs : List (List UInt8)) : Prop := W.ownsRow base 9 1 v bs.length (fsvs bs)
theorem Strs.below {W W' : World} {base : Nat} {v : Value} {bs : List (List UInt8)} (h : Strs W base v bs) (k : Below W.heap.size W W') : Strs W' base v bs := own_keep h (Keep.of_below (F := fun _ => False) k) (fun _ _ q => q)
def flTo (nx : Int) (q : List Int) (j : Nat) : List UInt8 := four nx.toNat ++ (two q.length ++ (q.take j).flatMap (fun x => four x.toNat))
end Go.Proofs.YtlcnefeikejcaaaGreatDoor
