/- A super in memory: its 28 cells; loads, stores and comparisons of it as a whole. -/
import Derived.Test.YtbffpgndjbpifaaDoorKp
import Derived.Test.YtbffpgndjbpifaaDoorUm
import Derived.Laws.StructEq
namespace Go.Proofs.YtbffpgndjbpifaaDoor
open Go.RowKit

/-- The cells of a super. -/
def svs (q : Nat) (r : List Nat) : List Value := .int .u64 (q : Int) :: r.map fun x => .int .u32 ((x : Nat) : Int)
def sva (q : Nat) (r : List Nat) : Array Value := (svs q r).toArray
theorem svs_length {q : Nat} {r : List Nat} (h : r.length = 27) : (svs q r).length = 28 := by simp [svs, h]
theorem sva_size {q : Nat} {r : List Nat} (h : r.length = 27) : (sva q r).size = 28 := by simp [sva, svs, h]
theorem svs_one (q : Nat) (r : List Nat) : ∀ v ∈ svs q r, v.oneCell' = true := by
  intro v hv
  simp only [svs, List.mem_cons, List.mem_map] at hv
  rcases hv with rfl | ⟨x, _, rfl⟩
  · rfl
  · rfl
theorem svs_set (q : Nat) (r : List Nat) (i x : Nat) : svs q (r.set i x) = (svs q r).set (i + 1) (.int .u32 ((x : Nat) : Int)) := by simp [svs, List.map_set]
theorem svs_get (q : Nat) (r : List Nat) (i : Nat) (h : i < r.length) : (svs q r)[i + 1]? = some (.int .u32 ((r[i] : Nat) : Int)) := by simp [svs, h]
theorem Tryd.sizeS28 : (Tryd.prog.info? 28).map (·.size) = some 28 := by kernel_rfl
theorem Tryd.zeroS28 : (Tryd.prog.info? 28).map (fun i => (i.zero, i.size)) = some (some (.agg (sva 0 U.none27)), 28) := by kernel_rfl
theorem info_svs {q : Nat} {r : List Nat} (h : r.length = 27) : (Tryd.prog.info? 28).map (·.size) = some (svs q r).length := by rw [svs_length h]; exact Tryd.sizeS28
theorem info_sva {q : Nat} {r : List Nat} (h : r.length = 27) : (Tryd.prog.info? 28).map (·.size) = some (sva q r).size := by rw [sva_size h]; exact Tryd.sizeS28
theorem one_sva (q : Nat) (r : List Nat) : (sva q r).all (·.oneCell') = true := all_oneCell_toArray (svs_one q r)

/-- A super lies at block b. -/
def Sup (w : World) (b q : Nat) (r : List Nat) : Prop := w.rangeAt b 0 (svs q r) ∧ w.there b 0 28 ∧ r.length = 27
theorem Sup.cell0 {w : World} {b q : Nat} {r : List Nat} (h : Sup w b q r) : w.cell? ⟨b, 0, none⟩ = some (.int .u64 (q : Int)) := h.1 0 _ rfl
theorem Sup.lt {w : World} {b q : Nat} {r : List Nat} (h : Sup w b q r) : b < w.heap.size := World.block_lt_of_cell? w ⟨b, 0, none⟩ h.cell0
theorem Sup.cell {w : World} {b q : Nat} {r : List Nat} (h : Sup w b q r) (i : Nat) (hi : i < 27) : w.cell? ⟨b, i + 1, none⟩ = some (.int .u32 ((r.getD i 0 : Nat) : Int)) := by
  have hl := h.2.2
  have := h.1 (i + 1) _ (svs_get q r i (by omega))
  rw [Nat.zero_add] at this
  rw [this]
  simp [List.getD, show i < r.length by omega]
theorem Sup.frozen {w : World} {b q : Nat} {r : List Nat} (h : Sup w b q r) (j : Nat) (hj : j < 28) : w.frozen? ⟨b, j, none⟩ = false := by
  have := (h.2.1 j hj).2
  rwa [Nat.zero_add] at this
theorem Sup.keep {F : Nat → Prop} {w w1 : World} {b q : Nat} {r : List Nat} (h : Sup w b q r) (hk : Keep F w w1) (hf : ¬ F b) : Sup w1 b q r := ⟨range_keep h.1 hk hf, there_keep h.2.1 hk hf, h.2.2⟩
theorem Sup.below {w w1 : World} {b q : Nat} {r : List Nat} (h : Sup w b q r) (hb : Below w.heap.size w w1) : Sup w1 b q r := h.keep (F := fun _ => False) (Keep.of_below hb) (fun h => h)
theorem there_new (w : World) (c : Array Value) (t : TypeId) (n : Nat) (hn : c.size = n) : (w.alloc (.cells c t)).there w.heap.size 0 n := fun j hj => by
  subst hn
  refine ⟨?_, by simp⟩
  rw [World.cell?_alloc_at _ _ _ _ rfl]
  simp
  omega
theorem Sup.made (w : World) (q : Nat) (r : List Nat) (h : r.length = 27) : Sup (w.alloc (.cells (sva q r) 28)) w.heap.size q r := by
  refine ⟨fun j v hv => ?_, there_new w _ _ 28 (sva_size h), h⟩
  rw [Nat.zero_add, World.cell?_alloc_at _ _ _ _ rfl]
  simpa [sva] using hv
theorem Sup.stored {w : World} {b q : Nat} {r : List Nat} (ht : w.there b 0 28) (h : r.length = 27) : Sup (w.setCells b 0 (svs q r)) b q r :=
  ⟨World.rangeAt_setCells_same _ _ _ _ (by rw [svs_length h]; exact ht), World.there_setCells ht _ _ _, h⟩
theorem Sup.set {w : World} {b q : Nat} {r : List Nat} (h : Sup w b q r) (i x : Nat) (hi : i < 27) : Sup (w.setCell ⟨b, i + 1, none⟩ (.int .u32 ((x : Nat) : Int))) b q (r.set i x) := by
  refine ⟨fun j v hv => ?_, fun j hj => ?_, by simpa using h.2.2⟩
  · rw [svs_set] at hv
    rw [Nat.zero_add]
    by_cases e : j = i + 1
    · subst e
      rw [World.cell?_setCell_same _ _ _ (h.cell i hi)]
      rw [List.getElem?_set_self (by rw [svs_length h.2.2]; omega)] at hv
      exact hv
    · rw [World.cell?_setCell_other _ _ _ _ (by intro k; cases k; exact e rfl)]
      rw [List.getElem?_set_ne (fun k => e k.symm)] at hv
      have := h.1 j v hv
      rwa [Nat.zero_add] at this
  · obtain ⟨h1, h2⟩ := h.2.1 j hj
    refine ⟨?_, by rw [World.frozen?_setCell]; exact h2⟩
    exact World.isSome_setCells b [.int .u32 ((x : Nat) : Int)] (i + 1) w _ h1
theorem Sup.setQ {w : World} {b q : Nat} {r : List Nat} (h : Sup w b q r) (x : Nat) : Sup (w.setCell ⟨b, 0, none⟩ (.int .u64 ((x : Nat) : Int))) b x r := by
  refine ⟨fun j v hv => ?_, fun j hj => ?_, h.2.2⟩
  · rw [Nat.zero_add]
    cases j with
    | zero =>
      rw [World.cell?_setCell_same _ _ _ h.cell0]
      exact hv
    | succ j =>
      rw [World.cell?_setCell_other _ _ _ _ (by simp)]
      have := h.1 (j + 1) v hv
      rwa [Nat.zero_add] at this
  · obtain ⟨h1, h2⟩ := h.2.1 j hj
    refine ⟨?_, by rw [World.frozen?_setCell]; exact h2⟩
    exact World.isSome_setCells b [.int .u64 ((x : Nat) : Int)] 0 w _ h1
/-- Loads and stores of the whole. -/
theorem wpList_load_sup {ops : Array Oper} {rest : List Oper} {op : Oper} {a : Act} {w : World} {Q : Exit → Act → World → Prop} (hgd : op.guard = none) (x : Operand) (ho : op.op = .load 28 x)
    (b q : Nat) (r : List Nat) (hx : a.eval x = .pointer (some ⟨b, 0, none⟩)) (hs : Sup w b q r) (h : wpList Tryd.prog ops Q rest (a.put op.dst (.agg (sva q r))) w) : wpList Tryd.prog ops Q (op :: rest) a w :=
  wpList_load_mid hgd 28 x ho b 0 hx (svs q r) _ hs.1 Tryd.underlying28 rfl (info_svs hs.2.2) h
theorem wpList_store_sup {ops : Array Oper} {rest : List Oper} {op : Oper} {a : Act} {w : World} {Q : Exit → Act → World → Prop} (hgd : op.guard = none) (x y : Operand) (ho : op.op = .store 28 x y)
    (b q : Nat) (r : List Nat) (hx : a.eval x = .pointer (some ⟨b, 0, none⟩)) (hy : a.eval y = .agg (sva q r)) (hr : r.length = 27) (ht : w.there b 0 28)
    (h : ∀ w', Hid (Sup w' b q r) → Keep (fun k => k = b) w w' → wpList Tryd.prog ops Q rest (a.put op.dst undef) w') : wpList Tryd.prog ops Q (op :: rest) a w :=
  wpList_store_mid hgd 28 x y ho b 0 (sva q r) hx hy (by rw [sva_size hr]; exact ht) (info_sva hr) (one_sva q r)
    (h _ (Sup.stored ht hr) (Keep.setCells (F := fun k => k = b) (Keep.refl _ _) (.inl rfl) 0 _))
theorem run_load_sup {op : Oper} {a : Act} {w : World} (x : Operand) (ho : op.op = .load 28 x) (b q : Nat) (r : List Nat) (hx : a.eval x = .pointer (some ⟨b, 0, none⟩)) (hs : Sup w b q r) :
    (execOp a.eval op).run Tryd.prog w = .ok (.value (.agg (sva q r))) w := by
  unfold execOp
  simp only [ho, hx, Instr.loadAt, Instr.sureAddr, Sem.run_bind, Sem.run_pure, Result.andThen_ok, run_loadVar_mid w b 0 28 (svs q r) _ hs.1 Tryd.underlying28 rfl (info_svs hs.2.2)]
  rfl
/-- A super, handed back through its cell, and an error's number. -/
theorem results_sup {fn : Func} {t u : Tmp} (h : fn.results = #[.cell t 28, .tmp u]) (tmps : Array Value) (w : World) (b q : Nat) (r : List Nat) (v : Value) (ht : tmps.getD t undef = .pointer (some ⟨b, 0, none⟩)) (hu : tmps.getD u undef = v) (hs : Sup w b q r) :
    (results fn tmps).run Tryd.prog w = .ok (.tuple #[.agg (sva q r), v]) w := by
  have hl := run_loadVar_mid (P := Tryd.prog) w b 0 28 (svs q r) _ hs.1 Tryd.underlying28 rfl (info_svs hs.2.2)
  have ht' : tmps[t]?.getD undef = .pointer (some ⟨b, 0, none⟩) := by simpa using ht
  have hu' : tmps[u]?.getD undef = v := by simpa using hu
  simp only [results, h]
  simp [ht', hu', asAddr, hl]
  rfl
theorem results_sup1 {fn : Func} {t : Tmp} (h : fn.results = #[.cell t 28]) (tmps : Array Value) (w : World) (b q : Nat) (r : List Nat) (ht : tmps.getD t undef = .pointer (some ⟨b, 0, none⟩)) (hs : Sup w b q r) :
    (results fn tmps).run Tryd.prog w = .ok (.agg (sva q r)) w := by
  have hl := run_loadVar_mid (P := Tryd.prog) w b 0 28 (svs q r) _ hs.1 Tryd.underlying28 rfl (info_svs hs.2.2)
  have ht' : tmps[t]?.getD undef = .pointer (some ⟨b, 0, none⟩) := by simpa using ht
  simp only [results, h]
  simp [ht', asAddr, hl]
  rfl
end Go.Proofs.YtbffpgndjbpifaaDoor
