/- Contracts that the claim reaches (Vb Lr Vd Dm Dk Da Ve Vf). -/
import Derived.Test.YtlcnefeikejcaaaGreatDoorPl03
import Derived.Deep.WholeRow
namespace Go.Proofs.YtlcnefeikejcaaaGreatDoor
open Go.RowKit
theorem range_put {w : World} {b o : Nat} {A B C B' : List Value} (h : w.rangeAt b o (A ++ (B ++ C))) (ht : w.there b (o + A.length) B'.length) (hB : B'.length = B.length) : (w.setCells b (o + A.length) B').rangeAt b o (A ++ (B' ++ C)) := by
  intro j v hv
  by_cases h1 : j < A.length
  · have hA : w.rangeAt b o A := fun i u hu => h i u (by rw [List.getElem?_append_left (List.getElem?_eq_some_iff.1 hu).1]; exact hu)
    rw [List.getElem?_append_left h1] at hv
    exact World.rangeAt_setCells_apart hA b _ B' (.inr (.inl (Nat.le_refl _))) j v hv
  · rw [List.getElem?_append_right (by omega)] at hv
    by_cases h2 : j - A.length < B'.length
    · rw [List.getElem?_append_left h2] at hv
      have := World.rangeAt_setCells_same w b (o + A.length) B' ht (j - A.length) v hv
      rw [show o + A.length + (j - A.length) = o + j by omega] at this
      exact this
    · rw [List.getElem?_append_right (by omega)] at hv
      have hC : w.rangeAt b (o + (A.length + B.length)) C := fun i u hu => by
        have := h (A.length + (B.length + i)) u (by rw [List.getElem?_append_right (by omega), Nat.add_sub_cancel_left, List.getElem?_append_right (by omega), Nat.add_sub_cancel_left]; exact hu)
        rw [show o + (A.length + B.length) + i = o + (A.length + (B.length + i)) by omega]
        exact this
      have := World.rangeAt_setCells_apart hC b (o + A.length) B' (.inr (.inr (by omega))) (j - A.length - B'.length) v hv
      rw [show o + (A.length + B.length) + (j - A.length - B'.length) = o + j by omega] at this
      exact this
def rcs (rt : List Nat) : List Value := rt.map fun x => .int .u32 ((x : Nat) : Int)
theorem rcs_length (rt : List Nat) : (rcs rt).length = rt.length := by simp [rcs]
theorem rcs_one (rt : List Nat) : ∀ u ∈ rcs rt, u.oneCell' = true := by
  intro u hu
  simp only [rcs, List.mem_map] at hu
  obtain ⟨c, _, rfl⟩ := hu
  rfl
def scs (rt : List Nat) (pf pd mb : Nat) : List Value := rcs rt ++ [.pointer (some ⟨pf, 0, none⟩), .pointer (some ⟨pd, 0, none⟩), .map (some mb)]
theorem scs_length {rt : List Nat} {pf pd mb : Nat} (h : rt.length = 24) : (scs rt pf pd mb).length = 27 := by simp [scs, rcs, h]
theorem scs_one (rt : List Nat) (pf pd mb : Nat) : ∀ u ∈ scs rt pf pd mb, u.oneCell' = true := by
  intro u hu
  rcases List.mem_append.1 hu with hu | hu
  · exact rcs_one rt u hu
  · simp only [List.mem_cons, List.not_mem_nil, or_false] at hu
    rcases hu with rfl | rfl | rfl <;> rfl
def pcs (dv : Value) (q : Nat) (r : List Nat) (lv : Value) (b n : List Value) (e : Nat) (o : Bool) : List Value := dv :: (svs q r ++ (lv :: (b ++ (n ++ [.int .u64 ((e : Nat) : Int), .bool o]))))
structure Pgc (w : World) (p : Nat) (dv : Value) (q : Nat) (r : List Nat) (lv : Value) (b n : List Value) (e : Nat) (o : Bool) : Prop where
  there : w.there p 0 86
  cells : w.rangeAt p 0 (pcs dv q r lv b n e o)
  lr : r.length = 27
  lb : b.length = 27
  ln : n.length = 27
theorem range_mid {w : World} {b o : Nat} {A B C : List Value} (h : w.rangeAt b o (A ++ (B ++ C))) (k : Nat) (hk : k = o + A.length) : w.rangeAt b k B := fun j v hv => by
  subst hk
  have := h (A.length + j) v (by rw [List.getElem?_append_right (by omega), Nat.add_sub_cancel_left, List.getElem?_append_left (List.getElem?_eq_some_iff.1 hv).1]; exact hv)
  rw [show o + A.length + j = o + (A.length + j) by omega]
  exact this
section
variable {w w' : World} {p : Nat} {dv : Value} {q : Nat} {r : List Nat} {lv : Value} {b n : List Value} {e : Nat} {o : Bool}
theorem Pgc.cd (h : Pgc w p dv q r lv b n e o) : w.cell? ⟨p, 0, none⟩ = some dv := h.cells 0 dv rfl
theorem Pgc.lt (h : Pgc w p dv q r lv b n e o) : p < w.heap.size := World.block_lt_of_cell? w _ h.cd
theorem Pgc.rc (h : Pgc w p dv q r lv b n e o) : w.rangeAt p 1 (svs q r) := range_mid (A := [dv]) h.cells 1 rfl
theorem Pgc.cq (h : Pgc w p dv q r lv b n e o) : w.cell? ⟨p, 1, none⟩ = some (.int .u64 ((q : Nat) : Int)) := h.rc 0 _ rfl
theorem Pgc.cr (h : Pgc w p dv q r lv b n e o) (i : Nat) (hi : i < 27) : w.cell? ⟨p, 2 + i, none⟩ = some (.int .u32 ((r.getD i 0 : Nat) : Int)) := by
  have hl := h.lr
  have := h.rc (i + 1) _ (svs_get q r i (by omega))
  rw [show 2 + i = 1 + (i + 1) by omega, this]
  simp [List.getD, show i < r.length by omega]
theorem Pgc.cl (h : Pgc w p dv q r lv b n e o) : w.cell? ⟨p, 29, none⟩ = some lv :=
  range_mid (A := dv :: svs q r) (B := [lv]) (C := b ++ (n ++ [.int .u64 ((e : Nat) : Int), .bool o])) (by simpa [pcs] using h.cells) 29 (by simp [svs_length h.lr]) 0 lv rfl
theorem Pgc.rb (h : Pgc w p dv q r lv b n e o) : w.rangeAt p 30 b :=
  range_mid (A := dv :: (svs q r ++ [lv])) (B := b) (C := n ++ [.int .u64 ((e : Nat) : Int), .bool o]) (by simpa [pcs] using h.cells) 30 (by simp [svs_length h.lr])
theorem Pgc.rn (h : Pgc w p dv q r lv b n e o) : w.rangeAt p 57 n :=
  range_mid (A := dv :: (svs q r ++ (lv :: b))) (B := n) (C := [.int .u64 ((e : Nat) : Int), .bool o]) (by simpa [pcs] using h.cells) 57 (by simp [svs_length h.lr, h.lb])
theorem Pgc.re (h : Pgc w p dv q r lv b n e o) : w.rangeAt p 84 [.int .u64 ((e : Nat) : Int), .bool o] :=
  range_mid (A := dv :: (svs q r ++ (lv :: (b ++ n)))) (B := [.int .u64 ((e : Nat) : Int), .bool o]) (C := []) (by simpa [pcs] using h.cells) 84 (by simp [svs_length h.lr, h.lb, h.ln])
theorem Pgc.ce (h : Pgc w p dv q r lv b n e o) : w.cell? ⟨p, 84, none⟩ = some (.int .u64 ((e : Nat) : Int)) := h.re 0 _ rfl
theorem Pgc.co (h : Pgc w p dv q r lv b n e o) : w.cell? ⟨p, 85, none⟩ = some (.bool o) := h.re 1 _ rfl
theorem Pgc.fz (h : Pgc w p dv q r lv b n e o) (j : Nat) (hj : j < 86) : w.frozen? ⟨p, j, none⟩ = false := by
  have := (h.there j hj).2
  rwa [Nat.zero_add] at this
theorem Pgc.keep {F : Nat → Prop} (h : Pgc w p dv q r lv b n e o) (k : Keep F w w') (hf : ¬ F p) : Pgc w' p dv q r lv b n e o := ⟨there_keep h.there k hf, range_keep h.cells k hf, h.lr, h.lb, h.ln⟩
theorem Pgc.below (h : Pgc w p dv q r lv b n e o) (k : Below w.heap.size w w') : Pgc w' p dv q r lv b n e o := h.keep (F := fun _ => False) (Keep.of_below k) (fun h => h)
theorem Pgc.tm (h : Pgc w p dv q r lv b n e o) (k m : Nat) (hk : k + m ≤ 86) : w.there p k m := fun j hj => by
  have := h.there (k + j) (by omega)
  rw [Nat.zero_add] at this
  exact this
theorem Pgc.setd (h : Pgc w p dv q r lv b n e o) (v : Value) : Pgc (w.setCell ⟨p, 0, none⟩ v) p v q r lv b n e o :=
  ⟨World.there_setCells h.there p 0 [v], range_put (A := []) (B := [dv]) (B' := [v]) h.cells (h.tm 0 1 (by omega)) rfl, h.lr, h.lb, h.ln⟩
theorem Pgc.setc (h : Pgc w p dv q r lv b n e o) (q2 : Nat) (r2 : List Nat) (h2 : r2.length = 27) : Pgc (w.setCells p 1 (svs q2 r2)) p dv q2 r2 lv b n e o :=
  ⟨World.there_setCells h.there p 1 _, range_put (A := [dv]) (B := svs q r) (B' := svs q2 r2) h.cells (h.tm 1 _ (by rw [svs_length h2]; omega)) (by rw [svs_length h2, svs_length h.lr]), h2, h.lb, h.ln⟩
theorem Pgc.setl (h : Pgc w p dv q r lv b n e o) (v : Value) : Pgc (w.setCell ⟨p, 29, none⟩ v) p dv q r v b n e o := by
  refine ⟨World.there_setCells h.there p 29 [v], ?_, h.lr, h.lb, h.ln⟩
  have e1 : (dv :: svs q r).length = 29 := by simp [svs_length h.lr]
  have := range_put (w := w) (b := p) (o := 0) (A := dv :: svs q r) (B := [lv]) (B' := [v]) (C := b ++ (n ++ [.int .u64 ((e : Nat) : Int), .bool o])) (by simpa [pcs] using h.cells) (by rw [e1]; exact h.tm 29 1 (by omega)) rfl
  rw [e1] at this
  simpa [pcs, World.setCells] using this
theorem Pgc.setb (h : Pgc w p dv q r lv b n e o) (b2 : List Value) (h2 : b2.length = 27) : Pgc (w.setCells p 30 b2) p dv q r lv b2 n e o := by
  refine ⟨World.there_setCells h.there p 30 b2, ?_, h.lr, h2, h.ln⟩
  have e1 : (dv :: (svs q r ++ [lv])).length = 30 := by simp [svs_length h.lr]
  have := range_put (w := w) (b := p) (o := 0) (A := dv :: (svs q r ++ [lv])) (B := b) (B' := b2) (C := n ++ [.int .u64 ((e : Nat) : Int), .bool o]) (by simpa [pcs] using h.cells) (by rw [e1, h2]; exact h.tm 30 27 (by omega)) (by rw [h2, h.lb])
  rw [e1] at this
  simpa [pcs] using this
theorem Pgc.setn (h : Pgc w p dv q r lv b n e o) (n2 : List Value) (h2 : n2.length = 27) : Pgc (w.setCells p 57 n2) p dv q r lv b n2 e o := by
  refine ⟨World.there_setCells h.there p 57 n2, ?_, h.lr, h.lb, h2⟩
  have e1 : (dv :: (svs q r ++ (lv :: b))).length = 57 := by simp [svs_length h.lr, h.lb]
  have := range_put (w := w) (b := p) (o := 0) (A := dv :: (svs q r ++ (lv :: b))) (B := n) (B' := n2) (C := [.int .u64 ((e : Nat) : Int), .bool o]) (by simpa [pcs] using h.cells) (by rw [e1, h2]; exact h.tm 57 27 (by omega)) (by rw [h2, h.ln])
  rw [e1] at this
  simpa [pcs] using this
theorem Pgc.sete (h : Pgc w p dv q r lv b n e o) (e2 : Nat) : Pgc (w.setCell ⟨p, 84, none⟩ (.int .u64 ((e2 : Nat) : Int))) p dv q r lv b n e2 o := by
  refine ⟨World.there_setCells h.there p 84 [_], ?_, h.lr, h.lb, h.ln⟩
  have e1 : (dv :: (svs q r ++ (lv :: (b ++ n)))).length = 84 := by simp [svs_length h.lr, h.lb, h.ln]
  have := range_put (w := w) (b := p) (o := 0) (A := dv :: (svs q r ++ (lv :: (b ++ n)))) (B := [.int .u64 ((e : Nat) : Int)]) (B' := [.int .u64 ((e2 : Nat) : Int)]) (C := [.bool o]) (by simpa [pcs] using h.cells) (by rw [e1]; exact h.tm 84 1 (by omega)) rfl
  rw [e1] at this
  simpa [pcs, World.setCells] using this
theorem Pgc.seto (h : Pgc w p dv q r lv b n e o) (o2 : Bool) : Pgc (w.setCell ⟨p, 85, none⟩ (.bool o2)) p dv q r lv b n e o2 := by
  refine ⟨World.there_setCells h.there p 85 [_], ?_, h.lr, h.lb, h.ln⟩
  have e1 : (dv :: (svs q r ++ (lv :: (b ++ (n ++ [.int .u64 ((e : Nat) : Int)]))))).length = 85 := by simp [svs_length h.lr, h.lb, h.ln]
  have := range_put (w := w) (b := p) (o := 0) (A := dv :: (svs q r ++ (lv :: (b ++ (n ++ [.int .u64 ((e : Nat) : Int)]))))) (B := [.bool o]) (B' := [.bool o2]) (C := []) (by simpa [pcs] using h.cells) (by rw [e1]; exact h.tm 85 1 (by omega)) rfl
  rw [e1] at this
  simpa [pcs, World.setCells] using this
end
theorem scs_free {w : World} {p k : Nat} {rt : List Nat} {pf pd mb : Nat} (h : w.rangeAt p k (scs rt pf pd mb)) (hr : rt.length = 24) : w.cell? ⟨p, k + 24, none⟩ = some (.pointer (some ⟨pf, 0, none⟩)) :=
  h 24 _ (by unfold scs; rw [List.getElem?_append_right (by rw [rcs_length]; omega), rcs_length, hr]; rfl)
theorem scs_defd {w : World} {p k : Nat} {rt : List Nat} {pf pd mb : Nat} (h : w.rangeAt p k (scs rt pf pd mb)) (hr : rt.length = 24) : w.cell? ⟨p, k + 25, none⟩ = some (.pointer (some ⟨pd, 0, none⟩)) :=
  h 25 _ (by unfold scs; rw [List.getElem?_append_right (by rw [rcs_length]; omega), rcs_length, hr]; rfl)
theorem scs_map {w : World} {p k : Nat} {rt : List Nat} {pf pd mb : Nat} (h : w.rangeAt p k (scs rt pf pd mb)) (hr : rt.length = 24) : w.cell? ⟨p, k + 26, none⟩ = some (.map (some mb)) :=
  h 26 _ (by unfold scs; rw [List.getElem?_append_right (by rw [rcs_length]; omega), rcs_length, hr]; rfl)
theorem scs_roots {w : World} {p k : Nat} {rt : List Nat} {pf pd mb : Nat} (h : w.rangeAt p k (scs rt pf pd mb)) : w.rangeAt p k (rcs rt) := fun j v hv => h j v (by unfold scs; rw [List.getElem?_append_left (List.getElem?_eq_some_iff.1 hv).1]; exact hv)
theorem Tryz.sizeS127 : (Tryz.prog.info? 127).map (·.size) = some 27 := by kernel_rfl
theorem Tryz.sizeS34 : (Tryz.prog.info? 34).map (·.size) = some 24 := by kernel_rfl
theorem info_scs {rt : List Nat} {pf pd mb : Nat} (h : rt.length = 24) : (Tryz.prog.info? 127).map (·.size) = some (scs rt pf pd mb).length := by rw [scs_length h]; exact Tryz.sizeS127
theorem info_rcs {rt : List Nat} (h : rt.length = 24) : (Tryz.prog.info? 34).map (·.size) = some (rcs rt).length := by rw [rcs_length, h]; exact Tryz.sizeS34
end Go.Proofs.YtlcnefeikejcaaaGreatDoor
namespace Go.Proofs.YtlcnefeikejcaaaGreatDoor
open Go.RowKit
section
variable {P : Program} {ops : Array Oper} {Q : Exit → Act → World → Prop} {z : Nat}
def reachB (ops : Array Oper) : Nat → Nat → Nat → Bool
  | 0, _, _ => false
  | f + 1, z, i => match ops[z]? with | none => false | some o => o.after.any fun e => Region.binds .any e && (e.on == i || reachB ops f e.on i)
def closedB (ops : Array Oper) (listed : Array Bool) : Bool :=
  (List.range ops.size).all fun k => !(listed.getD k false) || (match ops[k]? with | none => true | some o => o.after.all fun e => !(Region.binds .any e) || listed.getD e.on false)
def Closed (ops : Array Oper) (listed : Array Bool) : Prop := ∀ k o, ops[k]? = some o → listed.getD k false = true → ∀ e ∈ o.after, Region.binds .any e = true → listed.getD e.on false = true
theorem closed_of {listed : Array Bool} (h : closedB ops listed = true) : Closed ops listed := by
  intro k o ho hk e he hb
  unfold closedB at h
  rw [List.all_eq_true] at h
  have hlt : k < ops.size := (Array.getElem?_eq_some_iff.1 ho).1
  have h1 := h k (List.mem_range.2 hlt)
  rw [hk, ho] at h1
  simp only [Bool.not_true, Bool.false_or] at h1
  rw [Array.all_eq_true'] at h1
  have h2 := h1 e he
  rw [hb] at h2
  simpa using h2
theorem getD_set_true {listed : Array Bool} {j k : Nat} (h : listed.getD k false = true) : (listed.setIfInBounds j true).getD k false = true := by
  by_cases e : j = k
  · subst e
    have hlt : j < listed.size := by
      rcases Nat.lt_or_ge j listed.size with h' | h'
      · exact h'
      · simp [h'] at h
    simp [hlt]
  · rw [getD_set_ne false e]; exact h
theorem Closed.step {listed : Array Bool} (h : Closed ops listed) {j : Nat} (hj : j ∈ Region.ready .any ops listed) : Closed ops (listed.setIfInBounds j true) := by
  intro k o ho hk e he hb
  apply getD_set_true
  by_cases e1 : j = k
  · subst e1
    obtain ⟨_, oj, hoj, hall⟩ := mem_ready.1 hj
    rw [ho] at hoj
    cases hoj
    exact hall e he hb
  · rw [getD_set_ne false e1] at hk
    exact h k o ho hk e he hb
theorem reach_listed {listed : Array Bool} (h : Closed ops listed) {i : Nat} : ∀ (f k : Nat), listed.getD k false = true → reachB ops f k i = true → listed.getD i false = true
  | 0, _, _, hr => by cases hr
  | f + 1, k, hk, hr => by
    unfold reachB at hr
    split at hr
    · cases hr
    · rename_i o ho
      obtain ⟨e, he, hb⟩ := Array.any_eq_true'.1 hr
      simp only [Bool.and_eq_true, Bool.or_eq_true, beq_iff_eq] at hb
      have h1 := h k o ho hk e he hb.1
      rcases hb.2 with h2 | h2
      · rw [← h2]; exact h1
      · exact reach_listed h f e.on h1 h2
theorem Lz.firstR {S : World → Prop} {i : Nat} {oi : Oper} {v : Value} (f : Nat) (hi : ops[i]? = some oi) (hsel : ∀ (j : Nat) (o : Oper) cs b, ops[j]? = some o → o.op ≠ .select cs b)
    (hz : reachB ops f z i = true) (hQ : ∀ c a w, Q (.panic c) (a.put oi.dst v) w → Q (.panic c) a w) :
    ∀ (fuel : Nat) (listed : Array Bool) (a : Act) (w : World), Closed ops listed →
      (∀ j oj, ops[j]? = some oj → j ≠ i → listed.getD j true = false → (∀ e ∈ oj.after, Region.binds .any e = true → e.on ≠ i) → oi.apart ops oj = true) →
      i ∈ Region.ready .any ops listed → YieldsIf P ops S oi v a → S w →
      Lz P ops Q z S fuel (listed.setIfInBounds i true) (a.put oi.dst v) w → Lz P ops Q z S (fuel + 1) listed a w := by
  intro fuel
  induction fuel with
  | zero =>
    intro listed a w _ _ hr hy hS H
    refine ⟨fun h => (by rw [h] at hr; cases hr), fun j hj => ?_⟩
    by_cases hji : j = i
    · subst hji; exact hy.wpOp hi hS ⟨.inr hS, H⟩
    · have := ready_mono hj hji
      rw [H.1] at this
      cases this
  | succ fuel ih =>
    intro listed a w hcl hfree hr hy hS H
    refine ⟨fun h => (by rw [h] at hr; cases hr), fun j hj => ?_⟩
    by_cases hji : j = i
    · subst hji; exact hy.wpOp hi hS ⟨.inr hS, H⟩
    · have h1 := H.2 j (ready_mono hj hji)
      obtain ⟨hjun, oj, hoj, hall⟩ := mem_ready.1 hj
      have nol : listed.getD i false = true → False := fun h1 => by
        have h0 := (mem_ready.1 hr).1
        rcases Nat.lt_or_ge i listed.size with h' | h'
        · simp [h'] at h0 h1; rw [h0] at h1; cases h1
        · simp [Array.getElem?_eq_none h'] at h1
      have hnot : ∀ e ∈ oj.after, Region.binds .any e = true → e.on ≠ i := fun e he hb heq => by
        have h1 := hall e he hb
        rw [heq] at h1
        exact nol h1
      have hjz : j ≠ z := fun e => by
        subst e
        cases f with
        | zero => cases hz
        | succ f =>
          unfold reachB at hz
          rw [hoj] at hz
          obtain ⟨e, he, hb⟩ := Array.any_eq_true'.1 hz
          simp only [Bool.and_eq_true, Bool.or_eq_true, beq_iff_eq] at hb
          have h1 := hall e he hb.1
          rcases hb.2 with h2 | h2
          · rw [h2] at h1; exact nol h1
          · exact nol (reach_listed hcl f e.on h1 h2)
      have h2 := wpOp_putIf hoj (hfree j oj hoj hji hjun hnot) (fun cs b => hsel i oi cs b hi) (fun cs b => hsel j oj cs b hoj) hQ hy h1
      have hfree' : ∀ k ok, ops[k]? = some ok → k ≠ i → (listed.setIfInBounds j true).getD k true = false →
          (∀ e ∈ ok.after, Region.binds .any e = true → e.on ≠ i) → oi.apart ops ok = true := fun k ok hk hki hun hno => by
        refine hfree k ok hk hki ?_ hno
        by_cases hjk : j = k
        · subst hjk; exact hjun
        · rw [getD_set_ne true hjk] at hun; exact hun
      refine wpOp_mono (fun a' w' h3 => ?_) h2
      have hS' : S w' := h3.2.1.resolve_left hjz
      refine ⟨.inr hS', ih (listed.setIfInBounds j true) a' w' (hcl.step hj) hfree' (ready_mono hr (Ne.symm hji)) h3.1 hS' ?_⟩
      rw [Array.setIfInBounds_comm _ _ hji]
      exact h3.2.2
theorem lr_take (i t : Nat) {S : World → Prop} {oi : Oper} {v : Value} {fuel : Nat} {listed : Array Bool} {a : Act} {w : World} (hi : ops[i]? = some oi) (hd : oi.dst = some t)
    (hs : Region.noSelect ops = true) (hf : Region.free .any ops listed i = true) (hr : (Region.ready .any ops listed).contains i = true) (hz : reachB ops 9 z i = true) (hc : closedB ops listed = true)
    (hQ : ∀ c t u a w, Q (.panic c) (Act.put a (some t) u) w → Q (.panic c) a w) (hw : Region.wanted oi (yielded ops a.tmps) = true) (hS : S w)
    (hy : ∀ W, S W → (execOp a.eval oi).run P W = .ok (.value v) W)
    (h : Lz P ops Q z S fuel (listed.setIfInBounds i true) (a.put (some t) v) w) : Lz P ops Q z S (fuel + 1) listed a w :=
  Lz.firstR 9 hi (Region.noSelect_spec hs) hz (lz_back hQ) fuel listed a w (closed_of hc) (Region.free_spec hi hf) (by simpa using hr) (Or.inl ⟨hw, hy⟩) hS (by rw [hd]; exact h)
end
end Go.Proofs.YtlcnefeikejcaaaGreatDoor
namespace Go.Proofs.YtlcnefeikejcaaaGreatDoor
open Go.RowKit Go.Sort Go.Maps
set_option maxRecDepth 100000 in
set_option maxHeartbeats 400000 in
theorem nindex_any (w : World) (v : Value) (l : List Int) (x : Int) (h : Nums w v l) :
    Calls Tryz.prog 147 #[v, .int .u32 x] w fun e w' => (∃ z : Int, e = .returned (.int .i64 z) ∧ decide (0 ≤ z) = decide (x ∈ l)) ∧ w = w' := by
  obtain ⟨A, c, rfl, hc, hm, h⟩ := h
  have H := Lib.hid h
  clear h
  have hlm : l.length ≤ maxLen := by omega
  unfold maxLen at hlm
  go_enter Tryz.func147, Tryz.ntmps147
  go_wp2
  go_loopg [8] l.length (fun k s wr => ∃ i : Nat, s = .int .i64 i ∧ i ≤ l.length ∧ l.length - i ≤ k ∧ w = wr ∧ Hid (∀ j, j < i → l[j]! ≠ x))
  case atStart => exact ⟨0, rfl, by omega, by omega, rfl, fun j hj => by omega⟩
  case round =>
    obtain ⟨i, rfl, h1, h2, rfl, HI⟩ := hrel
    by_cases hi : i < l.length
    · obtain ⟨b, off, rfl, hcell⟩ := H.out (by omega)
      have c0 := hcell i hi
      obtain ⟨y, hy⟩ : ∃ y, y = l[i]! := ⟨_, rfl⟩
      rw [← hy] at c0
      have HY := Lib.hid hy
      clear hcell hy
      by_cases hxy : x = y
      · have hz : (x == y) = true := by simpa using hxy
        go_wp2
        go_ret
        refine ⟨⟨_, rfl, ?_⟩, rfl⟩
        have : x ∈ l := by
          rw [hxy, HY.out, getElem!_def, List.getElem?_eq_getElem hi]
          exact List.getElem_mem hi
        rw [decide_eq_true this]
        simp
      · have hz : (x == y) = false := by simpa using hxy
        go_wp2
        go_roundg (l.length - (i + 1))
        case measure => omega
        case rel =>
          refine ⟨i + 1, by simp, by omega, by omega, rfl, fun j hj => ?_⟩
          rcases Nat.lt_or_ge j i with q | q
          · exact HI.out j q
          · obtain rfl : j = i := by omega
            rw [← HY.out]
            exact fun e => hxy e.symm
    · have hz : ¬ (i : Int) < (l.length : Int) := by omega
      go_wp2
      go_ret
      refine ⟨⟨_, rfl, ?_⟩, rfl⟩
      have : x ∉ l := fun hx => by
        obtain ⟨k, hk, e⟩ := List.getElem_of_mem hx
        have := HI.out k (by omega)
        rw [getElem!_def, List.getElem?_eq_getElem hk] at this
        exact this e
      simp [this]
set_option maxRecDepth 100000 in
theorem ncontains_any (w : World) (v : Value) (l : List Int) (x : Int) (h : Nums w v l) :
    Calls Tryz.prog 112 #[v, .int .u32 x] w fun e w' => e = .returned (.bool (decide (x ∈ l))) ∧ w = w' := by
  have C := Lib.hid (nindex_any w v l x h)
  generalize decide (x ∈ l) = d at *
  clear h
  go_enter Tryz.func112, Tryz.ntmps112
  go_wp2_with (go_at_call 147; refine C.out.mono ?_; rintro e w1 ⟨⟨z, rfl, hz⟩, rfl⟩)
  go_ret
  exact ⟨by rw [← hz]; rfl, rfl⟩
set_option maxRecDepth 100000 in
set_option maxHeartbeats 1600000 in
theorem cclone_any (w : World) (mb : Nat) (es : Array MapEntry) (cl : Nat) (hb : w.heap[mb]? = some (.map es cl)) :
    Calls Tryz.prog 131 #[.map (some mb)] w fun e w' => e = .returned (.map (some w.heap.size)) ∧ w' = w.alloc (.map es cl) := by
  have hq := fun w => run_eql_map_nil_sl (P := Tryz.prog) w 125 _ _ (some mb) Tryz.underlying125
  have hf : Tryz.prog.funcs[157]? = some Tryz.f157 := by kernel_rfl
  go_enter Tryz.func131, Tryz.ntmps131
  go_wp2
  rw [run_callFunc_extern hf (by kernel_rfl) (by kernel_rfl) (by kernel_rfl) (e := Extern.MapsClone.clone) (by kernel_rfl), run_maps_clone_sl w 125 hb]
  simp only [Result.andThen]
  rw [Oper.upon_value]
  go_wp2
  rw [run_typeAssert_map_sl _ 125 20 _ _ _ Tryz.underlying125]
  simp only [Result.andThen]
  rw [Oper.upon_value]
  go_wp2
  go_ret
  exact ⟨rfl, rfl⟩
theorem Mc.cloned {w : World} {col : Nat → Nat} {mb : Nat} {fs : List Fr} {D : DataW Value} {es : Array MapEntry} {cl : Nat} (h : Mc w col mb fs D) (hb : w.heap[mb]? = some (.map es cl)) : Mc (w.alloc (.map es cl)) col w.heap.size fs D := by
  obtain ⟨es', cl', hb', r⟩ := h.own
  rw [hb] at hb'
  simp only [Option.some.injEq, Obj.map.injEq] at hb'
  obtain ⟨rfl, rfl⟩ := hb'
  refine ⟨⟨es, cl, (MapKept.heap_alloc w _).1, r⟩, h.size, h.ris, h.has, fun f hf => ?_⟩
  obtain ⟨v, h1, h2, h3⟩ := h.at_ f hf
  exact ⟨v, h1, h2.below (alb _), h3⟩
def sva' (rt : List Nat) (pf pd mb : Nat) : Value := .agg (scs rt pf pd mb).toArray
def Copied (w w' : World) (col : Nat → Nat) (c pf pd mb : Nat) (x : Wk) : Prop := ∃ col', (∀ b, b < w.heap.size → col' b = col b) ∧ Stt w' col' c pf pd mb x
theorem copied_made {w w' : World} {col : Nat → Nat} {c0 c pf0 pd0 mb0 pf pd mb n1 n2 : Nat} {x : Wk} {F G : Nat → Prop} (h : Stt w col c0 pf0 pd0 mb0 x) (hB : Below w.heap.size w w') (h1 : w.heap.size ≤ n1) (h2 : n1 ≤ n2)
    (P1 : Po w' pf F x.free) (f1 : ∀ b, F b → w.heap.size ≤ b ∧ b < n1) (P2 : Po w' pd G x.defd) (f2 : ∀ b, G b → n1 ≤ b ∧ b < n2) (hm : n2 ≤ mb) (hb : w'.heap[mb]? = w.heap[mb0]?) : Copied w w' col c pf pd mb x := by
  obtain ⟨D, M⟩ := h.map
  refine ⟨fun b => if b < w.heap.size then col b else if b < n1 then c else if b < n2 then c + 1 else c + 2, fun b hb => if_pos hb, ?_⟩
  have M1 : Mc w (fun b => if b < w.heap.size then col b else if b < n1 then c else if b < n2 then c + 1 else c + 2) mb0 x.fresh D := M.recol (fun b hb => if_pos hb)
  refine ⟨⟨F, P1, fun b hb => ?_⟩, ⟨G, P2, fun b hb => ?_⟩, ⟨D, ?_, M1.size, M1.ris, M1.has, fun f hf => ?_⟩, ?_⟩
  · have := f1 b hb
    rw [if_neg (by omega), if_pos (by omega)]
  · have := f2 b hb
    rw [if_neg (by omega), if_neg (by omega), if_pos (by omega)]
  · obtain ⟨es, cl, q, r⟩ := M1.own
    exact ⟨es, cl, hb.trans q, r⟩
  · obtain ⟨v, q1, q2, q3⟩ := M1.at_ f hf
    exact ⟨v, q1, q2.below hB, q3⟩
  · rw [if_neg (by omega), if_neg (by omega), if_neg (by omega)]
def zst : Array Value := (List.replicate 24 (Value.int .u32 0) ++ [Value.pointer none, Value.pointer none, Value.map none]).toArray
theorem Tryz.zero127 : (Tryz.prog.info? 127).map (fun i => (i.zero, i.size)) = some (some (.agg zst), 27) := by kernel_rfl
theorem zst_size : zst.size = 27 := rfl
theorem run_build_st (rt : List Nat) (h : rt.length = 24) (pf pd mb : Nat) (w : World) : (Instr.build 127 #[(0, .agg (rcs rt).toArray), (1, .pointer (some ⟨pf, 0, none⟩)), (2, .pointer (some ⟨pd, 0, none⟩)), (3, .map (some mb))]).run Tryz.prog w = .ok (.agg (scs rt pf pd mb).toArray) w := by
  match rt, h with
  | [x0, x1, x2, x3, x4, x5, x6, x7, x8, x9, x10, x11, x12, x13, x14, x15, x16, x17, x18, x19, x20, x21, x22, x23], _ => exact run_build w _ _ _ (by kernel_rfl)
theorem run_op_build_st {op : Oper} {a : Act} {w : World} (x0 x1 x2 x3 : Operand) (ho : op.op = .build 127 #[(0, x0), (1, x1), (2, x2), (3, x3)]) (rt : List Nat) (h : rt.length = 24) (pf pd mb : Nat)
    (h0 : a.eval x0 = .agg (rcs rt).toArray) (h1 : a.eval x1 = .pointer (some ⟨pf, 0, none⟩)) (h2 : a.eval x2 = .pointer (some ⟨pd, 0, none⟩)) (h3 : a.eval x3 = .map (some mb)) :
    (execOp a.eval op).run Tryz.prog w = .ok (.value (.agg (scs rt pf pd mb).toArray)) w := by
  have e := run_build_st rt h pf pd mb w
  unfold execOp
  simp only [ho, List.map_toArray, List.map_cons, List.map_nil, h0, h1, h2, h3, Sem.run_bind, e, Result.andThen_ok]
  rfl
theorem two_new (w : World) (c : Array Value) (t : TypeId) : (w.alloc (.cells c t)).rangeAt w.heap.size 0 c.toList := fun j v hv => by
  rw [Nat.zero_add, World.cell?_alloc_at _ _ _ _ rfl]
  simpa using hv
theorem there_newN (w : World) (c : Array Value) (t : TypeId) (n : Nat) (hn : c.size = n) : (w.alloc (.cells c t)).there w.heap.size 0 n := there_new w c t n hn
theorem results_st {fn : Func} {t : Tmp} (h : fn.results = #[.cell t 127]) (tmps : Array Value) (w : World) (b o : Nat) (rt : List Nat) (pf pd mb : Nat) (hr : rt.length = 24) (ht : tmps.getD t undef = .pointer (some ⟨b, o, none⟩)) (hs : w.rangeAt b o (scs rt pf pd mb)) :
    (results fn tmps).run Tryz.prog w = .ok (.agg (scs rt pf pd mb).toArray) w := by
  have hl := run_loadVar_mid (P := Tryz.prog) w b o 127 (scs rt pf pd mb) _ hs Tryz.underlying127 rfl (info_scs hr)
  have ht' : tmps[t]?.getD undef = .pointer (some ⟨b, o, none⟩) := by simpa using ht
  simp only [results, h]
  simp [ht', asAddr, hl]
set_option maxRecDepth 100000 in
set_option maxHeartbeats 1600000 in
theorem copied_any (w : World) (col : Nat → Nat) (c0 c pf0 pd0 mb0 : Nat) (rt : List Nat) (hr : rt.length = 24) (x : Wk) (h : Stt w col c0 pf0 pd0 mb0 x) (hf : x.free.length < 65536) (hd : x.defd.length < 65536) :
    Calls Tryz.prog 95 #[.agg (scs rt pf0 pd0 mb0).toArray] w fun e w' => ∃ pf pd mb, e = .returned (.agg (scs rt pf pd mb).toArray) ∧ Copied w w' col c pf pd mb x ∧ Below w.heap.size w w' := by
  have hz := (zero_of_info Tryz.zero127).1
  have hzs := Lib.hid zst_size
  have HH := Lib.hid h
  have HR0 := Lib.hid hr
  have hrs := Lib.hid (rcs_length rt)
  have HB0 : Hid (∀ Z : Array Value, Below w.heap.size w ((w.alloc (.cells (scs rt pf0 pd0 mb0).toArray 127)).alloc (.cells Z 127))) := fun Z => bal (alb _) _
  have HT : Hid (∀ Z : Array Value, Z.size = 27 → ((w.alloc (.cells (scs rt pf0 pd0 mb0).toArray 127)).alloc (.cells Z 127)).there (w.heap.size + 1) 0 27) := fun Z hZ => by
    have := there_newN (w.alloc (.cells (scs rt pf0 pd0 mb0).toArray 127)) Z 127 27 hZ
    rwa [show (w.alloc (.cells (scs rt pf0 pd0 mb0).toArray 127)).heap.size = w.heap.size + 1 by simp] at this
  have HRG : Hid (∀ Z : Array Value, ((w.alloc (.cells (scs rt pf0 pd0 mb0).toArray 127)).alloc (.cells Z 127)).rangeAt w.heap.size 0 (scs rt pf0 pd0 mb0)) := fun Z => World.rangeAt_alloc (two_new w _ _) _
  obtain ⟨F1, P1, -⟩ := h.free
  obtain ⟨F2, P2, -⟩ := h.defd
  obtain ⟨D, M⟩ := h.map
  obtain ⟨es, cl, hb, -⟩ := id M.own
  have HM := Lib.hid M.lt
  have HP1 : Hid (∀ W, Below w.heap.size w W → Calls Tryz.prog 130 #[.pointer (some ⟨pf0, 0, none⟩)] W fun e w' => ∃ q, e = .returned (.pointer (some ⟨q, 0, none⟩)) ∧ Below W.heap.size W w' ∧ ∃ G, Po w' q G x.free ∧ ∀ b, G b → W.heap.size ≤ b) := fun W hW => copy_any W pf0 F1 x.free (P1.below hW) hf
  have HP2 : Hid (∀ W, Below w.heap.size w W → Calls Tryz.prog 130 #[.pointer (some ⟨pd0, 0, none⟩)] W fun e w' => ∃ q, e = .returned (.pointer (some ⟨q, 0, none⟩)) ∧ Below W.heap.size W w' ∧ ∃ G, Po w' q G x.defd ∧ ∀ b, G b → W.heap.size ≤ b) := fun W hW => copy_any W pd0 F2 x.defd (P2.below hW) hd
  have HMB := Lib.hid hb
  clear h M P1 P2 hb hf hd hr
  generalize zst = Z at *
  go_enter Tryz.func95, Tryz.ntmps95
  go_wp2_with fail
  have HB := Lib.hid (HB0.out Z)
  have HTT := Lib.hid (HT.out Z hzs.out)
  have HRR := Lib.hid (HRG.out Z)
  have hsz : Hid (((w.alloc (.cells (scs rt pf0 pd0 mb0).toArray 127)).alloc (.cells Z 127)).heap.size = w.heap.size + 2) := by
    show _ = _
    simp
  clear HB0 HT HRG
  generalize (w.alloc (.cells (scs rt pf0 pd0 mb0).toArray 127)).alloc (.cells Z 127) = w0 at *
  have hS : Hid (Below w0.heap.size w0 w0.drew) := (Below.refl _ _).drew
  refine lz_start 13 12 (fun W => Below w0.heap.size w0 W) rfl (by kernel_rfl) ?_
  refine lr_take 0 3 (v := ?_) rfl rfl (by kernel_rfl) (by kernel_rfl) (by kernel_rfl) (by kernel_rfl) (by kernel_rfl) (fun _ _ _ _ _ h => h) (by rfl) hS.out (fun W hW => ?_) ?_
  rotate_left
  · go_simp; try rfl
  try simp only [Act.put, List.setIfInBounds_toArray, List.set_cons_zero, List.set_cons_succ]
  refine lr_take 1 4 (v := ?_) rfl rfl (by kernel_rfl) (by kernel_rfl) (by kernel_rfl) (by kernel_rfl) (by kernel_rfl) (fun _ _ _ _ _ h => h) (by rfl) hS.out (fun W hW => ?_) ?_
  rotate_left
  · have q := range_keep (F := fun _ => False) HRR.out (Keep.of_below hW) (fun h => h); refine run_load_mid 34 (.tmp 3) ?_ w.heap.size 0 ?_ (rcs rt) _ (scs_roots q) Tryz.underlying34 rfl (info_rcs HR0.out) <;> rfl
  try simp only [Act.put, List.setIfInBounds_toArray, List.set_cons_zero, List.set_cons_succ]
  refine lr_take 2 5 (v := ?_) rfl rfl (by kernel_rfl) (by kernel_rfl) (by kernel_rfl) (by kernel_rfl) (by kernel_rfl) (fun _ _ _ _ _ h => h) (by rfl) hS.out (fun W hW => ?_) ?_
  rotate_left
  · go_simp; try rfl
  try simp only [Act.put, List.setIfInBounds_toArray, List.set_cons_zero, List.set_cons_succ]
  refine lr_take 3 6 (v := ?_) rfl rfl (by kernel_rfl) (by kernel_rfl) (by kernel_rfl) (by kernel_rfl) (by kernel_rfl) (fun _ _ _ _ _ h => h) (by rfl) hS.out (fun W hW => ?_) ?_
  rotate_left
  · have q := range_keep (F := fun _ => False) HRR.out (Keep.of_below hW) (fun h => h); have q2 := scs_free q HR0.out; go_simp; try rfl
  try simp only [Act.put, List.setIfInBounds_toArray, List.set_cons_zero, List.set_cons_succ]
  refine lr_take 5 8 (v := ?_) rfl rfl (by kernel_rfl) (by kernel_rfl) (by kernel_rfl) (by kernel_rfl) (by kernel_rfl) (fun _ _ _ _ _ h => h) (by rfl) hS.out (fun W hW => ?_) ?_
  rotate_left
  · go_simp; try rfl
  try simp only [Act.put, List.setIfInBounds_toArray, List.set_cons_zero, List.set_cons_succ]
  refine lr_take 6 9 (v := ?_) rfl rfl (by kernel_rfl) (by kernel_rfl) (by kernel_rfl) (by kernel_rfl) (by kernel_rfl) (fun _ _ _ _ _ h => h) (by rfl) hS.out (fun W hW => ?_) ?_
  rotate_left
  · have q := range_keep (F := fun _ => False) HRR.out (Keep.of_below hW) (fun h => h); have q2 := scs_defd q HR0.out; go_simp; try rfl
  try simp only [Act.put, List.setIfInBounds_toArray, List.set_cons_zero, List.set_cons_succ]
  refine lr_take 8 11 (v := ?_) rfl rfl (by kernel_rfl) (by kernel_rfl) (by kernel_rfl) (by kernel_rfl) (by kernel_rfl) (fun _ _ _ _ _ h => h) (by rfl) hS.out (fun W hW => ?_) ?_
  rotate_left
  · go_simp; try rfl
  try simp only [Act.put, List.setIfInBounds_toArray, List.set_cons_zero, List.set_cons_succ]
  refine lr_take 9 12 (v := ?_) rfl rfl (by kernel_rfl) (by kernel_rfl) (by kernel_rfl) (by kernel_rfl) (by kernel_rfl) (fun _ _ _ _ _ h => h) (by rfl) hS.out (fun W hW => ?_) ?_
  rotate_left
  · have q := range_keep (F := fun _ => False) HRR.out (Keep.of_below hW) (fun h => h); have q2 := scs_map q HR0.out; go_simp; try rfl
  try simp only [Act.put, List.setIfInBounds_toArray, List.set_cons_zero, List.set_cons_succ]
  generalize w0.drew = u at *
  have hS1 := hS
  refine lz_op 4 rfl rfl (by kernel_rfl) (fun K hK => ?_)
  go_simp
  refine (HP1.out u (btr HB.out hS.out)).mono ?_
  rintro e w1 ⟨pf, rfl, hb1, G1, q1, g1⟩
  have hS2 := Lib.hid (btr hS.out hb1)
  refine hK.out _ _ hS2.out ?_
  clear hK K hS
  have hS := hS2
  have HQ1 := Lib.hid q1
  have HG1 := Lib.hid g1
  clear q1 g1 hb1
  try simp only [Act.put, List.setIfInBounds_toArray, List.set_cons_zero, List.set_cons_succ]
  refine lz_op 7 rfl rfl (by kernel_rfl) (fun K hK => ?_)
  go_simp
  refine (HP2.out w1 (btr HB.out hS.out)).mono ?_
  rintro e w2 ⟨pd, rfl, hb2, G2, q2, g2⟩
  have hS3 := Lib.hid (btr hS.out hb2)
  refine hK.out _ _ hS3.out ?_
  clear hK K hS
  have hS := hS3
  have HQ1' := Lib.hid (HQ1.out.below hb2)
  have HL1 := Lib.hid HQ1.out.lt
  have s12 : Hid (w1.heap.size ≤ w2.heap.size) := hb2.size
  have HQ2 := Lib.hid q2
  have HG2 := Lib.hid g2
  clear q2 g2 hb2 HQ1
  try simp only [Act.put, List.setIfInBounds_toArray, List.set_cons_zero, List.set_cons_succ]
  refine lz_op 10 rfl rfl (by kernel_rfl) (fun K hK => ?_)
  go_simp
  have hbW : w2.heap[mb0]? = some (.map es cl) := ((btr HB.out hS.out).block mb0 HM.out).trans HMB.out
  refine (cclone_any w2 mb0 es cl hbW).mono ?_
  rintro e w3 ⟨rfl, rfl⟩
  have HN : Hid ((w2.alloc (.map es cl)).heap[w2.heap.size]? = w.heap[mb0]?) := ((MapKept.heap_alloc w2 _).1).trans HMB.out.symm
  have hS4 := Lib.hid (btr hS.out (alb (w := w2) (.map es cl)))
  refine hK.out _ _ hS4.out ?_
  have HQ1 := Lib.hid (HQ1'.out.below (alb (w := w2) (.map es cl)))
  have HL2 := Lib.hid HQ2.out.lt
  have HQ2' := Lib.hid (HQ2.out.below (alb (w := w2) (.map es cl)))
  clear hK K hS hbW HQ1' HQ2
  have hS := hS4
  have hsz3 : Hid (w2.heap.size < (w2.alloc (.map es cl)).heap.size) := by
    show _ < _
    simp
  generalize w2.alloc (.map es cl) = w3 at *
  try simp only [Act.put, List.setIfInBounds_toArray, List.set_cons_zero, List.set_cons_succ]
  refine lr_take 11 14 (v := ?_) rfl rfl (by kernel_rfl) (by kernel_rfl) (by kernel_rfl) (by kernel_rfl) (by kernel_rfl) (fun _ _ _ _ _ h => h) (by rfl) hS.out (fun W hW => ?_) ?_
  rotate_left
  · refine run_op_build_st (.tmp 4) (.tmp 7) (.tmp 10) (.tmp 13) ?_ rt HR0.out pf pd w2.heap.size ?_ ?_ ?_ ?_ <;> rfl
  try simp only [Act.put, List.setIfInBounds_toArray, List.set_cons_zero, List.set_cons_succ]
  have HW3 : Hid (w3.there (w.heap.size + 1) 0 27) := there_keep (F := fun _ => False) HTT.out (Keep.of_below hS.out) (fun h => h)
  have HW3' : Hid (w3.there (w.heap.size + 1) 0 (scs rt pf pd w2.heap.size).toArray.size) := by
    have e : (scs rt pf pd w2.heap.size).toArray.size = 27 := scs_length HR0.out
    rw [e]
    exact HW3.out
  refine lz_end rfl rfl (by kernel_rfl) (by kernel_rfl) (fun K hK => ?_)
  refine wp_store_mid 127 (.tmp 2) (.tmp 14) rfl (w.heap.size + 1) 0 (scs rt pf pd w2.heap.size).toArray rfl rfl HW3'.out (info_scs HR0.out) (all_oneCell_toArray (scs_one _ _ _ _)) ?_
  refine hK.out _ _ ?_
  have ks : Keep (fun b => b = w.heap.size + 1) w3 (w3.setCells (w.heap.size + 1) 0 (scs rt pf pd w2.heap.size).toArray.toList) := Keep.setCells (F := fun b => b = w.heap.size + 1) (Keep.refl _ _) (.inl rfl) 0 _
  have HB3 : Hid (Below w.heap.size w (w3.setCells (w.heap.size + 1) 0 (scs rt pf pd w2.heap.size).toArray.toList)) := (btr HB.out hS.out).trans (ks.below (by have := hS.out.size; have := hsz.out; omega) (fun k hk => by subst hk; omega))
  have RR : Hid ((w3.setCells (w.heap.size + 1) 0 (scs rt pf pd w2.heap.size).toArray.toList).rangeAt (w.heap.size + 1) 0 (scs rt pf pd w2.heap.size)) := World.rangeAt_setCells_same _ _ _ _ (by rw [scs_length HR0.out]; exact HW3.out)
  have CC : Hid (Copied w (w3.setCells (w.heap.size + 1) 0 (scs rt pf pd w2.heap.size).toArray.toList) col c pf pd w2.heap.size x) := by
    have s0 := hsz.out
    have s1 := hS1.out.size
    have s2 := hS2.out.size
    have s3 := hS3.out.size
    have e3 := hsz3.out
    refine copied_made (n1 := w1.heap.size) (n2 := w2.heap.size) HH.out HB3.out (by omega) s12.out (HQ1.out.keep ks (fun b hb e => by have := HG1.out b hb; omega)) (fun b hb => ?_) (HQ2'.out.keep ks (fun b hb e => by have := HG2.out b hb; omega)) (fun b hb => ?_) (Nat.le_refl _) ((ks.block w2.heap.size e3 (by omega)).trans HN.out)
    · have := HG1.out b hb
      have := HL1.out b hb
      omega
    · have := HG2.out b hb
      have := HL2.out b hb
      omega
  generalize w3.setCells (w.heap.size + 1) 0 (scs rt pf pd w2.heap.size).toArray.toList = w4 at *
  clear hK K ks
  go_wp2
  exact bodyPost_ret (results_st rfl _ _ (w.heap.size + 1) 0 rt pf pd w2.heap.size HR0.out rfl RR.out) rfl ⟨_, _, _, rfl, CC.out, HB3.out⟩
end Go.Proofs.YtlcnefeikejcaaaGreatDoor
namespace Go.Proofs.YtlcnefeikejcaaaGreatDoor.D
structure St where
  safe : List (List UInt8)
  waits : List (Nat × List UInt8)
  fuse : Int
  down : Bool
  writes : Nat
structure Ok (s : St) : Prop where
  few : 8 ≤ s.safe.length
  many : s.safe.length ≤ 4096
  full : ∀ b ∈ s.safe, b.length = 512
  place : ∀ x ∈ s.waits, x.1 < s.safe.length
  bytes : ∀ x ∈ s.waits, x.2.length = 512
  fuse : -1 ≤ s.fuse
  fuse2 : s.fuse ≤ 9223372036854775807
def zero : List UInt8 := List.replicate 512 0
def new (n : Nat) : St := ⟨List.replicate n zero, [], -1, false, 0⟩
theorem new_ok {n : Nat} (h1 : 8 ≤ n) (h2 : n ≤ 4096) : Ok (new n) :=
  ⟨by simpa [new] using h1, by simpa [new] using h2, fun b hb => by simp only [new, List.mem_replicate] at hb; rw [hb.2]; exact List.length_replicate, fun x hx => by simp [new] at hx, fun x hx => by simp [new] at hx, by simp [new], by simp [new]⟩
def lk (n : Nat) : List UInt8 → List (Nat × List UInt8) → List UInt8
  | b, [] => b
  | b, x :: r => lk n (if x.1 = n then x.2 else b) r
theorem lk_snoc (n : Nat) (x : Nat × List UInt8) : ∀ (b : List UInt8) (l : List (Nat × List UInt8)), lk n b (l ++ [x]) = if x.1 = n then x.2 else lk n b l
  | b, [] => rfl
  | b, y :: r => by simp only [List.cons_append, lk]; exact lk_snoc n x _ r
theorem lk_take (n : Nat) (b : List UInt8) (l : List (Nat × List UInt8)) (k : Nat) (h : k < l.length) : lk n b (l.take (k + 1)) = if l[k].1 = n then l[k].2 else lk n b (l.take k) := by
  rw [List.take_succ_eq_append_getElem h, lk_snoc]
theorem lk_length (n : Nat) : ∀ (b : List UInt8) (l : List (Nat × List UInt8)), b.length = 512 → (∀ x ∈ l, x.2.length = 512) → (lk n b l).length = 512
  | b, [], h, _ => h
  | b, x :: r, h, hl => by
    simp only [lk]
    refine lk_length n _ r ?_ (fun y hy => hl y (by simp [hy]))
    split
    · exact hl x (by simp)
    · exact h
theorem lk_none (n : Nat) : ∀ (b : List UInt8) (l : List (Nat × List UInt8)), (∀ x ∈ l, x.1 ≠ n) → lk n b l = b
  | b, [], _ => rfl
  | b, x :: r, h => by
    simp only [lk]
    rw [if_neg (h x (by simp))]
    exact lk_none n b r (fun y hy => h y (by simp [hy]))
def look (s : St) (n : Nat) : List UInt8 := lk n (s.safe.getD n []) s.waits
theorem getD_full {s : St} (h : Ok s) {n : Nat} (hn : n < s.safe.length) : (s.safe.getD n []).length = 512 := by
  have : s.safe.getD n [] = s.safe[n] := by simp [List.getD, hn]
  rw [this]
  exact h.full _ (List.getElem_mem hn)
theorem look_length {s : St} (h : Ok s) {n : Nat} (hn : n < s.safe.length) : (look s n).length = 512 := lk_length n _ _ (getD_full h hn) h.bytes
def act (s : St) : St := if s.fuse = 0 then { s with down := true } else if 0 < s.fuse then { s with fuse := s.fuse - 1 } else s
theorem act_safe (s : St) : (act s).safe = s.safe := by
  unfold act
  split
  · rfl
  · split <;> rfl
theorem act_waits (s : St) : (act s).waits = s.waits := by
  unfold act
  split
  · rfl
  · split <;> rfl
theorem act_writes (s : St) : (act s).writes = s.writes := by
  unfold act
  split
  · rfl
  · split <;> rfl
def ans (s : St) : Int := if s.fuse = 0 then 7 else 0
def put (s : St) (n : Nat) (b : List UInt8) : St := { s with waits := s.waits ++ [(n, b)], writes := s.writes + 1 }
def bad (s : St) (n : Int) (k : Nat) : Int := if s.down then 7 else if n < 0 ∨ (s.safe.length : Int) ≤ n then 4 else if k ≠ 512 then 1 else 0
def write (s : St) (n : Int) (b : List UInt8) : St := if bad s n b.length = 0 then act (put s n.toNat b) else s
def writeE (s : St) (n : Int) (b : List UInt8) : Int := if bad s n b.length = 0 then ans s else bad s n b.length
def lay : List (List UInt8) → List (Nat × List UInt8) → List (List UInt8)
  | ss, [] => ss
  | ss, x :: r => lay (ss.set x.1 x.2) r
theorem lay_snoc (x : Nat × List UInt8) : ∀ (ss : List (List UInt8)) (l : List (Nat × List UInt8)), lay ss (l ++ [x]) = (lay ss l).set x.1 x.2
  | _, [] => rfl
  | ss, y :: r => by simp only [List.cons_append, lay]; exact lay_snoc x _ r
theorem lay_take (ss : List (List UInt8)) (l : List (Nat × List UInt8)) (k : Nat) (h : k < l.length) : lay ss (l.take (k + 1)) = (lay ss (l.take k)).set l[k].1 l[k].2 := by
  rw [List.take_succ_eq_append_getElem h, lay_snoc]
theorem lay_length : ∀ (ss : List (List UInt8)) (l : List (Nat × List UInt8)), (lay ss l).length = ss.length
  | _, [] => rfl
  | ss, y :: r => by simp only [lay]; rw [lay_length]; simp
def sync (s : St) : St := if s.down then s else if s.fuse = 0 then { s with down := true } else { act s with safe := lay s.safe s.waits, waits := [] }
def syncE (s : St) : Int := if s.down then 7 else ans s
def setFuse (s : St) (n : Int) : St := if s.down then s else { s with fuse := if n < 0 then -1 else n }
def bnd (n : Int) : Nat := if n < 0 then 0 else if 512 < n then 512 else n.toNat
def part (old new : List UInt8) (f t : Nat) : List UInt8 := if f < t then old.take f ++ ((new.drop f).take (t - f) ++ old.drop t) else old
theorem part_length {old new : List UInt8} {f t : Nat} (ho : old.length = 512) (hn : new.length = 512) (ht : t ≤ 512) : (part old new f t).length = 512 := by
  unfold part
  split
  · simp [ho, hn]; omega
  · exact ho
def give (ss : List (List UInt8)) (x : Nat × List UInt8) (l : Int × Int) : List (List UInt8) := ss.set x.1 (part (ss.getD x.1 []) x.2 (bnd l.1) (bnd l.2))
def left : List (List UInt8) → List (Nat × List UInt8) → List (Int × Int) → List (List UInt8)
  | ss, x :: r, l :: m => left (give ss x l) r m
  | ss, _, _ => ss
def crash (s : St) (l : List (Int × Int)) : St := ⟨left s.safe s.waits l, [], -1, false, s.writes⟩
end Go.Proofs.YtlcnefeikejcaaaGreatDoor.D
namespace Go.Proofs.YtlcnefeikejcaaaGreatDoor
open Go.RowKit
open D (St)
def wcells (x : Nat × List UInt8) : List Value := .int .i64 ((x.1 : Nat) : Int) :: bvs x.2
def wall (l : List (Nat × List UInt8)) : List Value := l.flatMap wcells
theorem wcells_length {x : Nat × List UInt8} (h : x.2.length = 512) : (wcells x).length = 513 := by simp [wcells, bvs_length, h]
theorem wall_append (l m : List (Nat × List UInt8)) : wall (l ++ m) = wall l ++ wall m := by simp [wall]
theorem wall_get : ∀ (l : List (Nat × List UInt8)), (∀ x ∈ l, x.2.length = 512) → ∀ i (hi : i < l.length) j, j < 513 → (wall l)[i * 513 + j]? = (wcells l[i])[j]?
  | x :: r, h, 0, _, j, hj => by
    have := wcells_length (h x (by simp))
    simp only [wall, List.flatMap_cons, Nat.zero_mul, Nat.zero_add]
    rw [List.getElem?_append_left (by omega)]
    rfl
  | x :: r, h, i + 1, hi, j, hj => by
    have := wcells_length (h x (by simp))
    simp only [wall, List.flatMap_cons]
    rw [List.getElem?_append_right (by omega), this, show (i + 1) * 513 + j - 513 = i * 513 + j by omega]
    exact wall_get r (fun y hy => h y (by simp [hy])) i (by simpa using hi) j hj
structure Dsk (w : World) (p g : Nat) (wv : Value) (s : St) : Prop where
  ok : D.Ok s
  c0 : ∃ c, w.cell? ⟨p, 0, none⟩ = some (.slice (some ⟨g, 0, none⟩) s.safe.length c)
  c1 : w.cell? ⟨p, 1, none⟩ = some wv
  c2 : w.cell? ⟨p, 2, none⟩ = some (.int .i64 s.fuse)
  c3 : w.cell? ⟨p, 3, none⟩ = some (.bool s.down)
  c4 : w.cell? ⟨p, 4, none⟩ = some (.int .i64 (s.writes : Int))
  fz : ∀ i, w.frozen? ⟨p, i, none⟩ = false
  safe : ∀ i (h : i < s.safe.length), w.rangeAt g (i * 512) (bvs s.safe[i])
  there : ∀ i, i < s.safe.length → w.there g (i * 512) 512
  waits : w.ownsRow 0 114 513 wv s.waits.length (wall s.waits)
  ne : p ≠ g
  nep : wv.ownBlock ≠ some p
  neg : wv.ownBlock ≠ some g
def dfp (p g : Nat) (wv : Value) : Nat → Prop := fun b => b = p ∨ b = g ∨ wv.ownBlock = some b
theorem Dsk.keep {F : Nat → Prop} {w w' : World} {p g : Nat} {wv : Value} {s : St} (h : Dsk w p g wv s) (k : Keep F w w') (hf : ∀ b, dfp p g wv b → ¬ F b) : Dsk w' p g wv s :=
  ⟨h.ok, h.c0.imp fun _ q => k.cell q (hf p (.inl rfl)), k.cell h.c1 (hf p (.inl rfl)), k.cell h.c2 (hf p (.inl rfl)), k.cell h.c3 (hf p (.inl rfl)), k.cell h.c4 (hf p (.inl rfl)),
    fun i => (World.frozen?_of_block (w := w) (a := ⟨p, i, none⟩) (k.block p (World.block_lt_of_cell? w _ h.c1) (hf p (.inl rfl)))).trans (h.fz i),
    fun i hi => range_keep (h.safe i hi) k (hf g (.inr (.inl rfl))), fun i hi => there_keep (h.there i hi) k (hf g (.inr (.inl rfl))),
    own_keep h.waits k (fun b hb => hf b (.inr (.inr hb))), h.ne, h.nep, h.neg⟩
theorem Dsk.below {w w' : World} {p g : Nat} {wv : Value} {s : St} (h : Dsk w p g wv s) (k : Below w.heap.size w w') : Dsk w' p g wv s := h.keep (F := fun _ => False) (Keep.of_below k) (fun _ _ h => h)
theorem Dsk.plt {w : World} {p g : Nat} {wv : Value} {s : St} (h : Dsk w p g wv s) : p < w.heap.size := World.block_lt_of_cell? w _ h.c1
theorem Dsk.glt {w : World} {p g : Nat} {wv : Value} {s : St} (h : Dsk w p g wv s) : g < w.heap.size := by
  have h1 := (h.there 0 (by have := h.ok.few; omega) 0 (by omega)).1
  obtain ⟨u, hu⟩ := Option.isSome_iff_exists.1 h1
  exact World.block_lt_of_cell? w _ hu
theorem Dsk.lt {w : World} {p g : Nat} {wv : Value} {s : St} (h : Dsk w p g wv s) : ∀ b, dfp p g wv b → b < w.heap.size := by
  rintro b (rfl | rfl | hb)
  · exact h.plt
  · exact h.glt
  · exact (h.waits.lt b hb).2
theorem Dsk.setc2 {w : World} {p g : Nat} {wv : Value} {s : St} (h : Dsk w p g wv s) (z : Int) (h1 : -1 ≤ z) (h2 : z ≤ 9223372036854775807) : Dsk (w.setCell ⟨p, 2, none⟩ (.int .i64 z)) p g wv { s with fuse := z } := by
  have k : Keep (fun b => b = p) w (w.setCell ⟨p, 2, none⟩ (.int .i64 z)) := by exact Keep.setCell (F := fun b => b = p) (Keep.refl _ _) (.inl rfl) _
  have hg : ¬ g = p := fun e => h.ne e.symm
  exact ⟨⟨h.ok.few, h.ok.many, h.ok.full, h.ok.place, h.ok.bytes, h1, h2⟩, h.c0.imp fun _ q => by rw [World.cell?_setCell_other _ _ _ _ (by simp)]; exact q, by rw [World.cell?_setCell_other _ _ _ _ (by simp)]; exact h.c1,
    World.cell?_setCell_same _ _ _ h.c2, by rw [World.cell?_setCell_other _ _ _ _ (by simp)]; exact h.c3, by rw [World.cell?_setCell_other _ _ _ _ (by simp)]; exact h.c4,
    fun i => by rw [World.frozen?_setCell]; exact h.fz i, fun i hi => range_keep (h.safe i hi) k hg, fun i hi => there_keep (h.there i hi) k hg,
    own_keep h.waits k (fun b hb e => h.nep (by rw [hb, e])), h.ne, h.nep, h.neg⟩
theorem Dsk.setc3 {w : World} {p g : Nat} {wv : Value} {s : St} (h : Dsk w p g wv s) (z : Bool) : Dsk (w.setCell ⟨p, 3, none⟩ (.bool z)) p g wv { s with down := z } := by
  have k : Keep (fun b => b = p) w (w.setCell ⟨p, 3, none⟩ (.bool z)) := by exact Keep.setCell (F := fun b => b = p) (Keep.refl _ _) (.inl rfl) _
  have hg : ¬ g = p := fun e => h.ne e.symm
  exact ⟨⟨h.ok.few, h.ok.many, h.ok.full, h.ok.place, h.ok.bytes, h.ok.fuse, h.ok.fuse2⟩, h.c0.imp fun _ q => by rw [World.cell?_setCell_other _ _ _ _ (by simp)]; exact q, by rw [World.cell?_setCell_other _ _ _ _ (by simp)]; exact h.c1,
    by rw [World.cell?_setCell_other _ _ _ _ (by simp)]; exact h.c2, World.cell?_setCell_same _ _ _ h.c3, by rw [World.cell?_setCell_other _ _ _ _ (by simp)]; exact h.c4,
    fun i => by rw [World.frozen?_setCell]; exact h.fz i, fun i hi => range_keep (h.safe i hi) k hg, fun i hi => there_keep (h.there i hi) k hg,
    own_keep h.waits k (fun b hb e => h.nep (by rw [hb, e])), h.ne, h.nep, h.neg⟩
theorem Dsk.setc4 {w : World} {p g : Nat} {wv : Value} {s : St} (h : Dsk w p g wv s) (z : Nat) : Dsk (w.setCell ⟨p, 4, none⟩ (.int .i64 (z : Int))) p g wv { s with writes := z } := by
  have k : Keep (fun b => b = p) w (w.setCell ⟨p, 4, none⟩ (.int .i64 (z : Int))) := by exact Keep.setCell (F := fun b => b = p) (Keep.refl _ _) (.inl rfl) _
  have hg : ¬ g = p := fun e => h.ne e.symm
  exact ⟨⟨h.ok.few, h.ok.many, h.ok.full, h.ok.place, h.ok.bytes, h.ok.fuse, h.ok.fuse2⟩, h.c0.imp fun _ q => by rw [World.cell?_setCell_other _ _ _ _ (by simp)]; exact q, by rw [World.cell?_setCell_other _ _ _ _ (by simp)]; exact h.c1,
    by rw [World.cell?_setCell_other _ _ _ _ (by simp)]; exact h.c2, by rw [World.cell?_setCell_other _ _ _ _ (by simp)]; exact h.c3, World.cell?_setCell_same _ _ _ h.c4,
    fun i => by rw [World.frozen?_setCell]; exact h.fz i, fun i hi => range_keep (h.safe i hi) k hg, fun i hi => there_keep (h.there i hi) k hg,
    own_keep h.waits k (fun b hb e => h.nep (by rw [hb, e])), h.ne, h.nep, h.neg⟩
theorem Dsk.setc1 {w : World} {p g : Nat} {wv : Value} {s : St} (h : Dsk w p g wv s) (wv' : Value) (ws : List (Nat × List UInt8)) (ho : w.ownsRow 0 114 513 wv' ws.length (wall ws)) (hp : ∀ x ∈ ws, x.1 < s.safe.length) (hb : ∀ x ∈ ws, x.2.length = 512)
    (n1 : wv'.ownBlock ≠ some p) (n2 : wv'.ownBlock ≠ some g) : Dsk (w.setCell ⟨p, 1, none⟩ wv') p g wv' { s with waits := ws } := by
  have k : Keep (fun b => b = p) w (w.setCell ⟨p, 1, none⟩ wv') := by exact Keep.setCell (F := fun b => b = p) (Keep.refl _ _) (.inl rfl) _
  have hg : ¬ g = p := fun e => h.ne e.symm
  exact ⟨⟨h.ok.few, h.ok.many, h.ok.full, hp, hb, h.ok.fuse, h.ok.fuse2⟩, h.c0.imp fun _ q => by rw [World.cell?_setCell_other _ _ _ _ (by simp)]; exact q, World.cell?_setCell_same _ _ _ h.c1,
    by rw [World.cell?_setCell_other _ _ _ _ (by simp)]; exact h.c2, by rw [World.cell?_setCell_other _ _ _ _ (by simp)]; exact h.c3, by rw [World.cell?_setCell_other _ _ _ _ (by simp)]; exact h.c4,
    fun i => by rw [World.frozen?_setCell]; exact h.fz i, fun i hi => range_keep (h.safe i hi) k hg, fun i hi => there_keep (h.there i hi) k hg,
    own_keep ho k (fun b hb e => n1 (by rw [hb, e])), h.ne, n1, n2⟩
theorem Dsk.relay {F : Nat → Prop} {w w4 : World} {p g : Nat} {wv : Value} {s : St} (h : Dsk w p g wv s) (k0 : Keep F w w4) (dfp : ¬ F p) (fg : ¬ F g) (wv' : Value) (ws : List (Nat × List UInt8)) (ho : w4.ownsRow 0 114 513 wv' ws.length (wall ws)) (hp : ∀ x ∈ ws, x.1 < s.safe.length) (hb : ∀ x ∈ ws, x.2.length = 512)
    (n1 : wv'.ownBlock ≠ some p) (n2 : wv'.ownBlock ≠ some g) : Dsk (w4.setCell ⟨p, 1, none⟩ wv') p g wv' { s with waits := ws } := by
  have k : Keep (fun b => b = p) w4 (w4.setCell ⟨p, 1, none⟩ wv') := by exact Keep.setCell (F := fun b => b = p) (Keep.refl _ _) (.inl rfl) _
  have hg : ¬ g = p := fun e => h.ne e.symm
  exact ⟨⟨h.ok.few, h.ok.many, h.ok.full, hp, hb, h.ok.fuse, h.ok.fuse2⟩, h.c0.imp fun _ q => by rw [World.cell?_setCell_other _ _ _ _ (by simp)]; exact k0.cell q dfp, World.cell?_setCell_same _ _ _ (k0.cell h.c1 dfp),
    by rw [World.cell?_setCell_other _ _ _ _ (by simp)]; exact k0.cell h.c2 dfp, by rw [World.cell?_setCell_other _ _ _ _ (by simp)]; exact k0.cell h.c3 dfp, by rw [World.cell?_setCell_other _ _ _ _ (by simp)]; exact k0.cell h.c4 dfp,
    fun i => by rw [World.frozen?_setCell]; exact (World.frozen?_of_block (w := w) (a := ⟨p, i, none⟩) (k0.block p h.plt dfp)).trans (h.fz i), fun i hi => range_keep (range_keep (h.safe i hi) k0 fg) k hg, fun i hi => there_keep (there_keep (h.there i hi) k0 fg) k hg,
    own_keep ho k (fun b hb e => n1 (by rw [hb, e])), h.ne, n1, n2⟩
theorem Dsk.setb {w : World} {p g : Nat} {wv : Value} {s : St} (h : Dsk w p g wv s) (n : Nat) (b : List UInt8) (hn : n < s.safe.length) (hb : b.length = 512) : Dsk (w.setCells g (n * 512) (bvs b)) p g wv { s with safe := s.safe.set n b } := by
  have k : Keep (fun b => b = g) w (w.setCells g (n * 512) (bvs b)) := by exact Keep.setCells (F := fun b => b = g) (Keep.refl _ _) (.inl rfl) _ _
  have hp : ¬ p = g := h.ne
  have hl : (s.safe.set n b).length = s.safe.length := by simp
  refine ⟨⟨by simpa using h.ok.few, by simpa using h.ok.many, fun c hc => ?_, fun x hx => by simpa using h.ok.place x hx, h.ok.bytes, h.ok.fuse, h.ok.fuse2⟩, ?_, k.cell h.c1 hp, k.cell h.c2 hp, k.cell h.c3 hp, k.cell h.c4 hp,
    fun i => by rw [World.frozen?_setCells]; exact h.fz i, fun i hi => ?_, fun i hi => World.there_setCells (h.there i (by simpa using hi)) _ _ _, own_keep h.waits k (fun b hb e => h.neg (by rw [hb, e])), h.ne, h.nep, h.neg⟩
  · rcases List.mem_or_eq_of_mem_set hc with hc | rfl
    · exact h.ok.full c hc
    · exact hb
  · rw [show ({ s with safe := s.safe.set n b } : St).safe.length = s.safe.length from hl]
    exact h.c0.imp fun _ q => k.cell q hp
  · have hi' : i < s.safe.length := by simpa using hi
    by_cases e : i = n
    · subst e
      have e2 : ({ s with safe := s.safe.set i b } : St).safe[i] = b := by simp
      rw [e2]
      exact World.rangeAt_setCells_same _ _ _ _ (by rw [bvs_length, hb]; exact h.there i hi')
    · have e2 : ({ s with safe := s.safe.set n b } : St).safe[i] = s.safe[i] := by simp [List.getElem_set_ne (Ne.symm e)]
      rw [e2]
      refine World.rangeAt_setCells_apart (h.safe i hi') _ _ _ (.inr ?_)
      rw [bvs_length, bvs_length, hb, h.ok.full _ (List.getElem_mem hi')]
      omega
end Go.Proofs.YtlcnefeikejcaaaGreatDoor
namespace Go.Proofs.YtlcnefeikejcaaaGreatDoor
open Go.RowKit
open D (St)
def hasB (s : St) (n : Int) : Bool := decide (0 ≤ n) && decide (n < (s.safe.length : Int))
theorem act_any {w : World} {p g : Nat} {wv : Value} {s : St} (h : Dsk w p g wv s) :
    Calls Tryz.prog 53 #[.pointer (some ⟨p, 0, none⟩)] w fun e w' => e = .returned (.int .i64 (D.ans s)) ∧ Dsk w' p g wv (D.act s) ∧ Keep (dfp p g wv) w w' := by
  have H := Lib.hid h
  obtain ⟨_, _, _, c2, c3, _, fz, _⟩ := h
  have f2 := fz 2
  have f3 := fz 3
  have lo := H.out.ok.fuse
  have hi := H.out.ok.fuse2
  have K : Hid (∀ o v, Keep (dfp p g wv) w (w.setCell ⟨p, o, none⟩ v)) := fun o v => Keep.setCell (p := ⟨p, o, none⟩) (Keep.refl _ _) (.inl (.inl rfl)) _
  clear fz
  by_cases h0 : s.fuse = 0
  · have e1 : D.ans s = 7 := by simp [D.ans, h0]
    have e2 : D.act s = { s with down := true } := by simp [D.act, h0]
    rw [e1, e2]
    rw [h0] at c2
    clear e1 e2 lo hi
    go_enter Tryz.func53, Tryz.ntmps53
    go_wp2
    go_ret
    exact ⟨rfl, H.out.setc3 true, K.out _ _⟩
  · by_cases h1 : 0 < s.fuse
    · have e1 : D.ans s = 0 := by simp [D.ans, h0]
      have e2 : D.act s = { s with fuse := s.fuse - 1 } := by simp [D.act, h0, h1]
      have HN := Lib.hid (H.out.setc2 (s.fuse - 1) (by omega) (by omega))
      rw [e1, e2]
      clear e1 e2 H
      generalize s.fuse = z at *
      have q1 : ((z : Int) == 0) = false := by simpa using h0
      have q2 : IntKind.i64.wrap (z - 1) = z - 1 := by rw [IntKind.wrap_i64]; omega
      go_enter Tryz.func53, Tryz.ntmps53
      go_wp2
      go_ret
      exact ⟨rfl, HN.out, K.out _ _⟩
    · have e1 : D.ans s = 0 := by simp [D.ans, h0]
      have e2 : D.act s = s := by simp [D.act, h0, h1]
      rw [e1, e2]
      clear e1 e2
      have q1 : ((s.fuse : Int) == 0) = false := by simpa using h0
      have q2 : decide (0 < s.fuse) = false := by simpa using h1
      generalize s.fuse = z at *
      go_enter Tryz.func53, Tryz.ntmps53
      go_wp2
      go_ret
      exact ⟨rfl, H.out, Keep.refl _ _⟩
theorem has_any {w : World} {p g : Nat} {wv : Value} {s : St} (h : Dsk w p g wv s) (n : Int) :
    Calls Tryz.prog 52 #[.pointer (some ⟨p, 0, none⟩), .int .i64 n] w fun e w' => e = .returned (.bool (hasB s n)) ∧ w' = w := by
  obtain ⟨cc, c0⟩ := h.c0
  clear h
  unfold hasB
  generalize s.safe.length = k at *
  by_cases h0 : 0 ≤ n
  · have q1 : decide (0 ≤ n) = true := by simpa using h0
    generalize hq : decide (n < (k : Int)) = q
    have hq' : decide (n < (k : Int)) = q := hq
    rw [q1]
    go_enter Tryz.func52, Tryz.ntmps52
    go_wp2
    go_ret
    simp
  · have q1 : decide (0 ≤ n) = false := by simpa using h0
    rw [q1]
    go_enter Tryz.func52, Tryz.ntmps52
    go_wp2
    go_ret
    simp
theorem ddown_any {w : World} {p g : Nat} {wv : Value} {s : St} (h : Dsk w p g wv s) :
    Calls Tryz.prog 55 #[.pointer (some ⟨p, 0, none⟩)] w fun e w' => e = .returned (.bool s.down) ∧ w' = w := by
  obtain ⟨_, _, _, _, c3, _⟩ := h
  generalize s.down = d at *
  go_enter Tryz.func55, Tryz.ntmps55
  go_wp2
  go_ret
  exact ⟨rfl, rfl⟩
theorem wv_form {w : World} {p g : Nat} {wv : Value} {s : St} (h : Dsk w p g wv s) : ∃ A cap, wv = .slice A s.waits.length cap := by
  rcases h.waits.2 with ⟨rfl, e⟩ | ⟨k, cap, cur, rfl, _⟩
  · rw [e]
    exact ⟨_, _, rfl⟩
  · exact ⟨_, _, rfl⟩
theorem blocks_any {w : World} {p g : Nat} {wv : Value} {s : St} (h : Dsk w p g wv s) :
    Calls Tryz.prog 57 #[.pointer (some ⟨p, 0, none⟩)] w fun e w' => e = .returned (.int .i64 (s.safe.length : Int)) ∧ w' = w := by
  obtain ⟨cc, c0⟩ := h.c0
  clear h
  generalize s.safe.length = n at *
  go_enter Tryz.func57, Tryz.ntmps57
  go_wp2
  go_ret
  exact ⟨rfl, rfl⟩
end Go.Proofs.YtlcnefeikejcaaaGreatDoor
namespace Go.Proofs.YtlcnefeikejcaaaGreatDoor
open Go.RowKit Go.Sort Go.Maps
set_option maxRecDepth 100000
structure Pm where
  q : Nat
  r : List Nat
  lists : List Int
  named : List Int
  rt : List Nat
  x : Wk
  e : Nat
  o : Bool
def Pgn (B : Nat) (l : List Int) : Prop := ∀ x ∈ l, 2 ≤ x ∧ x < (B : Int)
theorem ris_len : ∀ {s : List Int} {a B : Int}, s.Pairwise (· < ·) → (∀ x ∈ s, a ≤ x ∧ x < B) → a ≤ B → (s.length : Int) ≤ B - a
  | [], a, B, _, _, hab => by simp; omega
  | x :: r, a, B, h, hr, _ => by
    obtain ⟨h1, h2⟩ := List.pairwise_cons.1 h
    have hx := hr x (by simp)
    have := ris_len (a := x + 1) (B := B) h2 (fun y hy => ⟨by have := h1 y hy; omega, (hr y (by simp [hy])).2⟩) (by omega)
    rw [List.length_cons]
    omega
structure POk (s : Pm) : Prop where
  q : s.q < 18446744073709551616
  rl : s.r.length = 27
  rlt : ∀ x ∈ s.r, x < 4294967296
  bl : s.r.getD 0 0 ≤ 4096
  rtl : s.rt.length = 24
  rtlt : ∀ x ∈ s.rt, x < 4294967296
  lists : Pgn (s.r.getD 0 0) s.lists
  llen : s.lists.length ≤ 4096
  named : Ris s.named
  namedp : Pgn (s.r.getD 0 0) s.named
  free : Ris s.x.free
  freep : Pgn (s.r.getD 0 0) s.x.free
  defd : Ris s.x.defd
  defdp : Pgn (s.r.getD 0 0) s.x.defd
  fresh : Ris (nums s.x.fresh)
  freshp : Pgn (s.r.getD 0 0) (nums s.x.fresh)
  body : ∀ f ∈ s.x.fresh, f.b.length ≤ 500
  e : s.e ≤ 1000000000
theorem Pgn.len {B : Nat} {l : List Int} (h : Pgn B l) (hr : Ris l) (hB : B ≤ 4096) : l.length ≤ 4096 := by
  rcases Nat.lt_or_ge B 2 with q | q
  · cases l with
    | nil => simp
    | cons x r => have := h x (by simp); omega
  · have := ris_len (a := 2) (B := (B : Int)) hr.up h (by omega)
    omega
def Pgs (col : Nat → Nat) : Nat → Prop := fun b => 1 ≤ col b ∧ col b ≤ 29
structure Pgr (w : World) (col : Nat → Nat) (p : Nat) (dv : Value) (s : Pm) : Prop where
  ok : POk s
  cp : col p = 1
  ex : ∃ lv pf0 pd0 m0 pf pd mb, Pgc w p dv s.q s.r lv (scs (s.r.drop 3) pf0 pd0 m0) (scs s.rt pf pd mb) s.e s.o ∧ Stt w col 10 pf0 pd0 m0 ⟨s.named, [], []⟩ ∧ Stt w col 20 pf pd mb s.x ∧
    Nums w lv s.lists ∧ Real lv ∧ (0 < s.lists.length → ∀ b, lv.ownBlock = some b → col b = 2)
theorem nkeep {F : Nat → Prop} {w w' : World} {v : Value} {l : List Int} (h : Nums w v l) (k : Keep F w w') (hf : 0 < l.length → ∀ b, v.ownBlock = some b → ¬ F b) : Nums w' v l := by
  obtain ⟨A, c, rfl, hc, hm, h⟩ := h
  refine ⟨A, c, rfl, hc, hm, fun h0 => ?_⟩
  obtain ⟨b, off, rfl, hcell⟩ := h h0
  exact ⟨b, off, rfl, fun j hj => k.cell (hcell j hj) (hf h0 b rfl)⟩
theorem nlt {w : World} {v : Value} {l : List Int} (h : Nums w v l) (h0 : 0 < l.length) : ∀ b, v.ownBlock = some b → b < w.heap.size := by
  obtain ⟨A, c, rfl, hc, hm, h⟩ := h
  obtain ⟨b, off, rfl, hcell⟩ := h h0
  intro g hg
  simp only [Value.ownBlock, Option.some.injEq] at hg
  subst hg
  exact World.block_lt_of_cell? w _ (hcell 0 h0)
theorem Pgr.keep {F : Nat → Prop} {w w' : World} {col : Nat → Nat} {p : Nat} {dv : Value} {s : Pm} (h : Pgr w col p dv s) (k : Keep F w w') (hf : ∀ b, Pgs col b → ¬ F b) : Pgr w' col p dv s := by
  obtain ⟨ok, cp, lv, pf0, pd0, m0, pf, pd, mb, C, S0, S, N, R, L⟩ := h
  have hc : ∀ b i, col b = i → 1 ≤ i → i ≤ 29 → ¬ F b := fun b i e h1 h2 => hf b ⟨by omega, by omega⟩
  exact ⟨ok, cp, lv, pf0, pd0, m0, pf, pd, mb, C.keep k (hc p 1 cp (by omega) (by omega)), S0.keep k (fun b hb => by
      rcases hb with e | e | e | e <;> exact hc b _ e (by omega) (by omega)), S.keep k (fun b hb => by
      rcases hb with e | e | e | e <;> exact hc b _ e (by omega) (by omega)), nkeep N k (fun h0 b hb => hc b 2 (L h0 b hb) (by omega) (by omega)), R, L⟩
theorem Pgr.below {w w' : World} {col : Nat → Nat} {p : Nat} {dv : Value} {s : Pm} (h : Pgr w col p dv s) (k : Below w.heap.size w w') : Pgr w' col p dv s := h.keep (F := fun _ => False) (Keep.of_below k) (fun _ _ q => q)
theorem Pgr.recol {w : World} {col col' : Nat → Nat} {p : Nat} {dv : Value} {s : Pm} (h : Pgr w col p dv s) (hc : ∀ b, b < w.heap.size → col' b = col b) : Pgr w col' p dv s := by
  obtain ⟨ok, cp, lv, pf0, pd0, m0, pf, pd, mb, C, S0, S, N, R, L⟩ := h
  exact ⟨ok, (hc p C.lt).trans cp, lv, pf0, pd0, m0, pf, pd, mb, C, S0.recol hc, S.recol hc, N, R, fun h0 b hb => (hc b (nlt N h0 b hb)).trans (L h0 b hb)⟩
def Chg (w w' : World) (col : Nat → Nat) (p : Nat) (dv : Value) (s' : Pm) : Prop := ∃ col', (∀ b, b < w.heap.size → col' b = col b) ∧ Pgr w' col' p dv s' ∧ Keep (Pgs col) w w'
section
variable {w : World} {col : Nat → Nat} {p : Nat} {dv : Value} {s : Pm}
theorem POk.dl (h : POk s) : (s.r.drop 3).length = 24 := by rw [List.length_drop, h.rl]
theorem POk.fl (h : POk s) : s.x.free.length < 65535 := by have := h.freep.len h.free h.bl; omega
theorem POk.del (h : POk s) : s.x.defd.length < 65535 := by have := h.defdp.len h.defd h.bl; omega
theorem POk.nl (h : POk s) : s.named.length < 65535 := by have := h.namedp.len h.named h.bl; omega
theorem POk.frl (h : POk s) : (nums s.x.fresh).length ≤ 4096 := h.freshp.len h.fresh h.bl
theorem seq_any (h : Pgr w col p dv s) : Calls Tryz.prog 17 #[.pointer (some ⟨p, 0, none⟩)] w fun e w' => e = .returned (.int .u64 ((s.q : Nat) : Int)) ∧ w = w' := by
  obtain ⟨ok, cp, lv, pf0, pd0, m0, pf, pd, mb, C, _⟩ := h
  have c := C.cq
  clear C ok
  go_enter Tryz.func17, Tryz.ntmps17
  go_wp2
  go_ret
  exact ⟨rfl, rfl⟩
theorem room_any (h : Pgr w col p dv s) : Calls Tryz.prog 34 #[.pointer (some ⟨p, 0, none⟩)] w fun e w' => e = .returned (.int .i64 (s.x.free.length : Int)) ∧ w = w' := by
  obtain ⟨ok, cp, lv, pf0, pd0, m0, pf, pd, mb, C, _, S, _⟩ := h
  have c : w.cell? ⟨p, 81, none⟩ = some (.pointer (some ⟨pf, 0, none⟩)) := scs_free C.rn ok.rtl
  obtain ⟨F, P, _⟩ := S.free
  have H := Lib.hid (plen_any w pf F s.x.free P)
  clear C ok S P
  generalize s.x.free.length = n at *
  go_enter Tryz.func34, Tryz.ntmps34
  go_wp2_with (go_at_call 88; refine H.out.mono ?_; rintro e w1 ⟨rfl, rfl⟩)
  go_ret
  exact ⟨rfl, rfl⟩
theorem free_any (h : Pgr w col p dv s) : Calls Tryz.prog 19 #[.pointer (some ⟨p, 0, none⟩)] w fun e w' => ∃ v', e = .returned v' ∧ w'.ownsRow w.heap.size 31 1 v' s.x.free.length (us s.x.free) ∧ Below w.heap.size w w' := by
  obtain ⟨ok, cp, lv, pf0, pd0, m0, pf, pd, mb, C, _, S, _⟩ := h
  have c : w.cell? ⟨p, 81, none⟩ = some (.pointer (some ⟨pf, 0, none⟩)) := scs_free C.rn ok.rtl
  obtain ⟨F, P, _⟩ := S.free
  have H := Lib.hid (list_any w pf F s.x.free P (by have := ok.fl; omega))
  clear C ok S P
  go_enter Tryz.func19, Tryz.ntmps19
  go_wp2_with (go_at_call 64; refine H.out.mono ?_; rintro e w1 ⟨v1, rfl, o1, b1⟩)
  go_ret
  exact ⟨_, rfl, o1, b1⟩
theorem lists_any (h : Pgr w col p dv s) : Calls Tryz.prog 20 #[.pointer (some ⟨p, 0, none⟩)] w fun e w' => ∃ v', e = .returned v' ∧ w'.ownsRow w.heap.size 31 1 v' s.lists.length (us s.lists) ∧ Below w.heap.size w w' := by
  obtain ⟨ok, cp, lv, pf0, pd0, m0, pf, pd, mb, C, _, S, N, R, _⟩ := h
  have c := C.cl
  have H := Lib.hid (nclone_any lv s.lists w N R (by have := ok.llen; omega))
  clear C ok S N R
  go_enter Tryz.func20, Tryz.ntmps20
  go_wp2_with (go_at_call 65; refine H.out.mono ?_; rintro e w1 ⟨v1, rfl, o1, b1⟩)
  go_ret
  exact ⟨_, rfl, o1, b1⟩
end
theorem wpList_store_now {ops : Array Oper} {rest : List Oper} {op : Oper} {a : Act} {w : World} {Q : Exit → Act → World → Prop} (hgd : op.guard = none) (x y : Operand) (ho : op.op = .store 127 x y)
    (p : Nat) (dv : Value) (q : Nat) (r : List Nat) (lv : Value) (b n : List Value) (e : Nat) (o : Bool) (rt : List Nat) (pf pd mb : Nat) (hx : a.eval x = .pointer (some ⟨p, 57, none⟩)) (hy : a.eval y = .agg (scs rt pf pd mb).toArray) (hr : rt.length = 24) (hc : Pgc w p dv q r lv b n e o)
    (h : ∀ w', Hid (Pgc w' p dv q r lv b (scs rt pf pd mb) e o) → Keep (fun k => k = p) w w' → wpList Tryz.prog ops Q rest (a.put op.dst undef) w') : wpList Tryz.prog ops Q (op :: rest) a w := by
  refine wpList_store_mid hgd 127 x y ho p 57 (scs rt pf pd mb).toArray hx hy ?_ (info_scs hr) (all_oneCell_toArray (scs_one _ _ _ _)) (h _ (hc.setn _ (scs_length hr)) (Keep.setCells (F := fun k => k = p) (Keep.refl _ _) (.inl rfl) 57 _))
  have e : (scs rt pf pd mb).toArray.size = 27 := scs_length hr
  rw [e]
  exact hc.tm 57 27 (by omega)
theorem abort_core (w : World) (col : Nat → Nat) (p : Nat) (dv : Value) (q : Nat) (r : List Nat) (lv : Value) (rt : List Nat) (hr : rt.length = 24) (pf0 pd0 m0 : Nat) (x : Wk) (n : List Value) (e : Nat) (o : Bool) (hp : col p = 1) (hc : Pgc w p dv q r lv (scs rt pf0 pd0 m0) n e o)
    (hs : Stt w col 10 pf0 pd0 m0 x) (hf : x.free.length < 65536) (hd : x.defd.length < 65536) (he : e ≤ 1000000000) :
    Calls Tryz.prog 41 #[.pointer (some ⟨p, 0, none⟩)] w fun en w' => en = .returned (.tuple #[]) ∧ ∃ col' pf pd mb, (∀ b, b < w.heap.size → col' b = col b) ∧
      Pgc w' p dv q r lv (scs rt pf0 pd0 m0) (scs rt pf pd mb) (e + 1) o ∧ Stt w' col' 10 pf0 pd0 m0 x ∧ Stt w' col' 20 pf pd mb x ∧ Keep (fun b => b = p) w w' := by
  have CC := Lib.hid (copied_any w col 10 20 pf0 pd0 m0 rt hr x hs hf hd)
  have HC := Lib.hid hc
  have HS := Lib.hid hs
  have HR := Lib.hid hr
  have HE := Lib.hid he
  have HP := Lib.hid hp
  have HL := Lib.hid hc.lt
  clear hc hs hr he hp
  go_enter Tryz.func41, Tryz.ntmps41
  go_wp2_with (first
    | (refine wpList_load_mid rfl 127 (.tmp 5) rfl p 30 rfl (scs rt pf0 pd0 m0) _ HC.out.rb Tryz.underlying127 rfl (info_scs HR.out) ?_))
  refine CC.out.mono ?_
  rintro en w1 ⟨pf, pd, mb, rfl, ⟨col', h1, S1⟩, hb⟩
  have HB := Lib.hid hb
  have HC1 := Lib.hid (HC.out.below hb)
  have HS0 := Lib.hid ((HS.out.recol h1).below hb)
  have HS1 := Lib.hid S1
  have H1 := Lib.hid h1
  have hp1 : Hid (col' p = 1) := (h1 p HL.out).trans HP.out
  clear hb S1 h1 CC
  go_wp2_with (first
    | (refine wpList_store_now rfl (.tmp 9) (.tmp 7) rfl p dv q r lv _ n e o rt pf pd mb rfl rfl HR.out HC1.out ?_))
  intro w2 HC2 ks
  have K2 : Hid (Keep (fun b => b = p) w w2) := (Keep.of_below (F := fun b => b = p) HB.out).trans ks (fun i hi => .inl hi)
  have hne : ∀ (c : Nat), c ≠ 1 → ∀ b, col' b = c → ¬ b = p := fun c hc b hb e => hc (by rw [← hb, e]; exact hp1.out)
  have HS2 := Lib.hid (HS0.out.keep ks (fun b hb => by rcases hb with h | h | h | h <;> exact hne _ (by omega) b h))
  have HS3 := Lib.hid (HS1.out.keep ks (fun b hb => by rcases hb with h | h | h | h <;> exact hne _ (by omega) b h))
  clear ks HC1 HS0 HS1
  have ce := HC2.out.ce
  have fe := HC2.out.fz 84 (by omega)
  have we : IntKind.u64.wrap ((e : Int) + 1) = ((e + 1 : Nat) : Int) := by
    have := HE.out
    rw [IntKind.wrap_u64]
    omega
  have ks : Keep (fun b => b = p) w2 (w2.setCell ⟨p, 84, none⟩ (.int .u64 ((e + 1 : Nat) : Int))) := Keep.setCell (F := fun b => b = p) (p := ⟨p, 84, none⟩) (Keep.refl _ _) (.inl rfl) _
  have HC3 := Lib.hid (HC2.out.sete (e + 1))
  have HS4 := Lib.hid (HS2.out.keep ks (fun b hb => by rcases hb with h | h | h | h <;> exact hne _ (by omega) b h))
  have HS5 := Lib.hid (HS3.out.keep ks (fun b hb => by rcases hb with h | h | h | h <;> exact hne _ (by omega) b h))
  have K3 := Lib.hid (K2.out.trans ks (fun i hi => .inl hi))
  clear ks hne HC2 HS2 HS3 K2
  go_wp2
  go_end0
  exact ⟨rfl, col', pf, pd, mb, H1.out, HC3.out, HS4.out, HS5.out, K3.out⟩
end Go.Proofs.YtlcnefeikejcaaaGreatDoor
namespace Go.Proofs.YtlcnefeikejcaaaGreatDoor
open Go.RowKit Go.Sort Go.Maps
set_option maxRecDepth 100000
theorem putS_snoc {n : Int} : ∀ {s : List Int}, (∀ y ∈ s, y < n) → putS n s = s ++ [n]
  | [], _ => rfl
  | x :: r, h => by
    have hx := h x (by simp)
    unfold putS
    rw [if_neg (by omega), if_neg (by omega), putS_snoc (fun y hy => h y (by simp [hy]))]
    rfl
theorem ris_take {s : List Int} (h : Ris s) (i : Nat) : Ris (s.take i) := ⟨h.up.sublist (List.take_sublist _ _), fun x hx => h.rng x (List.mem_of_mem_take hx)⟩
theorem ris_lt {s : List Int} (h : Ris s) {i : Nat} (hi : i < s.length) : ∀ y ∈ s.take i, y < s[i] := by
  intro y hy
  obtain ⟨j, hj, e⟩ := List.getElem_of_mem hy
  have hj2 : j < i := by simp at hj; omega
  rw [List.getElem_take] at e
  rw [← e]
  exact (List.pairwise_iff_getElem.1 h.up) j i (by omega) hi hj2
open Classical in
noncomputable def dye (col : Nat → Nat) (n c : Nat) (F G : Nat → Prop) (mb : Nat) : Nat → Nat := fun b => if b < n then col b else if F b then c else if G b then c + 1 else if b = mb then c + 2 else 0
theorem dye_old {col : Nat → Nat} {n c : Nat} {F G : Nat → Prop} {mb b : Nat} (h : b < n) : dye col n c F G mb b = col b := if_pos h
theorem stt_made {w : World} {col : Nat → Nat} {n c pf pd mb : Nat} {F G : Nat → Prop} {x : Wk} {D : DataW Value} (P1 : Po w pf F x.free) (P2 : Po w pd G x.defd) (M : Mc w col mb x.fresh D)
    (f1 : ∀ b, F b → n ≤ b) (g1 : ∀ b, G b → n ≤ b ∧ ¬ F b) (m1 : n ≤ mb) (m2 : ¬ F mb) (m3 : ¬ G mb) (hw : ∀ f ∈ x.fresh, ∀ v, Byts w v f.b → 0 < f.b.length → ∀ g, v.ownBlock = some g → col g = 7 → g < n) : Stt w (dye col n c F G mb) c pf pd mb x := by
  refine ⟨⟨F, P1, fun b hb => ?_⟩, ⟨G, P2, fun b hb => ?_⟩, ⟨D, M.own, M.size, M.ris, M.has, fun f hf => ?_⟩, ?_⟩
  · have := f1 b hb
    unfold dye
    rw [if_neg (by omega), if_pos hb]
  · obtain ⟨h1, h2⟩ := g1 b hb
    unfold dye
    rw [if_neg (by omega), if_neg h2, if_pos hb]
  · obtain ⟨v, q1, q2, q3⟩ := M.at_ f hf
    exact ⟨v, q1, q2, fun h0 g hg => by rw [dye_old (hw f hf v q2 h0 g hg (q3 h0 g hg))]; exact q3 h0 g hg⟩
  · unfold dye
    rw [if_neg (by omega), if_neg m2, if_neg m3, if_pos rfl]
theorem wpList_store_commit {ops : Array Oper} {rest : List Oper} {op : Oper} {a : Act} {w : World} {Q : Exit → Act → World → Prop} (hgd : op.guard = none) (x y : Operand) (ho : op.op = .store 36 x y)
    (p : Nat) (dv : Value) (q : Nat) (r : List Nat) (lv : Value) (b n : List Value) (e : Nat) (o : Bool) (q2 : Nat) (r2 : List Nat) (hx : a.eval x = .pointer (some ⟨p, 1, none⟩)) (hy : a.eval y = .agg (sva q2 r2)) (hr : r2.length = 27) (hc : Pgc w p dv q r lv b n e o)
    (h : ∀ w', Hid (Pgc w' p dv q2 r2 lv b n e o) → Keep (fun k => k = p) w w' → wpList Tryz.prog ops Q rest (a.put op.dst undef) w') : wpList Tryz.prog ops Q (op :: rest) a w := by
  refine wpList_store_mid hgd 36 x y ho p 1 (sva q2 r2) hx hy ?_ (info_sva hr) (one_sva q2 r2) (h _ (hc.setc _ _ hr) (Keep.setCells (F := fun k => k = p) (Keep.refl _ _) (.inl rfl) 1 _))
  rw [sva_size hr]
  exact hc.tm 1 28 (by omega)
theorem sup_roots {w : World} {b q : Nat} {r : List Nat} (h : Sup w b q r) : w.rangeAt b 4 (rcs (r.drop 3)) := fun j v hv => by
  have hl := h.2.2
  have hj : j < 24 := by
    have := (List.getElem?_eq_some_iff.1 hv).1
    rw [rcs_length, List.length_drop] at this
    omega
  have := h.cell (j + 3) (by omega)
  rw [show 4 + j = j + 3 + 1 by omega, this, ← hv]
  simp [rcs, List.getD, show j + 3 < r.length by omega, Nat.add_comm]
structure Lies (w : World) (B p pf0 pd0 m0 : Nat) (F G : Nat → Prop) : Prop where
  q1 : Po w pf0 F []
  f1 : ∀ b, F b → B ≤ b ∧ b < w.heap.size
  q2 : Po w pd0 G []
  g1 : ∀ b, G b → B ≤ b ∧ b < w.heap.size ∧ ¬ F b
  m1 : w.heap[m0]? = some (.map #[] 0)
  m2 : B ≤ m0
  m3 : ¬ F m0
  m4 : ¬ G m0
theorem lies_of {u3 v1 v2 : World} {B p pf pd m0 lo1 lo2 : Nat} {F G : Nat → Prop} (P1 : Po v1 pf F []) (f : ∀ b, F b → lo1 ≤ b) (b1 : Below v1.heap.size v1 u3) (P2 : Po v2 pd G []) (g : ∀ b, G b → lo2 ≤ b) (b2 : Below v2.heap.size v2 u3)
    (hm : u3.heap[m0]? = some (.map #[] 0)) (hB : B ≤ lo1) (hB2 : B ≤ lo2) (hB3 : B ≤ m0) (h12 : v1.heap.size ≤ lo2) (hm1 : m0 < lo1 ∨ v1.heap.size ≤ m0) (hm2 : m0 < lo2 ∨ v2.heap.size ≤ m0) : Lies u3 B p pf pd m0 F G := by
  have s1 := b1.size
  have s2 := b2.size
  refine ⟨P1.below b1, fun b hb => ?_, P2.below b2, fun b hb => ?_, hm, hB3, fun q => ?_, fun q => ?_⟩
  · have := P1.lt b hb; have := f b hb; exact ⟨by omega, by omega⟩
  · have := P2.lt b hb
    have := g b hb
    exact ⟨by omega, by omega, fun q => by have := P1.lt b q; omega⟩
  · have := P1.lt m0 q; have := f m0 q; omega
  · have := P2.lt m0 q; have := g m0 q; omega
theorem Lies.keep {K : Nat → Prop} {w w' : World} {B p pf0 pd0 m0 : Nat} {F G : Nat → Prop} (h : Lies w B p pf0 pd0 m0 F G) (k : Keep K w w') (hk : ∀ b, B ≤ b → ¬ K b) : Lies w' B p pf0 pd0 m0 F G := by
  have s := k.size
  exact ⟨h.q1.keep k (fun b hb => hk b (h.f1 b hb).1), fun b hb => ⟨(h.f1 b hb).1, by have := (h.f1 b hb).2; omega⟩, h.q2.keep k (fun b hb => hk b (h.g1 b hb).1), fun b hb => ⟨(h.g1 b hb).1, by have := (h.g1 b hb).2.1; omega, (h.g1 b hb).2.2⟩,
    (k.block m0 (Array.getElem?_eq_some_iff.1 h.m1).1 (hk m0 h.m2)).trans h.m1, h.m2, h.m3, h.m4⟩
theorem wp_store_begun {op : Oper} {a : Act} {w : World} {K : Act → World → Prop} {Q : Exit → Act → World → Prop} (x y : Operand) (ho : op.op = .store 127 x y)
    (p : Nat) (dv : Value) (q : Nat) (r : List Nat) (lv : Value) (b n : List Value) (e : Nat) (o : Bool) (rt : List Nat) (pf pd mb : Nat) (hx : a.eval x = .pointer (some ⟨p, 30, none⟩)) (hy : a.eval y = .agg (scs rt pf pd mb).toArray) (hr : rt.length = 24) (hc : Pgc w p dv q r lv b n e o)
    (h : ∀ w', Hid (Pgc w' p dv q r lv (scs rt pf pd mb) n e o) → Keep (fun k => k = p) w w' → K (a.put op.dst undef) w') : op.wp Tryz.prog a w K Q := by
  refine wp_store_mid 127 x y ho p 30 (scs rt pf pd mb).toArray hx hy ?_ (info_scs hr) (all_oneCell_toArray (scs_one _ _ _ _)) (h _ (hc.setb _ (scs_length hr)) (Keep.setCells (F := fun k => k = p) (Keep.refl _ _) (.inl rfl) 30 _))
  have e : (scs rt pf pd mb).toArray.size = 27 := scs_length hr
  rw [e]
  exact hc.tm 30 27 (by omega)
structure Fill (w wr : World) (p : Nat) (dv : Value) (q2 : Nat) (r2 : List Nat) (lv : Value) (n : List Value) (e : Nat) (o : Bool) (pf0 pd0 m0 : Nat) (F G : Nat → Prop) (s : List Int) : Prop where
  kp : Keep (fun k => k = p) w wr
  c : Pgc wr p dv q2 r2 lv (scs (r2.drop 3) pf0 pd0 m0) n e o
  p1 : Po wr pf0 F s
  p2 : Po wr pd0 G []
  mp : wr.heap[m0]? = some (.map #[] 0)
  f1 : ∀ b, F b → w.heap.size ≤ b
  g1 : ∀ b, G b → w.heap.size ≤ b ∧ ¬ F b
  m2 : w.heap.size ≤ m0
  m3 : ¬ F m0
  m4 : ¬ G m0
theorem Fill.step {w wr w5 : World} {p : Nat} {dv : Value} {q2 : Nat} {r2 : List Nat} {lv : Value} {n : List Value} {e : Nat} {o : Bool} {pf0 pd0 m0 : Nat} {F G F2 : Nat → Prop} {s s2 : List Int} (h : Fill w wr p dv q2 r2 lv n e o pf0 pd0 m0 F G s)
    (P2 : Po w5 pf0 F2 s2) (k2 : Keep F wr w5) (f2 : ∀ b, F2 b → F b ∨ wr.heap.size ≤ b) (hl : p < w.heap.size) : Fill w w5 p dv q2 r2 lv n e o pf0 pd0 m0 F2 G s2 := by
  have sz := h.kp.size
  have hm := (Array.getElem?_eq_some_iff.1 h.mp).1
  refine ⟨h.kp.trans k2 (fun i hi => .inr (h.f1 i hi)), h.c.keep k2 (fun q => by have := h.f1 p q; omega), P2, h.p2.keep k2 (fun b hb => (h.g1 b hb).2), (k2.block m0 hm h.m3).trans h.mp, fun b hb => ?_, fun b hb => ⟨(h.g1 b hb).1, fun q => ?_⟩, h.m2, fun q => ?_, h.m4⟩
  · rcases f2 b hb with q | q
    · exact h.f1 b q
    · omega
  · rcases f2 b q with q | q
    · exact (h.g1 b hb).2 q
    · have := h.p2.lt b hb; omega
  · rcases f2 m0 q with q | q
    · exact h.m3 q
    · omega
set_option maxHeartbeats 3200000 in
theorem begin_core (FIN : World → Prop) (w : World) (p : Nat) (dv : Value) (q : Nat) (r : List Nat) (lv : Value) (b n : List Value) (e : Nat) (o : Bool) (hc : Pgc w p dv q r lv b n e o) (q2 : Nat) (r2 : List Nat) (hr2 : r2.length = 27) (A1 A2 : Option Addr) (n1 c1 c2 m : Nat) (named : List Int) (hm : named.length = m)
    (hn : Nums w (.slice A2 m c2) named) (hris : Ris named) (hlen : m < 65535) (hne : 0 < m → ∀ g, (Value.slice A2 m c2).ownBlock = some g → g ≠ p)
    (HAB : Hid (∀ (W : World) (pf0 pd0 m0 : Nat) (F G : Nat → Prop), Keep (fun k => k = p) w W → Pgc W p dv q2 r2 (.slice A1 n1 c1) (scs (r2.drop 3) pf0 pd0 m0) n e o → Po W pf0 F named → Po W pd0 G [] → W.heap[m0]? = some (.map #[] 0) → (∀ b, F b → w.heap.size ≤ b) → (∀ b, G b → w.heap.size ≤ b ∧ ¬ F b) → w.heap.size ≤ m0 → ¬ F m0 → ¬ G m0 →
      Calls Tryz.prog 41 #[.pointer (some ⟨p, 0, none⟩)] W fun en w' => en = .returned (.tuple #[]) ∧ FIN w')) :
    Calls Tryz.prog 59 #[.pointer (some ⟨p, 0, none⟩), .agg (sva q2 r2), .agg #[.slice A1 n1 c1, .slice A2 m c2]] w fun en w' => en = .returned (.tuple #[]) ∧ FIN w' := by
  have HR := Lib.hid hr2
  have HL := Lib.hid hc.lt
  have HS0 : Hid (Sup ((w.alloc (.cells (sva q2 r2) 36)).alloc (.cells #[.slice A1 n1 c1, .slice A2 m c2] 121)) w.heap.size q2 r2) := (Sup.made w q2 r2 hr2).below (alb _)
  have HB0 : Hid (Below w.heap.size w ((w.alloc (.cells (sva q2 r2) 36)).alloc (.cells #[.slice A1 n1 c1, .slice A2 m c2] 121))) := bal (alb _) _
  have hsz0 : Hid (((w.alloc (.cells (sva q2 r2) 36)).alloc (.cells #[.slice A1 n1 c1, .slice A2 m c2] 121)).heap.size = w.heap.size + 2) := by
    show _ = _
    simp
  have HC0 := Lib.hid (hc.below HB0.out)
  have hcl : ∀ j, ((w.alloc (.cells (sva q2 r2) 36)).alloc (.cells #[.slice A1 n1 c1, .slice A2 m c2] 121)).cell? ⟨w.heap.size + 1, j, none⟩ = (#[.slice A1 n1 c1, .slice A2 m c2] : Array Value)[j]? := fun j => World.cell?_alloc_at _ _ _ _ (by simp)
  have C0 := Lib.hid (hcl 0)
  have C1 := Lib.hid (hcl 1)
  have HNX : Hid (0 < m → ∃ b off, A2 = some ⟨b, off, none⟩ ∧ ¬ b = p ∧ ∀ j, j < m → w.cell? ⟨b, off + j, none⟩ = some (.int .u32 named[j]!)) := by
    obtain ⟨A', c', e1, _, _, q1⟩ := hn
    simp only [Value.slice.injEq] at e1
    obtain ⟨rfl, _, _⟩ := e1
    intro h0
    obtain ⟨bb, off, rfl, hcell⟩ := q1 (by omega)
    exact ⟨bb, off, rfl, hne h0 bb rfl, fun j hj => hcell j (by omega)⟩
  have HRI := Lib.hid hris
  have HM := Lib.hid hm
  clear hcl hc hn hris hne hm
  go_enter Tryz.func59, Tryz.ntmps59
  go_wp2_with (first
    | (refine wpList_load_sup rfl (.tmp 4) rfl w.heap.size q2 r2 rfl HS0.out ?_)
    | (refine wpList_store_commit rfl (.tmp 11) (.tmp 9) rfl p dv q r lv b n e o q2 r2 rfl rfl HR.out HC0.out ?_))
  intro w1 HC1 k1
  generalize (w.alloc (.cells (sva q2 r2) 36)).alloc (.cells #[.slice A1 n1 c1, .slice A2 m c2] 121) = w0 at *
  have K1 := Lib.hid k1
  have nb : Hid (¬ w.heap.size = p ∧ ¬ w.heap.size + 1 = p) := ⟨by have := HL.out; omega, by have := HL.out; omega⟩
  have d0 := k1.cell C0.out nb.out.2
  have D1 := Lib.hid (k1.cell C1.out nb.out.2)
  have HS1 := Lib.hid (HS0.out.keep k1 nb.out.1)
  have f29 := HC1.out.fz 29 (by omega)
  have c29 := HC1.out.cl
  clear k1 HC0 HS0 C0 C1
  have HC2 := Lib.hid (HC1.out.setl (.slice A1 n1 c1))
  have k2 : Keep (fun k => k = p) w1 (w1.setCell ⟨p, 29, none⟩ (.slice A1 n1 c1)) := Keep.setCell (F := fun k => k = p) (p := ⟨p, 29, none⟩) (Keep.refl _ _) (.inl rfl) _
  have K2 : Hid (Keep (fun k => k = p) w0 (w1.setCell ⟨p, 29, none⟩ (.slice A1 n1 c1))) := K1.out.trans k2 (fun i hi => .inl hi)
  have D2 := Lib.hid (k2.cell D1.out nb.out.2)
  have HS2 := Lib.hid (HS1.out.keep k2 nb.out.1)
  clear k2 HC1 HS1 D1
  go_upto_region 3 with fail
  clear d0 f29 c29
  generalize w1.setCell ⟨p, 29, none⟩ (.slice A1 n1 c1) = w2 at *
  clear K1
  have hS : Hid (Keep (fun k => k = p) w2 w2.drew) := (Keep.refl _ _).drew
  refine lh_start 10 (fun W => Keep (fun k => k = p) w2 W) rfl (by kernel_rfl) ?_
  refine lh_take 0 17 (v := ?_) rfl rfl (by kernel_rfl) (by kernel_rfl) (by kernel_rfl) (fun _ _ _ _ _ h => h) (by rfl) hS.out (fun W hW => ?_) ?_
  rotate_left
  · go_simp; try rfl
  try simp only [Act.put, List.setIfInBounds_toArray, List.set_cons_zero, List.set_cons_succ]
  refine lh_take 1 18 (v := ?_) rfl rfl (by kernel_rfl) (by kernel_rfl) (by kernel_rfl) (fun _ _ _ _ _ h => h) (by rfl) hS.out (fun W hW => ?_) ?_
  rotate_left
  · go_simp; try rfl
  try simp only [Act.put, List.setIfInBounds_toArray, List.set_cons_zero, List.set_cons_succ]
  refine lh_take 2 19 (v := ?_) rfl rfl (by kernel_rfl) (by kernel_rfl) (by kernel_rfl) (fun _ _ _ _ _ h => h) (by rfl) hS.out (fun W hW => ?_) ?_
  rotate_left
  · refine run_load_mid 34 (.tmp 18) ?_ w.heap.size 4 ?_ (rcs (r2.drop 3)) _ (range_keep (sup_roots HS2.out) hW nb.out.1) Tryz.underlying34 rfl (info_rcs (by rw [List.length_drop, HR.out])) <;> rfl
  try simp only [Act.put, List.setIfInBounds_toArray, List.set_cons_zero, List.set_cons_succ]
  have U0 : Hid (w2.heap.size = w2.drew.heap.size ∧ Below w2.heap.size w2 w2.drew) := ⟨rfl, (Below.refl _ _).drew⟩
  generalize w2.drew = u0 at *
  refine lh_two 3 5 rfl rfl rfl rfl (by kernel_rfl) (fun K hK => ?_) (fun K hK => ?_)
  · go_simp
    refine (new_any u0).mono ?_
    rintro e u1 ⟨pf0, rfl, hb, F, q, g⟩
    have hS1 := Lib.hid (hS.out.step hb)
    refine hK.out _ _ hS1.out ?_
    have Q1 := Lib.hid q
    have R1 := Lib.hid g
    have hS := hS1
    have Bu0 := Lib.hid hb
    clear hK K q g hb hS1
    try simp only [Act.put, List.setIfInBounds_toArray, List.set_cons_zero, List.set_cons_succ]
    refine lh_two 4 5 rfl rfl rfl rfl (by kernel_rfl) (fun K hK => ?_) (fun K hK => ?_)
    · go_simp
      refine (new_any u1).mono ?_
      rintro e u2 ⟨pd0, rfl, hb, G, q, g⟩
      have hS1 := Lib.hid (hS.out.step hb)
      refine hK.out _ _ hS1.out ?_
      have Q2 := Lib.hid q
      have R2 := Lib.hid g
      have hS := hS1
      have Bu1 := Lib.hid hb
      clear hK K q g hb hS1
      try simp only [Act.put, List.setIfInBounds_toArray, List.set_cons_zero, List.set_cons_succ]
      refine lh_one 5 rfl rfl (by kernel_rfl) (fun K hK => ?_)
      have hmm := @run_makeMap Tryz.prog
      go_simp
      have hb : Below u2.heap.size u2 (u2.alloc (.map #[] 0)) := alb _
      have HM0 : Hid ((u2.alloc (.map #[] 0)).heap[u2.heap.size]? = some (.map #[] 0)) := (MapKept.heap_alloc u2 _).1
      have HM1 : Hid (u2.heap.size < (u2.alloc (.map #[] 0)).heap.size) := by
        show _ < _
        simp
      have hS1 := Lib.hid (hS.out.step hb)
      refine hK.out _ _ hS1.out ?_
      have hS := hS1
      have Bu2 := Lib.hid hb
      clear hmm hK K hb hS1
      generalize u2.alloc (.map #[] 0) = u3 at *
      obtain ⟨m0, hm0⟩ : ∃ m, m = u2.heap.size := ⟨_, rfl⟩
      rw [← hm0]
      have HM := Lib.hid hm0
      clear hm0
      try simp only [Act.put, List.setIfInBounds_toArray, List.set_cons_zero, List.set_cons_succ]
      have HLI : Hid (Lies u3 w.heap.size p pf0 pd0 m0 F G) := by
        have s0 := hsz0.out
        have s2 := K2.out.size
        have t0 := Bu0.out.size
        have t1 := Bu1.out.size
        have t2 := Bu2.out.size
        have hmm := HM.out
        have hme := HM0.out
        have hmlt := HM1.out
        rw [← hmm] at hme hmlt
        have hu0 : w2.heap.size = u0.heap.size := U0.out.1
        exact lies_of (lo1 := u0.heap.size) (lo2 := u1.heap.size) Q1.out R1.out (btr Bu1.out Bu2.out) Q2.out R2.out Bu2.out hme (by omega) (by omega) (by omega) (by omega) (by omega) (by omega)
      have HBB : Hid (Below w2.heap.size w2 u3) := btr (btr (btr U0.out.2 Bu0.out) Bu1.out) Bu2.out
      clear Q1 R1 Q2 R2 HM0 HM1 HM Bu0 Bu1 Bu2 U0
      refine lh_take 6 23 (v := ?_) rfl rfl (by kernel_rfl) (by kernel_rfl) (by kernel_rfl) (fun _ _ _ _ _ h => h) (by rfl) hS.out (fun W hW => ?_) ?_
      rotate_left
      · refine run_op_build_st (.tmp 19) (.tmp 20) (.tmp 21) (.tmp 22) ?_ (r2.drop 3) (by rw [List.length_drop, HR.out]) pf0 pd0 m0 ?_ ?_ ?_ ?_ <;> rfl
      try simp only [Act.put, List.setIfInBounds_toArray, List.set_cons_zero, List.set_cons_succ]
      refine lh_take 7 24 (v := ?_) rfl rfl (by kernel_rfl) (by kernel_rfl) (by kernel_rfl) (fun _ _ _ _ _ h => h) (by rfl) hS.out (fun W hW => ?_) ?_
      rotate_left
      · go_simp; try rfl
      try simp only [Act.put, List.setIfInBounds_toArray, List.set_cons_zero, List.set_cons_succ]
      refine lh_take 8 25 (v := ?_) rfl rfl (by kernel_rfl) (by kernel_rfl) (by kernel_rfl) (fun _ _ _ _ _ h => h) (by rfl) hS.out (fun W hW => ?_) ?_
      rotate_left
      · go_simp; try rfl
      try simp only [Act.put, List.setIfInBounds_toArray, List.set_cons_zero, List.set_cons_succ]
      have HR3 : Hid ((r2.drop 3).length = 24) := Lib.hid (by rw [List.length_drop, HR.out])
      have HC3 := Lib.hid (HC2.out.below HBB.out)
      have D3 := Lib.hid (kept D2.out HBB.out)
      refine lh_one 9 rfl rfl (by kernel_rfl) (fun K hK => ?_)
      refine wp_store_begun (.tmp 25) (.tmp 23) rfl p dv q2 r2 (.slice A1 n1 c1) b n e o (r2.drop 3) pf0 pd0 m0 rfl rfl HR3.out HC3.out ?_
      intro w4 HC4 k4
      refine hK.out _ _ (hS.out.trans k4 (fun i hi => .inl hi)) ?_
      have HLI4 := Lib.hid (HLI.out.keep k4 (fun b hb e => by have := HL.out; omega))
      have d4 := k4.cell D3.out nb.out.2
      have K4 : Hid (Keep (fun k => k = p) w w4) := (((Keep.of_below (F := fun k => k = p) HB0.out).trans K2.out (fun i hi => .inl hi)).step (HBB.out.mono (by have := HB0.out.size; have := K2.out.size; omega))).trans k4 (fun i hi => .inl hi)
      have HFI : Hid (Fill w w4 p dv q2 r2 (.slice A1 n1 c1) n e o pf0 pd0 m0 F G (named.take 0)) := ⟨K4.out, HC4.out, by rw [List.take_zero]; exact HLI4.out.q1, HLI4.out.q2, HLI4.out.m1, fun b hb => (HLI4.out.f1 b hb).1, fun b hb => ⟨(HLI4.out.g1 b hb).1, (HLI4.out.g1 b hb).2.2⟩, HLI4.out.m2, HLI4.out.m3, HLI4.out.m4⟩
      clear hK K k4 HC3 D3 HLI HLI4 hS HBB HC4 K4 HC2 D2 K2 HS2
      refine lh_done (by kernel_rfl) ?_
      go_wp2
      go_loopg [29] m (fun k s wr => ∃ (i : Nat) (F' : Nat → Prop), s = .int .i64 i ∧ i ≤ m ∧ m - i ≤ k ∧ Hid (Fill w wr p dv q2 r2 (.slice A1 n1 c1) n e o pf0 pd0 m0 F' G (named.take i)))
      case atStart => exact ⟨0, F, rfl, by omega, by omega, HFI⟩
      case round =>
        clear HFI d4
        obtain ⟨i, F', rfl, h1, h2, HF⟩ := hrel
        by_cases hi : i < m
        · obtain ⟨bb, off, rfl, hbp, hcell⟩ := HNX.out (by omega)
          have hi2 : i < named.length := by have := HM.out; omega
          have c0 := HF.out.kp.cell (hcell i hi) hbp
          obtain ⟨y, hy⟩ : ∃ y, y = named[i]! := ⟨_, rfl⟩
          rw [← hy] at c0
          have hy2 : y = named[i] := by rw [hy, getElem!_pos named i hi2]
          obtain ⟨y0, y1⟩ := HRI.out.rng y (by rw [hy2]; exact List.getElem_mem _)
          have c54 : wr.cell? ⟨p, 54, none⟩ = some (.pointer (some ⟨pf0, 0, none⟩)) := scs_free HF.out.c.rb HR3.out
          have CP := Lib.hid (put_any wr pf0 F' (named.take i) y HF.out.p1 y0 y1 (by rw [List.length_take]; omega))
          have HT : Hid (putS y (named.take i) = named.take (i + 1)) := Lib.hid (by rw [hy2, putS_snoc (ris_lt HRI.out hi2), List.take_succ_eq_append_getElem hi2])
          clear hcell hy hy2 y0 y1
          go_wp2_with (go_at_call 89; refine CP.out.mono ?_; rintro en w5 ⟨rfl, F2, P2, k2, f2⟩)
          rw [HT.out] at P2
          have HF2 := Lib.hid (HF.out.step P2 k2 f2 HL.out)
          clear P2 k2 f2 CP HF c0 c54
          go_roundg (m - (i + 1))
          case measure => omega
          case rel => exact ⟨i + 1, F2, by simp, by omega, by omega, HF2⟩
        · have hz : ¬ (i : Int) < (m : Int) := by omega
          obtain rfl : i = m := by omega
          have HB := HF.out
          rw [List.take_of_length_le (by have := HM.out; omega)] at HB
          have HA := Lib.hid (HAB.out wr pf0 pd0 m0 F' G HB.kp HB.c HB.p1 HB.p2 HB.mp HB.f1 HB.g1 HB.m2 HB.m3 HB.m4)
          clear HB
          go_wp2_with (go_at_call 41; refine HA.out.mono ?_; rintro en w6 ⟨rfl, h6⟩)
          go_end0
          exact ⟨rfl, h6⟩
    · have hmm := @run_makeMap Tryz.prog
      go_simp
      have hb : Below u1.heap.size u1 (u1.alloc (.map #[] 0)) := alb _
      have HM0 : Hid ((u1.alloc (.map #[] 0)).heap[u1.heap.size]? = some (.map #[] 0)) := (MapKept.heap_alloc u1 _).1
      have HM1 : Hid (u1.heap.size < (u1.alloc (.map #[] 0)).heap.size) := by
        show _ < _
        simp
      have hS1 := Lib.hid (hS.out.step hb)
      refine hK.out _ _ hS1.out ?_
      have hS := hS1
      have Bu1 := Lib.hid hb
      clear hmm hK K hb hS1
      generalize u1.alloc (.map #[] 0) = u2 at *
      obtain ⟨m0, hm0⟩ : ∃ m, m = u1.heap.size := ⟨_, rfl⟩
      rw [← hm0]
      have HM := Lib.hid hm0
      clear hm0
      try simp only [Act.put, List.setIfInBounds_toArray, List.set_cons_zero, List.set_cons_succ]
      refine lh_one 4 rfl rfl (by kernel_rfl) (fun K hK => ?_)
      go_simp
      refine (new_any u2).mono ?_
      rintro e u3 ⟨pd0, rfl, hb, G, q, g⟩
      have hS1 := Lib.hid (hS.out.step hb)
      refine hK.out _ _ hS1.out ?_
      have Q2 := Lib.hid q
      have R2 := Lib.hid g
      have hS := hS1
      have Bu2 := Lib.hid hb
      clear hK K q g hb hS1
      try simp only [Act.put, List.setIfInBounds_toArray, List.set_cons_zero, List.set_cons_succ]
      have HLI : Hid (Lies u3 w.heap.size p pf0 pd0 m0 F G) := by
        have s0 := hsz0.out
        have s2 := K2.out.size
        have t0 := Bu0.out.size
        have t1 := Bu1.out.size
        have t2 := Bu2.out.size
        have hmm := HM.out
        have hme := HM0.out
        have hmlt := HM1.out
        rw [← hmm] at hme hmlt
        have hu0 : w2.heap.size = u0.heap.size := U0.out.1
        exact lies_of (lo1 := u0.heap.size) (lo2 := u2.heap.size) Q1.out R1.out (btr Bu1.out Bu2.out) Q2.out R2.out (Below.refl _ _) ((Bu2.out.block m0 hmlt).trans hme) (by omega) (by omega) (by omega) (by omega) (by omega) (by omega)
      have HBB : Hid (Below w2.heap.size w2 u3) := btr (btr (btr U0.out.2 Bu0.out) Bu1.out) Bu2.out
      clear Q1 R1 Q2 R2 HM0 HM1 HM Bu0 Bu1 Bu2 U0
      refine lh_take 6 23 (v := ?_) rfl rfl (by kernel_rfl) (by kernel_rfl) (by kernel_rfl) (fun _ _ _ _ _ h => h) (by rfl) hS.out (fun W hW => ?_) ?_
      rotate_left
      · refine run_op_build_st (.tmp 19) (.tmp 20) (.tmp 21) (.tmp 22) ?_ (r2.drop 3) (by rw [List.length_drop, HR.out]) pf0 pd0 m0 ?_ ?_ ?_ ?_ <;> rfl
      try simp only [Act.put, List.setIfInBounds_toArray, List.set_cons_zero, List.set_cons_succ]
      refine lh_take 7 24 (v := ?_) rfl rfl (by kernel_rfl) (by kernel_rfl) (by kernel_rfl) (fun _ _ _ _ _ h => h) (by rfl) hS.out (fun W hW => ?_) ?_
      rotate_left
      · go_simp; try rfl
      try simp only [Act.put, List.setIfInBounds_toArray, List.set_cons_zero, List.set_cons_succ]
      refine lh_take 8 25 (v := ?_) rfl rfl (by kernel_rfl) (by kernel_rfl) (by kernel_rfl) (fun _ _ _ _ _ h => h) (by rfl) hS.out (fun W hW => ?_) ?_
      rotate_left
      · go_simp; try rfl
      try simp only [Act.put, List.setIfInBounds_toArray, List.set_cons_zero, List.set_cons_succ]
      have HR3 : Hid ((r2.drop 3).length = 24) := Lib.hid (by rw [List.length_drop, HR.out])
      have HC3 := Lib.hid (HC2.out.below HBB.out)
      have D3 := Lib.hid (kept D2.out HBB.out)
      refine lh_one 9 rfl rfl (by kernel_rfl) (fun K hK => ?_)
      refine wp_store_begun (.tmp 25) (.tmp 23) rfl p dv q2 r2 (.slice A1 n1 c1) b n e o (r2.drop 3) pf0 pd0 m0 rfl rfl HR3.out HC3.out ?_
      intro w4 HC4 k4
      refine hK.out _ _ (hS.out.trans k4 (fun i hi => .inl hi)) ?_
      have HLI4 := Lib.hid (HLI.out.keep k4 (fun b hb e => by have := HL.out; omega))
      have d4 := k4.cell D3.out nb.out.2
      have K4 : Hid (Keep (fun k => k = p) w w4) := (((Keep.of_below (F := fun k => k = p) HB0.out).trans K2.out (fun i hi => .inl hi)).step (HBB.out.mono (by have := HB0.out.size; have := K2.out.size; omega))).trans k4 (fun i hi => .inl hi)
      have HFI : Hid (Fill w w4 p dv q2 r2 (.slice A1 n1 c1) n e o pf0 pd0 m0 F G (named.take 0)) := ⟨K4.out, HC4.out, by rw [List.take_zero]; exact HLI4.out.q1, HLI4.out.q2, HLI4.out.m1, fun b hb => (HLI4.out.f1 b hb).1, fun b hb => ⟨(HLI4.out.g1 b hb).1, (HLI4.out.g1 b hb).2.2⟩, HLI4.out.m2, HLI4.out.m3, HLI4.out.m4⟩
      clear hK K k4 HC3 D3 HLI HLI4 hS HBB HC4 K4 HC2 D2 K2 HS2
      refine lh_done (by kernel_rfl) ?_
      go_wp2
      go_loopg [29] m (fun k s wr => ∃ (i : Nat) (F' : Nat → Prop), s = .int .i64 i ∧ i ≤ m ∧ m - i ≤ k ∧ Hid (Fill w wr p dv q2 r2 (.slice A1 n1 c1) n e o pf0 pd0 m0 F' G (named.take i)))
      case atStart => exact ⟨0, F, rfl, by omega, by omega, HFI⟩
      case round =>
        clear HFI d4
        obtain ⟨i, F', rfl, h1, h2, HF⟩ := hrel
        by_cases hi : i < m
        · obtain ⟨bb, off, rfl, hbp, hcell⟩ := HNX.out (by omega)
          have hi2 : i < named.length := by have := HM.out; omega
          have c0 := HF.out.kp.cell (hcell i hi) hbp
          obtain ⟨y, hy⟩ : ∃ y, y = named[i]! := ⟨_, rfl⟩
          rw [← hy] at c0
          have hy2 : y = named[i] := by rw [hy, getElem!_pos named i hi2]
          obtain ⟨y0, y1⟩ := HRI.out.rng y (by rw [hy2]; exact List.getElem_mem _)
          have c54 : wr.cell? ⟨p, 54, none⟩ = some (.pointer (some ⟨pf0, 0, none⟩)) := scs_free HF.out.c.rb HR3.out
          have CP := Lib.hid (put_any wr pf0 F' (named.take i) y HF.out.p1 y0 y1 (by rw [List.length_take]; omega))
          have HT : Hid (putS y (named.take i) = named.take (i + 1)) := Lib.hid (by rw [hy2, putS_snoc (ris_lt HRI.out hi2), List.take_succ_eq_append_getElem hi2])
          clear hcell hy hy2 y0 y1
          go_wp2_with (go_at_call 89; refine CP.out.mono ?_; rintro en w5 ⟨rfl, F2, P2, k2, f2⟩)
          rw [HT.out] at P2
          have HF2 := Lib.hid (HF.out.step P2 k2 f2 HL.out)
          clear P2 k2 f2 CP HF c0 c54
          go_roundg (m - (i + 1))
          case measure => omega
          case rel => exact ⟨i + 1, F2, by simp, by omega, by omega, HF2⟩
        · have hz : ¬ (i : Int) < (m : Int) := by omega
          obtain rfl : i = m := by omega
          have HB := HF.out
          rw [List.take_of_length_le (by have := HM.out; omega)] at HB
          have HA := Lib.hid (HAB.out wr pf0 pd0 m0 F' G HB.kp HB.c HB.p1 HB.p2 HB.mp HB.f1 HB.g1 HB.m2 HB.m3 HB.m4)
          clear HB
          go_wp2_with (go_at_call 41; refine HA.out.mono ?_; rintro en w6 ⟨rfl, h6⟩)
          go_end0
          exact ⟨rfl, h6⟩
  · have hmm := @run_makeMap Tryz.prog
    go_simp
    have hb : Below u0.heap.size u0 (u0.alloc (.map #[] 0)) := alb _
    have HM0 : Hid ((u0.alloc (.map #[] 0)).heap[u0.heap.size]? = some (.map #[] 0)) := (MapKept.heap_alloc u0 _).1
    have HM1 : Hid (u0.heap.size < (u0.alloc (.map #[] 0)).heap.size) := by
      show _ < _
      simp
    have hS1 := Lib.hid (hS.out.step hb)
    refine hK.out _ _ hS1.out ?_
    have hS := hS1
    have Bu0 := Lib.hid hb
    clear hmm hK K hb hS1
    generalize u0.alloc (.map #[] 0) = u1 at *
    obtain ⟨m0, hm0⟩ : ∃ m, m = u0.heap.size := ⟨_, rfl⟩
    rw [← hm0]
    have HM := Lib.hid hm0
    clear hm0
    try simp only [Act.put, List.setIfInBounds_toArray, List.set_cons_zero, List.set_cons_succ]
    refine lh_one 3 rfl rfl (by kernel_rfl) (fun K hK => ?_)
    go_simp
    refine (new_any u1).mono ?_
    rintro e u2 ⟨pf0, rfl, hb, F, q, g⟩
    have hS1 := Lib.hid (hS.out.step hb)
    refine hK.out _ _ hS1.out ?_
    have Q1 := Lib.hid q
    have R1 := Lib.hid g
    have hS := hS1
    have Bu1 := Lib.hid hb
    clear hK K q g hb hS1
    try simp only [Act.put, List.setIfInBounds_toArray, List.set_cons_zero, List.set_cons_succ]
    refine lh_one 4 rfl rfl (by kernel_rfl) (fun K hK => ?_)
    go_simp
    refine (new_any u2).mono ?_
    rintro e u3 ⟨pd0, rfl, hb, G, q, g⟩
    have hS1 := Lib.hid (hS.out.step hb)
    refine hK.out _ _ hS1.out ?_
    have Q2 := Lib.hid q
    have R2 := Lib.hid g
    have hS := hS1
    have Bu2 := Lib.hid hb
    clear hK K q g hb hS1
    try simp only [Act.put, List.setIfInBounds_toArray, List.set_cons_zero, List.set_cons_succ]
    have HLI : Hid (Lies u3 w.heap.size p pf0 pd0 m0 F G) := by
      have s0 := hsz0.out
      have s2 := K2.out.size
      have t0 := Bu0.out.size
      have t1 := Bu1.out.size
      have t2 := Bu2.out.size
      have hmm := HM.out
      have hme := HM0.out
      have hmlt := HM1.out
      rw [← hmm] at hme hmlt
      have hu0 : w2.heap.size = u0.heap.size := U0.out.1
      exact lies_of (lo1 := u1.heap.size) (lo2 := u2.heap.size) Q1.out R1.out Bu2.out Q2.out R2.out (Below.refl _ _) (((btr Bu1.out Bu2.out).block m0 hmlt).trans hme) (by omega) (by omega) (by omega) (by omega) (by omega) (by omega)
    have HBB : Hid (Below w2.heap.size w2 u3) := btr (btr (btr U0.out.2 Bu0.out) Bu1.out) Bu2.out
    clear Q1 R1 Q2 R2 HM0 HM1 HM Bu0 Bu1 Bu2 U0
    refine lh_take 6 23 (v := ?_) rfl rfl (by kernel_rfl) (by kernel_rfl) (by kernel_rfl) (fun _ _ _ _ _ h => h) (by rfl) hS.out (fun W hW => ?_) ?_
    rotate_left
    · refine run_op_build_st (.tmp 19) (.tmp 20) (.tmp 21) (.tmp 22) ?_ (r2.drop 3) (by rw [List.length_drop, HR.out]) pf0 pd0 m0 ?_ ?_ ?_ ?_ <;> rfl
    try simp only [Act.put, List.setIfInBounds_toArray, List.set_cons_zero, List.set_cons_succ]
    refine lh_take 7 24 (v := ?_) rfl rfl (by kernel_rfl) (by kernel_rfl) (by kernel_rfl) (fun _ _ _ _ _ h => h) (by rfl) hS.out (fun W hW => ?_) ?_
    rotate_left
    · go_simp; try rfl
    try simp only [Act.put, List.setIfInBounds_toArray, List.set_cons_zero, List.set_cons_succ]
    refine lh_take 8 25 (v := ?_) rfl rfl (by kernel_rfl) (by kernel_rfl) (by kernel_rfl) (fun _ _ _ _ _ h => h) (by rfl) hS.out (fun W hW => ?_) ?_
    rotate_left
    · go_simp; try rfl
    try simp only [Act.put, List.setIfInBounds_toArray, List.set_cons_zero, List.set_cons_succ]
    have HR3 : Hid ((r2.drop 3).length = 24) := Lib.hid (by rw [List.length_drop, HR.out])
    have HC3 := Lib.hid (HC2.out.below HBB.out)
    have D3 := Lib.hid (kept D2.out HBB.out)
    refine lh_one 9 rfl rfl (by kernel_rfl) (fun K hK => ?_)
    refine wp_store_begun (.tmp 25) (.tmp 23) rfl p dv q2 r2 (.slice A1 n1 c1) b n e o (r2.drop 3) pf0 pd0 m0 rfl rfl HR3.out HC3.out ?_
    intro w4 HC4 k4
    refine hK.out _ _ (hS.out.trans k4 (fun i hi => .inl hi)) ?_
    have HLI4 := Lib.hid (HLI.out.keep k4 (fun b hb e => by have := HL.out; omega))
    have d4 := k4.cell D3.out nb.out.2
    have K4 : Hid (Keep (fun k => k = p) w w4) := (((Keep.of_below (F := fun k => k = p) HB0.out).trans K2.out (fun i hi => .inl hi)).step (HBB.out.mono (by have := HB0.out.size; have := K2.out.size; omega))).trans k4 (fun i hi => .inl hi)
    have HFI : Hid (Fill w w4 p dv q2 r2 (.slice A1 n1 c1) n e o pf0 pd0 m0 F G (named.take 0)) := ⟨K4.out, HC4.out, by rw [List.take_zero]; exact HLI4.out.q1, HLI4.out.q2, HLI4.out.m1, fun b hb => (HLI4.out.f1 b hb).1, fun b hb => ⟨(HLI4.out.g1 b hb).1, (HLI4.out.g1 b hb).2.2⟩, HLI4.out.m2, HLI4.out.m3, HLI4.out.m4⟩
    clear hK K k4 HC3 D3 HLI HLI4 hS HBB HC4 K4 HC2 D2 K2 HS2
    refine lh_done (by kernel_rfl) ?_
    go_wp2
    go_loopg [29] m (fun k s wr => ∃ (i : Nat) (F' : Nat → Prop), s = .int .i64 i ∧ i ≤ m ∧ m - i ≤ k ∧ Hid (Fill w wr p dv q2 r2 (.slice A1 n1 c1) n e o pf0 pd0 m0 F' G (named.take i)))
    case atStart => exact ⟨0, F, rfl, by omega, by omega, HFI⟩
    case round =>
      clear HFI d4
      obtain ⟨i, F', rfl, h1, h2, HF⟩ := hrel
      by_cases hi : i < m
      · obtain ⟨bb, off, rfl, hbp, hcell⟩ := HNX.out (by omega)
        have hi2 : i < named.length := by have := HM.out; omega
        have c0 := HF.out.kp.cell (hcell i hi) hbp
        obtain ⟨y, hy⟩ : ∃ y, y = named[i]! := ⟨_, rfl⟩
        rw [← hy] at c0
        have hy2 : y = named[i] := by rw [hy, getElem!_pos named i hi2]
        obtain ⟨y0, y1⟩ := HRI.out.rng y (by rw [hy2]; exact List.getElem_mem _)
        have c54 : wr.cell? ⟨p, 54, none⟩ = some (.pointer (some ⟨pf0, 0, none⟩)) := scs_free HF.out.c.rb HR3.out
        have CP := Lib.hid (put_any wr pf0 F' (named.take i) y HF.out.p1 y0 y1 (by rw [List.length_take]; omega))
        have HT : Hid (putS y (named.take i) = named.take (i + 1)) := Lib.hid (by rw [hy2, putS_snoc (ris_lt HRI.out hi2), List.take_succ_eq_append_getElem hi2])
        clear hcell hy hy2 y0 y1
        go_wp2_with (go_at_call 89; refine CP.out.mono ?_; rintro en w5 ⟨rfl, F2, P2, k2, f2⟩)
        rw [HT.out] at P2
        have HF2 := Lib.hid (HF.out.step P2 k2 f2 HL.out)
        clear P2 k2 f2 CP HF c0 c54
        go_roundg (m - (i + 1))
        case measure => omega
        case rel => exact ⟨i + 1, F2, by simp, by omega, by omega, HF2⟩
      · have hz : ¬ (i : Int) < (m : Int) := by omega
        obtain rfl : i = m := by omega
        have HB := HF.out
        rw [List.take_of_length_le (by have := HM.out; omega)] at HB
        have HA := Lib.hid (HAB.out wr pf0 pd0 m0 F' G HB.kp HB.c HB.p1 HB.p2 HB.mp HB.f1 HB.g1 HB.m2 HB.m3 HB.m4)
        clear HB
        go_wp2_with (go_at_call 41; refine HA.out.mono ?_; rintro en w6 ⟨rfl, h6⟩)
        go_end0
        exact ⟨rfl, h6⟩
end Go.Proofs.YtlcnefeikejcaaaGreatDoor
