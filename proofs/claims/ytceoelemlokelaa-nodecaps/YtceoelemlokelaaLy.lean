/- A region that draws its order and in which several operations write behind all that reads (as Lz, with a list of those that need not keep the condition). -/
import Derived.Test.YtceoelemlokelaaLr
namespace Go.Proofs.Ytceoelemlokelaa
open Go.RowKit

section
variable {P : Program} {ops : Array Oper} {Q : Exit → Act → World → Prop} {zs : List Nat}
/-- Whatever order is picked: S holds behind each operation but those of zs. -/
def Ly (P : Program) (ops : Array Oper) (Q : Exit → Act → World → Prop) (zs : List Nat) (S : World → Prop) : Nat → Array Bool → Act → World → Prop
  | 0, listed, a, w => Region.ready .any ops listed = [] ∧ Q .normal a w
  | fuel + 1, listed, a, w =>
    (Region.ready .any ops listed = [] → Q .normal a w) ∧
    ∀ i ∈ Region.ready .any ops listed, wpOp P ops Q i (fun a' w' => (i ∈ zs ∨ (S w → S w')) ∧ Ly P ops Q zs S fuel (listed.setIfInBounds i true) a' w') a w
theorem Ly.any {S : World → Prop} : ∀ (fuel : Nat) (listed : Array Bool) (a : Act) (w : World), Ly P ops Q zs S fuel listed a w → wpAny P .any ops Q fuel listed a w
  | 0, _, _, _, h => h
  | fuel + 1, _, _, _, h => ⟨h.1, fun i hi => wpOp_mono (fun a' w' h' => Ly.any fuel _ a' w' h'.2) (h.2 i hi)⟩
theorem Ly.firstR {S : World → Prop} {i : Nat} {oi : Oper} {v : Value} (f : Nat) (hi : ops[i]? = some oi) (hsel : ∀ (j : Nat) (o : Oper) cs b, ops[j]? = some o → o.op ≠ .select cs b)
    (hz : zs.all (fun z => reachB ops f z i) = true) (hQ : ∀ c a w, Q (.panic c) (a.put oi.dst v) w → Q (.panic c) a w) :
    ∀ (fuel : Nat) (listed : Array Bool) (a : Act) (w : World), Closed ops listed →
      (∀ j oj, ops[j]? = some oj → j ≠ i → listed.getD j true = false → (∀ e ∈ oj.after, Region.binds .any e = true → e.on ≠ i) → oi.apart ops oj = true) →
      i ∈ Region.ready .any ops listed → YieldsIf P ops S oi v a → S w →
      Ly P ops Q zs S fuel (listed.setIfInBounds i true) (a.put oi.dst v) w → Ly P ops Q zs S (fuel + 1) listed a w := by
  intro fuel
  induction fuel with
  | zero =>
    intro listed a w _ _ hr hy hS H
    refine ⟨fun h => (by rw [h] at hr; cases hr), fun j hj => ?_⟩
    by_cases hji : j = i
    · subst hji; exact hy.wpOp hi hS ⟨.inr id, H⟩
    · have := ready_mono hj hji
      rw [H.1] at this
      cases this
  | succ fuel ih =>
    intro listed a w hcl hfree hr hy hS H
    refine ⟨fun h => (by rw [h] at hr; cases hr), fun j hj => ?_⟩
    by_cases hji : j = i
    · subst hji; exact hy.wpOp hi hS ⟨.inr id, H⟩
    · have h1 := H.2 j (ready_mono hj hji)
      obtain ⟨hjun, oj, hoj, hall⟩ := mem_ready.1 hj
      have nol : listed.getD i false = true → False := fun h1 => by
        have h0 := (mem_ready.1 hr).1
        rcases Nat.lt_or_ge i listed.size with h' | h'
        · simp [h'] at h0 h1; rw [h0] at h1; cases h1
        · simp [Array.getElem?_eq_none h'] at h1
      have hnot : ∀ e ∈ oj.after, Region.binds .any e = true → e.on ≠ i := fun e he hb heq => by
        have h1 := hall e he hb
        rw [heq] at h1
        exact nol h1
      have hjz : j ∉ zs := fun e => by
        have hz' := List.all_eq_true.1 hz j e
        cases f with
        | zero => cases hz'
        | succ f =>
          unfold reachB at hz'
          rw [hoj] at hz'
          obtain ⟨e, he, hb⟩ := Array.any_eq_true'.1 hz'
          simp only [Bool.and_eq_true, Bool.or_eq_true, beq_iff_eq] at hb
          have h1 := hall e he hb.1
          rcases hb.2 with h2 | h2
          · rw [h2] at h1; exact nol h1
          · exact nol (reach_listed hcl f e.on h1 h2)
      have h2 := wpOp_putIf hoj (hfree j oj hoj hji hjun hnot) (fun cs b => hsel i oi cs b hi) (fun cs b => hsel j oj cs b hoj) hQ hy h1
      have hfree' : ∀ k ok, ops[k]? = some ok → k ≠ i → (listed.setIfInBounds j true).getD k true = false →
          (∀ e ∈ ok.after, Region.binds .any e = true → e.on ≠ i) → oi.apart ops ok = true := fun k ok hk hki hun hno => by
        refine hfree k ok hk hki ?_ hno
        by_cases hjk : j = k
        · subst hjk; exact hjun
        · rw [getD_set_ne true hjk] at hun; exact hun
      refine wpOp_mono (fun a' w' h3 => ?_) h2
      have hS' : S w' := h3.2.1.resolve_left hjz hS
      refine ⟨h3.2.1, ih (listed.setIfInBounds j true) a' w' (hcl.step hj) hfree' (ready_mono hr (Ne.symm hji)) h3.1 hS' ?_⟩
      rw [Array.setIfInBounds_comm _ _ hji]
      exact h3.2.2
theorem Ly.firstP {S : World → Prop} {i : Nat} {oi : Oper} {v : Value} (hi : ops[i]? = some oi) (hsel : ∀ (j : Nat) (o : Oper) cs b, ops[j]? = some o → o.op ≠ .select cs b)
    (hQ : ∀ c a w, Q (.panic c) (a.put oi.dst v) w → Q (.panic c) a w) :
    ∀ (fuel : Nat) (listed : Array Bool) (a : Act) (w : World),
      (∀ j oj, ops[j]? = some oj → j ≠ i → listed.getD j true = false → (∀ e ∈ oj.after, Region.binds .any e = true → e.on ≠ i) → oi.apart ops oj = true) →
      i ∈ Region.ready .any ops listed → YieldsIf P ops (fun _ => True) oi v a →
      Ly P ops Q zs S fuel (listed.setIfInBounds i true) (a.put oi.dst v) w → Ly P ops Q zs S (fuel + 1) listed a w := by
  intro fuel
  induction fuel with
  | zero =>
    intro listed a w _ hr hy H
    refine ⟨fun h => (by rw [h] at hr; cases hr), fun j hj => ?_⟩
    by_cases hji : j = i
    · subst hji; exact hy.wpOp hi trivial ⟨.inr id, H⟩
    · have := ready_mono hj hji
      rw [H.1] at this
      cases this
  | succ fuel ih =>
    intro listed a w hfree hr hy H
    refine ⟨fun h => (by rw [h] at hr; cases hr), fun j hj => ?_⟩
    by_cases hji : j = i
    · subst hji; exact hy.wpOp hi trivial ⟨.inr id, H⟩
    · have h1 := H.2 j (ready_mono hj hji)
      obtain ⟨hjun, oj, hoj, hall⟩ := mem_ready.1 hj
      have nol : listed.getD i false = true → False := fun h1 => by
        have h0 := (mem_ready.1 hr).1
        rcases Nat.lt_or_ge i listed.size with h' | h'
        · simp [h'] at h0 h1; rw [h0] at h1; cases h1
        · simp [Array.getElem?_eq_none h'] at h1
      have hnot : ∀ e ∈ oj.after, Region.binds .any e = true → e.on ≠ i := fun e he hb heq => by
        have h1 := hall e he hb
        rw [heq] at h1
        exact nol h1
      have h2 := wpOp_putIf hoj (hfree j oj hoj hji hjun hnot) (fun cs b => hsel i oi cs b hi) (fun cs b => hsel j oj cs b hoj) hQ hy h1
      have hfree' : ∀ k ok, ops[k]? = some ok → k ≠ i → (listed.setIfInBounds j true).getD k true = false →
          (∀ e ∈ ok.after, Region.binds .any e = true → e.on ≠ i) → oi.apart ops ok = true := fun k ok hk hki hun hno => by
        refine hfree k ok hk hki ?_ hno
        by_cases hjk : j = k
        · subst hjk; exact hjun
        · rw [getD_set_ne true hjk] at hun; exact hun
      refine wpOp_mono (fun a' w' h3 => ?_) h2
      refine ⟨h3.2.1, ih (listed.setIfInBounds j true) a' w' hfree' (ready_mono hr (Ne.symm hji)) h3.1 ?_⟩
      rw [Array.setIfInBounds_comm _ _ hji]
      exact h3.2.2
theorem ly_start (n : Nat) (zs : List Nat) (S : World → Prop) {id : Nat} {a : Act} {w : World} (hn : ops.size = n) (hm : P.follows .mixedOrders = true) (h : Ly P ops Q zs S n (Array.replicate n false) a w.drew) : (Code.region id ops true).wp P Q a w := by
  subst hn
  exact wp_region_any hm (Ly.any _ _ _ _ h)
theorem ly_done {S : World → Prop} {fuel : Nat} {listed : Array Bool} {a : Act} {w : World} (hr : Region.ready .any ops listed = []) (h : Q .normal a w) : Ly P ops Q zs S fuel listed a w := by
  cases fuel with
  | zero => exact ⟨hr, h⟩
  | succ n => exact ⟨fun _ => h, by rw [hr]; simp⟩
theorem ly_take (i t : Nat) {S : World → Prop} {oi : Oper} {v : Value} {fuel : Nat} {listed : Array Bool} {a : Act} {w : World} (hi : ops[i]? = some oi) (hd : oi.dst = some t)
    (hs : Region.noSelect ops = true) (hf : Region.free .any ops listed i = true) (hr : (Region.ready .any ops listed).contains i = true) (hz : zs.all (fun z => reachB ops 9 z i) = true) (hc : closedB ops listed = true)
    (hQ : ∀ c t u a w, Q (.panic c) (Act.put a (some t) u) w → Q (.panic c) a w) (hw : Region.wanted oi (yielded ops a.tmps) = true) (hS : S w)
    (hy : ∀ W, S W → (execOp a.eval oi).run P W = .ok (.value v) W)
    (h : Ly P ops Q zs S fuel (listed.setIfInBounds i true) (a.put (some t) v) w) : Ly P ops Q zs S (fuel + 1) listed a w :=
  Ly.firstR 9 hi (Region.noSelect_spec hs) hz (lz_back hQ) fuel listed a w (closed_of hc) (Region.free_spec hi hf) (by simpa using hr) (Or.inl ⟨hw, hy⟩) hS (by rw [hd]; exact h)
/-- Number i reads nothing: it yields v in every world. -/
theorem ly_pure (i t : Nat) {S : World → Prop} {oi : Oper} {v : Value} {fuel : Nat} {listed : Array Bool} {a : Act} {w : World} (hi : ops[i]? = some oi) (hd : oi.dst = some t)
    (hs : Region.noSelect ops = true) (hf : Region.free .any ops listed i = true) (hr : (Region.ready .any ops listed).contains i = true)
    (hQ : ∀ c t u a w, Q (.panic c) (Act.put a (some t) u) w → Q (.panic c) a w) (hw : Region.wanted oi (yielded ops a.tmps) = true)
    (hy : ∀ W, True → (execOp a.eval oi).run P W = .ok (.value v) W)
    (h : Ly P ops Q zs S fuel (listed.setIfInBounds i true) (a.put (some t) v) w) : Ly P ops Q zs S (fuel + 1) listed a w :=
  Ly.firstP hi (Region.noSelect_spec hs) (lz_back hQ) fuel listed a w (Region.free_spec hi hf) (by simpa using hr) (Or.inl ⟨hw, hy⟩) (by rw [hd]; exact h)
/-- What number i does; S holds behind it. -/
def Doy (P : Program) (ops : Array Oper) (Q : Exit → Act → World → Prop) (zs : List Nat) (S : World → Prop) (i : Nat) (o : Oper) (fuel : Nat) (listed : Array Bool) (a : Act) (w : World) : Prop :=
  ∀ K : Act → World → Prop, Shut (∀ a' w', (S w → S w') → Ly P ops Q zs S fuel (listed.setIfInBounds i true) a' w' → K a' w') → Oper.wp P o a w K Q
theorem doy_op {S : World → Prop} {i : Nat} {o : Oper} {fuel : Nat} {listed : Array Bool} {a : Act} {w : World} (ho : ops[i]? = some o) (hg : o.guard = none) (h : Doy P ops Q zs S i o fuel listed a w) :
    wpOp P ops Q i (fun a' w' => (i ∈ zs ∨ (S w → S w')) ∧ Ly P ops Q zs S fuel (listed.setIfInBounds i true) a' w') a w :=
  wpOp_step ho (fun K hK => by rw [if_pos (by simp [Region.wanted, hg])]; exact h K (fun a' w' hb hl => hK a' w' ⟨.inr hb, hl⟩))
theorem ly_one (i : Nat) {S : World → Prop} {o : Oper} {fuel : Nat} {listed : Array Bool} {a : Act} {w : World} (ho : ops[i]? = some o) (hg : o.guard = none) (hr : Region.ready .any ops listed = [i])
    (h : Doy P ops Q zs S i o fuel listed a w) : Ly P ops Q zs S (fuel + 1) listed a w := by
  refine ⟨fun h0 => (by rw [hr] at h0; cases h0), fun j hj => ?_⟩
  obtain rfl : j = i := by rw [hr] at hj; simpa using hj
  exact doy_op ho hg h
theorem ly_two (i j : Nat) {S : World → Prop} {oi oj : Oper} {fuel : Nat} {listed : Array Bool} {a : Act} {w : World} (ho : ops[i]? = some oi) (ho2 : ops[j]? = some oj) (hg : oi.guard = none) (hg2 : oj.guard = none) (hr : Region.ready .any ops listed = [i, j])
    (h : Doy P ops Q zs S i oi fuel listed a w) (h2 : Doy P ops Q zs S j oj fuel listed a w) : Ly P ops Q zs S (fuel + 1) listed a w := by
  refine ⟨fun h0 => (by rw [hr] at h0; cases h0), fun k hk => ?_⟩
  rw [hr] at hk
  rcases List.mem_cons.1 hk with rfl | hk
  · exact doy_op ho hg h
  · obtain rfl := List.mem_singleton.1 hk
    exact doy_op ho2 hg2 h2
/-- One that writes: S need not hold behind it. -/
theorem ly_free (i : Nat) {S : World → Prop} {o : Oper} {fuel : Nat} {listed : Array Bool} {a : Act} {w : World} (ho : ops[i]? = some o) (hg : o.guard = none) (hr : Region.ready .any ops listed = [i]) (hz : i ∈ zs)
    (h : ∀ K : Act → World → Prop, Shut (∀ a' w', Ly P ops Q zs S fuel (listed.setIfInBounds i true) a' w' → K a' w') → Oper.wp P o a w K Q) : Ly P ops Q zs S (fuel + 1) listed a w := by
  refine ⟨fun h0 => (by rw [hr] at h0; cases h0), fun j hj => ?_⟩
  obtain rfl : j = i := by rw [hr] at hj; simpa using hj
  exact wpOp_step ho (fun K hK => by rw [if_pos (by simp [Region.wanted, hg])]; exact h K (fun a' w' hl => hK a' w' ⟨.inl hz, hl⟩))
end
end Go.Proofs.Ytceoelemlokelaa
