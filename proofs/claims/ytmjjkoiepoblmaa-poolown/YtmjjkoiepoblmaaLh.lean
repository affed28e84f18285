/- A region that draws its order, walked with one condition S that holds behind every operation. -/
import Derived.Test.YtmjjkoiepoblmaaLin
namespace Go.Proofs.Ytmjjkoiepoblmaa
open Go.RowKit

section
variable {P : Program} {ops : Array Oper} {Q : Exit → Act → World → Prop} {S : World → Prop}
theorem lh_start (n : Nat) (S : World → Prop) {id : Nat} {a : Act} {w : World} (hn : ops.size = n) (hm : P.follows .mixedOrders = true) (h : wpAnyH P .any ops Q S n (Array.replicate n false) a w.drew) : (Code.region id ops true).wp P Q a w := by
  subst hn
  exact wp_region_held hm h
theorem lh_done {fuel : Nat} {listed : Array Bool} {a : Act} {w : World} (hr : Region.ready .any ops listed = []) (h : Q .normal a w) : wpAnyH P .any ops Q S fuel listed a w := wpAnyH_done hr h fuel
theorem lh_take (i t : Nat) {oi : Oper} {v : Value} {fuel : Nat} {listed : Array Bool} {a : Act} {w : World} (hi : ops[i]? = some oi) (hd : oi.dst = some t)
    (hs : Region.noSelect ops = true) (hf : Region.free .any ops listed i = true) (hr : (Region.ready .any ops listed).contains i = true)
    (hQ : ∀ c t u a w, Q (.panic c) (Act.put a (some t) u) w → Q (.panic c) a w) (hw : Region.wanted oi (yielded ops a.tmps) = true) (hS : S w)
    (hy : ∀ W, S W → (execOp a.eval oi).run P W = .ok (.value v) W)
    (h : wpAnyH P .any ops Q S fuel (listed.setIfInBounds i true) (a.put (some t) v) w) : wpAnyH P .any ops Q S (fuel + 1) listed a w :=
  wpAnyH_take hi hs hf hr (put_back hQ) (Or.inl ⟨hw, hy⟩) hS (by rw [hd]; exact h)
/-- What number i does, whatever comes behind it. -/
def Does (P : Program) (ops : Array Oper) (Q : Exit → Act → World → Prop) (S : World → Prop) (i : Nat) (o : Oper) (fuel : Nat) (listed : Array Bool) (a : Act) (w : World) : Prop :=
  ∀ K : Act → World → Prop, Shut (∀ a' w', S w' → wpAnyH P .any ops Q S fuel (listed.setIfInBounds i true) a' w' → K a' w') → Oper.wp P o a w K Q
theorem does_op {i : Nat} {o : Oper} {fuel : Nat} {listed : Array Bool} {a : Act} {w : World} (ho : ops[i]? = some o) (hg : o.guard = none) (h : Does P ops Q S i o fuel listed a w) :
    wpOp P ops Q i (fun a' w' => S w' ∧ wpAnyH P .any ops Q S fuel (listed.setIfInBounds i true) a' w') a w :=
  wpOp_step ho (fun K hK => by rw [if_pos (by simp [Region.wanted, hg])]; exact h K (fun a' w' hb hl => hK a' w' ⟨hb, hl⟩))
theorem lh_one (i : Nat) {o : Oper} {fuel : Nat} {listed : Array Bool} {a : Act} {w : World} (ho : ops[i]? = some o) (hg : o.guard = none) (hr : Region.ready .any ops listed = [i])
    (h : Does P ops Q S i o fuel listed a w) : wpAnyH P .any ops Q S (fuel + 1) listed a w := by
  refine wpAnyH_all hr (by simp) (fun j hj => ?_)
  obtain rfl := List.mem_singleton.1 hj
  exact does_op ho hg h
theorem lh_two (i j : Nat) {oi oj : Oper} {fuel : Nat} {listed : Array Bool} {a : Act} {w : World} (ho : ops[i]? = some oi) (ho2 : ops[j]? = some oj) (hg : oi.guard = none) (hg2 : oj.guard = none) (hr : Region.ready .any ops listed = [i, j])
    (h : Does P ops Q S i oi fuel listed a w) (h2 : Does P ops Q S j oj fuel listed a w) : wpAnyH P .any ops Q S (fuel + 1) listed a w := by
  refine wpAnyH_all hr (by simp) (fun k hk => ?_)
  rcases List.mem_cons.1 hk with rfl | hk
  · exact does_op ho hg h
  · obtain rfl := List.mem_singleton.1 hk
    exact does_op ho2 hg2 h2
theorem lh_three (i j k : Nat) {oi oj ok : Oper} {fuel : Nat} {listed : Array Bool} {a : Act} {w : World} (ho : ops[i]? = some oi) (ho2 : ops[j]? = some oj) (ho3 : ops[k]? = some ok) (hg : oi.guard = none) (hg2 : oj.guard = none) (hg3 : ok.guard = none) (hr : Region.ready .any ops listed = [i, j, k])
    (h : Does P ops Q S i oi fuel listed a w) (h2 : Does P ops Q S j oj fuel listed a w) (h3 : Does P ops Q S k ok fuel listed a w) : wpAnyH P .any ops Q S (fuel + 1) listed a w := by
  refine wpAnyH_all hr (by simp) (fun m hm => ?_)
  rcases List.mem_cons.1 hm with rfl | hm
  · exact does_op ho hg h
  · rcases List.mem_cons.1 hm with rfl | hm
    · exact does_op ho2 hg2 h2
    · obtain rfl := List.mem_singleton.1 hm
      exact does_op ho3 hg3 h3
end
end Go.Proofs.Ytmjjkoiepoblmaa
