/- A region that draws its order, whose operations read and whose calls lay blocks, walked in one row: what reads is taken first, a call when nothing else may come up; behind each call all that was there stays. -/
import Derived.Test.YtceoelemlokelaaBase
import Derived.Deep.RegionHeld3
import Derived.Deep.DeepCutAuto
namespace Go.Proofs.Ytceoelemlokelaa
open Go.RowKit

section
variable {P : Program} {ops : Array Oper} {Q : Exit → Act → World → Prop}

/-- Less is asked of the worlds that are passed. -/
theorem held_mono {md : Region.Mode} {S T : World → Prop} (h : ∀ w, T w → S w) : ∀ (fuel : Nat) (listed : Array Bool) (a : Act) (w : World), wpAnyH P md ops Q T fuel listed a w → wpAnyH P md ops Q S fuel listed a w
  | 0, _, _, _, k => k
  | fuel + 1, _, _, _, k => ⟨k.1, fun i hi => wpOp_mono (fun a' w' q => ⟨h w' q.1, held_mono h fuel _ a' w' q.2⟩) (k.2 i hi)⟩
/-- From the world w on, whatever order is picked: what is there in w stays. -/
def Lin (P : Program) (ops : Array Oper) (Q : Exit → Act → World → Prop) (fuel : Nat) (listed : Array Bool) (a : Act) (w : World) : Prop :=
  wpAnyH P .any ops Q (fun w' => Below w.heap.size w w') fuel listed a w
theorem lin_start (n : Nat) {id : Nat} {a : Act} {w : World} (hn : ops.size = n) (hm : P.follows .mixedOrders = true) (h : Lin P ops Q n (Array.replicate n false) a w.drew) : (Code.region id ops true).wp P Q a w := by
  subst hn
  exact wp_region_held hm h
theorem lin_done {fuel : Nat} {listed : Array Bool} {a : Act} {w : World} (hr : Region.ready .any ops listed = []) (h : Q .normal a w) : Lin P ops Q fuel listed a w :=
  wpAnyH_done hr h fuel
theorem put_back (hQ : ∀ c t u a w, Q (.panic c) (Act.put a (some t) u) w → Q (.panic c) a w) {d : Option Tmp} {v : Value} : ∀ c a w, Q (.panic c) (Act.put a d v) w → Q (.panic c) a w := by
  intro c a w h
  cases d with
  | none => exact h
  | some t => exact hQ c t v a w h
/-- Number i reads: it yields v in every world in which what is there now is there. -/
theorem lin_take (i t : Nat) {oi : Oper} {v : Value} {fuel : Nat} {listed : Array Bool} {a : Act} {w : World} (hi : ops[i]? = some oi) (hd : oi.dst = some t)
    (hs : Region.noSelect ops = true) (hf : Region.free .any ops listed i = true) (hr : (Region.ready .any ops listed).contains i = true)
    (hQ : ∀ c t u a w, Q (.panic c) (Act.put a (some t) u) w → Q (.panic c) a w) (hw : Region.wanted oi (yielded ops a.tmps) = true)
    (hy : ∀ W, Below w.heap.size w W → (execOp a.eval oi).run P W = .ok (.value v) W)
    (h : Lin P ops Q fuel (listed.setIfInBounds i true) (a.put (some t) v) w) : Lin P ops Q (fuel + 1) listed a w :=
  wpAnyH_take hi hs hf hr (put_back hQ) (Or.inl ⟨hw, hy⟩) (Below.refl _ _) (by rw [hd]; exact h)
/-- Number i is guarded, and its guard says no. -/
theorem lin_skip (i t : Nat) {oi : Oper} {fuel : Nat} {listed : Array Bool} {a : Act} {w : World} (hi : ops[i]? = some oi) (hd : oi.dst = some t)
    (hs : Region.noSelect ops = true) (hf : Region.free .any ops listed i = true) (hr : (Region.ready .any ops listed).contains i = true)
    (hQ : ∀ c t u a w, Q (.panic c) (Act.put a (some t) u) w → Q (.panic c) a w) (hw : Region.wanted oi (yielded ops a.tmps) = false)
    (h : Lin P ops Q fuel (listed.setIfInBounds i true) (a.put (some t) undef) w) : Lin P ops Q (fuel + 1) listed a w :=
  wpAnyH_take hi hs hf hr (put_back hQ) (Or.inr ⟨hw, rfl⟩) (Below.refl _ _) (by rw [hd]; exact h)
/-- Number i alone may come up: it is carried out, and lays no hand on what is there. -/
theorem lin_step (i : Nat) {o : Oper} {fuel : Nat} {listed : Array Bool} {a : Act} {w : World} (ho : ops[i]? = some o) (hr : Region.ready .any ops listed = [i])
    (h : ∀ K : Act → World → Prop, Shut (∀ a' w', Below w.heap.size w w' → Lin P ops Q fuel (listed.setIfInBounds i true) a' w' → K a' w') → if Region.wanted o (yielded ops a.tmps) = true then Oper.wp P o a w K Q else K (a.put o.dst undef) w) :
    Lin P ops Q (fuel + 1) listed a w := by
  refine wpAnyH_all hr (by simp) (fun j hj => ?_)
  obtain rfl : j = i := by simpa using hj
  exact wpOp_step ho (fun K hK => h K (fun a' w' hb hl => hK a' w' ⟨hb, held_mono (fun u hu => btr hb hu) _ _ _ _ hl⟩))
end
end Go.Proofs.Ytceoelemlokelaa
