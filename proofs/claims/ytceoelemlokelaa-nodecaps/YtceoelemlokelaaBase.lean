/- What the walks of this seat share: the program's closed facts, the laws of math/bits.Add64 and Sub64, and small words on worlds. -/
import Derived.Test.YtceoelemlokelaaRows
import Derived.Test.YtceoelemlokelaaMath
import Derived.WalkKit
import Derived.ProofKit
import Derived.OpenShut
import Derived.Lib.Hide
import Derived.Lib.SmallJoins
import Derived.Deep.RegionHeld3
import Derived.Deep.QuietTactic
import Derived.BigQuiet
import Derived.Lib.QuietBelow
namespace Go.Proofs.Ytceoelemlokelaa
open Go.RowKit
open W (hi lo addN addB subN subB cmpN dig MM)

theorem Try.own : ownKnob Try.prog.godebug = none := by kernel_rfl
theorem Try.laidOut : laidOutB Try.prog = true := by kernel_rfl
theorem Try.info3 : (Try.prog.info? 3).map (fun i => (i.zero, i.size, i.bytes)) = some (some (.int .i64 0), 1, 8) := by kernel_rfl

/-- What was there is as it was. -/
theorem oldc {u v : World} (h : Below u.heap.size u v) (b o : Nat) (hb : b < u.heap.size) : v.cell? ⟨b, o, none⟩ = u.cell? ⟨b, o, none⟩ := h.cell hb
theorem oldf {u v : World} (h : Below u.heap.size u v) (b o : Nat) (hb : b < u.heap.size) : v.frozen? ⟨b, o, none⟩ = u.frozen? ⟨b, o, none⟩ := h.frozen hb
theorem bal {W w : World} (h : Below W.heap.size W w) (o : Obj) : Below W.heap.size W (w.alloc o) := h.alloc h.size o
theorem btr {W w w1 : World} (h : Below W.heap.size W w) (k : Below w.heap.size w w1) : Below W.heap.size W w1 := h.trans (k.mono h.size)
theorem bdn {B : Nat} {a w : World} (h : Below B a w) (n : Nat) : Below B a (w.drewN n) := ⟨h.os, h.tape, h.output, h.size, h.block⟩

/-- The second row of the model's table for math/bits: Sub64. -/
theorem run_subRow {P : Program} (x y b : Nat) (hb : b ≤ 1) (w : World) :
    ((Extern.MathBitsCarry.rows[1]'(by decide)).2 #[.int .u64 x, .int .u64 y, .int .u64 b]).run P w =
      .ok (.tuple #[.int .u64 (((x + 18446744073709551616 - y - b) % 18446744073709551616 : Nat) : Int), .int .u64 ((if x < y + b then 1 else 0 : Nat) : Int)]) w := by
  have : b = 0 ∨ b = 1 := by omega
  rcases this with rfl | rfl <;> rfl

theorem kept {v w1 : World} {p : Addr} {x : Value} (h : v.cell? p = some x) (hb : Below v.heap.size v w1) : w1.cell? p = some x := by
  rw [hb.cell (World.block_lt_of_cell? v p h)]; exact h
theorem keptf {v w1 : World} {p : Addr} {x : Value} (h : v.cell? p = some x) (hf : v.frozen? p = false) (hb : Below v.heap.size v w1) : w1.frozen? p = false := by
  rw [hb.frozen (World.block_lt_of_cell? v p h)]; exact hf
theorem cfar {w : World} {b c o p : Nat} {x v : Value} (hc : c ≠ b) (h : w.cell? ⟨b, o, none⟩ = some v) : (w.setCell ⟨c, p, none⟩ x).cell? ⟨b, o, none⟩ = some v := by
  rw [World.cell?_setCell_other _ _ _ _ (by intro h; cases h; exact hc rfl)]; exact h
/-- A pair of cells behind a store of both. -/
theorem two_set {w : World} {b : Nat} {x0 x1 u0 u1 : Value} (h0 : w.cell? ⟨b, 0, none⟩ = some u0) (h1 : w.cell? ⟨b, 1, none⟩ = some u1) :
    ((w.setCell ⟨b, 0, none⟩ x0).setCell ⟨b, 1, none⟩ x1).cell? ⟨b, 0, none⟩ = some x0 ∧ ((w.setCell ⟨b, 0, none⟩ x0).setCell ⟨b, 1, none⟩ x1).cell? ⟨b, 1, none⟩ = some x1 :=
  ⟨(World.cell?_setCell_other _ _ _ _ (by simp)).trans (World.cell?_setCell_same _ _ _ h0), World.cell?_setCell_same _ _ _ ((World.cell?_setCell_other _ _ _ _ (by simp)).trans h1)⟩
theorem alc {w : World} {p : Addr} {x : Value} (h : w.cell? p = some x) (o : Obj) : (w.alloc o).cell? p = some x := kept h (bal (Below.refl _ _) o)
theorem alf {w : World} {p : Addr} {x : Value} (h : w.cell? p = some x) (hf : w.frozen? p = false) (o : Obj) : (w.alloc o).frozen? p = false := keptf h hf (bal (Below.refl _ _) o)
theorem alb {w : World} (o : Obj) : Below w.heap.size w (w.alloc o) := bal (Below.refl _ _) o
theorem fzs {w : World} {p q : Addr} {v : Value} (h : w.frozen? q = false) : (w.setCell p v).frozen? q = false := by rw [World.frozen?_setCell]; exact h
/-- A pair that was laid ahead of a call is there behind it. -/
theorem fresh_pair {v w1 : World} {x y : Value} {t : TypeId} (hb : Below (v.alloc (.cells #[x, y] t)).drew.heap.size (v.alloc (.cells #[x, y] t)).drew w1) :
    w1.cell? ⟨v.heap.size, 0, none⟩ = some x ∧ w1.cell? ⟨v.heap.size, 1, none⟩ = some y ∧ w1.frozen? ⟨v.heap.size, 0, none⟩ = false ∧ w1.frozen? ⟨v.heap.size, 1, none⟩ = false := by
  have h0 : (v.alloc (.cells #[x, y] t)).drew.cell? ⟨v.heap.size, 0, none⟩ = some x := by simp [go_sem]
  have h1 : (v.alloc (.cells #[x, y] t)).drew.cell? ⟨v.heap.size, 1, none⟩ = some y := by simp [go_sem]
  exact ⟨kept h0 hb, kept h1 hb, keptf h0 (by simp [go_sem]) hb, keptf h1 (by simp [go_sem]) hb⟩

/-! A row of sixteen numbers of the call's own. -/
def Row (w : World) (b : Nat) (f : Nat → Int) : Prop := ∀ j, j < 16 → w.cell? ⟨b, j, none⟩ = some (.int .i64 (f j)) ∧ w.frozen? ⟨b, j, none⟩ = false
theorem Row.lt {w : World} {b : Nat} {f : Nat → Int} (h : Row w b f) : b < w.heap.size := World.block_lt_of_cell? w ⟨b, 0, none⟩ (h 0 (by omega)).1
theorem Row.congr {w : World} {b : Nat} {f g : Nat → Int} (h : Row w b f) (hg : ∀ j, j < 16 → f j = g j) : Row w b g := fun j hj => by rw [← hg j hj]; exact h j hj
theorem Row.set {w : World} {b : Nat} {f : Nat → Int} (h : Row w b f) (p : Nat) (v : Int) : Row (w.setCell ⟨b, p, none⟩ (.int .i64 v)) b (fun j => if j = p then v else f j) := fun j hj => by
  refine ⟨?_, by rw [World.frozen?_setCell]; exact (h j hj).2⟩
  by_cases e : j = p
  · subst e
    simp only [if_true]
    exact World.cell?_setCell_same _ _ _ (h j hj).1
  · simp only [e, if_false]
    rw [World.cell?_setCell_other _ _ _ _ (by intro h; cases h; exact e rfl)]
    exact (h j hj).1
theorem Row.drew {w : World} {b : Nat} {f : Nat → Int} (h : Row w b f) : Row w.drew b f := h
theorem Row.drewN {w : World} {b : Nat} {f : Nat → Int} (h : Row w b f) (n : Nat) : Row (w.drewN n) b f := h
theorem Row.below {w w1 : World} {b : Nat} {f : Nat → Int} (h : Row w b f) (hb : Below w.heap.size w w1) : Row w1 b f := fun j hj =>
  ⟨by rw [hb.cell (p := ⟨b, j, none⟩) h.lt]; exact (h j hj).1, by rw [hb.frozen (p := ⟨b, j, none⟩) h.lt]; exact (h j hj).2⟩
theorem Row.alloc {w : World} {b : Nat} {f : Nat → Int} (h : Row w b f) (o : Obj) : Row (w.alloc o) b f := h.below (bal (Below.refl _ _) o)
theorem Row.far {w : World} {b : Nat} {f : Nat → Int} (h : Row w b f) (c : Nat) (hc : c ≠ b) (p : Nat) (v : Value) : Row (w.setCell ⟨c, p, none⟩ v) b f := fun j hj => by
  refine ⟨?_, by rw [World.frozen?_setCell]; exact (h j hj).2⟩
  rw [World.cell?_setCell_other _ _ _ _ (by intro h; cases h; exact hc rfl)]
  exact (h j hj).1
/-- Sixteen noughts, behind a name. -/
def nought : Array Value := Array.replicate 16 (.int .i64 0)
theorem Row.made (w : World) : Row (w.alloc (.cells nought 3)) w.heap.size (fun _ => 0) := fun j hj => by
  refine ⟨?_, ?_⟩
  · rw [World.cell?_alloc_at _ _ _ _ rfl]
    have : j = 0 ∨ j = 1 ∨ j = 2 ∨ j = 3 ∨ j = 4 ∨ j = 5 ∨ j = 6 ∨ j = 7 ∨ j = 8 ∨ j = 9 ∨ j = 10 ∨ j = 11 ∨ j = 12 ∨ j = 13 ∨ j = 14 ∨ j = 15 := by omega
    rcases this with rfl | rfl | rfl | rfl | rfl | rfl | rfl | rfl | rfl | rfl | rfl | rfl | rfl | rfl | rfl | rfl <;> rfl
  · simp
end Go.Proofs.Ytceoelemlokelaa
