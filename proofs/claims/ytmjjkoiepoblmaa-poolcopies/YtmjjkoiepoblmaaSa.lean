/- The library's sort at uint32: rows of numbers in memory; which of two is less; what a swap does. -/
import Derived.Test.YtmjjkoiepoblmaaKq
import Derived.Sort.Row
import Derived.Sort.AssemblyPlain
import Derived.Sort.WalkB2
import Derived.BigQuiet
import Derived.CellFam
import Derived.BigCall
import Derived.BigGuard
import Derived.BigRegion
import Derived.WalkKit
import Derived.Deep.LoopGhost
namespace Go.Proofs.Ytmjjkoiepoblmaa
open Go.RowKit Go.Sort

/-- A number as the row has it. -/
abbrev eU : Int → Value := fun x => Value.int .u32 x

/-- Behind a world w: the row at block b, from place o on, holds d; of what was there nothing else has turned. -/
structure Rw (w : World) (b o : Nat) (d : Array Int) (w' : World) : Prop where
  holds : Holds eU w' b o d
  keep : Keep (fun k => k = b) w w'
  shape : ∀ cur e fr, w.heap[b]? = some (.cells cur e fr) → ∃ cur' : Array Value, w'.heap[b]? = some (.cells cur' e fr) ∧ cur'.size = cur.size
theorem shape_set {w : World} {b o : Nat} {u : Value} {cur : Array Value} {e : TypeId} {fr : Nat × Nat} (h : w.heap[b]? = some (.cells cur e fr)) : ∃ cur' : Array Value, (w.setCell ⟨b, o, none⟩ u).heap[b]? = some (.cells cur' e fr) ∧ cur'.size = cur.size := by
  refine ⟨cur.setIfInBounds o u, ?_, by simp⟩
  simp [World.setCell, Array.getElem?_modify, h]
theorem Rw.self {w : World} {b o : Nat} {d : Array Int} (h : Holds eU w b o d) : Rw w b o d w := ⟨h, Keep.refl _ _, fun cur _ _ q => ⟨cur, q, rfl⟩⟩
theorem Rw.drewN {w w' : World} {b o : Nat} {d : Array Int} (h : Rw w b o d w') (n : Nat) : Rw w b o d (w'.drewN n) := ⟨h.holds, ⟨h.keep.os, h.keep.tape, h.keep.output, h.keep.size, h.keep.block⟩, h.shape⟩
theorem Rw.drew {w w' : World} {b o : Nat} {d : Array Int} (h : Rw w b o d w') : Rw w b o d w'.drew := ⟨h.holds, h.keep.drew, h.shape⟩
theorem Rw.trans {w w1 w2 : World} {b o : Nat} {d d' : Array Int} (h : Rw w b o d w1) (k : Rw w1 b o d' w2) : Rw w b o d' w2 := ⟨k.holds, h.keep.trans k.keep (fun _ e => .inl e), fun cur e fr q => by
  obtain ⟨c1, q1, s1⟩ := h.shape cur e fr q
  obtain ⟨c2, q2, s2⟩ := k.shape c1 e fr q1
  exact ⟨c2, q2, s2.trans s1⟩⟩
theorem Rw.swap {w w' : World} {b o : Nat} {d : Array Int} (h : Rw w b o d w') {i j : Nat} (hi : i < d.size) (hj : j < d.size) {x y : Value} (hx : x = eU d[j]!) (hy : y = eU d[i]!) :
    Rw w b o (swp d i j) ((w'.setCell ⟨b, o + i, none⟩ x).setCell ⟨b, o + j, none⟩ y).drew := by
  subst hx
  subst hy
  refine ⟨?_, ((h.keep.setCell (.inl rfl) _).setCell (.inl rfl) _).drew, fun cur e fr q => by
    obtain ⟨c1, q1, s1⟩ := h.shape cur e fr q
    obtain ⟨c2, q2, s2⟩ := shape_set (o := o + i) (u := eU d[j]!) q1
    obtain ⟨c3, q3, s3⟩ := shape_set (o := o + j) (u := eU d[i]!) q2
    exact ⟨c3, q3, (s3.trans s2).trans s1⟩⟩
  have e : (w'.setCell ⟨b, o + i, none⟩ (eU d[j]!)).setCell ⟨b, o + j, none⟩ (eU d[i]!) = putRow eU w' b o (swp d i j) := by
    have := putRow_swp eU w' b o d i j hi hj
    rwa [putRow_self eU w' b o d h.holds] at this
  rw [e]
  exact holds_putRow eU w' b o d (swp d i j) h.holds (size_swp d i j)
theorem Rw.cells {w w' : World} {b o : Nat} {d : Array Int} (h : Rw w b o d w') {n : Nat} (hn : d.size = n) : ∀ t, t < n → w'.cell? ⟨b, o + t, none⟩ = some (.int .u32 d[t]!) := fun t ht => (h.holds t (by omega)).1
theorem Rw.froz {w w' : World} {b o : Nat} {d : Array Int} (h : Rw w b o d w') {n : Nat} (hn : d.size = n) : ∀ t, t < n → w'.frozen? ⟨b, o + t, none⟩ = false := fun t ht => (h.holds t (by omega)).2
/-- The row's numbers under a name of their own. -/
theorem Rw.fams {w w' : World} {b o : Nat} {d : Array Int} (h : Rw w b o d w') {n : Nat} (hn : d.size = n) : ∃ G : Nat → Int, Hid (∀ t, G t = d[t]!) ∧ (∀ t, t < n → w'.cell? ⟨b, o + t, none⟩ = some (.int .u32 (G t))) ∧ (∀ t, t < n → w'.frozen? ⟨b, o + t, none⟩ = false) :=
  ⟨fun t => d[t]!, fun _ => rfl, h.cells hn, h.froz hn⟩
theorem Rw.there {w w' : World} {b o : Nat} {d : Array Int} (h : Rw w b o d w') : Holds eU w' b o d := h.holds
/-- Blocks that a call laid for itself change nothing of the row. -/
theorem Rw.below {w w1 w2 : World} {b o : Nat} {d : Array Int} (h : Rw w b o d w1) (k : Below w1.heap.size w1 w2) : Rw w b o d w2 :=
  ⟨fun j hj => by
    obtain ⟨h1, h2⟩ := h.holds j hj
    have hb : b < w1.heap.size := World.block_lt_of_cell? w1 _ h1
    exact ⟨(World.cell?_of_block (w := w1) (a := ⟨b, o + j, none⟩) (k.block b hb)).trans h1, (World.frozen?_of_block (w := w1) (a := ⟨b, o + j, none⟩) (k.block b hb)).trans h2⟩, h.keep.step k, fun cur e fr q => by
    obtain ⟨c1, q1, s1⟩ := h.shape cur e fr q
    exact ⟨c1, (k.block b (Array.getElem?_eq_some_iff.1 q1).1).trans q1, s1⟩⟩

theorem isnan (x : Int) (w : World) : Calls Try.prog 45 #[.int .u32 x] w fun e w' => e = .returned (.bool false) ∧ w' = w := by
  go_enter Try.func45, Try.ntmps45
  go_wp2
  go_ret
  exact ⟨by simp, rfl⟩
theorem less_any (x y : Int) (w : World) : Calls Try.prog 35 #[.int .u32 x, .int .u32 y] w fun e w' => e = .returned (.bool (ltInt x y)) ∧ w' = w := by
  go_enter Try.func35, Try.ntmps35
  go_wp2_with (go_at_call 45; refine (isnan _ _).mono ?_; rintro e w' ⟨rfl, rfl⟩)
  go_ret
  exact ⟨rfl, rfl⟩
/-- Numbers as they stand: an order. -/
theorem swo : SWO ltInt := ⟨fun x => by simp [ltInt], fun x y z h1 h2 => by simp [ltInt] at *; omega, fun x y z h1 h2 => by simp [ltInt] at *; omega⟩
end Go.Proofs.Ytmjjkoiepoblmaa
