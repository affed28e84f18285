/- The library's sort at uint32: where to part. Only that it is a place of the part counts. -/
import Derived.Test.YtmjjkoiepoblmaaSa
namespace Go.Proofs.Ytmjjkoiepoblmaa
open Go.RowKit Go.Sort

theorem holds_keep {F : Nat → Prop} {w w' : World} {b o : Nat} {d : Array Int} (h : Holds eU w b o d) (k : Keep F w w') (hf : ¬ F b) : Holds eU w' b o d := fun j hj =>
  ⟨k.cell (h j hj).1 hf, (k.frozen (h j hj).1 hf).trans (h j hj).2⟩
/-- A counter of the call's own, at block s, has gone on; nothing else has. -/
structure Sw (s : Nat) (w w' : World) : Prop where
  keep : Keep (fun k => k = s) w w'
  cell : ∃ z, w'.cell? ⟨s, 0, none⟩ = some (.int .i64 z)
  fz : w'.frozen? ⟨s, 0, none⟩ = false
theorem Sw.trans {s : Nat} {a c e : World} (h : Sw s a c) (k : Sw s c e) : Sw s a e := ⟨h.keep.trans k.keep (fun _ q => .inl q), k.cell, k.fz⟩
theorem Sw.drewN {s : Nat} {a c : World} (h : Sw s a c) (n : Nat) : Sw s a (c.drewN n) := ⟨⟨h.keep.os, h.keep.tape, h.keep.output, h.keep.size, h.keep.block⟩, h.cell, h.fz⟩
theorem Sw.set {s : Nat} {a c : World} (h : Sw s a c) (z : Int) : Sw s a (c.setCell ⟨s, 0, none⟩ (.int .i64 z)) :=
  ⟨h.keep.setCell (.inl rfl) _, ⟨z, World.cell?_setCell_same _ _ _ h.cell.choose_spec⟩, by rw [World.frozen?_setCell]; exact h.fz⟩

set_option maxHeartbeats 1600000 in
set_option maxRecDepth 1000000 in
theorem order_any (b o cap : Nat) (d : Array Int) (x y s : Nat) (w : World) (hH : Holds eU w b o d) (hx : x < d.size) (hy : y < d.size) (hs : Sw s w w) :
    Calls Try.prog 46 #[.slice (some ⟨b, o, none⟩) d.size cap, .int .i64 x, .int .i64 y, .pointer (some ⟨s, 0, none⟩)] w fun e w' =>
      ∃ x' y' : Nat, e = .returned (.tuple #[.int .i64 x', .int .i64 y']) ∧ (∀ p : Nat → Prop, p x → p y → p x' ∧ p y') ∧ Sw s w w' := by
  obtain ⟨G, HG, hcw, hfw⟩ := (Rw.self hH).fams rfl
  obtain ⟨z, c0⟩ := hs.cell
  have f0 := hs.fz
  have A := Lib.hid hs
  clear hs hH HG
  go_enter Try.func46, Try.ntmps46
  go_wp2_with fail
  go_quiet (first | (go_at_call 35; refine Calls.quiet_of_same (less_any _ _ _)))
  have c1 : (w.drewN nq).cell? ⟨s, 0, none⟩ = some (.int .i64 z) := c0
  have f1 : (w.drewN nq).frozen? ⟨s, 0, none⟩ = false := f0
  have A1 := Lib.hid (A.out.drewN nq)
  clear c0 f0 A hcw hfw
  generalize w.drewN nq = w1 at c1 f1 A1 ⊢
  go_wp2
  · go_ret2
    exact ⟨y, x, rfl, fun p hx hy => ⟨hy, hx⟩, A1.out.set _⟩
  · go_ret2
    exact ⟨x, y, rfl, fun p hx hy => ⟨hx, hy⟩, A1.out⟩

set_option maxHeartbeats 1600000 in
set_option maxRecDepth 1000000 in
theorem median_any (b o cap : Nat) (d : Array Int) (x y c s : Nat) (w : World) (hH : Holds eU w b o d) (hx : x < d.size) (hy : y < d.size) (hc : c < d.size) (hs : Sw s w w) (hne : s ≠ b) :
    Calls Try.prog 44 #[.slice (some ⟨b, o, none⟩) d.size cap, .int .i64 x, .int .i64 y, .int .i64 c, .pointer (some ⟨s, 0, none⟩)] w fun e w' =>
      ∃ r : Nat, e = .returned (.int .i64 r) ∧ (∀ p : Nat → Prop, p x → p y → p c → p r) ∧ Sw s w w' := by
  have hb : ¬ (fun k => k = s) b := fun e => hne e.symm
  go_enter Try.func44, Try.ntmps44
  go_wp2_with fail
  refine (order_any b o cap d x y s w hH hx hy hs).mono ?_
  rintro e w1 ⟨x1, y1, rfl, m1, k1⟩
  obtain ⟨bx1, by1⟩ := m1 (fun q => q < d.size) hx hy
  have h1 := holds_keep hH k1.keep hb
  go_wp2_with fail
  refine (order_any b o cap d y1 c s w1 h1 by1 hc ⟨Keep.refl _ _, k1.cell, k1.fz⟩).mono ?_
  rintro e w2 ⟨y2, c2, rfl, m2, k2⟩
  obtain ⟨by2, bc2⟩ := m2 (fun q => q < d.size) by1 hc
  have h2 := holds_keep h1 k2.keep hb
  go_wp2_with fail
  refine (order_any b o cap d x1 y2 s w2 h2 bx1 by2 ⟨Keep.refl _ _, k2.cell, k2.fz⟩).mono ?_
  rintro e w3 ⟨x3, y3, rfl, m3, k3⟩
  go_wp2
  go_ret
  exact ⟨y3, rfl, fun p px py pc => (m3 p (m1 p px py).1 (m2 p (m1 p px py).2 pc).1).2, (k1.trans k2).trans k3⟩

set_option maxHeartbeats 1600000 in
set_option maxRecDepth 1000000 in
theorem near_any (b o cap : Nat) (d : Array Int) (x s : Nat) (w : World) (hH : Holds eU w b o d) (hx : 0 < x) (hy : x + 1 < d.size) (hs : Sw s w w) (hne : s ≠ b) (hsz : d.size < 65536) :
    Calls Try.prog 43 #[.slice (some ⟨b, o, none⟩) d.size cap, .int .i64 x, .pointer (some ⟨s, 0, none⟩)] w fun e w' =>
      ∃ r : Nat, e = .returned (.int .i64 r) ∧ x ≤ r + 1 ∧ r ≤ x + 1 ∧ Sw s w w' := by
  obtain ⟨y, rfl⟩ : ∃ y, x = y + 1 := ⟨x - 1, by omega⟩
  have c := median_any b o cap d y (y + 1) (y + 2) s w hH (by omega) (by omega) (by omega) hs hne
  rw [show ((y + 1 : Nat) : Int) = (y : Int) + 1 by omega, show ((y + 2 : Nat) : Int) = (y : Int) + 1 + 1 by omega] at c
  clear hs
  go_enter Try.func43, Try.ntmps43
  go_wp2_with fail
  refine c.mono ?_
  rintro e w1 ⟨r, rfl, m, k⟩
  go_wp2
  go_ret
  exact ⟨r, rfl, m (fun r => y + 1 ≤ r + 1) (by omega) (by omega) (by omega), m (fun r => r ≤ y + 1 + 1) (by omega) (by omega) (by omega), k⟩
end Go.Proofs.Ytmjjkoiepoblmaa
