/- A disk without a fuse, as DiskSafe has it. -/
import Derived.Test.YtcbiagdpolhbfaaPe
namespace Go.Proofs.Ytcbiagdpolhbfaa
open Go.RowKit
open D (St)

/-- It has ten blocks, is up, and never falls. -/
structure Up (s : St) : Prop where
  fuse : s.fuse = -1
  down : s.down = false
  ten : s.safe.length = 10
theorem up_new : Up (D.new 10) := ⟨rfl, rfl, by simp [D.new]⟩
theorem act_up {s : St} (h : s.fuse = -1) : D.act s = s := by
  unfold D.act
  rw [h, if_neg (by decide), if_neg (by decide)]
theorem up_write {s : St} (h : Up s) (n : Int) (b : List UInt8) : Up (D.write s n b) ∧ (D.write s n b).safe = s.safe ∧ ∀ x ∈ (D.write s n b).waits, x ∈ s.waits ∨ (0 ≤ n ∧ n < 10 ∧ x.1 = n.toNat) := by
  unfold D.write
  by_cases hb : D.bad s n b.length = 0
  · rw [if_pos hb]
    have e : D.act (D.put s n.toNat b) = D.put s n.toNat b := act_up h.fuse
    rw [e]
    have hn : 0 ≤ n ∧ n < 10 := by
      have h10 := h.ten
      unfold D.bad at hb
      rw [h.down, if_neg Bool.false_ne_true] at hb
      by_cases hq : n < 0 ∨ (s.safe.length : Int) ≤ n
      · rw [if_pos hq] at hb
        simp at hb
      · omega
    refine ⟨⟨h.fuse, h.down, h.ten⟩, rfl, fun x hx => ?_⟩
    simp only [D.put, List.mem_append, List.mem_singleton] at hx
    rcases hx with hx | rfl
    · exact .inl hx
    · exact .inr ⟨hn.1, hn.2, rfl⟩
  · rw [if_neg hb]
    exact ⟨h, rfl, fun x hx => .inl hx⟩
theorem up_sync {s : St} (h : Up s) : Up (D.sync s) ∧ D.syncE s = 0 ∧ (D.sync s).waits = [] := by
  unfold D.sync D.syncE D.ans
  rw [h.down, if_neg Bool.false_ne_true, if_neg Bool.false_ne_true, h.fuse, if_neg (by decide), if_neg (by decide), act_up h.fuse]
  exact ⟨⟨h.fuse, h.down, by simp [D.lay_length, h.ten]⟩, rfl, rfl⟩
theorem up_read {s : St} (h : Up s) (n : Nat) (hn : n < 10) : readE s n = 0 ∧ readB s n = D.look s n := by
  have h10 := h.ten
  have hq : hasB s n = true := by simp [hasB]; omega
  unfold readE readB
  rw [h.down, hq]
  simp
theorem up_crash {s : St} (h : Up s) (l : List (Int × Int)) : Up (D.crash s l) ∧ (D.crash s l).waits = [] := ⟨⟨rfl, rfl, by simp [D.crash, D.left_length, h.ten]⟩, rfl⟩
/-- What was safe, and not written since, is there. -/
theorem kept_safe {s s2 : St} (h1 : s.safe = s2.safe) (h2 : s2.waits = []) (n : Nat) (hn : ∀ x ∈ s.waits, x.1 ≠ n) (l : List (Int × Int)) : D.look (D.crash s l) n = D.look s2 n := by
  unfold D.look
  rw [h2]
  simp only [D.crash, D.lk]
  rw [D.left_other n _ _ _ hn, h1]
/-- Ten marks. -/
structure Tn (w : World) (t : Nat) (f : Nat → Bool) : Prop where
  c : ∀ i, i < 10 → w.cell? ⟨t, i, none⟩ = some (.bool (f i))
  fz : ∀ i, w.frozen? ⟨t, i, none⟩ = false
theorem Tn.keep {F : Nat → Prop} {w w1 : World} {t : Nat} {f : Nat → Bool} (h : Tn w t f) (k : Keep F w w1) (hf : ¬ F t) : Tn w1 t f :=
  ⟨fun i hi => k.cell (h.c i hi) hf, fun i => (World.frozen?_of_block (w := w) (a := ⟨t, i, none⟩) (k.block t (World.block_lt_of_cell? w _ (h.c 0 (by decide))) hf)).trans (h.fz i)⟩
theorem Tn.lt {w : World} {t : Nat} {f : Nat → Bool} (h : Tn w t f) : t < w.heap.size := World.block_lt_of_cell? w _ (h.c 0 (by decide))
theorem Tn.set {w : World} {t : Nat} {f : Nat → Bool} (h : Tn w t f) (n : Nat) : Tn (w.setCell ⟨t, n, none⟩ (.bool true)) t (fun i => if i = n then true else f i) := by
  refine ⟨fun i hi => ?_, fun i => by rw [World.frozen?_setCell]; exact h.fz i⟩
  by_cases e : i = n
  · subst e
    simp only [if_true]
    exact World.cell?_setCell_same _ _ _ (h.c i hi)
  · simp only [e, if_false]
    rw [World.cell?_setCell_other _ _ _ _ (by intro q; cases q; exact e rfl)]
    exact h.c i hi
theorem Try.zero49 : (Try.prog.info? 49).map (fun i => (i.zero, i.size)) = some (some (.agg #[.bool false, .bool false, .bool false, .bool false, .bool false, .bool false, .bool false, .bool false, .bool false, .bool false]), 10) := by kernel_rfl
theorem Tn.made (w : World) (q : Nat) (hq : q = w.heap.size) : Tn (w.alloc (.cells #[.bool false, .bool false, .bool false, .bool false, .bool false, .bool false, .bool false, .bool false, .bool false, .bool false] 49)) q (fun _ => false) := by
  subst hq
  refine ⟨fun i hi => ?_, fun i => by simp⟩
  rw [World.cell?_alloc_at _ _ _ _ rfl]
  have : i = 0 ∨ i = 1 ∨ i = 2 ∨ i = 3 ∨ i = 4 ∨ i = 5 ∨ i = 6 ∨ i = 7 ∨ i = 8 ∨ i = 9 := by omega
  rcases this with rfl | rfl | rfl | rfl | rfl | rfl | rfl | rfl | rfl | rfl <;> rfl
/-- The disk, its copy and the marks. -/
structure Sf (wr : World) (B p g : Nat) (wv : Value) (s : St) (p2 g2 : Nat) (wv2 : Value) (s2 : St) (t : Nat) (f : Nat → Bool) : Prop where
  d : Dsk wr p g wv s
  e : Dsk wr p2 g2 wv2 s2
  n : Tn wr t f
  fB : ∀ b, fp p g wv b → B ≤ b
  ap : ∀ b, fp p2 g2 wv2 b → ¬ fp p g wv b
  t1 : ¬ fp p g wv t
  t2 : ¬ fp p2 g2 wv2 t
  tB : B ≤ t
  up : Up s
  sf : s.safe = s2.safe
  wt : ∀ x ∈ s.waits, x.1 < 10 → f x.1 = true
theorem Sf.below {w w2 : World} {B p g : Nat} {wv : Value} {s : St} {p2 g2 : Nat} {wv2 : Value} {s2 : St} {t : Nat} {f : Nat → Bool} (h : Sf w B p g wv s p2 g2 wv2 s2 t f) (k : Below w.heap.size w w2) : Sf w2 B p g wv s p2 g2 wv2 s2 t f :=
  ⟨h.d.below k, h.e.below k, h.n.keep (F := fun _ => False) (Keep.of_below k) (fun h => h), h.fB, h.ap, h.t1, h.t2, h.tB, h.up, h.sf, h.wt⟩
theorem Sf.mark {w : World} {B p g : Nat} {wv : Value} {s : St} {p2 g2 : Nat} {wv2 : Value} {s2 : St} {t : Nat} {f : Nat → Bool} (h : Sf w B p g wv s p2 g2 wv2 s2 t f) (n : Nat) : Sf (w.setCell ⟨t, n, none⟩ (.bool true)) B p g wv s p2 g2 wv2 s2 t (fun i => if i = n then true else f i) :=
  ⟨h.d.keep (keep1 w t n _) (fun b q e => by have e : b = t := e; subst e; exact h.t1 q), h.e.keep (keep1 w t n _) (fun b q e => by have e : b = t := e; subst e; exact h.t2 q), h.n.set n, h.fB, h.ap, h.t1, h.t2, h.tB, h.up, h.sf, fun x hx hl => by
    show (if x.1 = n then true else f x.1) = true
    split
    · rfl
    · exact h.wt x hx hl⟩
theorem Sf.turn {w w' : World} {B p g : Nat} {wv : Value} {s s' : St} {p2 g2 : Nat} {wv2 : Value} {s2 : St} {t : Nat} {f : Nat → Bool} (h : Sf w B p g wv s p2 g2 wv2 s2 t f) (hB : B ≤ w.heap.size) (k : Turned w w' p g wv s') (hu : Up s') (hs : s'.safe = s2.safe) (hw : ∀ x ∈ s'.waits, x.1 < 10 → f x.1 = true) : ∃ wv', Sf w' B p g wv' s' p2 g2 wv2 s2 t f ∧ Below B w w' := by
  obtain ⟨wv', hd, hk, hb⟩ := k
  have gr : ∀ b, fp p g wv' b → fp p g wv b ∨ w.heap.size ≤ b := by
    rintro b (q | q | q)
    · exact .inl (.inl q)
    · exact .inl (.inr (.inl q))
    · exact (hb b q).imp (fun q => .inr (.inr q)) id
  refine ⟨wv', ⟨hd, h.e.keep hk (fun b q e => h.ap b q e), h.n.keep hk h.t1, fun b q => ?_, fun b q e => ?_, fun q => ?_, h.t2, h.tB, hu, hs, hw⟩, hk.below hB h.fB⟩
  · rcases gr b q with q | q
    · exact h.fB b q
    · omega
  · rcases gr b e with e | e
    · exact h.ap b q e
    · have := h.e.lt b q
      omega
  · rcases gr t q with q | q
    · exact h.t1 q
    · have := h.n.lt
      omega
end Go.Proofs.Ytcbiagdpolhbfaa
