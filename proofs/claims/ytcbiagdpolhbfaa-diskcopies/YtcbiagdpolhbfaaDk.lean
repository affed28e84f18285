/- A disk of the program in memory: the struct's five cells, the row of safe blocks, the row of writes that wait; what a call leaves alone. -/
import Derived.Test.YtcbiagdpolhbfaaByt
import Derived.Test.YtcbiagdpolhbfaaDm
import Derived.Deep.MidRow
namespace Go.Proofs.Ytcbiagdpolhbfaa
open Go.RowKit
open D (St)

/-- Of what was there nothing has turned but in blocks of F. -/
structure Keep (F : Nat → Prop) (w w' : World) : Prop where
  os : w'.os = w.os
  tape : w'.tape = w.tape
  output : w'.output = w.output
  size : w.heap.size ≤ w'.heap.size
  block : ∀ k, k < w.heap.size → ¬ F k → w'.heap[k]? = w.heap[k]?
theorem Keep.refl (F : Nat → Prop) (w : World) : Keep F w w := ⟨rfl, rfl, rfl, Nat.le_refl _, fun _ _ _ => rfl⟩
theorem Keep.trans {F G : Nat → Prop} {a b c : World} (h : Keep F a b) (k : Keep G b c) (hG : ∀ i, G i → F i ∨ a.heap.size ≤ i) : Keep F a c :=
  ⟨k.os.trans h.os, k.tape.trans h.tape, k.output.trans h.output, Nat.le_trans h.size k.size, fun i hi hf =>
    (k.block i (Nat.lt_of_lt_of_le hi h.size) (fun hg => by
      rcases hG i hg with h1 | h1
      · exact hf h1
      · omega)).trans (h.block i hi hf)⟩
theorem Keep.of_below {F : Nat → Prop} {w w' : World} (h : Below w.heap.size w w') : Keep F w w' := ⟨h.os, h.tape, h.output, h.size, fun k hk _ => h.block k hk⟩
theorem Keep.mono {F G : Nat → Prop} {w w' : World} (h : Keep F w w') (hf : ∀ k, k < w.heap.size → F k → G k) : Keep G w w' := ⟨h.os, h.tape, h.output, h.size, fun k hk hg => h.block k hk (fun q => hg (hf k hk q))⟩
theorem Keep.below {F : Nat → Prop} {B : Nat} {w w' : World} (h : Keep F w w') (hB : B ≤ w.heap.size) (hF : ∀ k, F k → B ≤ k) : Below B w w' :=
  ⟨h.os, h.tape, h.output, h.size, fun k hk => h.block k (by omega) (fun q => by have := hF k q; omega)⟩
theorem Keep.cell {F : Nat → Prop} {w w' : World} (h : Keep F w w') {p : Addr} {x : Value} (hc : w.cell? p = some x) (hf : ¬ F p.block) : w'.cell? p = some x := by
  rw [World.cell?_of_block (w := w) (h.block p.block (World.block_lt_of_cell? w p hc) hf)]; exact hc
theorem Keep.frozen {F : Nat → Prop} {w w' : World} (h : Keep F w w') {p : Addr} {x : Value} (hc : w.cell? p = some x) (hf : ¬ F p.block) : w'.frozen? p = w.frozen? p :=
  World.frozen?_of_block (w := w) (h.block p.block (World.block_lt_of_cell? w p hc) hf)
theorem Keep.alloc {F : Nat → Prop} {w w' : World} (h : Keep F w w') (o : Obj) : Keep F w (w'.alloc o) := h.trans (G := fun _ => False) (Keep.of_below (alb o)) (fun _ h => h.elim)
theorem Keep.drew {F : Nat → Prop} {w w' : World} (h : Keep F w w') : Keep F w w'.drew := ⟨h.os, h.tape, h.output, h.size, h.block⟩
theorem Keep.step {F : Nat → Prop} {w w' w2 : World} (h : Keep F w w') (k : Below w'.heap.size w' w2) : Keep F w w2 := h.trans (G := fun _ => False) (Keep.of_below k) (fun _ h => h.elim)
theorem Keep.setCell {F : Nat → Prop} {w w' : World} (h : Keep F w w') {p : Addr} (hp : F p.block ∨ w.heap.size ≤ p.block) (u : Value) : Keep F w (w'.setCell p u) :=
  h.trans (G := fun b => b = p.block) ⟨rfl, rfl, rfl, by simp [World.setCell], fun k _ hk => Below.heap_setCell _ _ _ _ hk⟩ (fun i hi => by subst hi; exact hp)
theorem heap_setCells (b : Nat) (k : Nat) (hk : k ≠ b) : ∀ (vs : List Value) (o : Nat) (w : World), (w.setCells b o vs).heap[k]? = w.heap[k]?
  | [], _, _ => rfl
  | v :: r, o, w => by rw [World.setCells, heap_setCells b k hk r]; exact Below.heap_setCell _ _ _ _ hk
theorem size_setCells (b : Nat) : ∀ (vs : List Value) (o : Nat) (w : World), (w.setCells b o vs).heap.size = w.heap.size
  | [], _, _ => rfl
  | v :: r, o, w => by rw [World.setCells, size_setCells b r]; simp [World.setCell]
theorem os_setCells (b : Nat) : ∀ (vs : List Value) (o : Nat) (w : World), (w.setCells b o vs).os = w.os ∧ (w.setCells b o vs).tape = w.tape ∧ (w.setCells b o vs).output = w.output
  | [], _, _ => ⟨rfl, rfl, rfl⟩
  | v :: r, o, w => by rw [World.setCells]; exact os_setCells b r _ _
theorem Keep.setCells {F : Nat → Prop} {w w' : World} (h : Keep F w w') {b : Nat} (hp : F b ∨ w.heap.size ≤ b) (o : Nat) (vs : List Value) : Keep F w (w'.setCells b o vs) :=
  h.trans (G := fun k => k = b) ⟨(os_setCells b vs o w').1, (os_setCells b vs o w').2.1, (os_setCells b vs o w').2.2, by rw [size_setCells]; exact Nat.le_refl _, fun k _ hk => heap_setCells b k hk vs o w'⟩ (fun i hi => by subst hi; exact hp)
theorem Keep.grown {F : Nat → Prop} {w w' w2 : World} {row : Option Nat} (h : Keep F w w') (hg : w'.grownBy w2 row) (hr : ∀ k, row = some k → F k ∨ w.heap.size ≤ k) : Keep F w w2 :=
  h.trans (G := fun b => row = some b) ⟨hg.os, hg.tape, hg.output, hg.size, fun k hk hq => hg.block k hk (fun e => hq e.symm)⟩ hr
theorem Byts.keep {F : Nat → Prop} {w w1 : World} {v : Value} {l : List UInt8} (h : Byts w v l) (hb : Keep F w w1) (hf : ∀ k, v.ownBlock = some k → ¬ F k) : Byts w1 v l := by
  obtain ⟨A, c, rfl, hc, h⟩ := h
  refine ⟨A, c, rfl, hc, fun hl => ?_⟩
  obtain ⟨b, off, rfl, h2⟩ := h hl
  exact ⟨b, off, rfl, fun j hj => hb.cell (h2 j hj) (hf b rfl)⟩
theorem range_keep {F : Nat → Prop} {w w1 : World} {b o : Nat} {cs : List Value} (h : w.rangeAt b o cs) (hb : Keep F w w1) (hf : ¬ F b) : w1.rangeAt b o cs := fun j v hv => hb.cell (h j v hv) hf
theorem there_keep {F : Nat → Prop} {w w1 : World} {b o n : Nat} (h : w.there b o n) (hb : Keep F w w1) (hf : ¬ F b) : w1.there b o n := fun j hj => by
  obtain ⟨h1, h2⟩ := h j hj
  obtain ⟨u, hu⟩ := Option.isSome_iff_exists.1 h1
  exact ⟨by rw [hb.cell hu hf]; rfl, by rw [hb.frozen hu hf]; exact h2⟩
theorem own_keep {F : Nat → Prop} {w w1 : World} {base : Nat} {e : TypeId} {size : Nat} {v : Value} {n : Nat} {xs : List Value} (h : w.ownsRow base e size v n xs) (hb : Keep F w w1) (hf : ∀ k, v.ownBlock = some k → ¬ F k) : w1.ownsRow base e size v n xs := by
  refine ⟨h.1, ?_⟩
  rcases h.2 with hn | ⟨g, cap, cur, rfl, hb', hgg, rest⟩
  · exact .inl hn
  · refine .inr ⟨g, cap, cur, rfl, hb', ?_, rest⟩
    rw [hb.block g (Array.getElem?_eq_some_iff.1 hgg).1 (hf g rfl)]
    exact hgg

/-- The cells of a write that waits. -/
def wcells (x : Nat × List UInt8) : List Value := .int .i64 ((x.1 : Nat) : Int) :: bvs x.2
/-- The cells of all. -/
def wall (l : List (Nat × List UInt8)) : List Value := l.flatMap wcells
theorem wcells_length {x : Nat × List UInt8} (h : x.2.length = 512) : (wcells x).length = 513 := by simp [wcells, bvs_length, h]
theorem wall_length : ∀ (l : List (Nat × List UInt8)), (∀ x ∈ l, x.2.length = 512) → (wall l).length = l.length * 513
  | [], _ => rfl
  | x :: r, h => by
    simp only [wall, List.flatMap_cons, List.length_append, List.length_cons]
    have := wall_length r (fun y hy => h y (by simp [hy]))
    rw [wcells_length (h x (by simp))]
    simp only [wall] at this
    rw [this]
    omega
theorem wall_append (l m : List (Nat × List UInt8)) : wall (l ++ m) = wall l ++ wall m := by simp [wall]
theorem wall_get : ∀ (l : List (Nat × List UInt8)), (∀ x ∈ l, x.2.length = 512) → ∀ i (hi : i < l.length) j, j < 513 → (wall l)[i * 513 + j]? = (wcells l[i])[j]?
  | x :: r, h, 0, _, j, hj => by
    have := wcells_length (h x (by simp))
    simp only [wall, List.flatMap_cons, Nat.zero_mul, Nat.zero_add]
    rw [List.getElem?_append_left (by omega)]
    rfl
  | x :: r, h, i + 1, hi, j, hj => by
    have := wcells_length (h x (by simp))
    simp only [wall, List.flatMap_cons]
    rw [List.getElem?_append_right (by omega), this, show (i + 1) * 513 + j - 513 = i * 513 + j by omega]
    exact wall_get r (fun y hy => h y (by simp [hy])) i (by simpa using hi) j hj

/-- A disk of the program: at block p the struct, at block g the safe blocks, the slice wv of writes that wait. -/
structure Dsk (w : World) (p g : Nat) (wv : Value) (s : St) : Prop where
  ok : D.Ok s
  c0 : ∃ c, w.cell? ⟨p, 0, none⟩ = some (.slice (some ⟨g, 0, none⟩) s.safe.length c)
  c1 : w.cell? ⟨p, 1, none⟩ = some wv
  c2 : w.cell? ⟨p, 2, none⟩ = some (.int .i64 s.fuse)
  c3 : w.cell? ⟨p, 3, none⟩ = some (.bool s.down)
  c4 : w.cell? ⟨p, 4, none⟩ = some (.int .i64 (s.writes : Int))
  fz : ∀ i, w.frozen? ⟨p, i, none⟩ = false
  safe : ∀ i (h : i < s.safe.length), w.rangeAt g (i * 512) (bvs s.safe[i])
  there : ∀ i, i < s.safe.length → w.there g (i * 512) 512
  waits : w.ownsRow 0 75 513 wv s.waits.length (wall s.waits)
  ne : p ≠ g
  nep : wv.ownBlock ≠ some p
  neg : wv.ownBlock ≠ some g
/-- The blocks of a disk. -/
def fp (p g : Nat) (wv : Value) : Nat → Prop := fun b => b = p ∨ b = g ∨ wv.ownBlock = some b
theorem Dsk.keep {F : Nat → Prop} {w w' : World} {p g : Nat} {wv : Value} {s : St} (h : Dsk w p g wv s) (k : Keep F w w') (hf : ∀ b, fp p g wv b → ¬ F b) : Dsk w' p g wv s :=
  ⟨h.ok, h.c0.imp fun _ q => k.cell q (hf p (.inl rfl)), k.cell h.c1 (hf p (.inl rfl)), k.cell h.c2 (hf p (.inl rfl)), k.cell h.c3 (hf p (.inl rfl)), k.cell h.c4 (hf p (.inl rfl)),
    fun i => (World.frozen?_of_block (w := w) (a := ⟨p, i, none⟩) (k.block p (World.block_lt_of_cell? w _ h.c1) (hf p (.inl rfl)))).trans (h.fz i),
    fun i hi => range_keep (h.safe i hi) k (hf g (.inr (.inl rfl))), fun i hi => there_keep (h.there i hi) k (hf g (.inr (.inl rfl))),
    own_keep h.waits k (fun b hb => hf b (.inr (.inr hb))), h.ne, h.nep, h.neg⟩
theorem Dsk.below {w w' : World} {p g : Nat} {wv : Value} {s : St} (h : Dsk w p g wv s) (k : Below w.heap.size w w') : Dsk w' p g wv s := h.keep (F := fun _ => False) (Keep.of_below k) (fun _ _ h => h)
theorem Dsk.plt {w : World} {p g : Nat} {wv : Value} {s : St} (h : Dsk w p g wv s) : p < w.heap.size := World.block_lt_of_cell? w _ h.c1
theorem Dsk.glt {w : World} {p g : Nat} {wv : Value} {s : St} (h : Dsk w p g wv s) : g < w.heap.size := by
  have h1 := (h.there 0 (by have := h.ok.few; omega) 0 (by omega)).1
  obtain ⟨u, hu⟩ := Option.isSome_iff_exists.1 h1
  exact World.block_lt_of_cell? w _ hu
theorem Dsk.lt {w : World} {p g : Nat} {wv : Value} {s : St} (h : Dsk w p g wv s) : ∀ b, fp p g wv b → b < w.heap.size := by
  rintro b (rfl | rfl | hb)
  · exact h.plt
  · exact h.glt
  · exact (h.waits.lt b hb).2
/-- One of the plain cells is turned. -/
theorem Dsk.setc2 {w : World} {p g : Nat} {wv : Value} {s : St} (h : Dsk w p g wv s) (z : Int) (h1 : -1 ≤ z) (h2 : z ≤ 9223372036854775807) : Dsk (w.setCell ⟨p, 2, none⟩ (.int .i64 z)) p g wv { s with fuse := z } := by
  have k : Keep (fun b => b = p) w (w.setCell ⟨p, 2, none⟩ (.int .i64 z)) := by exact Keep.setCell (F := fun b => b = p) (Keep.refl _ _) (.inl rfl) _
  have hg : ¬ g = p := fun e => h.ne e.symm
  exact ⟨⟨h.ok.few, h.ok.many, h.ok.full, h.ok.place, h.ok.bytes, h1, h2⟩, h.c0.imp fun _ q => by rw [World.cell?_setCell_other _ _ _ _ (by simp)]; exact q, by rw [World.cell?_setCell_other _ _ _ _ (by simp)]; exact h.c1,
    World.cell?_setCell_same _ _ _ h.c2, by rw [World.cell?_setCell_other _ _ _ _ (by simp)]; exact h.c3, by rw [World.cell?_setCell_other _ _ _ _ (by simp)]; exact h.c4,
    fun i => by rw [World.frozen?_setCell]; exact h.fz i, fun i hi => range_keep (h.safe i hi) k hg, fun i hi => there_keep (h.there i hi) k hg,
    own_keep h.waits k (fun b hb e => h.nep (by rw [hb, e])), h.ne, h.nep, h.neg⟩
theorem Dsk.setc3 {w : World} {p g : Nat} {wv : Value} {s : St} (h : Dsk w p g wv s) (z : Bool) : Dsk (w.setCell ⟨p, 3, none⟩ (.bool z)) p g wv { s with down := z } := by
  have k : Keep (fun b => b = p) w (w.setCell ⟨p, 3, none⟩ (.bool z)) := by exact Keep.setCell (F := fun b => b = p) (Keep.refl _ _) (.inl rfl) _
  have hg : ¬ g = p := fun e => h.ne e.symm
  exact ⟨⟨h.ok.few, h.ok.many, h.ok.full, h.ok.place, h.ok.bytes, h.ok.fuse, h.ok.fuse2⟩, h.c0.imp fun _ q => by rw [World.cell?_setCell_other _ _ _ _ (by simp)]; exact q, by rw [World.cell?_setCell_other _ _ _ _ (by simp)]; exact h.c1,
    by rw [World.cell?_setCell_other _ _ _ _ (by simp)]; exact h.c2, World.cell?_setCell_same _ _ _ h.c3, by rw [World.cell?_setCell_other _ _ _ _ (by simp)]; exact h.c4,
    fun i => by rw [World.frozen?_setCell]; exact h.fz i, fun i hi => range_keep (h.safe i hi) k hg, fun i hi => there_keep (h.there i hi) k hg,
    own_keep h.waits k (fun b hb e => h.nep (by rw [hb, e])), h.ne, h.nep, h.neg⟩
theorem Dsk.setc4 {w : World} {p g : Nat} {wv : Value} {s : St} (h : Dsk w p g wv s) (z : Nat) : Dsk (w.setCell ⟨p, 4, none⟩ (.int .i64 (z : Int))) p g wv { s with writes := z } := by
  have k : Keep (fun b => b = p) w (w.setCell ⟨p, 4, none⟩ (.int .i64 (z : Int))) := by exact Keep.setCell (F := fun b => b = p) (Keep.refl _ _) (.inl rfl) _
  have hg : ¬ g = p := fun e => h.ne e.symm
  exact ⟨⟨h.ok.few, h.ok.many, h.ok.full, h.ok.place, h.ok.bytes, h.ok.fuse, h.ok.fuse2⟩, h.c0.imp fun _ q => by rw [World.cell?_setCell_other _ _ _ _ (by simp)]; exact q, by rw [World.cell?_setCell_other _ _ _ _ (by simp)]; exact h.c1,
    by rw [World.cell?_setCell_other _ _ _ _ (by simp)]; exact h.c2, by rw [World.cell?_setCell_other _ _ _ _ (by simp)]; exact h.c3, World.cell?_setCell_same _ _ _ h.c4,
    fun i => by rw [World.frozen?_setCell]; exact h.fz i, fun i hi => range_keep (h.safe i hi) k hg, fun i hi => there_keep (h.there i hi) k hg,
    own_keep h.waits k (fun b hb e => h.nep (by rw [hb, e])), h.ne, h.nep, h.neg⟩
/-- Another row of writes that wait is laid into the struct. -/
theorem Dsk.setc1 {w : World} {p g : Nat} {wv : Value} {s : St} (h : Dsk w p g wv s) (wv' : Value) (ws : List (Nat × List UInt8)) (ho : w.ownsRow 0 75 513 wv' ws.length (wall ws)) (hp : ∀ x ∈ ws, x.1 < s.safe.length) (hb : ∀ x ∈ ws, x.2.length = 512)
    (n1 : wv'.ownBlock ≠ some p) (n2 : wv'.ownBlock ≠ some g) : Dsk (w.setCell ⟨p, 1, none⟩ wv') p g wv' { s with waits := ws } := by
  have k : Keep (fun b => b = p) w (w.setCell ⟨p, 1, none⟩ wv') := by exact Keep.setCell (F := fun b => b = p) (Keep.refl _ _) (.inl rfl) _
  have hg : ¬ g = p := fun e => h.ne e.symm
  exact ⟨⟨h.ok.few, h.ok.many, h.ok.full, hp, hb, h.ok.fuse, h.ok.fuse2⟩, h.c0.imp fun _ q => by rw [World.cell?_setCell_other _ _ _ _ (by simp)]; exact q, World.cell?_setCell_same _ _ _ h.c1,
    by rw [World.cell?_setCell_other _ _ _ _ (by simp)]; exact h.c2, by rw [World.cell?_setCell_other _ _ _ _ (by simp)]; exact h.c3, by rw [World.cell?_setCell_other _ _ _ _ (by simp)]; exact h.c4,
    fun i => by rw [World.frozen?_setCell]; exact h.fz i, fun i hi => range_keep (h.safe i hi) k hg, fun i hi => there_keep (h.there i hi) k hg,
    own_keep ho k (fun b hb e => n1 (by rw [hb, e])), h.ne, n1, n2⟩
/-- The same in a world in which the elder row has turned. -/
theorem Dsk.relay {F : Nat → Prop} {w w4 : World} {p g : Nat} {wv : Value} {s : St} (h : Dsk w p g wv s) (k0 : Keep F w w4) (fp : ¬ F p) (fg : ¬ F g) (wv' : Value) (ws : List (Nat × List UInt8)) (ho : w4.ownsRow 0 75 513 wv' ws.length (wall ws)) (hp : ∀ x ∈ ws, x.1 < s.safe.length) (hb : ∀ x ∈ ws, x.2.length = 512)
    (n1 : wv'.ownBlock ≠ some p) (n2 : wv'.ownBlock ≠ some g) : Dsk (w4.setCell ⟨p, 1, none⟩ wv') p g wv' { s with waits := ws } := by
  have k : Keep (fun b => b = p) w4 (w4.setCell ⟨p, 1, none⟩ wv') := by exact Keep.setCell (F := fun b => b = p) (Keep.refl _ _) (.inl rfl) _
  have hg : ¬ g = p := fun e => h.ne e.symm
  exact ⟨⟨h.ok.few, h.ok.many, h.ok.full, hp, hb, h.ok.fuse, h.ok.fuse2⟩, h.c0.imp fun _ q => by rw [World.cell?_setCell_other _ _ _ _ (by simp)]; exact k0.cell q fp, World.cell?_setCell_same _ _ _ (k0.cell h.c1 fp),
    by rw [World.cell?_setCell_other _ _ _ _ (by simp)]; exact k0.cell h.c2 fp, by rw [World.cell?_setCell_other _ _ _ _ (by simp)]; exact k0.cell h.c3 fp, by rw [World.cell?_setCell_other _ _ _ _ (by simp)]; exact k0.cell h.c4 fp,
    fun i => by rw [World.frozen?_setCell]; exact (World.frozen?_of_block (w := w) (a := ⟨p, i, none⟩) (k0.block p h.plt fp)).trans (h.fz i), fun i hi => range_keep (range_keep (h.safe i hi) k0 fg) k hg, fun i hi => there_keep (there_keep (h.there i hi) k0 fg) k hg,
    own_keep ho k (fun b hb e => n1 (by rw [hb, e])), h.ne, n1, n2⟩
/-- A whole block is laid. -/
theorem Dsk.setb {w : World} {p g : Nat} {wv : Value} {s : St} (h : Dsk w p g wv s) (n : Nat) (b : List UInt8) (hn : n < s.safe.length) (hb : b.length = 512) : Dsk (w.setCells g (n * 512) (bvs b)) p g wv { s with safe := s.safe.set n b } := by
  have k : Keep (fun b => b = g) w (w.setCells g (n * 512) (bvs b)) := by exact Keep.setCells (F := fun b => b = g) (Keep.refl _ _) (.inl rfl) _ _
  have hp : ¬ p = g := h.ne
  have hl : (s.safe.set n b).length = s.safe.length := by simp
  refine ⟨⟨by simpa using h.ok.few, by simpa using h.ok.many, fun c hc => ?_, fun x hx => by simpa using h.ok.place x hx, h.ok.bytes, h.ok.fuse, h.ok.fuse2⟩, ?_, k.cell h.c1 hp, k.cell h.c2 hp, k.cell h.c3 hp, k.cell h.c4 hp,
    fun i => by rw [World.frozen?_setCells]; exact h.fz i, fun i hi => ?_, fun i hi => World.there_setCells (h.there i (by simpa using hi)) _ _ _, own_keep h.waits k (fun b hb e => h.neg (by rw [hb, e])), h.ne, h.nep, h.neg⟩
  · rcases List.mem_or_eq_of_mem_set hc with hc | rfl
    · exact h.ok.full c hc
    · exact hb
  · rw [show ({ s with safe := s.safe.set n b } : St).safe.length = s.safe.length from hl]
    exact h.c0.imp fun _ q => k.cell q hp
  · have hi' : i < s.safe.length := by simpa using hi
    by_cases e : i = n
    · subst e
      have e2 : ({ s with safe := s.safe.set i b } : St).safe[i] = b := by simp
      rw [e2]
      exact World.rangeAt_setCells_same _ _ _ _ (by rw [bvs_length, hb]; exact h.there i hi')
    · have e2 : ({ s with safe := s.safe.set n b } : St).safe[i] = s.safe[i] := by simp [List.getElem_set_ne (Ne.symm e)]
      rw [e2]
      refine World.rangeAt_setCells_apart (h.safe i hi') _ _ _ (.inr ?_)
      rw [bvs_length, bvs_length, hb, h.ok.full _ (List.getElem_mem hi')]
      omega
end Go.Proofs.Ytcbiagdpolhbfaa
