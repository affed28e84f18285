/- Contracts that the claim reaches (Math Base Byt Kp Sa Na Nm Sp Nb Bs Nc Lz Nd Ne Ns Nf Ng). -/
import Derived.Test.YtlcnefeikejcaaaGreatDoorRows
import Derived.WalkKit
import Derived.ProofKit
import Derived.OpenShut
import Derived.Lib.Hide
import Derived.Lib.SmallJoins
import Derived.Deep.RegionHeld3
import Derived.Deep.QuietTactic
import Derived.BigQuiet
import Derived.Lib.QuietBelow
import Derived.Laws.OwnMore
import Derived.Laws.BytesArg
import Derived.Laws.CopyOwn
import Derived.OwnWalk
import Derived.Lib.SliceRun
import Derived.Deep.MidRow
import Derived.Sort.Row
import Derived.Sort.AssemblyPlain
import Derived.Sort.WalkB2
import Derived.CellFam
import Derived.BigCall
import Derived.BigGuard
import Derived.BigRegion
import Derived.Deep.LoopGhost
import Derived.Deep.DeepCutAuto
import Derived.Deep.Cut
import Derived.ArgAppend
import Derived.Maps.OwnSet
namespace Go.Proofs.YtlcnefeikejcaaaGreatDoor.W
def M : Nat := 18446744073709551616
def MM : Nat := 340282366920938463463374607431768211456
def hi (n : Nat) : Nat := n / M
def lo (n : Nat) : Nat := n % M
def addN (a b : Nat) : Nat := if a + b < MM then a + b else 0
def addB (a b : Nat) : Bool := decide (a + b < MM)
def subN (a b : Nat) : Nat := a - b
def subB (a b : Nat) : Bool := decide (b ≤ a)
def cmpN (a b : Nat) : Int := if a < b then -1 else if b < a then 1 else 0
def cmpI (x y : Int) : Int := if x < y then -1 else if y < x then 1 else 0
def dig (n m : Nat) : Nat := n / 256 ^ m % 256
def rowTo (n k j : Nat) : Int := if j < 8 then (if 8 ≤ j + k then ((dig (hi n) (7 - j) : Nat) : Int) else 0) else (if 16 ≤ j + k then ((dig (lo n) (15 - j) : Nat) : Int) else 0)
def rowOf (n j : Nat) : Int := ((dig n (15 - j) : Nat) : Int)
def carry (a b k : Nat) : Nat := (a % 256 ^ k + b % 256 ^ k) / 256 ^ k
def addRow (a b k j : Nat) : Int := if 16 ≤ j + k then rowOf (a + b) j else rowOf a j
def loan (a b k : Nat) : Nat := if a % 256 ^ k < b % 256 ^ k then 1 else 0
def subRow (a b k j : Nat) : Int := if 16 ≤ j + k then rowOf (a + MM - b) j else rowOf a j
def subNeg (a b k : Nat) : Bool := decide (((dig a k : Nat) : Int) - ((dig b k : Nat) : Int) - ((loan a b k : Nat) : Int) < 0)
def eqTo (a b k : Nat) : Prop := a / 256 ^ (16 - k) = b / 256 ^ (16 - k)
def topN : Nat := 340282366920938463463374607431768211455
def topTo (k j : Nat) : Int := if j < k then 255 else 0
def tot : List Nat → Nat
  | [] => 0
  | n :: l => n + tot l
def sumN (l : List Nat) : Nat := if tot l < MM then tot l else 0
def sumB (l : List Nat) : Bool := decide (tot l < MM)
def leastTo (l : List Nat) : Nat → Nat
  | 0 => topN
  | k + 1 => if l.getD k 0 < leastTo l k then l.getD k 0 else leastTo l k
def hasTo (l : List Nat) (m : Nat) : Nat → Bool
  | 0 => false
  | k + 1 => hasTo l m k || (l.getD k 0 == m)
def val (f : Nat → Nat) : Nat → Nat
  | 0 => 0
  | k + 1 => val f k * 256 + f k
theorem val_lt (f : Nat → Nat) (hf : ∀ j, f j < 256) : ∀ k, val f k < 256 ^ k
  | 0 => by simp [val]
  | k + 1 => by
    have h1 := val_lt f hf k
    have h2 := hf k
    rw [Nat.pow_succ]
    have : (val f k + 1) * 256 ≤ 256 ^ k * 256 := Nat.mul_le_mul_right _ h1
    simp only [val]
    omega
def byTo (n k j : Nat) : Int := if j < 8 then (if j < k then rowOf n j else 0) else (if j < 8 + k then rowOf n j else 0)
def rdTo (f : Nat → Nat) (k j : Nat) : Int := if j < k then ((f j : Nat) : Int) else 0
def rowsTo (n k : Nat) : List Int := (List.range k).map (rowOf n)
end Go.Proofs.YtlcnefeikejcaaaGreatDoor.W
namespace Go.Proofs.YtlcnefeikejcaaaGreatDoor
open Go.RowKit
open W (hi lo addN addB subN subB cmpN dig MM)
theorem Tryz.own : ownKnob Tryz.prog.godebug = none := by kernel_rfl
theorem Tryz.laidOut : laidOutB Tryz.prog = true := by kernel_rfl
theorem bal {W w : World} (h : Below W.heap.size W w) (o : Obj) : Below W.heap.size W (w.alloc o) := h.alloc h.size o
theorem btr {W w w1 : World} (h : Below W.heap.size W w) (k : Below w.heap.size w w1) : Below W.heap.size W w1 := h.trans (k.mono h.size)
theorem bdn {B : Nat} {a w : World} (h : Below B a w) (n : Nat) : Below B a (w.drewN n) := ⟨h.os, h.tape, h.output, h.size, h.block⟩
theorem kept {v w1 : World} {p : Addr} {x : Value} (h : v.cell? p = some x) (hb : Below v.heap.size v w1) : w1.cell? p = some x := by
  rw [hb.cell (World.block_lt_of_cell? v p h)]; exact h
theorem cfar {w : World} {b c o p : Nat} {x v : Value} (hc : c ≠ b) (h : w.cell? ⟨b, o, none⟩ = some v) : (w.setCell ⟨c, p, none⟩ x).cell? ⟨b, o, none⟩ = some v := by
  rw [World.cell?_setCell_other _ _ _ _ (by intro h; cases h; exact hc rfl)]; exact h
theorem alc {w : World} {p : Addr} {x : Value} (h : w.cell? p = some x) (o : Obj) : (w.alloc o).cell? p = some x := kept h (bal (Below.refl _ _) o)
theorem alb {w : World} (o : Obj) : Below w.heap.size w (w.alloc o) := bal (Below.refl _ _) o
theorem fzs {w : World} {p q : Addr} {v : Value} (h : w.frozen? q = false) : (w.setCell p v).frozen? q = false := by rw [World.frozen?_setCell]; exact h
def Row (w : World) (b : Nat) (f : Nat → Int) : Prop := ∀ j, j < 16 → w.cell? ⟨b, j, none⟩ = some (.int .i64 (f j)) ∧ w.frozen? ⟨b, j, none⟩ = false
theorem Row.lt {w : World} {b : Nat} {f : Nat → Int} (h : Row w b f) : b < w.heap.size := World.block_lt_of_cell? w ⟨b, 0, none⟩ (h 0 (by omega)).1
theorem Row.congr {w : World} {b : Nat} {f g : Nat → Int} (h : Row w b f) (hg : ∀ j, j < 16 → f j = g j) : Row w b g := fun j hj => by rw [← hg j hj]; exact h j hj
theorem Row.set {w : World} {b : Nat} {f : Nat → Int} (h : Row w b f) (p : Nat) (v : Int) : Row (w.setCell ⟨b, p, none⟩ (.int .i64 v)) b (fun j => if j = p then v else f j) := fun j hj => by
  refine ⟨?_, by rw [World.frozen?_setCell]; exact (h j hj).2⟩
  by_cases e : j = p
  · subst e
    simp only [if_true]
    exact World.cell?_setCell_same _ _ _ (h j hj).1
  · simp only [e, if_false]
    rw [World.cell?_setCell_other _ _ _ _ (by intro h; cases h; exact e rfl)]
    exact (h j hj).1
theorem Row.drew {w : World} {b : Nat} {f : Nat → Int} (h : Row w b f) : Row w.drew b f := h
theorem Row.drewN {w : World} {b : Nat} {f : Nat → Int} (h : Row w b f) (n : Nat) : Row (w.drewN n) b f := h
theorem Row.below {w w1 : World} {b : Nat} {f : Nat → Int} (h : Row w b f) (hb : Below w.heap.size w w1) : Row w1 b f := fun j hj =>
  ⟨by rw [hb.cell (p := ⟨b, j, none⟩) h.lt]; exact (h j hj).1, by rw [hb.frozen (p := ⟨b, j, none⟩) h.lt]; exact (h j hj).2⟩
theorem Row.alloc {w : World} {b : Nat} {f : Nat → Int} (h : Row w b f) (o : Obj) : Row (w.alloc o) b f := h.below (bal (Below.refl _ _) o)
def nought : Array Value := Array.replicate 16 (.int .i64 0)
theorem Row.made (w : World) : Row (w.alloc (.cells nought 3)) w.heap.size (fun _ => 0) := fun j hj => by
  refine ⟨?_, ?_⟩
  · rw [World.cell?_alloc_at _ _ _ _ rfl]
    have : j = 0 ∨ j = 1 ∨ j = 2 ∨ j = 3 ∨ j = 4 ∨ j = 5 ∨ j = 6 ∨ j = 7 ∨ j = 8 ∨ j = 9 ∨ j = 10 ∨ j = 11 ∨ j = 12 ∨ j = 13 ∨ j = 14 ∨ j = 15 := by omega
    rcases this with rfl | rfl | rfl | rfl | rfl | rfl | rfl | rfl | rfl | rfl | rfl | rfl | rfl | rfl | rfl | rfl <;> rfl
  · simp
end Go.Proofs.YtlcnefeikejcaaaGreatDoor
namespace Go.Proofs.YtlcnefeikejcaaaGreatDoor
open Go.RowKit Go.ChangeShapes Go.WideShapes
theorem Tryz.info5 : (Tryz.prog.info? 5).map (fun i => (i.zero, i.size, i.bytes)) = some (some (.int .u8 0), 1, 1) := by kernel_rfl
def bvs (l : List UInt8) : List Value := l.map fun c => .int .u8 ((c.toNat : Nat) : Int)
theorem bvs_length (l : List UInt8) : (bvs l).length = l.length := by simp [bvs]
theorem bvs_append (l m : List UInt8) : bvs (l ++ m) = bvs l ++ bvs m := by simp [bvs]
theorem bvs_get (l : List UInt8) (j : Nat) (h : j < l.length) : (bvs l)[j]? = some (.int .u8 ((l[j].toNat : Nat) : Int)) := by simp [bvs, h]
theorem bvs_one (l : List UInt8) : ∀ u ∈ bvs l, u.oneCell' = true := by
  intro u hu
  simp only [bvs, List.mem_map] at hu
  obtain ⟨c, _, rfl⟩ := hu
  rfl
theorem bvs_set (l : List UInt8) (i : Nat) (x : UInt8) : bvs (l.set i x) = (bvs l).set i (.int .u8 ((x.toNat : Nat) : Int)) := by simp [bvs, List.map_set]
def str (l : List UInt8) : ByteArray := ⟨l.toArray⟩
theorem str_list (l : List UInt8) : (str l).data.toList = l := by simp [str]
theorem str_toList (l : List UInt8) : (str l).toList = l := by rw [ByteArray.toList_eq]; exact str_list l
theorem str_of_nums (l : List UInt8) : strOfNums (l.map fun c => ((c.toNat : Nat) : Int)) = str l := by
  unfold strOfNums str
  simp only [List.map_map]
  congr 2
  rw [List.map_congr_left (g := id) (fun c _ => by simp)]
  simp
def Byts (w : World) (v : Value) (l : List UInt8) : Prop :=
  ∃ A c, v = .slice A l.length c ∧ l.length ≤ c ∧ (0 < l.length → ∃ b off, A = some ⟨b, off, none⟩ ∧ ∀ j (h : j < l.length), w.cell? ⟨b, off + j, none⟩ = some (.int .u8 ((l[j].toNat : Nat) : Int)))
theorem Byts.below {w w1 : World} {v : Value} {l : List UInt8} (h : Byts w v l) (hb : Below w.heap.size w w1) : Byts w1 v l := by
  obtain ⟨A, c, e, hc, h⟩ := h
  refine ⟨A, c, e, hc, fun hl => ?_⟩
  obtain ⟨b, off, e2, h2⟩ := h hl
  exact ⟨b, off, e2, fun j hj => kept (h2 j hj) hb⟩
theorem Byts.none (w : World) : Byts w (.slice none 0 0) [] := ⟨_, _, rfl, Nat.le_refl _, fun h => by simp at h⟩
theorem Byts.own {w : World} {base : Nat} {v : Value} {l : List UInt8} (h : w.ownsRow base 5 1 v l.length (bvs l)) : Byts w v l := by
  rcases h.2 with ⟨e, h0⟩ | ⟨g, cap, cur, e, _, _, hc, _⟩
  · obtain rfl : l = [] := List.length_eq_zero_iff.1 h0
    subst e
    exact Byts.none w
  · subst e
    refine ⟨_, _, rfl, hc, fun _ => ⟨g, 0, rfl, fun j hj => ?_⟩⟩
    rw [Nat.zero_add, h.cellAt j (by omega), bvs_get l j hj]
theorem Byts.lit (w : World) (l : List UInt8) (hl : l.length ≤ 1000) : Byts (w.alloc (.cells (bvs l).toArray 5)) (.slice (some ⟨w.heap.size, 0, Option.none⟩) l.length l.length) l :=
  Byts.own (base := 0) (by
    have := World.ownsRow_lit (base := 0) (e := 5) (size := 1) w (bvs l).toArray l.length (Nat.zero_le _) (by unfold maxLen; omega) (by simp [bvs_length])
    simpa using this)
theorem Byts.conv {w : World} {v : Value} {l : List UInt8} (h : Byts w v l) : (convert 48 9 v).run Tryz.prog w = .ok (.string (str l)) w := by
  obtain ⟨A, c, rfl, hc, h⟩ := h
  by_cases h0 : 0 < l.length
  · obtain ⟨b, off, rfl, h2⟩ := h h0
    have := run_convert_bytes_arg (P := Tryz.prog) w 48 5 Tryz.underlying48 Tryz.underlying5 b off l.length c (l.map fun c => ((c.toNat : Nat) : Int)) (by simp) (fun i hi => by
      rw [h2 i hi]
      simp [List.getD, hi]) 9 Tryz.underlying9
    rw [str_of_nums] at this
    exact this
  · obtain rfl : l = [] := List.length_eq_zero_iff.1 (by omega)
    rw [run_convert_bytes_string w 48 9 5 _ _ c Tryz.underlying48 Tryz.underlying5 Tryz.underlying9]
    cases A <;> simp [Conv.bytesToString, loadCells]
    all_goals rfl
theorem own_heap {w : World} {base g n : Nat} {xs : List Value} (h : w.ownsRow base 5 1 (.slice (some ⟨g, 0, none⟩) n n) n xs) : w.heap[g]? = some (.cells xs.toArray 5 (0, 0)) := by
  rcases h.2 with ⟨h', _⟩ | ⟨g', cap, cur, h', _, hg, _, _, hcs, htake⟩
  · simp at h'
  · simp only [Value.slice.injEq, Option.some.injEq, Addr.mk.injEq, and_true, true_and] at h'
    obtain ⟨rfl, rfl⟩ := h'
    rw [List.take_of_length_le (by rw [Array.length_toList, hcs]; exact Nat.le_refl _)] at htake
    rw [← htake]
    exact hg
theorem own_of {w : World} {base g n : Nat} {xs : List Value} (hg : w.heap[g]? = some (.cells xs.toArray 5 (0, 0))) (hb : base ≤ g) (hn : xs.length = n) (hm : n ≤ maxLen) :
    w.ownsRow base 5 1 (.slice (some ⟨g, 0, none⟩) n n) n xs :=
  ⟨by omega, .inr ⟨g, n, xs.toArray, rfl, hb, hg, Nat.le_refl _, hm, by simp [hn], by simp [← hn]⟩⟩
theorem made_zeros (k : Nat) : (madeCells #[Value.int .u8 0] k).toList = bvs (List.replicate k 0) := by
  apply List.ext_getElem?
  intro i
  by_cases h : i < k
  · simp [madeCells, bvs, h, Nat.mod_one]
  · rw [List.getElem?_eq_none (by simp [size_madeCells]; omega), List.getElem?_eq_none (by simp [bvs]; omega)]
theorem Tryz.cells5 : Tryz.prog.cellsOf 5 = 1 := by kernel_rfl
set_option maxRecDepth 100000 in
theorem open_byts {H : Type} {enc : TypeId × Value → H} {u : World} {r : Reach} {b0 base : Nat} {sp : Nat → Bool} {held : Bool} {v : Value} {d : DataW H} {p : List MemPlace}
    (hsp : ∀ b, sp b = true) (hv : Value.okWide Tryz.prog u r b0 48 v) (h : DataW.Trod enc Tryz.prog u base sp held 48 v d p) : ∃ l, Byts u v l := by
  obtain ⟨A, len, cap, rfl⟩ := okWide_slice Tryz.underlying48 hv
  obtain ⟨fuel, hf⟩ := h
  rcases open_ints Tryz.underlying48 Tryz.underlying5 Tryz.cells5 hf with ⟨hcs, _⟩ | ⟨x, l, c, zs, hcs, _, hl, hm, hz, _, hcell, hwz⟩
  · simp [Value.cells] at hcs
    obtain ⟨rfl, rfl, rfl⟩ := hcs
    exact ⟨[], Byts.none u⟩
  · simp [Value.cells] at hcs
    obtain ⟨rfl, rfl, rfl⟩ := hcs
    rw [hsp] at hz
    have hz' : zs.length = cap := by simpa using hz
    have bd : ∀ j, j < zs.length → 0 ≤ zs.getD j 0 ∧ zs.getD j 0 ≤ 255 := by
      intro j hj
      have h1 := hwz (zs.getD j 0) (by simp [List.getD, hj])
      simpa [Lit.wf, IntKind.min, IntKind.max, IntKind.signed, IntKind.bits] using h1
    have hlen : ((zs.take len).map fun z => UInt8.ofNat z.toNat).length = len := by simp; omega
    refine ⟨(zs.take len).map fun z => UInt8.ofNat z.toNat, some x, cap, by rw [hlen], by rw [hlen]; exact hl, fun hpos => ?_⟩
    rw [hlen] at hpos
    obtain ⟨b, off, spot⟩ := x
    have hspot : spot = none := by simpa [Addr.add] using World.cell?_spot (hcell 0 (by omega))
    subst hspot
    refine ⟨b, off, rfl, fun k hk => ?_⟩
    rw [hlen] at hk
    have g := hcell k (by omega)
    have hb := bd k (by omega)
    have e1 : ((zs.take len).map fun z => UInt8.ofNat z.toNat)[k].toNat = (zs.getD k 0).toNat := by
      simp only [List.getElem_map, List.getElem_take]
      have e : zs.getD k 0 = zs[k] := by simp [List.getD, show k < zs.length by omega]
      rw [e] at hb ⊢
      simp
      omega
    have e : (((zs.getD k 0).toNat : Nat) : Int) = zs.getD k 0 := by omega
    rw [e1, e, ← g]
    unfold Addr.add
    by_cases hk0 : k = 0
    · simp [hk0]
    · simp [hk0]
end Go.Proofs.YtlcnefeikejcaaaGreatDoor
namespace Go.Proofs.YtlcnefeikejcaaaGreatDoor
open Go.RowKit
structure Keep (F : Nat → Prop) (w w' : World) : Prop where
  os : w'.os = w.os
  tape : w'.tape = w.tape
  output : w'.output = w.output
  size : w.heap.size ≤ w'.heap.size
  block : ∀ k, k < w.heap.size → ¬ F k → w'.heap[k]? = w.heap[k]?
theorem Keep.refl (F : Nat → Prop) (w : World) : Keep F w w := ⟨rfl, rfl, rfl, Nat.le_refl _, fun _ _ _ => rfl⟩
theorem Keep.trans {F G : Nat → Prop} {a b c : World} (h : Keep F a b) (k : Keep G b c) (hG : ∀ i, G i → F i ∨ a.heap.size ≤ i) : Keep F a c :=
  ⟨k.os.trans h.os, k.tape.trans h.tape, k.output.trans h.output, Nat.le_trans h.size k.size, fun i hi hf =>
    (k.block i (Nat.lt_of_lt_of_le hi h.size) (fun hg => by
      rcases hG i hg with h1 | h1
      · exact hf h1
      · omega)).trans (h.block i hi hf)⟩
theorem Keep.of_below {F : Nat → Prop} {w w' : World} (h : Below w.heap.size w w') : Keep F w w' := ⟨h.os, h.tape, h.output, h.size, fun k hk _ => h.block k hk⟩
theorem Keep.mono {F G : Nat → Prop} {w w' : World} (h : Keep F w w') (hf : ∀ k, k < w.heap.size → F k → G k) : Keep G w w' := ⟨h.os, h.tape, h.output, h.size, fun k hk hg => h.block k hk (fun q => hg (hf k hk q))⟩
theorem Keep.below {F : Nat → Prop} {B : Nat} {w w' : World} (h : Keep F w w') (hB : B ≤ w.heap.size) (hF : ∀ k, F k → B ≤ k) : Below B w w' :=
  ⟨h.os, h.tape, h.output, h.size, fun k hk => h.block k (by omega) (fun q => by have := hF k q; omega)⟩
theorem Keep.cell {F : Nat → Prop} {w w' : World} (h : Keep F w w') {p : Addr} {x : Value} (hc : w.cell? p = some x) (hf : ¬ F p.block) : w'.cell? p = some x := by
  rw [World.cell?_of_block (w := w) (h.block p.block (World.block_lt_of_cell? w p hc) hf)]; exact hc
theorem Keep.frozen {F : Nat → Prop} {w w' : World} (h : Keep F w w') {p : Addr} {x : Value} (hc : w.cell? p = some x) (hf : ¬ F p.block) : w'.frozen? p = w.frozen? p :=
  World.frozen?_of_block (w := w) (h.block p.block (World.block_lt_of_cell? w p hc) hf)
theorem Keep.alloc {F : Nat → Prop} {w w' : World} (h : Keep F w w') (o : Obj) : Keep F w (w'.alloc o) := h.trans (G := fun _ => False) (Keep.of_below (alb o)) (fun _ h => h.elim)
theorem Keep.drew {F : Nat → Prop} {w w' : World} (h : Keep F w w') : Keep F w w'.drew := ⟨h.os, h.tape, h.output, h.size, h.block⟩
theorem Keep.step {F : Nat → Prop} {w w' w2 : World} (h : Keep F w w') (k : Below w'.heap.size w' w2) : Keep F w w2 := h.trans (G := fun _ => False) (Keep.of_below k) (fun _ h => h.elim)
theorem Keep.setCell {F : Nat → Prop} {w w' : World} (h : Keep F w w') {p : Addr} (hp : F p.block ∨ w.heap.size ≤ p.block) (u : Value) : Keep F w (w'.setCell p u) :=
  h.trans (G := fun b => b = p.block) ⟨rfl, rfl, rfl, by simp [World.setCell], fun k _ hk => Below.heap_setCell _ _ _ _ hk⟩ (fun i hi => by subst hi; exact hp)
theorem heap_setCells (b : Nat) (k : Nat) (hk : k ≠ b) : ∀ (vs : List Value) (o : Nat) (w : World), (w.setCells b o vs).heap[k]? = w.heap[k]?
  | [], _, _ => rfl
  | v :: r, o, w => by rw [World.setCells, heap_setCells b k hk r]; exact Below.heap_setCell _ _ _ _ hk
theorem size_setCells (b : Nat) : ∀ (vs : List Value) (o : Nat) (w : World), (w.setCells b o vs).heap.size = w.heap.size
  | [], _, _ => rfl
  | v :: r, o, w => by rw [World.setCells, size_setCells b r]; simp [World.setCell]
theorem os_setCells (b : Nat) : ∀ (vs : List Value) (o : Nat) (w : World), (w.setCells b o vs).os = w.os ∧ (w.setCells b o vs).tape = w.tape ∧ (w.setCells b o vs).output = w.output
  | [], _, _ => ⟨rfl, rfl, rfl⟩
  | v :: r, o, w => by rw [World.setCells]; exact os_setCells b r _ _
theorem Keep.setCells {F : Nat → Prop} {w w' : World} (h : Keep F w w') {b : Nat} (hp : F b ∨ w.heap.size ≤ b) (o : Nat) (vs : List Value) : Keep F w (w'.setCells b o vs) :=
  h.trans (G := fun k => k = b) ⟨(os_setCells b vs o w').1, (os_setCells b vs o w').2.1, (os_setCells b vs o w').2.2, by rw [size_setCells]; exact Nat.le_refl _, fun k _ hk => heap_setCells b k hk vs o w'⟩ (fun i hi => by subst hi; exact hp)
theorem Keep.grown {F : Nat → Prop} {w w' w2 : World} {row : Option Nat} (h : Keep F w w') (hg : w'.grownBy w2 row) (hr : ∀ k, row = some k → F k ∨ w.heap.size ≤ k) : Keep F w w2 :=
  h.trans (G := fun b => row = some b) ⟨hg.os, hg.tape, hg.output, hg.size, fun k hk hq => hg.block k hk (fun e => hq e.symm)⟩ hr
theorem Byts.keep {F : Nat → Prop} {w w1 : World} {v : Value} {l : List UInt8} (h : Byts w v l) (hb : Keep F w w1) (hf : ∀ k, v.ownBlock = some k → ¬ F k) : Byts w1 v l := by
  obtain ⟨A, c, rfl, hc, h⟩ := h
  refine ⟨A, c, rfl, hc, fun hl => ?_⟩
  obtain ⟨b, off, rfl, h2⟩ := h hl
  exact ⟨b, off, rfl, fun j hj => hb.cell (h2 j hj) (hf b rfl)⟩
theorem range_keep {F : Nat → Prop} {w w1 : World} {b o : Nat} {cs : List Value} (h : w.rangeAt b o cs) (hb : Keep F w w1) (hf : ¬ F b) : w1.rangeAt b o cs := fun j v hv => hb.cell (h j v hv) hf
theorem there_keep {F : Nat → Prop} {w w1 : World} {b o n : Nat} (h : w.there b o n) (hb : Keep F w w1) (hf : ¬ F b) : w1.there b o n := fun j hj => by
  obtain ⟨h1, h2⟩ := h j hj
  obtain ⟨u, hu⟩ := Option.isSome_iff_exists.1 h1
  exact ⟨by rw [hb.cell hu hf]; rfl, by rw [hb.frozen hu hf]; exact h2⟩
theorem own_keep {F : Nat → Prop} {w w1 : World} {base : Nat} {e : TypeId} {size : Nat} {v : Value} {n : Nat} {xs : List Value} (h : w.ownsRow base e size v n xs) (hb : Keep F w w1) (hf : ∀ k, v.ownBlock = some k → ¬ F k) : w1.ownsRow base e size v n xs := by
  refine ⟨h.1, ?_⟩
  rcases h.2 with hn | ⟨g, cap, cur, rfl, hb', hgg, rest⟩
  · exact .inl hn
  · refine .inr ⟨g, cap, cur, rfl, hb', ?_, rest⟩
    rw [hb.block g (Array.getElem?_eq_some_iff.1 hgg).1 (hf g rfl)]
    exact hgg
end Go.Proofs.YtlcnefeikejcaaaGreatDoor
namespace Go.Proofs.YtlcnefeikejcaaaGreatDoor
open Go.RowKit Go.Sort
abbrev eU : Int → Value := fun x => Value.int .u32 x
structure Rw (w : World) (b o : Nat) (d : Array Int) (w' : World) : Prop where
  holds : Holds eU w' b o d
  keep : Keep (fun k => k = b) w w'
  shape : ∀ cur e fr, w.heap[b]? = some (.cells cur e fr) → ∃ cur' : Array Value, w'.heap[b]? = some (.cells cur' e fr) ∧ cur'.size = cur.size
theorem shape_set {w : World} {b o : Nat} {u : Value} {cur : Array Value} {e : TypeId} {fr : Nat × Nat} (h : w.heap[b]? = some (.cells cur e fr)) : ∃ cur' : Array Value, (w.setCell ⟨b, o, none⟩ u).heap[b]? = some (.cells cur' e fr) ∧ cur'.size = cur.size := by
  refine ⟨cur.setIfInBounds o u, ?_, by simp⟩
  simp [World.setCell, Array.getElem?_modify, h]
theorem Rw.self {w : World} {b o : Nat} {d : Array Int} (h : Holds eU w b o d) : Rw w b o d w := ⟨h, Keep.refl _ _, fun cur _ _ q => ⟨cur, q, rfl⟩⟩
theorem Rw.drewN {w w' : World} {b o : Nat} {d : Array Int} (h : Rw w b o d w') (n : Nat) : Rw w b o d (w'.drewN n) := ⟨h.holds, ⟨h.keep.os, h.keep.tape, h.keep.output, h.keep.size, h.keep.block⟩, h.shape⟩
theorem Rw.drew {w w' : World} {b o : Nat} {d : Array Int} (h : Rw w b o d w') : Rw w b o d w'.drew := ⟨h.holds, h.keep.drew, h.shape⟩
theorem Rw.trans {w w1 w2 : World} {b o : Nat} {d d' : Array Int} (h : Rw w b o d w1) (k : Rw w1 b o d' w2) : Rw w b o d' w2 := ⟨k.holds, h.keep.trans k.keep (fun _ e => .inl e), fun cur e fr q => by
  obtain ⟨c1, q1, s1⟩ := h.shape cur e fr q
  obtain ⟨c2, q2, s2⟩ := k.shape c1 e fr q1
  exact ⟨c2, q2, s2.trans s1⟩⟩
theorem Rw.swap {w w' : World} {b o : Nat} {d : Array Int} (h : Rw w b o d w') {i j : Nat} (hi : i < d.size) (hj : j < d.size) {x y : Value} (hx : x = eU d[j]!) (hy : y = eU d[i]!) :
    Rw w b o (swp d i j) ((w'.setCell ⟨b, o + i, none⟩ x).setCell ⟨b, o + j, none⟩ y).drew := by
  subst hx
  subst hy
  refine ⟨?_, ((h.keep.setCell (.inl rfl) _).setCell (.inl rfl) _).drew, fun cur e fr q => by
    obtain ⟨c1, q1, s1⟩ := h.shape cur e fr q
    obtain ⟨c2, q2, s2⟩ := shape_set (o := o + i) (u := eU d[j]!) q1
    obtain ⟨c3, q3, s3⟩ := shape_set (o := o + j) (u := eU d[i]!) q2
    exact ⟨c3, q3, (s3.trans s2).trans s1⟩⟩
  have e : (w'.setCell ⟨b, o + i, none⟩ (eU d[j]!)).setCell ⟨b, o + j, none⟩ (eU d[i]!) = putRow eU w' b o (swp d i j) := by
    have := putRow_swp eU w' b o d i j hi hj
    rwa [putRow_self eU w' b o d h.holds] at this
  rw [e]
  exact holds_putRow eU w' b o d (swp d i j) h.holds (size_swp d i j)
theorem Rw.cells {w w' : World} {b o : Nat} {d : Array Int} (h : Rw w b o d w') {n : Nat} (hn : d.size = n) : ∀ t, t < n → w'.cell? ⟨b, o + t, none⟩ = some (.int .u32 d[t]!) := fun t ht => (h.holds t (by omega)).1
theorem Rw.froz {w w' : World} {b o : Nat} {d : Array Int} (h : Rw w b o d w') {n : Nat} (hn : d.size = n) : ∀ t, t < n → w'.frozen? ⟨b, o + t, none⟩ = false := fun t ht => (h.holds t (by omega)).2
theorem Rw.fams {w w' : World} {b o : Nat} {d : Array Int} (h : Rw w b o d w') {n : Nat} (hn : d.size = n) : ∃ G : Nat → Int, Hid (∀ t, G t = d[t]!) ∧ (∀ t, t < n → w'.cell? ⟨b, o + t, none⟩ = some (.int .u32 (G t))) ∧ (∀ t, t < n → w'.frozen? ⟨b, o + t, none⟩ = false) :=
  ⟨fun t => d[t]!, fun _ => rfl, h.cells hn, h.froz hn⟩
theorem Rw.there {w w' : World} {b o : Nat} {d : Array Int} (h : Rw w b o d w') : Holds eU w' b o d := h.holds
theorem Rw.below {w w1 w2 : World} {b o : Nat} {d : Array Int} (h : Rw w b o d w1) (k : Below w1.heap.size w1 w2) : Rw w b o d w2 :=
  ⟨fun j hj => by
    obtain ⟨h1, h2⟩ := h.holds j hj
    have hb : b < w1.heap.size := World.block_lt_of_cell? w1 _ h1
    exact ⟨(World.cell?_of_block (w := w1) (a := ⟨b, o + j, none⟩) (k.block b hb)).trans h1, (World.frozen?_of_block (w := w1) (a := ⟨b, o + j, none⟩) (k.block b hb)).trans h2⟩, h.keep.step k, fun cur e fr q => by
    obtain ⟨c1, q1, s1⟩ := h.shape cur e fr q
    exact ⟨c1, (k.block b (Array.getElem?_eq_some_iff.1 q1).1).trans q1, s1⟩⟩
theorem isnan (x : Int) (w : World) : Calls Tryz.prog 166 #[.int .u32 x] w fun e w' => e = .returned (.bool false) ∧ w' = w := by
  go_enter Tryz.func166, Tryz.ntmps166
  go_wp2
  go_ret
  exact ⟨by simp, rfl⟩
theorem less_any (x y : Int) (w : World) : Calls Tryz.prog 142 #[.int .u32 x, .int .u32 y] w fun e w' => e = .returned (.bool (ltInt x y)) ∧ w' = w := by
  go_enter Tryz.func142, Tryz.ntmps142
  go_wp2_with (go_at_call 166; refine (isnan _ _).mono ?_; rintro e w' ⟨rfl, rfl⟩)
  go_ret
  exact ⟨rfl, rfl⟩
theorem swo : SWO ltInt := ⟨fun x => by simp [ltInt], fun x y z h1 h2 => by simp [ltInt] at *; omega, fun x y z h1 h2 => by simp [ltInt] at *; omega⟩
end Go.Proofs.YtlcnefeikejcaaaGreatDoor
namespace Go.Proofs.YtlcnefeikejcaaaGreatDoor
open Go.RowKit Go.Sort
theorem m_push (k : Nat) (p : Option Addr) (w : World) : (method (k + 1) 201 (.pointer p) "Push").run Tryz.prog w = .ok (203, .pointer p) w := by kernel_rfl
theorem m_pop (k : Nat) (p : Option Addr) (w : World) : (method (k + 1) 201 (.pointer p) "Pop").run Tryz.prog w = .ok (202, .pointer p) w := by kernel_rfl
theorem recv_val (p o : Nat) (A : Option Addr) (n c : Nat) (s : String) (w : World) (c0 : w.cell? ⟨p, o, none⟩ = some (.slice A n c)) :
    (receiverAt 201 (.val (.pointer (some ⟨p, o, none⟩))) false (some s)).run Tryz.prog w = .ok (.slice A n c) w := by
  have hl : (loadVar 181 ⟨p, o, none⟩).run Tryz.prog w = .ok (.slice A n c) w := by
    go_simp
  have hu : (underlying 201).run Tryz.prog w = .ok (.pointer 181) w := by kernel_rfl
  have hc : (Builtin.ssaWrapNilChk_ #[201] 201 #[.pointer (some ⟨p, o, none⟩), strVal "", strVal s]).run Tryz.prog w = .ok (.pointer (some ⟨p, o, none⟩)) w := by kernel_rfl
  simp [receiverAt, hu, Place.get, hc, hl, asAddr]
theorem method_run (k : Nat) (t : TypeId) (v : Value) (name : String) (f : FuncId) (pr : Bool) (w : World)
    (h : (Tryz.prog.info? t).map (fun i => (i.methods.find? (·.name == name)).map (fun m => (m.path.toList, m.func))) = some (some ([], some (f, pr)))) :
    (method (k + 1) t v name).run Tryz.prog w = ((receiverAt t (.val v) pr (some ((name.splitOn ".").getLastD name))).run Tryz.prog w).andThen (fun r w' => .ok (f, r) w') := by
  cases hi : Tryz.prog.info? t with
  | none => simp [hi] at h
  | some i =>
    cases hm : i.methods.find? (·.name == name) with
    | none => simp [hi, hm] at h
    | some m =>
      obtain ⟨hp, hf⟩ : m.path.toList = [] ∧ m.func = some (f, pr) := by simpa [hi, hm] using h
      have hpe : m.path = #[] := Array.toList_inj.1 hp
      rw [method]
      simp [typeInfo, hi, hm, hf, hpe, follow]
theorem m_of (k p o : Nat) (A : Option Addr) (n c f : Nat) (s : String) (w : World) (c0 : w.cell? ⟨p, o, none⟩ = some (.slice A n c))
    (h : (Tryz.prog.info? 201).map (fun i => (i.methods.find? (·.name == s)).map (fun m => (m.path.toList, m.func))) = some (some ([], some (f, false)))) :
    (method (k + 1) 201 (.pointer (some ⟨p, o, none⟩)) s).run Tryz.prog w = .ok (f, .slice A n c) w := by
  rw [method_run k _ _ s f false w h, recv_val p o A n c _ w c0]
  rfl
theorem m_len (k p o : Nat) (A : Option Addr) (n c : Nat) (w : World) (c0 : w.cell? ⟨p, o, none⟩ = some (.slice A n c)) : (method (k + 1) 201 (.pointer (some ⟨p, o, none⟩)) "Len").run Tryz.prog w = .ok (199, .slice A n c) w :=
  m_of k p o A n c _ "Len" w c0 (by kernel_rfl)
theorem m_less (k p o : Nat) (A : Option Addr) (n c : Nat) (w : World) (c0 : w.cell? ⟨p, o, none⟩ = some (.slice A n c)) : (method (k + 1) 201 (.pointer (some ⟨p, o, none⟩)) "Less").run Tryz.prog w = .ok (200, .slice A n c) w :=
  m_of k p o A n c _ "Less" w c0 (by kernel_rfl)
theorem m_swap (k p o : Nat) (A : Option Addr) (n c : Nat) (w : World) (c0 : w.cell? ⟨p, o, none⟩ = some (.slice A n c)) : (method (k + 1) 201 (.pointer (some ⟨p, o, none⟩)) "Swap").run Tryz.prog w = .ok (201, .slice A n c) w :=
  m_of k p o A n c _ "Swap" w c0 (by kernel_rfl)
end Go.Proofs.YtlcnefeikejcaaaGreatDoor
namespace Go.Proofs.YtlcnefeikejcaaaGreatDoor
open Go.Sort
def Heap (d : Array Int) (n : Nat) : Prop := ∀ k, 0 < k → k < n → d[(k - 1) / 2]! ≤ d[k]!
def UpInv (d : Array Int) (n j : Nat) : Prop := (∀ k, 0 < k → k < n → k ≠ j → d[(k - 1) / 2]! ≤ d[k]!) ∧ ∀ k, 0 < k → k < n → (k - 1) / 2 = j → 0 < j → d[(j - 1) / 2]! ≤ d[k]!
def DownInv (d : Array Int) (n i : Nat) : Prop := (∀ k, 0 < k → k < n → (k - 1) / 2 ≠ i → d[(k - 1) / 2]! ≤ d[k]!) ∧ ∀ k, 0 < k → k < n → (k - 1) / 2 = i → 0 < i → d[(i - 1) / 2]! ≤ d[k]!
theorem hup_stop {d : Array Int} {n j : Nat} (h : UpInv d n j) (hs : j = 0 ∨ d[(j - 1) / 2]! ≤ d[j]!) : Heap d n := fun k h0 h1 => by
  by_cases e : k = j
  · subst e
    rcases hs with hs | hs
    · omega
    · exact hs
  · exact h.1 k h0 h1 e
theorem hup_go {d : Array Int} {n j : Nat} (h : UpInv d n j) (hj : 0 < j) (hn : j < n) (hd : n ≤ d.size) (hs : d[j]! < d[(j - 1) / 2]!) : UpInv (swp d ((j - 1) / 2) j) n ((j - 1) / 2) := by
  generalize hi : (j - 1) / 2 = i at *
  have hij : i < j := by omega
  have ei : (swp d i j)[i]! = d[j]! := swp_left d i j (by omega) (by omega)
  have ej : (swp d i j)[j]! = d[i]! := swp_right d i j (by omega)
  have eo : ∀ k, k ≠ i → k ≠ j → (swp d i j)[k]! = d[k]! := fun k a b => swp_other d i j k a b
  refine ⟨fun k h0 h1 hk => ?_, fun k h0 h1 hk hi0 => ?_⟩
  · by_cases e : k = j
    · subst e
      rw [hi, ei, ej]
      omega
    · rw [eo k hk e]
      have q := h.1 k h0 h1 e
      by_cases e1 : (k - 1) / 2 = i
      · rw [e1] at q ⊢
        rw [ei]
        omega
      · by_cases e2 : (k - 1) / 2 = j
        · have q2 := h.2 k h0 h1 e2 hj
          rw [hi] at q2
          rw [e2, ej]
          exact q2
        · rw [eo _ e1 e2]
          exact q
  · have q := h.1 i hi0 (by omega) (by omega)
    rw [eo ((i - 1) / 2) (by omega) (by omega)]
    by_cases e : k = j
    · subst e
      rw [ej]
      exact q
    · rw [eo k (by omega) e]
      have q2 := h.1 k h0 h1 e
      rw [hk] at q2
      omega
theorem hdown_stop {d : Array Int} {n i : Nat} (h : DownInv d n i) (hs : ∀ k, 0 < k → k < n → (k - 1) / 2 = i → d[i]! ≤ d[k]!) : Heap d n := fun k h0 h1 => by
  by_cases e : (k - 1) / 2 = i
  · rw [e]
    exact hs k h0 h1 e
  · exact h.1 k h0 h1 e
theorem hdown_go {d : Array Int} {n i j : Nat} (h : DownInv d n i) (hj : 0 < j) (hi : (j - 1) / 2 = i) (hn : j < n) (hd : n ≤ d.size) (hm : ∀ k, 0 < k → k < n → (k - 1) / 2 = i → d[j]! ≤ d[k]!) (hs : d[j]! < d[i]!) : DownInv (swp d i j) n j := by
  have hij : i < j := by omega
  have ei : (swp d i j)[i]! = d[j]! := swp_left d i j (by omega) (by omega)
  have ej : (swp d i j)[j]! = d[i]! := swp_right d i j (by omega)
  have eo : ∀ k, k ≠ i → k ≠ j → (swp d i j)[k]! = d[k]! := fun k a b => swp_other d i j k a b
  refine ⟨fun k h0 h1 hk => ?_, fun k h0 h1 hk _ => ?_⟩
  · by_cases e : k = j
    · subst e
      rw [hi, ei, ej]
      omega
    · by_cases e1 : (k - 1) / 2 = i
      · rw [e1, ei, eo k (by omega) e]
        exact hm k h0 h1 e1
      · rw [eo _ e1 hk]
        by_cases e2 : k = i
        · have q := h.2 j hj hn hi (by omega)
          rw [e2, ei]
          exact q
        · rw [eo k e2 e]
          exact h.1 k h0 h1 e1
  · rw [hi, ei, eo k (by omega) (by omega)]
    have q := h.1 k h0 h1 (by omega)
    rw [hk] at q
    exact q
theorem heap_least {d : Array Int} {n : Nat} (h : Heap d n) : ∀ k, k < n → d[0]! ≤ d[k]! := fun k => by
  induction k using Nat.strongRecOn with
  | _ k ih =>
    intro hk
    rcases Nat.eq_zero_or_pos k with rfl | h0
    · exact Int.le_refl _
    · exact Int.le_trans (ih ((k - 1) / 2) (by omega) (by omega)) (h k h0 hk)
theorem up_start {d d' : Array Int} {n : Nat} (h : Heap d n) (e : ∀ k, k < n → d'[k]! = d[k]!) : UpInv d' (n + 1) n :=
  ⟨fun k h0 h1 hk => by rw [e k (by omega), e _ (by omega)]; exact h k h0 (by omega), fun k h0 h1 hk h2 => by omega⟩
theorem down_start {d d' : Array Int} {n m : Nat} (h : Heap d n) (hm : m ≤ n) (e : ∀ k, 0 < k → k < m → d'[k]! = d[k]!) : DownInv d' m 0 :=
  ⟨fun k h0 h1 hk => by rw [e k h0 h1, e _ (by omega) (by omega)]; exact h k h0 (by omega), fun k h0 h1 hk h2 => by omega⟩
end Go.Proofs.YtlcnefeikejcaaaGreatDoor
namespace Go.Proofs.YtlcnefeikejcaaaGreatDoor
open Go.RowKit Go.Sort
theorem up_go {q : Int → Bool} {d : Array Int} {j i : Nat} (h : (decide (i ≤ j) && q d[i]!) = true) : scanUp q d j i = scanUp q d j (i + 1) := by
  rw [scanUp.eq_def q d j i, if_pos h]
theorem up_end {q : Int → Bool} {d : Array Int} {j i : Nat} (h : (decide (i ≤ j) && q d[i]!) = false) : scanUp q d j i = i := by
  rw [scanUp.eq_def q d j i, if_neg (by simp [h])]
theorem down_go {q : Int → Bool} {d : Array Int} {j i : Nat} (hi : 0 < i) (h : (decide (i ≤ j) && q d[j]!) = true) : scanDown q d i j = scanDown q d i (j - 1) := by
  rcases j with _ | j
  · simp at h; omega
  · rw [scanDown, if_pos h]
    rfl
theorem down_end {q : Int → Bool} {d : Array Int} {j i : Nat} (h : (decide (i ≤ j) && q d[j]!) = false) : scanDown q d i j = j := by
  rcases j with _ | j
  · rfl
  · rw [scanDown, if_neg (by simp [h])]
theorem set_some {w : World} {p q : Addr} {x v : Value} (h : w.cell? q = some v) : ∃ v', (w.setCell p x).cell? q = some v' := by
  by_cases e : p = q
  · subst e
    exact ⟨x, World.cell?_setCell_same _ _ _ h⟩
  · exact ⟨v, by rw [World.cell?_setCell_other _ _ _ _ (fun k => e (by rw [k]))]; exact h⟩
end Go.Proofs.YtlcnefeikejcaaaGreatDoor
namespace Go.Proofs.YtlcnefeikejcaaaGreatDoor
open Go.RowKit Go.Sort
set_option maxHeartbeats 1600000 in
theorem less_row (b n cap : Nat) (d : Array Int) (i j : Nat) (w : World) (hds : d.size = n) (hH : Holds eU w b 0 d) (hi : i < n) (hj : j < n) :
    Calls Tryz.prog 200 #[.slice (some ⟨b, 0, none⟩) n cap, .int .i64 i, .int .i64 j] w fun e w' => e = .returned (.bool (ltInt d[i]! d[j]!)) ∧ Rw w b 0 d w' := by
  obtain ⟨G, HG, hcw, hfw⟩ := (Rw.self hH).fams hds
  have hcw2 : ∀ t, t < n → w.cell? ⟨b, t, none⟩ = some (.int .u32 (G t)) := fun t ht => by have := hcw t ht; rwa [Nat.zero_add] at this
  have A := Lib.hid (Rw.self hH)
  have e : ltInt d[i]! d[j]! = ltInt (G i) (G j) := by rw [HG.out, HG.out]
  rw [e]
  clear hH hcw hfw e HG
  go_enter Tryz.func200, Tryz.ntmps200
  go_wp2_with fail
  go_region
  go_wp2
  go_ret
  exact ⟨rfl, A.out.drew⟩
set_option maxHeartbeats 1600000 in
theorem swap_row (b n cap : Nat) (d : Array Int) (i j : Nat) (w : World) (hds : d.size = n) (hH : Holds eU w b 0 d) (hi : i < n) (hj : j < n) :
    Calls Tryz.prog 201 #[.slice (some ⟨b, 0, none⟩) n cap, .int .i64 i, .int .i64 j] w fun e w' => e = .returned (.tuple #[]) ∧ Rw w b 0 (swp d i j) w' := by
  obtain ⟨G, HG, hcw, hfw⟩ := (Rw.self hH).fams hds
  have hcw2 : ∀ t, t < n → w.cell? ⟨b, t, none⟩ = some (.int .u32 (G t)) := fun t ht => by have := hcw t ht; rwa [Nat.zero_add] at this
  have hfw2 : ∀ t, t < n → w.frozen? ⟨b, t, none⟩ = false := fun t ht => by have := hfw t ht; rwa [Nat.zero_add] at this
  obtain ⟨v0, hv0⟩ := set_some (p := ⟨b, i, none⟩) (x := .int .u32 (G j)) (hcw2 j hj)
  have A := Lib.hid ((Rw.self hH).swap (i := i) (j := j) (by omega) (by omega) (x := .int .u32 (G j)) (y := .int .u32 (G i)) (by rw [HG.out]) (by rw [HG.out]))
  simp only [Nat.zero_add] at A
  clear hH hcw hfw HG
  go_enter Tryz.func201, Tryz.ntmps201
  go_wp2_with fail
  go_region
  go_wp2
  go_end0
  exact ⟨rfl, A.out⟩
theorem len_row (A : Option Addr) (n cap : Nat) (w : World) : Calls Tryz.prog 199 #[.slice A n cap] w fun e w' => e = .returned (.int .i64 n) ∧ w = w' := by
  go_enter Tryz.func199, Tryz.ntmps199
  go_wp2
  go_ret
  exact ⟨rfl, rfl⟩
set_option maxHeartbeats 3200000 in
set_option maxRecDepth 1000000 in
theorem up_any (p b n cap : Nat) (d : Array Int) (j : Nat) (w : World) (hds0 : d.size = n) (hH : Holds eU w b 0 d) (hj : j < n) (hn : n < 4611686018427387904) (hpb : p ≠ b) (hV : UpInv d n j) (c00 : w.cell? ⟨p, 0, none⟩ = some (.slice (some ⟨b, 0, none⟩) n cap)) :
    Calls Tryz.prog 154 #[.iface 201 (.pointer (some ⟨p, 0, none⟩)), .int .i64 j] w fun e w' => e = .returned (.tuple #[]) ∧ ∃ d', Rw w b 0 d' w' ∧ PermIn 0 n d d' ∧ Heap d' n := by
  have hpb' : ¬ (fun k => k = b) (⟨p, 0, none⟩ : Addr).block := hpb
  have R0 := Lib.hid (Rw.self hH)
  have V0 := Lib.hid hV
  have LESS : Hid (∀ (d : Array Int) (i j : Nat) (w : World) (hds : d.size = n) (hH : Holds eU w b 0 d) (hi : i < n) (hj : j < n), Calls Tryz.prog 200 #[.slice (some ⟨b, 0, none⟩) n cap, .int .i64 i, .int .i64 j] w fun e w' => e = .returned (.bool (ltInt d[i]! d[j]!)) ∧ Rw w b 0 d w') := Lib.hid (less_row b n cap)
  have SWAP : Hid (∀ (d : Array Int) (i j : Nat) (w : World) (hds : d.size = n) (hH : Holds eU w b 0 d) (hi : i < n) (hj : j < n), Calls Tryz.prog 201 #[.slice (some ⟨b, 0, none⟩) n cap, .int .i64 i, .int .i64 j] w fun e w' => e = .returned (.tuple #[]) ∧ Rw w b 0 (swp d i j) w') := Lib.hid (swap_row b n cap)
  have C00 := Lib.hid c00
  clear hH hV c00
  go_enter Tryz.func154, Tryz.ntmps154
  go_wp2
  go_loopg [1] j (fun k s wr => ∃ (y : Nat) (dk : Array Int), s = .int .i64 y ∧ y < n ∧ y ≤ k ∧ dk.size = n ∧ Rw w b 0 dk wr ∧ Hid (UpInv dk n y) ∧ Hid (PermIn 0 n d dk))
  case atStart => exact ⟨j, d, rfl, hj, by omega, hds0, R0.out, V0, permIn_refl d 0 n⟩
  case round =>
    obtain ⟨y, dk, rfl, hy, hk, hds, R, V, P⟩ := hrel
    have c0 : wr.cell? ⟨p, 0, none⟩ = some (.slice (some ⟨b, 0, none⟩) n cap) := R.keep.cell C00.out hpb'
    have A := Lib.hid R
    have ml := fun k => m_less k p 0 (some ⟨b, 0, none⟩) n cap wr c0
    clear R R0 V0
    rcases Nat.eq_zero_or_pos y with rfl | hy0
    · have e1 : Int.tdiv ((0 : Int) - 1) 2 = 0 := rfl
      go_wp2
      go_end0
      exact ⟨rfl, dk, A.out, P.out, hup_stop V.out (.inl rfl)⟩
    · obtain ⟨i, hi⟩ : ∃ i, i = (y - 1) / 2 := ⟨_, rfl⟩
      have e1 : Int.tdiv ((y : Int) - 1) 2 = (i : Int) := by
        rw [show (y : Int) - 1 = ((y - 1 : Nat) : Int) by omega, hi]
        rfl
      have hne : ((i : Int) == (y : Int)) = false := by
        rw [beq_eq_false_iff_ne]
        omega
      have hin : i < n := by omega
      have hiy : i < y := by omega
      have HI := Lib.hid hi
      clear hi
      obtain ⟨q, hq⟩ : ∃ q, q = ltInt dk[y]! dk[i]! := ⟨_, rfl⟩
      have HQ := Lib.hid hq
      clear hq
      go_wp2_with (go_at_call 200; refine (LESS.out dk y i wr hds A.out.there hy hin).mono ?_; rintro e w2 ⟨he, R2⟩; rw [← HQ.out] at he; subst he; have A2 := Lib.hid (A.out.trans R2); have c2 := R2.keep.cell c0 hpb'; have ms2 := fun k => m_swap k p 0 (some ⟨b, 0, none⟩) n cap w2 c2; clear R2)
      · have hS : ltInt dk[y]! dk[i]! = false := by
          have : (!q) = true := by assumption
          rw [← HQ.out]
          simpa using this
        go_end0
        refine ⟨rfl, dk, A2.out, P.out, hup_stop V.out (.inr ?_)⟩
        rw [← HI.out]
        simpa [ltInt] using hS
      · have hS : ltInt dk[y]! dk[i]! = true := by
          have : (!q) = false := by assumption
          rw [← HQ.out]
          simpa using this
        have hS2 : dk[y]! < dk[i]! := by simpa [ltInt] using hS
        have V2 : Hid (UpInv (swp dk i y) n i) := by
          have := hup_go V.out hy0 hy (by omega) (by rw [← HI.out]; exact hS2)
          rw [← HI.out] at this
          exact this
        have P2 := Lib.hid (permIn_trans _ _ _ 0 n P.out (swp_permIn dk 0 n i y (by omega) (by omega) (by omega) (by omega) (by omega)))
        clear V P hS hS2
        go_wp2_with (go_at_call 201; refine (SWAP.out dk i y w2 hds A2.out.there hin hy).mono ?_; rintro e w3 ⟨rfl, R3⟩; have A3 := Lib.hid (A2.out.trans R3))
        go_roundg i
        case measure => omega
        case rel => exact ⟨i, swp dk i y, rfl, hin, by omega, by rw [size_swp]; exact hds, A3.out, V2, P2⟩
set_option maxHeartbeats 3200000 in
set_option maxRecDepth 1000000 in
theorem down_any (p b n cap m : Nat) (d : Array Int) (w : World) (hds0 : d.size = n) (hH : Holds eU w b 0 d) (hm : m ≤ n) (hn : n < 2305843009213693952) (hpb : p ≠ b) (hV : DownInv d m 0) (c00 : w.cell? ⟨p, 0, none⟩ = some (.slice (some ⟨b, 0, none⟩) n cap)) :
    Calls Tryz.prog 153 #[.iface 201 (.pointer (some ⟨p, 0, none⟩)), .int .i64 0, .int .i64 m] w fun e w' => ∃ f : Bool, e = .returned (.bool f) ∧ ∃ d', Rw w b 0 d' w' ∧ PermIn 0 m d d' ∧ Heap d' m := by
  have hpb' : ¬ (fun k => k = b) (⟨p, 0, none⟩ : Addr).block := hpb
  have R0 := Lib.hid (Rw.self hH)
  have V0 := Lib.hid hV
  have LESS : Hid (∀ (d : Array Int) (i j : Nat) (w : World) (hds : d.size = n) (hH : Holds eU w b 0 d) (hi : i < n) (hj : j < n), Calls Tryz.prog 200 #[.slice (some ⟨b, 0, none⟩) n cap, .int .i64 i, .int .i64 j] w fun e w' => e = .returned (.bool (ltInt d[i]! d[j]!)) ∧ Rw w b 0 d w') := Lib.hid (less_row b n cap)
  have SWAP : Hid (∀ (d : Array Int) (i j : Nat) (w : World) (hds : d.size = n) (hH : Holds eU w b 0 d) (hi : i < n) (hj : j < n), Calls Tryz.prog 201 #[.slice (some ⟨b, 0, none⟩) n cap, .int .i64 i, .int .i64 j] w fun e w' => e = .returned (.tuple #[]) ∧ Rw w b 0 (swp d i j) w') := Lib.hid (swap_row b n cap)
  have C00 := Lib.hid c00
  clear hH hV c00
  go_enter Tryz.func153, Tryz.ntmps153
  go_wp2
  go_loopg [7] m (fun k s wr => ∃ (y : Nat) (dk : Array Int), s = .int .i64 y ∧ (y < m ∨ y = 0) ∧ m - y ≤ k ∧ dk.size = n ∧ Rw w b 0 dk wr ∧ Hid (DownInv dk m y) ∧ Hid (PermIn 0 m d dk))
  case atStart => exact ⟨0, d, rfl, by omega, by omega, hds0, R0.out, V0, permIn_refl d 0 m⟩
  case round =>
    obtain ⟨i, dk, rfl, him, hk, hds, R, V, P⟩ := hrel
    have c0 : wr.cell? ⟨p, 0, none⟩ = some (.slice (some ⟨b, 0, none⟩) n cap) := R.keep.cell C00.out hpb'
    have A := Lib.hid R
    have ml := fun k => m_less k p 0 (some ⟨b, 0, none⟩) n cap wr c0
    clear R R0 V0
    have hib : i < 2305843009213693952 := by omega
    by_cases h1 : m ≤ 2 * i + 1
    · have h1z : (m : Int) ≤ 2 * (i : Int) + 1 := by omega
      go_wp2
      go_ret
      exact ⟨_, rfl, dk, A.out, P.out, hdown_stop V.out (fun k h0 h1 h2 => by omega)⟩
    · have h1z : ¬ (m : Int) ≤ 2 * (i : Int) + 1 := by omega
      have him2 : i < m := by omega
      have hin : i < n := by omega
      clear him
      by_cases h2 : 2 * i + 2 < m
      · have h2z : decide (2 * (i : Int) + 1 + 1 < (m : Int)) = true := decide_eq_true (by omega)
        have hj1 : 2 * i + 1 < n := by omega
        have hj2 : 2 * i + 2 < n := by omega
        obtain ⟨q2, hq2⟩ : ∃ q, q = ltInt dk[2 * i + 2]! dk[2 * i + 1]! := ⟨_, rfl⟩
        have HQ2 := Lib.hid hq2
        clear hq2
        have L0 := LESS.out dk (2 * i + 2) (2 * i + 1) wr hds A.out.there hj2 hj1
        rw [← HQ2.out, show ((2 * i + 1 : Nat) : Int) = 2 * (i : Int) + 1 by omega, show ((2 * i + 2 : Nat) : Int) = 2 * (i : Int) + 1 + 1 by omega] at L0
        have L0 := Lib.hid L0
        cases q2 with
        | true =>
          go_upto_region 8 with (go_at_call 200; refine L0.out.mono ?_; rintro e w1 ⟨rfl, R1⟩)
          have HM : Hid (∀ k, 0 < k → k < m → (k - 1) / 2 = i → dk[2 * i + 2]! ≤ dk[k]!) := by
            have hS : dk[2 * i + 2]! < dk[2 * i + 1]! := by simpa [ltInt] using HQ2.out.symm
            intro k h0 h1 h2
            rcases (show k = 2 * i + 1 ∨ k = 2 * i + 2 by omega) with rfl | rfl
            · exact Int.le_of_lt hS
            · exact Int.le_refl _
          rw [show 2 * (i : Int) + 1 + 1 = ((2 * i + 2 : Nat) : Int) by omega]
          have c1 : w1.cell? ⟨p, 0, none⟩ = some (.slice (some ⟨b, 0, none⟩) n cap) := R1.keep.cell c0 hpb'
          have ml1 := fun k => m_less k p 0 (some ⟨b, 0, none⟩) n cap w1 c1
          have A1 := Lib.hid (A.out.trans R1)
          obtain ⟨y, hy⟩ : ∃ y, y = 2 * i + 2 := ⟨_, rfl⟩
          rw [← hy] at HM ⊢
          have hy0 : 0 < y := by omega
          have hym : y < m := by omega
          have hyn : y < n := by omega
          have hiy : i < y := by omega
          have HY : Hid ((y - 1) / 2 = i) := by
            show (y - 1) / 2 = i
            omega
          clear ml A R1 c0 h1 h1z h2z h2 hj1 hj2 hy L0 HQ2
          have A := A1
          clear A1

          obtain ⟨q, hq⟩ : ∃ q, q = ltInt dk[y]! dk[i]! := ⟨_, rfl⟩
          have HQ := Lib.hid hq
          clear hq
          go_wp2_with (go_at_call 200; refine (LESS.out dk y i w1 hds A.out.there hyn hin).mono ?_; rintro e w2 ⟨he, R2⟩; rw [← HQ.out] at he; subst he; have A2 := Lib.hid (A.out.trans R2); have c2 := R2.keep.cell c1 hpb'; have ms2 := fun k => m_swap k p 0 (some ⟨b, 0, none⟩) n cap w2 c2; clear R2)
          · have hS : ltInt dk[y]! dk[i]! = false := by
              have : (!q) = true := by assumption
              rw [← HQ.out]
              simpa using this
            go_ret
            refine ⟨_, rfl, dk, A2.out, P.out, hdown_stop V.out ?_⟩
            have hS2 : dk[i]! ≤ dk[y]! := by simpa [ltInt] using hS
            intro k h0 h1 h2
            exact Int.le_trans hS2 (HM.out k h0 h1 h2)
          · have hS : ltInt dk[y]! dk[i]! = true := by
              have : (!q) = false := by assumption
              rw [← HQ.out]
              simpa using this
            have hS2 : dk[y]! < dk[i]! := by simpa [ltInt] using hS
            have V2 := Lib.hid (hdown_go V.out hy0 HY.out hym (by omega) HM.out hS2)
            have P2 := Lib.hid (permIn_trans _ _ _ 0 m P.out (swp_permIn dk 0 m i y (by omega) (by omega) (by omega) (by omega) (by omega)))
            clear V P hS hS2
            go_wp2_with (go_at_call 201; refine (SWAP.out dk i y w2 hds A2.out.there hin hyn).mono ?_; rintro e w3 ⟨rfl, R3⟩; have A3 := Lib.hid (A2.out.trans R3))
            go_roundg (m - y)
            case measure => omega
            case rel => exact ⟨y, swp dk i y, rfl, .inl hym, by omega, by rw [size_swp]; exact hds, A3.out, V2, P2⟩
        | false =>
          go_upto_region 8 with (go_at_call 200; refine L0.out.mono ?_; rintro e w1 ⟨rfl, R1⟩)
          have HM : Hid (∀ k, 0 < k → k < m → (k - 1) / 2 = i → dk[2 * i + 1]! ≤ dk[k]!) := by
            have hS : dk[2 * i + 1]! ≤ dk[2 * i + 2]! := by simpa [ltInt] using HQ2.out.symm
            intro k h0 h1 h2
            rcases (show k = 2 * i + 1 ∨ k = 2 * i + 2 by omega) with rfl | rfl
            · exact Int.le_refl _
            · exact hS
          rw [show 2 * (i : Int) + 1 + 1 = ((2 * i + 2 : Nat) : Int) by omega, show 2 * (i : Int) + 1 = ((2 * i + 1 : Nat) : Int) by omega]
          have c1 : w1.cell? ⟨p, 0, none⟩ = some (.slice (some ⟨b, 0, none⟩) n cap) := R1.keep.cell c0 hpb'
          have ml1 := fun k => m_less k p 0 (some ⟨b, 0, none⟩) n cap w1 c1
          have A1 := Lib.hid (A.out.trans R1)
          obtain ⟨y, hy⟩ : ∃ y, y = 2 * i + 1 := ⟨_, rfl⟩
          rw [← hy] at HM ⊢
          have hy0 : 0 < y := by omega
          have hym : y < m := by omega
          have hyn : y < n := by omega
          have hiy : i < y := by omega
          have HY : Hid ((y - 1) / 2 = i) := by
            show (y - 1) / 2 = i
            omega
          clear ml A R1 c0 h1 h1z h2z h2 hj1 hj2 hy L0 HQ2
          have A := A1
          clear A1

          obtain ⟨q, hq⟩ : ∃ q, q = ltInt dk[y]! dk[i]! := ⟨_, rfl⟩
          have HQ := Lib.hid hq
          clear hq
          go_wp2_with (go_at_call 200; refine (LESS.out dk y i w1 hds A.out.there hyn hin).mono ?_; rintro e w2 ⟨he, R2⟩; rw [← HQ.out] at he; subst he; have A2 := Lib.hid (A.out.trans R2); have c2 := R2.keep.cell c1 hpb'; have ms2 := fun k => m_swap k p 0 (some ⟨b, 0, none⟩) n cap w2 c2; clear R2)
          · have hS : ltInt dk[y]! dk[i]! = false := by
              have : (!q) = true := by assumption
              rw [← HQ.out]
              simpa using this
            go_ret
            refine ⟨_, rfl, dk, A2.out, P.out, hdown_stop V.out ?_⟩
            have hS2 : dk[i]! ≤ dk[y]! := by simpa [ltInt] using hS
            intro k h0 h1 h2
            exact Int.le_trans hS2 (HM.out k h0 h1 h2)
          · have hS : ltInt dk[y]! dk[i]! = true := by
              have : (!q) = false := by assumption
              rw [← HQ.out]
              simpa using this
            have hS2 : dk[y]! < dk[i]! := by simpa [ltInt] using hS
            have V2 := Lib.hid (hdown_go V.out hy0 HY.out hym (by omega) HM.out hS2)
            have P2 := Lib.hid (permIn_trans _ _ _ 0 m P.out (swp_permIn dk 0 m i y (by omega) (by omega) (by omega) (by omega) (by omega)))
            clear V P hS hS2
            go_wp2_with (go_at_call 201; refine (SWAP.out dk i y w2 hds A2.out.there hin hyn).mono ?_; rintro e w3 ⟨rfl, R3⟩; have A3 := Lib.hid (A2.out.trans R3))
            go_roundg (m - y)
            case measure => omega
            case rel => exact ⟨y, swp dk i y, rfl, .inl hym, by omega, by rw [size_swp]; exact hds, A3.out, V2, P2⟩
      · have h2z : decide (2 * (i : Int) + 1 + 1 < (m : Int)) = false := decide_eq_false (by omega)
        have hj1 : 2 * i + 1 < n := by omega
        go_upto_region 8 with fail
        have HM : Hid (∀ k, 0 < k → k < m → (k - 1) / 2 = i → dk[2 * i + 1]! ≤ dk[k]!) := by
          intro k h0 h1 h2
          obtain rfl : k = 2 * i + 1 := by omega
          exact Int.le_refl _
        obtain ⟨w1, hw1⟩ : ∃ w1, w1 = wr := ⟨_, rfl⟩
        have R1 : Rw wr b 0 dk w1 := by
          rw [hw1]
          exact Rw.self A.out.there
        rw [show 2 * (i : Int) + 1 = ((2 * i + 1 : Nat) : Int) by omega]
        rw [← hw1]
        have c1 : w1.cell? ⟨p, 0, none⟩ = some (.slice (some ⟨b, 0, none⟩) n cap) := R1.keep.cell c0 hpb'
        have ml1 := fun k => m_less k p 0 (some ⟨b, 0, none⟩) n cap w1 c1
        have A1 := Lib.hid (A.out.trans R1)
        obtain ⟨y, hy⟩ : ∃ y, y = 2 * i + 1 := ⟨_, rfl⟩
        rw [← hy] at HM ⊢
        have hy0 : 0 < y := by omega
        have hym : y < m := by omega
        have hyn : y < n := by omega
        have hiy : i < y := by omega
        have HY : Hid ((y - 1) / 2 = i) := by
          show (y - 1) / 2 = i
          omega
        clear ml A R1 c0 h1 h1z h2z h2 hj1 hy hw1
        have A := A1
        clear A1

        obtain ⟨q, hq⟩ : ∃ q, q = ltInt dk[y]! dk[i]! := ⟨_, rfl⟩
        have HQ := Lib.hid hq
        clear hq
        go_wp2_with (go_at_call 200; refine (LESS.out dk y i w1 hds A.out.there hyn hin).mono ?_; rintro e w2 ⟨he, R2⟩; rw [← HQ.out] at he; subst he; have A2 := Lib.hid (A.out.trans R2); have c2 := R2.keep.cell c1 hpb'; have ms2 := fun k => m_swap k p 0 (some ⟨b, 0, none⟩) n cap w2 c2; clear R2)
        · have hS : ltInt dk[y]! dk[i]! = false := by
            have : (!q) = true := by assumption
            rw [← HQ.out]
            simpa using this
          go_ret
          refine ⟨_, rfl, dk, A2.out, P.out, hdown_stop V.out ?_⟩
          have hS2 : dk[i]! ≤ dk[y]! := by simpa [ltInt] using hS
          intro k h0 h1 h2
          exact Int.le_trans hS2 (HM.out k h0 h1 h2)
        · have hS : ltInt dk[y]! dk[i]! = true := by
            have : (!q) = false := by assumption
            rw [← HQ.out]
            simpa using this
          have hS2 : dk[y]! < dk[i]! := by simpa [ltInt] using hS
          have V2 := Lib.hid (hdown_go V.out hy0 HY.out hym (by omega) HM.out hS2)
          have P2 := Lib.hid (permIn_trans _ _ _ 0 m P.out (swp_permIn dk 0 m i y (by omega) (by omega) (by omega) (by omega) (by omega)))
          clear V P hS hS2
          go_wp2_with (go_at_call 201; refine (SWAP.out dk i y w2 hds A2.out.there hin hyn).mono ?_; rintro e w3 ⟨rfl, R3⟩; have A3 := Lib.hid (A2.out.trans R3))
          go_roundg (m - y)
          case measure => omega
          case rel => exact ⟨y, swp dk i y, rfl, .inl hym, by omega, by rw [size_swp]; exact hds, A3.out, V2, P2⟩
end Go.Proofs.YtlcnefeikejcaaaGreatDoor
namespace Go.Proofs.YtlcnefeikejcaaaGreatDoor
open Go.RowKit
theorem fold_set : ∀ (xs : List Value) (k : Nat) (base : Array Value), k + xs.length = base.size → ((xs.zipIdx k).foldl (fun c (p : Value × Nat) => c.setIfInBounds p.2 p.1) base) = (base.toList.take k ++ xs).toArray
  | [], k, base, h => by
    simp only [List.zipIdx_nil, List.foldl_nil, List.append_nil]
    simp only [List.length_nil, Nat.add_zero] at h
    rw [List.take_of_length_le (by simp [h])]
  | x :: r, k, base, h => by
    simp only [List.zipIdx_cons, List.foldl_cons]
    simp only [List.length_cons] at h
    rw [fold_set r (k + 1) _ (by simp; omega)]
    congr 1
    simp only [Array.toList_setIfInBounds]
    rw [List.take_succ_eq_append_getElem (by simp; omega), List.take_set_of_le (Nat.le_refl _), List.getElem_set_self]
    simp
theorem run_buildSlice_one {P : Program} (w : World) (t elem : TypeId) (cs : List Value) (zv : Value) (hu : P.underlying t = some (.slice elem)) (hi : (P.info? elem).map (fun i => (i.zero, i.size)) = some (some zv, cs.length)) (h0 : 0 < cs.length) (h1 : cs.length ≤ 16777216) :
    (Instr.buildSlice t 1 #[(0, .agg cs.toArray)]).run P w = .ok (.slice (some ⟨w.heap.size, 0, none⟩) 1 1) (w.alloc (.cells cs.toArray elem)) := by
  cases hq : P.info? elem with
  | none => simp [hq] at hi
  | some i =>
    obtain ⟨hz, hs⟩ : i.zero = some zv ∧ i.size = cs.length := by simpa [hq] using hi
    have e2 : ¬ (cs.length > 16777216) := by omega
    have e3 : ¬ cs = [] := by intro e; subst e; simp at h0
    simp [Instr.buildSlice, run_underlying hu, sizeOf, typeInfo, zeroValue, hq, hz, hs, e3, Instr.fill, Value.cells, e2, newRow]
    rw [fold_set cs 0 _ (by simp)]
    simp
theorem run_load_mid {P : Program} {op : Oper} {a : Act} {w : World} (ty : TypeId) (x : Operand) (ho : op.op = .load ty x) (b o : Nat) (hx : a.eval x = .pointer (some ⟨b, o, none⟩)) (cs : List Value) (d : TypeDesc) (hS : w.rangeAt b o cs)
    (hu : P.underlying ty = some d) (hd : d.isRow = true) (hi : (P.info? ty).map (·.size) = some cs.length) : (execOp a.eval op).run P w = .ok (.value (.agg cs.toArray)) w := by
  unfold execOp
  simp only [ho, hx, Instr.loadAt, Instr.sureAddr, Sem.run_bind, Sem.run_pure, Result.andThen_ok, run_loadVar_mid w b o ty cs d hS hu hd hi]
theorem wp_buildSlice_one {P : Program} {o : Oper} {a : Act} {w : World} {K : Act → World → Prop} {Q : Exit → Act → World → Prop} (t elem : TypeId) (x : Operand) (ho : o.op = .buildSlice t 1 #[(0, x)]) (cs : List Value) (zv : Value) (hx : a.eval x = .agg cs.toArray) (hu : P.underlying t = some (.slice elem)) (hi : (P.info? elem).map (fun i => (i.zero, i.size)) = some (some zv, cs.length)) (h0 : 0 < cs.length) (h1 : cs.length ≤ 16777216)
    (h : K (a.put o.dst (.slice (some ⟨w.heap.size, 0, none⟩) 1 1)) (w.alloc (.cells cs.toArray elem))) : o.wp P a w K Q := by
  have hr := run_buildSlice_one (P := P) w t elem cs zv hu hi h0 h1
  unfold Oper.wp execOp
  simp only [ho, List.map_toArray, List.map_cons, List.map_nil, hx, Sem.run_bind, Sem.run_pure, Result.andThen_ok, hr]
  exact h
theorem run_append_own2 {P : Program} (w : World) (t ty e : TypeId) (i : TypeInfo) (z : Value) (size bytes : Nat) (ht : P.underlying t = some (.slice e)) (hi : P.info? e = some i) (hz : i.zero = some z)
    (hsize : i.size = size) (hby : i.bytes = bytes) (hzs : z.cells.size = size) (hsz : 0 < size)
    (v : Value) (n : Nat) (xs : List Value) (hown : w.ownsRow 0 e size v n xs)
    (ad : Addr) (m c : Nat) (news : List Value) (hl : news.length = m * size) (hnews : ∀ j u, news[j]? = some u → w.cell? (ad.add j) = some u) (h1 : ∀ u ∈ news, u.oneCell' = true)
    (h63 : n + m ≤ maxLen) (hbytes : (n + m) * bytes ≤ 140737488355328) :
    ∃ v' w', (Builtin.append_ #[t, t] ty #[v, .slice (some ad) m c]).run P w = .ok v' w' ∧ w'.ownsRow 0 e size v' (n + m) (xs ++ news) ∧ w.grownBy w' v.ownBlock ∧ (∀ b, v'.ownBlock = some b → v.ownBlock = some b ∨ w.heap.size ≤ b) := by
  rcases hown.2 with ⟨rfl, h0⟩ | ⟨g, cap, cur, rfl, _, _, hnc, _⟩
  · subst h0
    obtain rfl : xs = [] := List.eq_nil_of_length_eq_zero (by simpa using hown.1)
    obtain ⟨v', w', hr, h2, h3, _⟩ := run_append_own (P := P) w w.heap.size t ty e i z size bytes ht hi hz hsize hby hzs hsz (.slice none 0 0) 0 [] (World.ownsRow_nil w _ e size) ad m c news hl hnews h1 h63 hbytes (Nat.le_refl _)
    exact ⟨v', w', hr, Go.Joins.ownsRow_le h2 (Nat.zero_le _), h3, fun b hb => .inr (h2.lt b hb).1⟩
  · by_cases hroom : n + m ≤ cap
    · obtain ⟨w', hr, h2, h3⟩ := run_append_fits (P := P) w 0 t ty e i size ht hi hsize g n cap xs hown ad m c news hl hnews h1 hroom
      exact ⟨_, w', hr, h2, h3, fun b hb => .inl hb⟩
    · obtain ⟨v', w', hr, h2, h3⟩ := run_append_arg_grows (P := P) w t ty e i z size bytes ht hi hz hsize hby hzs hsz ⟨g, 0, none⟩ n cap xs hown.1 (fun j u hu => hown.cells rfl j u hu) ad m c news hl hnews (by omega) h63 hbytes
      exact ⟨v', w', hr, Go.Joins.ownsRow_le h2 (Nat.zero_le _), ⟨h3.os, h3.tape, h3.output, h3.size, fun k hk _ => h3.block k hk (by simp)⟩, fun b hb => .inr (h2.lt b hb).1⟩
theorem wp_append_own2 {P : Program} {w : World} {o : Oper} {a : Act} {K : Act → World → Prop} {Q : Exit → Act → World → Prop} (s x : Operand) (t : TypeId)
    (ho : o.op = .call { callee := .builtin .append, args := #[s, x], argTypes := #[t, t] }) (e : TypeId) (i : TypeInfo) (z : Value) (size bytes : Nat) (ht : P.underlying t = some (.slice e)) (hi : P.info? e = some i) (hz : i.zero = some z)
    (hsize : i.size = size) (hby : i.bytes = bytes) (hzs : z.cells.size = size) (hsz : 0 < size)
    (v : Value) (n : Nat) (xs : List Value) (hs : a.eval s = v) (hown : w.ownsRow 0 e size v n xs)
    (ad : Addr) (m c : Nat) (news : List Value) (hx : a.eval x = .slice (some ad) m c) (hl : news.length = m * size) (hnews : ∀ j u, news[j]? = some u → w.cell? (ad.add j) = some u) (h1 : ∀ u ∈ news, u.oneCell' = true)
    (h63 : n + m ≤ maxLen) (hbytes : (n + m) * bytes ≤ 140737488355328)
    (h : ∀ v' w', w'.ownsRow 0 e size v' (n + m) (xs ++ news) → w.grownBy w' v.ownBlock → (∀ b, v'.ownBlock = some b → v.ownBlock = some b ∨ w.heap.size ≤ b) → K (a.put o.dst v') w') : o.wp P a w K Q := by
  obtain ⟨v', w', hr, h2, h3, h4⟩ := run_append_own2 (P := P) w t o.type e i z size bytes ht hi hz hsize hby hzs hsz v n xs hown ad m c news hl hnews h1 h63 hbytes
  unfold Oper.wp execOp
  simp only [ho, resolve, invoke, builtin, Sem.run_bind, Sem.run_pure, Result.andThen_ok, List.map_toArray, List.map_cons, List.map_nil, hs, hx, hr]
  exact h v' w' h2 h3 h4
end Go.Proofs.YtlcnefeikejcaaaGreatDoor
namespace Go.Proofs.YtlcnefeikejcaaaGreatDoor
open Go.RowKit Go.Sort
def us (xs : List Int) : List Value := xs.map (Value.int .u32)
theorem us_length (xs : List Int) : (us xs).length = xs.length := by simp [us]
theorem us_get (xs : List Int) (j : Nat) (h : j < xs.length) : (us xs)[j]? = some (.int .u32 xs[j]!) := by
  simp [us, h]
theorem us_one (xs : List Int) : ∀ u ∈ us xs, u.oneCell' = true := ints_oneCell .u32 xs
theorem own_holds {w : World} {base g n cap : Nat} {e : TypeId} {xs : List Int} (h : w.ownsRow base e 1 (.slice (some ⟨g, 0, none⟩) n cap) n (us xs)) : Holds eU w g 0 xs.toArray := by
  have hl : xs.length = n := by rw [← us_length, h.1, Nat.mul_one]
  intro j hj
  have hj2 : j < xs.length := by simpa using hj
  refine ⟨?_, h.frozenAt _⟩
  rw [h.cellAt (0 + j) (by omega), Nat.zero_add, us_get xs j hj2]
  simp [hj2]
theorem own_of_rw {w w' : World} {base g n cap : Nat} {e : TypeId} {xs : List Int} {d : Array Int} (h : w.ownsRow base e 1 (.slice (some ⟨g, 0, none⟩) n cap) n (us xs)) (R : Rw w g 0 d w') (hd : d.size = n) :
    w'.ownsRow base e 1 (.slice (some ⟨g, 0, none⟩) n cap) n (us d.toList) := by
  rcases h.2 with ⟨h', _⟩ | ⟨g', cap', cur, h', hb, hg, hnc, hcm, hcs, htake⟩
  · simp at h'
  · simp only [Value.slice.injEq, Option.some.injEq, Addr.mk.injEq, and_true, true_and] at h'
    obtain ⟨rfl, rfl⟩ := h'
    obtain ⟨c1, q1, s1⟩ := R.shape cur e _ hg
    refine ⟨by rw [us_length, Array.length_toList, hd, Nat.mul_one], .inr ⟨g, cap, c1, rfl, hb, q1, hnc, hcm, by omega, ?_⟩⟩
    rw [Nat.mul_one]
    apply List.ext_getElem?
    intro j
    by_cases hj : j < n
    · have c := (R.holds j (by omega)).1
      rw [Nat.zero_add] at c
      simp only [World.cell?, q1] at c
      rw [List.getElem?_take_of_lt hj, Array.getElem?_toList, us_get _ _ (by simp; omega)]
      simpa [hd, hj] using c
    · rw [List.getElem?_take_eq_none (by omega), List.getElem?_eq_none (by rw [us_length]; simp; omega)]
theorem own_shrink {w : World} {base g n m cap : Nat} {e : TypeId} {xs : List Int} (h : w.ownsRow base e 1 (.slice (some ⟨g, 0, none⟩) n cap) n (us xs)) (hm : m ≤ n) :
    w.ownsRow base e 1 (.slice (some ⟨g, 0, none⟩) m cap) m (us (xs.take m)) := by
  rcases h.2 with ⟨h', _⟩ | ⟨g', cap', cur, h', hb, hg, hnc, hcm, hcs, htake⟩
  · simp at h'
  · simp only [Value.slice.injEq, Option.some.injEq, Addr.mk.injEq, and_true, true_and] at h'
    obtain ⟨rfl, rfl⟩ := h'
    have hl : xs.length = n := by rw [← us_length, h.1, Nat.mul_one]
    refine ⟨by rw [us_length, List.length_take, hl, Nat.mul_one]; omega, .inr ⟨g, cap, cur, rfl, hb, hg, by omega, hcm, hcs, ?_⟩⟩
    have e1 : us (xs.take m) = (us xs).take m := by simp [us, List.map_take]
    rw [e1, ← htake, Nat.mul_one, Nat.mul_one, List.take_take, Nat.min_eq_left hm]
end Go.Proofs.YtlcnefeikejcaaaGreatDoor
namespace Go.Proofs.YtlcnefeikejcaaaGreatDoor
open Go.RowKit
section
variable {P : Program} {ops : Array Oper} {Q : Exit → Act → World → Prop} {z : Nat}
def waitsB (ops : Array Oper) (z i : Nat) : Bool := match ops[z]? with | none => true | some o => o.after.any fun e => Region.binds .any e && e.on == i
def Lz (P : Program) (ops : Array Oper) (Q : Exit → Act → World → Prop) (z : Nat) (S : World → Prop) : Nat → Array Bool → Act → World → Prop
  | 0, listed, a, w => Region.ready .any ops listed = [] ∧ Q .normal a w
  | fuel + 1, listed, a, w =>
    (Region.ready .any ops listed = [] → Q .normal a w) ∧
    ∀ i ∈ Region.ready .any ops listed, wpOp P ops Q i (fun a' w' => (i = z ∨ S w') ∧ Lz P ops Q z S fuel (listed.setIfInBounds i true) a' w') a w
theorem Lz.any {S : World → Prop} : ∀ (fuel : Nat) (listed : Array Bool) (a : Act) (w : World), Lz P ops Q z S fuel listed a w → wpAny P .any ops Q fuel listed a w
  | 0, _, _, _, h => h
  | fuel + 1, _, _, _, h => ⟨h.1, fun i hi => wpOp_mono (fun a' w' h' => Lz.any fuel _ a' w' h'.2) (h.2 i hi)⟩
theorem Lz.mono {S T : World → Prop} (h : ∀ w, T w → S w) : ∀ (fuel : Nat) (listed : Array Bool) (a : Act) (w : World), Lz P ops Q z T fuel listed a w → Lz P ops Q z S fuel listed a w
  | 0, _, _, _, k => k
  | fuel + 1, _, _, _, k => ⟨k.1, fun i hi => wpOp_mono (fun a' w' q => ⟨q.1.imp id (h w'), Lz.mono h fuel _ a' w' q.2⟩) (k.2 i hi)⟩
theorem Lz.first {S : World → Prop} {i : Nat} {oi : Oper} {v : Value} (hi : ops[i]? = some oi) (hsel : ∀ (j : Nat) (o : Oper) cs b, ops[j]? = some o → o.op ≠ .select cs b)
    (hz : waitsB ops z i = true) (hQ : ∀ c a w, Q (.panic c) (a.put oi.dst v) w → Q (.panic c) a w) :
    ∀ (fuel : Nat) (listed : Array Bool) (a : Act) (w : World),
      (∀ j oj, ops[j]? = some oj → j ≠ i → listed.getD j true = false → (∀ e ∈ oj.after, Region.binds .any e = true → e.on ≠ i) → oi.apart ops oj = true) →
      i ∈ Region.ready .any ops listed → YieldsIf P ops S oi v a → S w →
      Lz P ops Q z S fuel (listed.setIfInBounds i true) (a.put oi.dst v) w → Lz P ops Q z S (fuel + 1) listed a w := by
  intro fuel
  induction fuel with
  | zero =>
    intro listed a w _ hr hy hS H
    refine ⟨fun h => (by rw [h] at hr; cases hr), fun j hj => ?_⟩
    by_cases hji : j = i
    · subst hji; exact hy.wpOp hi hS ⟨.inr hS, H⟩
    · have := ready_mono hj hji
      rw [H.1] at this
      cases this
  | succ fuel ih =>
    intro listed a w hfree hr hy hS H
    refine ⟨fun h => (by rw [h] at hr; cases hr), fun j hj => ?_⟩
    by_cases hji : j = i
    · subst hji; exact hy.wpOp hi hS ⟨.inr hS, H⟩
    · have h1 := H.2 j (ready_mono hj hji)
      obtain ⟨hjun, oj, hoj, hall⟩ := mem_ready.1 hj
      have hnot : ∀ e ∈ oj.after, Region.binds .any e = true → e.on ≠ i := fun e he hb heq => by
        have h1 := hall e he hb
        have h0 := (mem_ready.1 hr).1
        rw [heq] at h1
        rcases Nat.lt_or_ge i listed.size with h' | h'
        · simp [h'] at h0 h1; rw [h0] at h1; cases h1
        · simp [Array.getElem?_eq_none h'] at h1
      have hjz : j ≠ z := fun e => by
        subst e
        unfold waitsB at hz
        rw [hoj] at hz
        obtain ⟨e, he, hb⟩ := Array.any_eq_true'.1 hz
        simp only [Bool.and_eq_true, beq_iff_eq] at hb
        exact hnot e he hb.1 hb.2
      have h2 := wpOp_putIf hoj (hfree j oj hoj hji hjun hnot) (fun cs b => hsel i oi cs b hi) (fun cs b => hsel j oj cs b hoj) hQ hy h1
      have hfree' : ∀ k ok, ops[k]? = some ok → k ≠ i → (listed.setIfInBounds j true).getD k true = false →
          (∀ e ∈ ok.after, Region.binds .any e = true → e.on ≠ i) → oi.apart ops ok = true := fun k ok hk hki hun hno => by
        refine hfree k ok hk hki ?_ hno
        by_cases hjk : j = k
        · subst hjk; exact hjun
        · rw [getD_set_ne true hjk] at hun; exact hun
      refine wpOp_mono (fun a' w' h3 => ?_) h2
      have hS' : S w' := h3.2.1.resolve_left hjz
      refine ⟨.inr hS', ih (listed.setIfInBounds j true) a' w' hfree' (ready_mono hr (Ne.symm hji)) h3.1 hS' ?_⟩
      rw [Array.setIfInBounds_comm _ _ hji]
      exact h3.2.2
theorem lz_start (n z : Nat) (S : World → Prop) {id : Nat} {a : Act} {w : World} (hn : ops.size = n) (hm : P.follows .mixedOrders = true) (h : Lz P ops Q z S n (Array.replicate n false) a w.drew) : (Code.region id ops true).wp P Q a w := by
  subst hn
  exact wp_region_any hm (Lz.any _ _ _ _ h)
theorem lz_done {S : World → Prop} {fuel : Nat} {listed : Array Bool} {a : Act} {w : World} (hr : Region.ready .any ops listed = []) (h : Q .normal a w) : Lz P ops Q z S fuel listed a w := by
  cases fuel with
  | zero => exact ⟨hr, h⟩
  | succ n => exact ⟨fun _ => h, by rw [hr]; simp⟩
theorem lz_back (hQ : ∀ c t u a w, Q (.panic c) (Act.put a (some t) u) w → Q (.panic c) a w) {d : Option Tmp} {v : Value} : ∀ c a w, Q (.panic c) (Act.put a d v) w → Q (.panic c) a w := by
  intro c a w h
  cases d with
  | none => exact h
  | some t => exact hQ c t v a w h
theorem lz_take (i t : Nat) {S : World → Prop} {oi : Oper} {v : Value} {fuel : Nat} {listed : Array Bool} {a : Act} {w : World} (hi : ops[i]? = some oi) (hd : oi.dst = some t)
    (hs : Region.noSelect ops = true) (hf : Region.free .any ops listed i = true) (hr : (Region.ready .any ops listed).contains i = true) (hz : waitsB ops z i = true)
    (hQ : ∀ c t u a w, Q (.panic c) (Act.put a (some t) u) w → Q (.panic c) a w) (hw : Region.wanted oi (yielded ops a.tmps) = true) (hS : S w)
    (hy : ∀ W, S W → (execOp a.eval oi).run P W = .ok (.value v) W)
    (h : Lz P ops Q z S fuel (listed.setIfInBounds i true) (a.put (some t) v) w) : Lz P ops Q z S (fuel + 1) listed a w :=
  Lz.first hi (Region.noSelect_spec hs) hz (lz_back hQ) fuel listed a w (Region.free_spec hi hf) (by simpa using hr) (Or.inl ⟨hw, hy⟩) hS (by rw [hd]; exact h)
theorem lz_step (i : Nat) {S : World → Prop} {o : Oper} {fuel : Nat} {listed : Array Bool} {a : Act} {w : World} (ho : ops[i]? = some o) (hr : Region.ready .any ops listed = [i])
    (h : ∀ K : Act → World → Prop, Shut (∀ a' w', S w' → Lz P ops Q z S fuel (listed.setIfInBounds i true) a' w' → K a' w') → if Region.wanted o (yielded ops a.tmps) = true then Oper.wp P o a w K Q else K (a.put o.dst undef) w) :
    Lz P ops Q z S (fuel + 1) listed a w := by
  refine ⟨fun h0 => (by rw [hr] at h0; cases h0), fun j hj => ?_⟩
  obtain rfl : j = i := by rw [hr] at hj; simpa using hj
  exact wpOp_step ho (fun K hK => h K (fun a' w' hb hl => hK a' w' ⟨.inr hb, hl⟩))
theorem lz_last {S : World → Prop} {o : Oper} {fuel : Nat} {listed : Array Bool} {a : Act} {w : World} (ho : ops[z]? = some o) (hr : Region.ready .any ops listed = [z]) (he : Region.ready .any ops (listed.setIfInBounds z true) = [])
    (h : ∀ K : Act → World → Prop, Shut (∀ a' w', Q .normal a' w' → K a' w') → if Region.wanted o (yielded ops a.tmps) = true then Oper.wp P o a w K Q else K (a.put o.dst undef) w) :
    Lz P ops Q z S (fuel + 1) listed a w := by
  refine ⟨fun h0 => (by rw [hr] at h0; cases h0), fun j hj => ?_⟩
  obtain rfl : j = z := by rw [hr] at hj; simpa using hj
  exact wpOp_step ho (fun K hK => h K (fun a' w' hq => hK a' w' ⟨.inl rfl, lz_done he hq⟩))
theorem lz_op (i : Nat) {S : World → Prop} {o : Oper} {fuel : Nat} {listed : Array Bool} {a : Act} {w : World} (ho : ops[i]? = some o) (hg : o.guard = none) (hr : Region.ready .any ops listed = [i])
    (h : ∀ K : Act → World → Prop, Shut (∀ a' w', S w' → Lz P ops Q z S fuel (listed.setIfInBounds i true) a' w' → K a' w') → Oper.wp P o a w K Q) :
    Lz P ops Q z S (fuel + 1) listed a w :=
  lz_step i ho hr (fun K hK => by rw [if_pos (by simp [Region.wanted, hg])]; exact h K hK)
theorem lz_end {S : World → Prop} {o : Oper} {fuel : Nat} {listed : Array Bool} {a : Act} {w : World} (ho : ops[z]? = some o) (hg : o.guard = none) (hr : Region.ready .any ops listed = [z]) (he : Region.ready .any ops (listed.setIfInBounds z true) = [])
    (h : ∀ K : Act → World → Prop, Shut (∀ a' w', Q .normal a' w' → K a' w') → Oper.wp P o a w K Q) :
    Lz P ops Q z S (fuel + 1) listed a w :=
  lz_last ho hr he (fun K hK => by rw [if_pos (by simp [Region.wanted, hg])]; exact h K hK)
end
end Go.Proofs.YtlcnefeikejcaaaGreatDoor
namespace Go.Proofs.YtlcnefeikejcaaaGreatDoor
open Go.RowKit Go.Sort
theorem Tryz.info31 : (Tryz.prog.info? 31).map (fun i => (i.zero, i.size, i.bytes)) = some (some (.int .u32 0), 1, 4) := by kernel_rfl
structure Rv (w : World) (p : Nat) (v : Value) (xs : List Int) : Prop where
  c0 : w.cell? ⟨p, 0, none⟩ = some v
  f0 : w.frozen? ⟨p, 0, none⟩ = false
  own : w.ownsRow 0 31 1 v xs.length (us xs)
  ne : v.ownBlock ≠ some p
def fr (p : Nat) (v : Value) : Nat → Prop := fun b => b = p ∨ v.ownBlock = some b
structure Rt (w w' : World) (p : Nat) (v v' : Value) (xs : List Int) : Prop where
  rv : Rv w' p v' xs
  keep : Keep (fr p v) w w'
  blk : ∀ b, v'.ownBlock = some b → v.ownBlock = some b ∨ w.heap.size ≤ b
  rest : ∀ i x, 0 < i → w.cell? ⟨p, i, none⟩ = some x → w'.cell? ⟨p, i, none⟩ = some x
theorem Rv.plt {w : World} {p : Nat} {v : Value} {xs : List Int} (h : Rv w p v xs) : p < w.heap.size := World.block_lt_of_cell? w _ h.c0
theorem Rv.blt {w : World} {p : Nat} {v : Value} {xs : List Int} (h : Rv w p v xs) : ∀ b, fr p v b → b < w.heap.size := by
  rintro b (rfl | hb)
  · exact h.plt
  · exact (h.own.lt b hb).2
theorem Rt.trans {w w1 w2 : World} {p : Nat} {v v1 v2 : Value} {xs ys : List Int} (h : Rt w w1 p v v1 xs) (k : Rt w1 w2 p v1 v2 ys) : Rt w w2 p v v2 ys :=
  ⟨k.rv, h.keep.trans k.keep (fun i hi => by
    rcases hi with rfl | hi
    · exact .inl (.inl rfl)
    · rcases h.blk i hi with q | q
      · exact .inl (.inr q)
      · exact .inr q), fun b hb => by
    rcases k.blk b hb with q | q
    · exact h.blk b q
    · exact .inr (Nat.le_trans h.keep.size q), fun i x hi hx => k.rest i x hi (h.rest i x hi hx)⟩
theorem Rv.turn {w w' : World} {p g n cap : Nat} {xs : List Int} {d : Array Int} (h : Rv w p (.slice (some ⟨g, 0, none⟩) n cap) xs) (R : Rw w g 0 d w') (hd : d.size = n) : Rt w w' p (.slice (some ⟨g, 0, none⟩) n cap) (.slice (some ⟨g, 0, none⟩) n cap) d.toList := by
  have hl : xs.length = n := by
    rcases h.own.2 with ⟨q, _⟩ | ⟨g', cap', cur, q, _⟩
    · simp at q
    · simp only [Value.slice.injEq] at q
      exact q.2.1.symm
  have hne : ¬ (fun k => k = g) p := fun e => h.ne (by rw [e]; rfl)
  refine ⟨⟨R.keep.cell h.c0 hne, (R.keep.frozen h.c0 hne).trans h.f0, ?_, h.ne⟩, R.keep.mono (fun k _ e => .inr (by rw [e]; rfl)), fun b hb => .inl hb, fun i x _ hx => R.keep.cell hx hne⟩
  have := own_of_rw (hl ▸ h.own) R (by omega)
  rw [Array.length_toList, hd]
  exact this
set_option maxHeartbeats 1600000 in
set_option maxRecDepth 100000 in
theorem push_row (p : Nat) (v : Value) (xs : List Int) (x : Int) (w : World) (h : Rv w p v xs) (hn : xs.length < 65536) :
    Calls Tryz.prog 203 #[.pointer (some ⟨p, 0, none⟩), .iface 31 (.int .u32 x)] w fun e w' => e = .returned (.tuple #[]) ∧ ∃ v', Rt w w' p v v' (xs ++ [x]) := by
  obtain ⟨i0, hi0, hz0, hz1, hz2⟩ := info_parts Tryz.info31
  have HR := Lib.hid h
  have C0 := Lib.hid h.c0
  have HN : Hid (¬ v.ownBlock = some p) := h.ne
  clear h
  go_enter Tryz.func203, Tryz.ntmps203
  go_wp2_with fail
  have hS : Hid (Keep (fun b => v.ownBlock = some b) w w.drew) := (Keep.refl _ _).drew
  have HO := Lib.hid (HR.out.own.alloc (.cells #[.int .u32 x] 31))
  refine lz_start 10 9 (fun W => Keep (fun b => v.ownBlock = some b) w W) rfl (by kernel_rfl) ?_
  refine lz_take 0 4 (v := ?_) rfl rfl (by kernel_rfl) (by kernel_rfl) (by kernel_rfl) (by kernel_rfl) (fun _ _ _ _ _ h => h) (by rfl) hS.out (fun W hW => ?_) ?_
  rotate_left
  · go_simp; try rfl
  try simp only [Act.put, List.setIfInBounds_toArray, List.set_cons_zero, List.set_cons_succ]
  refine lz_take 1 5 (v := ?_) rfl rfl (by kernel_rfl) (by kernel_rfl) (by kernel_rfl) (by kernel_rfl) (fun _ _ _ _ _ h => h) (by rfl) hS.out (fun W hW => ?_) ?_
  rotate_left
  · go_simp; try rfl
  try simp only [Act.put, List.setIfInBounds_toArray, List.set_cons_zero, List.set_cons_succ]
  refine lz_take 2 6 (v := ?_) rfl rfl (by kernel_rfl) (by kernel_rfl) (by kernel_rfl) (by kernel_rfl) (fun _ _ _ _ _ h => h) (by rfl) hS.out (fun W hW => ?_) ?_
  rotate_left
  · go_simp; try rfl
  try simp only [Act.put, List.setIfInBounds_toArray, List.set_cons_zero, List.set_cons_succ]
  refine lz_take 3 7 (v := ?_) rfl rfl (by kernel_rfl) (by kernel_rfl) (by kernel_rfl) (by kernel_rfl) (fun _ _ _ _ _ h => h) (by rfl) hS.out (fun W hW => ?_) ?_
  rotate_left
  · have q := hW.cell C0.out HN.out; go_simp; try rfl
  try simp only [Act.put, List.setIfInBounds_toArray, List.set_cons_zero, List.set_cons_succ]
  refine lz_take 4 8 (v := ?_) rfl rfl (by kernel_rfl) (by kernel_rfl) (by kernel_rfl) (by kernel_rfl) (fun _ _ _ _ _ h => h) (by rfl) hS.out (fun W hW => ?_) ?_
  rotate_left
  · go_simp; try rfl
  try simp only [Act.put, List.setIfInBounds_toArray, List.set_cons_zero, List.set_cons_succ]
  refine lz_take 5 9 (v := ?_) rfl rfl (by kernel_rfl) (by kernel_rfl) (by kernel_rfl) (by kernel_rfl) (fun _ _ _ _ _ h => h) (by rfl) hS.out (fun W hW => ?_) ?_
  rotate_left
  · go_simp; try rfl
  try simp only [Act.put, List.setIfInBounds_toArray, List.set_cons_zero, List.set_cons_succ]
  refine lz_op 6 rfl rfl (by kernel_rfl) (fun K hK => ?_)
  go_simp
  have hk6 : Keep (fun b => v.ownBlock = some b) w (w.alloc (.cells #[.int .u32 x] 31)).drew := ((Keep.refl _ w).alloc _).drew
  refine hK.out _ _ hk6 ?_
  clear hK K
  try simp only [Act.put, List.setIfInBounds_toArray, List.set_cons_zero, List.set_cons_succ]
  refine lz_op 7 rfl rfl (by kernel_rfl) (fun K hK => ?_)
  refine wp_append_own2 _ _ 181 rfl 31 i0 _ 1 4 Tryz.underlying181 hi0 hz0 hz1 hz2 rfl (by decide) v xs.length (us xs) rfl HO.out ⟨w.heap.size, 0, none⟩ 1 1 [.int .u32 x] rfl rfl ?c2 ?c3 ?c4 ?c5 ?_
  case c2 =>
    intro j u hj
    rw [Addr.add_mid]
    show (w.alloc _).cell? ⟨w.heap.size, 0 + j, none⟩ = _
    rw [World.cell?_alloc_at _ _ _ _ rfl]
    simpa using hj
  case c3 =>
    intro u hu
    rw [List.mem_singleton.1 hu]
    rfl
  case c4 => unfold maxLen; omega
  case c5 => omega
  intro v2 w4 hown hgrow hblk
  obtain ⟨g2, cap2, rfl⟩ := Go.Joins.ownsRow_form hown (by omega)
  generalize hv2 : (Value.slice (some ⟨g2, 0, none⟩) (xs.length + 1) cap2) = v2 at *
  have hk7 : Keep (fun b => v.ownBlock = some b) w w4 := Keep.grown hk6 hgrow (fun k hk => .inl hk)
  have HB : Hid (∀ b, v2.ownBlock = some b → v.ownBlock = some b ∨ w.heap.size ≤ b) := fun b hb => (hblk b hb).imp id (fun q => Nat.le_trans (by simp [go_sem]) q)
  have HW := Lib.hid hown
  have hS7 := Lib.hid hk7
  refine hK.out _ _ hk7 ?_
  clear hK K hgrow hblk hk6 hown
  show Lz _ _ _ _ _ _ _ (Act.put _ (some 11) _) _
  try simp only [Act.put, List.setIfInBounds_toArray, List.set_cons_zero, List.set_cons_succ]
  refine lz_take 8 12 (v := ?_) rfl rfl (by kernel_rfl) (by kernel_rfl) (by kernel_rfl) (by kernel_rfl) (fun _ _ _ _ _ h => h) (by rfl) hS7.out (fun W hW => ?_) ?_
  rotate_left
  · go_simp; try rfl
  try simp only [Act.put, List.setIfInBounds_toArray, List.set_cons_zero, List.set_cons_succ]
  have q4 := hS7.out.cell C0.out HN.out
  have f4 := (hS7.out.frozen C0.out HN.out).trans HR.out.f0
  refine lz_end rfl rfl (by kernel_rfl) (by kernel_rfl) (fun K hK => ?_)
  subst hv2
  go_simp
  refine hK.out _ _ ?_
  clear hK K
  go_wp2
  go_end0
  have hp2 : (Value.slice (some ⟨g2, 0, none⟩) (xs.length + 1) cap2).ownBlock ≠ some p := fun e => by
    rcases HB.out p e with q | q
    · exact HN.out q
    · have := HR.out.plt
      omega
  have hks : Keep (fr p v) w (w4.setCell ⟨p, 0, none⟩ (.slice (some ⟨g2, 0, none⟩) (xs.length + 1) cap2)) := (hS7.out.mono (fun k _ e => .inr e)).setCell (.inl (.inl rfl)) _
  refine ⟨rfl, _, ⟨⟨World.cell?_setCell_same _ _ _ q4, by rw [World.frozen?_setCell]; exact f4, ?_, hp2⟩, hks, HB.out, fun i y hi hy => (World.cell?_setCell_other _ _ _ _ (fun e => by simp only [Addr.mk.injEq] at e; omega)).trans (hS7.out.cell hy HN.out)⟩⟩
  have := own_keep (F := fun b => b = p) HW.out (Keep.setCell (F := fun b => b = p) (Keep.refl _ w4) (p := ⟨p, 0, none⟩) (.inl rfl) (.slice (some ⟨g2, 0, none⟩) (xs.length + 1) cap2)) (fun k hk e => hp2 (by rw [hk, e]))
  have e1 : us (xs ++ [x]) = us xs ++ [.int .u32 x] := by simp [us]
  rw [List.length_append, e1]
  exact this
set_option maxRecDepth 100000 in
theorem run_cutr (A : Option Addr) (k c n : Nat) (hn : n ≤ c) (W : World) : (Instr.slice 181 (.slice A k c) none (some (.int .i64 (n : Int))) none).run Tryz.prog W = .ok (.slice A n c) W := by
  rw [run_slice_h (w := W) 181 A k c Tryz.underlying181 .i64 (n : Int) (by omega) (by omega)]
  have e : (sizeOf (Tryz.prog.elem 181)).run Tryz.prog W = .ok 1 W := by kernel_rfl
  rw [e]
  simp only [Result.andThen, sliced, Nat.zero_mul, Int.toNat_natCast, Nat.sub_zero]
  congr 2
  split
  · rfl
  · cases A with
    | none => rfl
    | some a => simp [Addr.add]
set_option maxHeartbeats 1600000 in
theorem pop_row (p g cap : Nat) (ys : List Int) (x : Int) (w : World) (n : Nat) (hn0 : n = ys.length + 1) (h : Rv w p (.slice (some ⟨g, 0, none⟩) n cap) (ys ++ [x])) (hn : ys.length < 65536) :
    Calls Tryz.prog 202 #[.pointer (some ⟨p, 0, none⟩)] w fun e w' => e = .returned (.iface 31 (.int .u32 x)) ∧ ∃ v', Rt w w' p (.slice (some ⟨g, 0, none⟩) n cap) v' ys := by
  have hcap : n ≤ cap := by
    rcases h.own.2 with ⟨q, _⟩ | ⟨g', cap', cur, q, _, _, hc, _⟩
    · simp at q
    · simp only [Value.slice.injEq] at q
      rw [q.2.2, hn0]
      simpa using hc
  have own := h.own
  rw [show (ys ++ [x]).length = n by simp [hn0]] at own
  have hc : w.cell? ⟨g, ys.length, none⟩ = some (.int .u32 x) := by
    rw [own.cellAt ys.length (by omega), us_get _ _ (by simp)]
    simp
  have c0 := h.c0
  have f0 := h.f0
  have HR := Lib.hid h
  have HW := Lib.hid own
  have ecut := run_cutr (some ⟨g, 0, none⟩) n cap ys.length (by omega)
  have e1 : (n : Int) - 1 = (ys.length : Int) := by omega
  have hlen : (ys.length : Int) < (n : Int) := by omega
  clear h own
  generalize hL : ys.length = L at *
  go_enter Tryz.func202, Tryz.ntmps202
  go_wp2
  go_ret
  refine ⟨rfl, .slice (some ⟨g, 0, none⟩) L cap, ⟨⟨World.cell?_setCell_same _ _ _ c0, by rw [World.frozen?_setCell]; exact f0, ?_, HR.out.ne⟩, (Keep.refl _ w).setCell (.inl (.inl rfl)) _, fun b hb => .inl hb, fun i y hi hy => (World.cell?_setCell_other _ _ _ _ (fun e => by simp only [Addr.mk.injEq] at e; omega)).trans hy⟩⟩
  have o2 := own_shrink HW.out (m := L) (by omega)
  have e2 : (ys ++ [x]).take L = ys := by rw [← hL]; simp
  rw [e2] at o2
  rw [hL]
  exact own_keep (F := fun b => b = p) o2 (Keep.setCell (F := fun b => b = p) (Keep.refl _ w) (p := ⟨p, 0, none⟩) (.inl rfl) _) (fun k hk e => HR.out.ne (by rw [← e]; exact hk))
end Go.Proofs.YtlcnefeikejcaaaGreatDoor
namespace Go.Proofs.YtlcnefeikejcaaaGreatDoor
open Go.RowKit Go.Sort
theorem perm_list {n : Nat} {d d' : Array Int} (p : PermIn 0 n d d') (hd : d.size = n) : d'.toList.Perm d.toList := by
  have q := p.2.2
  have e1 : d'.extract 0 n = d' := by rw [← hd, ← p.1]; simp
  have e2 : d.extract 0 n = d := by rw [← hd]; simp
  rwa [e1, e2] at q
theorem perm_part {n m : Nat} {d d' : Array Int} (p : PermIn 0 m d d') (hm : m ≤ n) (hd : d.size = n) : d'.toList.Perm d.toList :=
  perm_list (n := n) (permIn_mono d d' 0 m 0 n (Nat.le_refl _) hm (by omega) p) hd
theorem heap_congr {d d' : Array Int} {n : Nat} (h : Heap d n) (e : ∀ k, k < n → d'[k]! = d[k]!) : Heap d' n := fun k h0 h1 => by
  rw [e k h1, e _ (by omega)]
  exact h k h0 h1
theorem arr_get (xs : List Int) (k : Nat) : xs.toArray[k]! = xs[k]! := by simp [getElem!_def]
theorem list_get (d : Array Int) (k : Nat) : d.toList[k]! = d[k]! := by simp [getElem!_def]
set_option maxHeartbeats 1600000 in
theorem hpush_any (p : Nat) (v : Value) (xs : List Int) (x : Int) (w : World) (h : Rv w p v xs) (hh : Heap xs.toArray xs.length) (hn : xs.length < 65536) :
    Calls Tryz.prog 126 #[.iface 201 (.pointer (some ⟨p, 0, none⟩)), .iface 31 (.int .u32 x)] w fun e w' =>
      e = .returned (.tuple #[]) ∧ ∃ v' xs', Rt w w' p v v' xs' ∧ Heap xs'.toArray xs'.length ∧ xs'.Perm (xs ++ [x]) := by
  have hm := fun k w => m_push k (some ⟨p, 0, none⟩) w
  have C := Lib.hid (push_row p v xs x w h hn)
  have HH := Lib.hid hh
  clear h hh
  go_enter Tryz.func126, Tryz.ntmps126
  go_wp2_with fail
  refine C.out.mono ?_
  rintro e w1 ⟨rfl, v1, T1⟩
  obtain ⟨g, cap, rfl⟩ := Go.Joins.ownsRow_form T1.rv.own (by simp)
  have hl : (xs ++ [x]).length = xs.length + 1 := by simp
  rw [hl] at T1
  have c1 := T1.rv.c0
  have ml := fun k => m_len k p 0 (some ⟨g, 0, none⟩) (xs.length + 1) cap w1 c1
  have hne : p ≠ g := fun e => T1.rv.ne (by rw [e]; rfl)
  have hU : UpInv (xs ++ [x]).toArray (xs.length + 1) xs.length := up_start HH.out (fun k hk => by
    rw [arr_get, arr_get, getElem!_def, getElem!_def, List.getElem?_append_left hk])
  have own := T1.rv.own
  rw [hl] at own
  have U := Lib.hid (up_any p g (xs.length + 1) cap (xs ++ [x]).toArray xs.length w1 (by simp) (own_holds own) (by omega) (by omega) hne hU c1)
  have HT := Lib.hid T1
  have L1 := Lib.hid (len_row (some ⟨g, 0, none⟩) (xs.length + 1) cap w1)
  clear T1 own hU C HH hm
  generalize hL : xs.length = L at *
  go_wp2_with (first
    | (go_at_call 199; refine L1.out.mono ?_; rintro e w2 ⟨rfl, rfl⟩)
    | (go_at_call 154; refine U.out.mono ?_; rintro e w3 ⟨rfl, d', R, P, HP⟩))
  go_end0
  have hd : d'.size = L + 1 := by rw [P.1]; simp [hL]
  have T2 := HT.out.rv.turn R hd
  refine ⟨rfl, _, d'.toList, HT.out.trans T2, ?_, ?_⟩
  · rw [Array.length_toList, hd]
    exact heap_congr HP (fun k _ => by rw [arr_get, list_get])
  · exact perm_list P (by simp [hL])
set_option maxHeartbeats 1600000 in
theorem hpop_any (p g cap : Nat) (x : Int) (r : List Int) (w : World) (h : Rv w p (.slice (some ⟨g, 0, none⟩) (r.length + 1) cap) (x :: r)) (hh : Heap (x :: r).toArray (r.length + 1)) (hn : r.length < 65536) :
    Calls Tryz.prog 125 #[.iface 201 (.pointer (some ⟨p, 0, none⟩))] w fun e w' =>
      e = .returned (.iface 31 (.int .u32 x)) ∧ ∃ v' xs', Rt w w' p (.slice (some ⟨g, 0, none⟩) (r.length + 1) cap) v' xs' ∧ Heap xs'.toArray xs'.length ∧ xs'.Perm r := by
  obtain ⟨m, hm⟩ : ∃ m, m = r.length := ⟨_, rfl⟩
  rw [← hm] at h hh ⊢
  have hl : (x :: r).length = m + 1 := by simp [hm]
  have c0 := h.c0
  have hne : p ≠ g := fun e => h.ne (by rw [e]; rfl)
  have own := h.own
  rw [hl] at own
  have ml := fun k => m_len k p 0 (some ⟨g, 0, none⟩) (m + 1) cap w c0
  have ms := fun k => m_swap k p 0 (some ⟨g, 0, none⟩) (m + 1) cap w c0
  have hmp := fun k w => m_pop k (some ⟨p, 0, none⟩) w
  have L1 := Lib.hid (len_row (some ⟨g, 0, none⟩) (m + 1) cap w)
  have SW := swap_row g (m + 1) cap (x :: r).toArray 0 m w (by simp [hm]) (own_holds own) (by omega) (by omega)
  rw [show ((0 : Nat) : Int) = 0 from rfl] at SW
  have SW := Lib.hid SW
  have HR := Lib.hid h
  have HH := Lib.hid hh
  have e1 : ((m + 1 : Nat) : Int) - 1 = (m : Int) := by omega
  have hn2 : m < 65536 := by omega
  have HM := Lib.hid hm
  have PX : Hid ((swp (x :: r).toArray 0 m).toList.Perm (x :: r)) := perm_list (n := m + 1) (swp_permIn (x :: r).toArray 0 (m + 1) 0 m (by omega) (by omega) (by omega) (by omega) (by simp [hm])) (by simp [hm])
  have hd1 : (swp (x :: r).toArray 0 m).size = m + 1 := by rw [size_swp]; simp [hm]
  have eM : (swp (x :: r).toArray 0 m)[m]! = x := by
    rw [swp_right _ _ _ (by simp [hm])]
    simp
  have HD1 := Lib.hid hd1
  have HEM := Lib.hid eM
  clear h hh own hm hl hn hd1 eM
  go_enter Tryz.func125, Tryz.ntmps125
  go_upto_region 3 with (first
    | (go_at_call 199; refine L1.out.mono ?_; rintro e w2 ⟨rfl, rfl⟩)
    | (go_at_call 201; refine SW.out.mono ?_; rintro e w1 ⟨rfl, R1⟩))
  have hd1 := HD1.out
  have eM := HEM.out
  have T1 := HR.out.turn R1 hd1
  have hD : DownInv (swp (x :: r).toArray 0 m) m 0 := down_start HH.out (by omega) (fun k h0 h1 => swp_other _ _ _ _ (by omega) (by omega))
  have D1 := Lib.hid (down_any p g (m + 1) cap m (swp (x :: r).toArray 0 m) w1 hd1 R1.there (by omega) (by omega) hne hD T1.rv.c0)
  have HT := Lib.hid T1
  generalize swp (x :: r).toArray 0 m = d1 at *
  clear T1 hD SW HH R1 L1 ms ml
  go_upto_region 4 with (go_at_call 153; refine D1.out.mono ?_; rintro e w2 ⟨f, rfl, d2, R2, P2, HP⟩)
  have hd2 : d2.size = m + 1 := P2.1.trans hd1
  have T2 := HT.out.rv.turn R2 hd2
  have T12 := HT.out.trans T2
  have eM2 : d2[m]! = x := (P2.2.1 m (.inr (Nat.le_refl _))).trans eM
  have e2 : d2.toList = d2.toList.take m ++ [x] := by
    apply List.ext_getElem?
    intro j
    rcases Nat.lt_trichotomy j m with hj | hj | hj
    · rw [List.getElem?_append_left (by simp; omega), List.getElem?_take_of_lt hj]
    · subst hj
      rw [List.getElem?_append_right (by simp; omega)]
      simp only [List.length_take, Array.length_toList, hd2, Nat.min_eq_left (Nat.le_succ j), Nat.sub_self]
      rw [← eM2, ← list_get, List.getElem?_eq_getElem (by simp [hd2])]
      simp [hd2]
    · rw [List.getElem?_eq_none (by simp; omega), List.getElem?_eq_none (by simp; omega)]
  have hlt : (d2.toList.take m).length = m := by simp; omega
  have rv2 := T2.rv
  rw [e2] at rv2
  have PC := pop_row p g cap (d2.toList.take m) x w2 (m + 1) (by rw [hlt]) rv2 (by omega)
  have PC := Lib.hid PC
  have HT2 := Lib.hid T12
  have PQ : Hid ((d2.toList.take m).Perm r) := by
    have q1 : d2.toList.Perm (x :: r) := (perm_part P2 (by omega) hd1).trans PX.out
    rw [e2] at q1
    have q2 : (x :: d2.toList.take m).Perm (x :: r) := (List.perm_append_singleton x _).symm.trans q1
    exact (List.perm_cons x).1 q2
  have HQ : Hid (Heap (d2.toList.take m).toArray m) := heap_congr HP (fun k hk => by
    rw [arr_get, ← list_get, getElem!_def, getElem!_def, List.getElem?_take_of_lt hk])
  clear T2 T12 rv2 D1 HT R2 P2 HP e2 PX
  go_wp2_with (go_at_call 202; refine PC.out.mono ?_; rintro e w3 ⟨rfl, v', T3⟩)
  go_ret
  refine ⟨rfl, v', _, HT2.out.trans T3, ?_, PQ.out⟩
  rw [hlt]
  exact HQ.out
end Go.Proofs.YtlcnefeikejcaaaGreatDoor
namespace Go.Proofs.YtlcnefeikejcaaaGreatDoor
def putS (n : Int) : List Int → List Int
  | [] => [n]
  | x :: r => if n < x then n :: x :: r else if n = x then x :: r else x :: putS n r
structure Ris (s : List Int) : Prop where
  up : s.Pairwise (· < ·)
  rng : ∀ x ∈ s, 0 ≤ x ∧ x < 4294967296
theorem Ris.nil : Ris [] := ⟨List.Pairwise.nil, by simp⟩
theorem mem_putS (n x : Int) : ∀ s : List Int, x ∈ putS n s ↔ x = n ∨ x ∈ s
  | [] => by simp [putS]
  | y :: r => by
    unfold putS
    split
    · simp
    · split
      · subst_vars; simp
      · rw [List.mem_cons, mem_putS n x r, List.mem_cons]
        constructor
        · rintro (h | h | h)
          · exact .inr (.inl h)
          · exact .inl h
          · exact .inr (.inr h)
        · rintro (h | h | h)
          · exact .inr (.inl h)
          · exact .inl h
          · exact .inr (.inr h)
theorem Ris.put {s : List Int} (h : Ris s) {n : Int} (h0 : 0 ≤ n) (h1 : n < 4294967296) : Ris (putS n s) := by
  refine ⟨?_, fun x hx => ?_⟩
  · have up := h.up
    clear h
    induction s with
    | nil => simp [putS]
    | cons y r ih =>
      obtain ⟨p1, p2⟩ := List.pairwise_cons.1 up
      unfold putS
      split
      · rename_i hlt
        refine List.pairwise_cons.2 ⟨fun z hz => ?_, up⟩
        rcases List.mem_cons.1 hz with rfl | hz
        · exact hlt
        · exact Int.lt_trans hlt (p1 z hz)
      · split
        · exact up
        · refine List.pairwise_cons.2 ⟨fun z hz => ?_, ih p2⟩
          rcases (mem_putS n z r).1 hz with rfl | hz
          · omega
          · exact p1 z hz
  · rcases (mem_putS n x s).1 hx with rfl | hx
    · exact ⟨h0, h1⟩
    · exact h.rng x hx
theorem Ris.tail {x : Int} {s : List Int} (h : Ris (x :: s)) : Ris s := ⟨(List.pairwise_cons.1 h.up).2, fun y hy => h.rng y (by simp [hy])⟩
theorem Ris.lt {x : Int} {s : List Int} (h : Ris (x :: s)) : ∀ y ∈ s, x < y := (List.pairwise_cons.1 h.up).1
theorem putS_in {s : List Int} (h : Ris s) {n : Int} (hn : n ∈ s) : putS n s = s := by
  induction s with
  | nil => cases hn
  | cons y r ih =>
    unfold putS
    rcases List.mem_cons.1 hn with rfl | hn
    · rw [if_neg (by omega), if_pos rfl]
    · have := h.lt n hn
      rw [if_neg (by omega), if_neg (by omega), ih h.tail hn]
theorem putS_perm {n : Int} : ∀ {s : List Int}, n ∉ s → (putS n s).Perm (n :: s)
  | [], _ => List.Perm.refl _
  | y :: r, h => by
    unfold putS
    split
    · exact List.Perm.refl _
    · split
      · subst_vars; simp at h
      · exact ((putS_perm (fun q => h (by simp [q]))).cons y).trans (List.Perm.swap n y r)
theorem len_putS {s : List Int} (h : Ris s) (n : Int) : (putS n s).length = if n ∈ s then s.length else s.length + 1 := by
  split
  · rename_i hn
    rw [putS_in h hn]
  · rename_i hn
    rw [(putS_perm hn).length_eq, List.length_cons]
theorem rising_eq : ∀ {s t : List Int}, s.Pairwise (· < ·) → t.Pairwise (· < ·) → s.Perm t → s = t
  | [], t, _, _, p => (List.Perm.nil_eq p)
  | x :: r, [], _, _, p => (List.Perm.eq_nil p)
  | x :: r, y :: q, h, k, p => by
    obtain ⟨h1, h2⟩ := List.pairwise_cons.1 h
    obtain ⟨k1, k2⟩ := List.pairwise_cons.1 k
    have e : x = y := by
      rcases List.mem_cons.1 (p.subset (List.mem_cons_self (a := x) (l := r))) with e | hx
      · exact e
      · rcases List.mem_cons.1 (p.symm.subset (List.mem_cons_self (a := y) (l := q))) with e | hy
        · exact e.symm
        · have := k1 x hx
          have := h1 y hy
          omega
    subst e
    rw [rising_eq h2 k2 ((List.perm_cons x).1 p)]
end Go.Proofs.YtlcnefeikejcaaaGreatDoor
namespace Go.Proofs.YtlcnefeikejcaaaGreatDoor
open Go.RowKit Go.Sort Go.Maps
theorem klaw : Keyed Tryz.prog 31 := int_keyed Tryz.underlying31
theorem zero_unit (w : World) : (zeroValue 202).run Tryz.prog w = .ok (.agg #[]) w := by kernel_rfl
theorem wf_u32 {x : Int} (h0 : 0 ≤ x) (h1 : x < 4294967296) : (Lit.int .u32 x).wf = true := by
  have e0 : IntKind.u32.min = 0 := rfl
  have e1 : IntKind.u32.max = 4294967295 := rfl
  simp [Lit.wf, e0, e1]
  omega
theorem key_u32 {x : Int} (h0 : 0 ≤ x) (h1 : x < 4294967296) : keyOf Tryz.prog 31 (.int .u32 x) = some (.int .u32 x) := keyOf_int_mk Tryz.underlying31 (wf_u32 h0 h1)
structure Mp (w : World) (mb : Nat) (s : List Int) (D : DataW Unit) : Prop where
  own : w.ownsMap Tryz.prog 31 unitElem mb s.length D
  size : Maps.size D = s.length
  has : ∀ x, 0 ≤ x → x < 4294967296 → Maps.has D (.int .u32 x) = decide (x ∈ s)
theorem own_tight {w : World} {b n : Nat} {D : DataW Unit} (h : w.ownsMap Tryz.prog 31 unitElem b n D) : w.ownsMap Tryz.prog 31 unitElem b (Maps.size D) D := by
  obtain ⟨es, clock, hb, F, _, rfl⟩ := h
  exact ⟨es, clock, hb, F, by simp [Maps.size, length_sorted], rfl⟩
theorem Mp.keep {F : Nat → Prop} {w w' : World} {mb : Nat} {s : List Int} {D : DataW Unit} (h : Mp w mb s D) (k : Keep F w w') (hf : ¬ F mb) : Mp w' mb s D := by
  obtain ⟨es, clock, hb, r⟩ := h.own
  exact ⟨⟨es, clock, (k.block mb (Array.getElem?_eq_some_iff.1 hb).1 hf).trans hb, r⟩, h.size, h.has⟩
theorem Mp.lt {w : World} {mb : Nat} {s : List Int} {D : DataW Unit} (h : Mp w mb s D) : mb < w.heap.size := h.own.lt
theorem Mp.made (w : World) : Mp (w.alloc (.map #[] 0)) w.heap.size [] (.map []) := ⟨World.ownsMap_made _ _ _ _, rfl, fun x _ _ => by simp [Maps.has]⟩
theorem Mp.put {w w' : World} {mb : Nat} {s : List Int} {D : DataW Unit} {n : Int} (h : Mp w mb s D) (hs : Ris s) (h0 : 0 ≤ n) (h1 : n < 4294967296) (hn : n ∉ s)
    (o : w'.ownsMap Tryz.prog 31 unitElem mb (s.length + 1) (D.put (.int .u32 n) (.agg []))) : Mp w' mb (putS n s) (D.put (.int .u32 n) (.agg [])) := by
  have T := h.own.tidy klaw
  have M := h.own.isMap
  have e := Maps.size_put (k := .int .u32 n) T (.agg [] : DataW Unit)
  rw [h.has n h0 h1, if_neg (by simpa using hn), h.size] at e
  have el := len_putS hs n
  rw [if_neg hn] at el
  refine ⟨by rw [el]; exact o, by rw [el]; exact e, fun x x0 x1 => ?_⟩
  by_cases hx : x = n
  · subst hx
    rw [Maps.has_put_same M (by simp [WideAt.IsKeyLit])]
    simp [mem_putS]
  · rw [Maps.has_put_other (by intro q; simp at q; exact hx q), h.has x x0 x1]
    simp [mem_putS, hx]
theorem Mp.del {w w' : World} {mb : Nat} {s : List Int} {D : DataW Unit} {n : Int} (h : Mp w mb (n :: s) D) (hs : Ris (n :: s))
    (o : w'.ownsMap Tryz.prog 31 unitElem mb (n :: s).length (D.del (.int .u32 n))) : Mp w' mb s (D.del (.int .u32 n)) := by
  have T := h.own.tidy klaw
  obtain ⟨h0, h1⟩ := hs.rng n (by simp)
  have e := Maps.size_del (k := .int .u32 n) T
  rw [h.has n h0 h1, if_pos (by simp), h.size, List.length_cons] at e
  have e2 : Maps.size (D.del (.int .u32 n)) = s.length := by omega
  refine ⟨by rw [← e2]; exact own_tight o, e2, fun x x0 x1 => ?_⟩
  by_cases hx : x = n
  · subst hx
    rw [Maps.has_del_same]
    have : x ∉ s := fun q => by have := hs.lt x q; omega
    simp [this]
  · rw [Maps.has_del_other (by intro q; simp at q; exact hx q), h.has x x0 x1]
    simp [hx]
structure Pl (w : World) (p mb : Nat) (v : Value) (xs s : List Int) (D : DataW Unit) : Prop where
  rv : Rv w p v xs
  heap : Heap xs.toArray xs.length
  perm : xs.Perm s
  ris : Ris s
  c1 : w.cell? ⟨p, 1, none⟩ = some (.map (some mb))
  map : Mp w mb s D
  nem : mb ≠ p
  neb : v.ownBlock ≠ some mb
def fp (p mb : Nat) (v : Value) : Nat → Prop := fun b => b = p ∨ v.ownBlock = some b ∨ b = mb
theorem Pl.lt {w : World} {p mb : Nat} {v : Value} {xs s : List Int} {D : DataW Unit} (h : Pl w p mb v xs s D) : ∀ b, fp p mb v b → b < w.heap.size := by
  rintro b (rfl | hb | rfl)
  · exact h.rv.plt
  · exact (h.rv.own.lt b hb).2
  · exact h.map.lt
theorem Rv.keep {F : Nat → Prop} {w w' : World} {p : Nat} {v : Value} {xs : List Int} (h : Rv w p v xs) (k : Keep F w w') (hf : ∀ b, fr p v b → ¬ F b) : Rv w' p v xs :=
  ⟨k.cell h.c0 (hf p (.inl rfl)), (k.frozen h.c0 (hf p (.inl rfl))).trans h.f0, own_keep h.own k (fun b hb => hf b (.inr hb)), h.ne⟩
theorem Pl.keep {F : Nat → Prop} {w w' : World} {p mb : Nat} {v : Value} {xs s : List Int} {D : DataW Unit} (h : Pl w p mb v xs s D) (k : Keep F w w') (hf : ∀ b, fp p mb v b → ¬ F b) : Pl w' p mb v xs s D :=
  ⟨h.rv.keep k (fun b hb => hf b (hb.imp id (fun q => .inl q))), h.heap, h.perm, h.ris, k.cell h.c1 (hf p (.inl rfl)), h.map.keep k (hf mb (.inr (.inr rfl))), h.nem, h.neb⟩
def Po (w : World) (p : Nat) (F : Nat → Prop) (s : List Int) : Prop := ∃ mb v xs D, Pl w p mb v xs s D ∧ ∀ b, F b ↔ fp p mb v b
theorem Po.keep {F G : Nat → Prop} {w w' : World} {p : Nat} {s : List Int} (h : Po w p F s) (k : Keep G w w') (hf : ∀ b, F b → ¬ G b) : Po w' p F s := by
  obtain ⟨mb, v, xs, D, P, e⟩ := h
  exact ⟨mb, v, xs, D, P.keep k (fun b hb => hf b ((e b).2 hb)), e⟩
theorem Po.below {F : Nat → Prop} {w w' : World} {p : Nat} {s : List Int} (h : Po w p F s) (k : Below w.heap.size w w') : Po w' p F s := h.keep (G := fun _ => False) (Keep.of_below k) (fun _ _ q => q)
theorem Po.lt {F : Nat → Prop} {w : World} {p : Nat} {s : List Int} (h : Po w p F s) : ∀ b, F b → b < w.heap.size := by
  obtain ⟨mb, v, xs, D, P, e⟩ := h
  exact fun b hb => P.lt b ((e b).1 hb)
theorem Po.ris {F : Nat → Prop} {w : World} {p : Nat} {s : List Int} (h : Po w p F s) : Ris s := by
  obtain ⟨mb, v, xs, D, P, e⟩ := h
  exact P.ris
def Turned (w w' : World) (p : Nat) (F : Nat → Prop) (s : List Int) : Prop := ∃ F', Po w' p F' s ∧ Keep F w w' ∧ ∀ b, F' b → F b ∨ w.heap.size ≤ b
end Go.Proofs.YtlcnefeikejcaaaGreatDoor
namespace Go.Proofs.YtlcnefeikejcaaaGreatDoor
open Go.RowKit Go.Sort Go.Maps
theorem new_any (w : World) : Calls Tryz.prog 99 #[] w fun e w' => ∃ p, e = .returned (.pointer (some ⟨p, 0, none⟩)) ∧ Below w.heap.size w w' ∧ ∃ F, Po w' p F [] ∧ ∀ b, F b → w.heap.size ≤ b := by
  have hmm := @run_makeMap Tryz.prog
  go_enter Tryz.func99, Tryz.ntmps99
  go_wp2
  go_ret
  have e1 : (w.alloc (.map #[] 0)).heap.size = w.heap.size + 1 := by simp
  have k1 : Below (w.heap.size + 1) (w.alloc (.map #[] 0)) ((w.alloc (.map #[] 0)).alloc (.cells #[.slice none 0 0, .map (some w.heap.size)] 185)) := by
    rw [← e1]
    exact alb _
  have hB : Below w.heap.size w ((w.alloc (.map #[] 0)).alloc (.cells #[.slice none 0 0, .map (some w.heap.size)] 185)) := (alb _).alloc (by simp) _
  have c : ∀ j, ((w.alloc (.map #[] 0)).alloc (.cells #[.slice none 0 0, .map (some w.heap.size)] 185)).cell? ⟨w.heap.size + 1, j, none⟩ = (#[.slice none 0 0, .map (some w.heap.size)] : Array Value)[j]? := fun j => World.cell?_alloc_at _ _ _ _ (by simp)
  refine ⟨w.heap.size + 1, rfl, hB, fp (w.heap.size + 1) w.heap.size (.slice none 0 0), ⟨w.heap.size, .slice none 0 0, [], .map [], ⟨⟨c 0, by simp [go_sem], World.ownsRow_nil _ _ _ _, by simp [Value.ownBlock]⟩, fun k h0 h1 => by simp at h1, List.Perm.refl _, Ris.nil, c 1, (Mp.made w).keep (F := fun _ => False) (Keep.of_below (by rw [e1]; exact k1)) (fun q => q), by omega, by simp [Value.ownBlock]⟩, fun b => Iff.rfl⟩, ?_⟩
  rintro b (rfl | hb | rfl)
  · omega
  · simp [Value.ownBlock] at hb
  · omega
theorem plen_any (w : World) (p : Nat) (F : Nat → Prop) (s : List Int) (h : Po w p F s) : Calls Tryz.prog 88 #[.pointer (some ⟨p, 0, none⟩)] w fun e w' => e = .returned (.int .i64 s.length) ∧ w = w' := by
  obtain ⟨mb, v, xs, D, P, _⟩ := h
  have c1 := P.c1
  have hown := P.map.own
  have e := P.map.size
  rw [← e]
  rw [← e] at hown
  clear P e
  go_enter Tryz.func88, Tryz.ntmps88
  go_wp2_with (first
    | (at_len; refine wpList_len_own _ rfl _ 183 rfl 31 202 Tryz.underlying183 _ mb _ D rfl hown ?_)
    | go_in)
  go_ret
  exact ⟨rfl, rfl⟩
theorem phas_any (w : World) (p : Nat) (F : Nat → Prop) (s : List Int) (n : Int) (h : Po w p F s) (h0 : 0 ≤ n) (h1 : n < 4294967296) : Calls Tryz.prog 103 #[.pointer (some ⟨p, 0, none⟩), .int .u32 n] w fun e w' => e = .returned (.bool (decide (n ∈ s))) ∧ Below w.heap.size w w' := by
  obtain ⟨mb, v, xs, D, P, _⟩ := h
  have c1 := P.c1
  have hown := P.map.own
  have e := P.map.has n h0 h1
  rw [← e]
  have hkey := key_u32 h0 h1
  clear P e
  go_enter Tryz.func103, Tryz.ntmps103
  go_wp2_with (first
    | (at_lookup; refine wpList_lookup_own_unit _ rfl _ _ 183 rfl 31 202 klaw Tryz.underlying183 (zero_unit _) mb _ D rfl hown _ _ rfl hkey ?_)
    | go_in)
  go_ret
  exact ⟨rfl, alb _⟩
theorem turn_keep {w w' : World} {mb : Nat} (h : w.mapTurned w' mb) : Keep (fun b => b = mb) w w' := (Keep.refl _ w).grown h.grown (fun k hk => .inl (by simpa using hk.symm))
set_option maxHeartbeats 1600000 in
theorem put_new (w : World) (p mb : Nat) (v : Value) (xs s : List Int) (D : DataW Unit) (n : Int) (HP : Hid (Pl w p mb v xs s D)) (h0 : 0 ≤ n) (h1 : n < 4294967296) (hn : n ∉ s) (hl : s.length < 65535)
    (HH : Hid (Calls Tryz.prog 103 #[.pointer (some ⟨p, 0, none⟩), .int .u32 n] w fun e w' => e = .returned (.bool false) ∧ Below w.heap.size w w')) :
    Calls Tryz.prog 89 #[.pointer (some ⟨p, 0, none⟩), .int .u32 n] w fun e w' => e = .returned (.bool true) ∧ ∃ v' xs' D', Pl w' p mb v' xs' (putS n s) D' ∧ Keep (fp p mb v) w w' ∧ ∀ b, v'.ownBlock = some b → v.ownBlock = some b ∨ w.heap.size ≤ b := by
  have hkey := key_u32 h0 h1
  have hnl : s.length < maxLen := by unfold maxLen; omega
  have hxl : xs.length = s.length := HP.out.perm.length_eq
  go_enter Tryz.func89, Tryz.ntmps89
  go_upto_region 3 with (go_at_call 103; refine HH.out.mono ?_; rintro e w1 ⟨rfl, hB⟩)
  have HB := Lib.hid hB
  have P1 := HP.out.keep (F := fun _ => False) (Keep.of_below HB.out) (fun _ _ q => q)
  have c1 := P1.c1
  have hown := P1.map.own
  have HP1 := Lib.hid P1
  clear P1 hB
  go_upto_region 4 with (first
    | (at_mapUpdate; refine wpList_mapUpdate_in _ rfl _ _ _ 183 rfl 31 202 klaw Tryz.underlying183 _ mb _ D rfl hown hnl _ _ _ rfl rfl hkey _ _ unitElem_mk ?_; intro w3 hown3 hturn3)
    | go_in)
  have K3 := turn_keep hturn3
  have hR3 : Rv w3 p v xs := HP1.out.rv.keep K3 (fun b hb e => by
    subst e
    rcases hb with e | e
    · exact HP1.out.nem e
    · exact HP1.out.neb e)
  have hM3 := HP1.out.map.put HP1.out.ris h0 h1 hn hown3
  have hc3 : w3.cell? ⟨p, 1, none⟩ = some (.map (some mb)) := K3.cell c1 (fun e => HP1.out.nem e.symm)
  have C := Lib.hid (hpush_any p v xs n w3 hR3 HP1.out.heap (by omega))
  have H3 : Hid (Rv w3 p v xs ∧ Mp w3 mb (putS n s) (D.put (.int .u32 n) (.agg [])) ∧ Keep (fun b => b = mb) _ w3) := ⟨hR3, hM3, K3⟩
  clear hR3 hM3 K3 hturn3 hown3 hown c1
  go_wp2_with (go_at_call 126; refine C.out.mono ?_; rintro e w4 ⟨rfl, v4, xs4, T, HP4, PM⟩)
  go_ret
  obtain ⟨_, hM, K3⟩ := H3.out
  have kw : Keep (fp p mb v) w w3 := ((Keep.of_below (F := fun _ => False) HB.out).mono (fun _ _ q => q.elim)).trans K3 (fun i e => .inl (.inr (.inr e)))
  have hs3 : w.heap.size ≤ w3.heap.size := kw.size
  have hmb : mb < w.heap.size := HP.out.map.lt
  have nb4 : v4.ownBlock ≠ some mb := fun e => by
    rcases T.blk mb e with q | q
    · exact HP1.out.neb q
    · omega
  have nfm : ¬ fr p v mb := by
    rintro (e | e)
    · exact HP1.out.nem e
    · exact HP1.out.neb e
  refine ⟨rfl, v4, xs4, _, ⟨T.rv, HP4, ?_, HP1.out.ris.put h0 h1, T.rest 1 _ (by omega) hc3, hM.keep T.keep nfm, HP1.out.nem, nb4⟩, kw.trans T.keep (fun i hi => .inl (hi.imp id (fun q => .inl q))), fun b hb => (T.blk b hb).imp id (fun q => by omega)⟩
  exact PM.trans ((List.perm_append_singleton n xs).trans ((HP1.out.perm.cons n).trans (putS_perm hn).symm))
theorem put_old (w : World) (p : Nat) (n : Int) (HH : Hid (Calls Tryz.prog 103 #[.pointer (some ⟨p, 0, none⟩), .int .u32 n] w fun e w' => e = .returned (.bool true) ∧ Below w.heap.size w w')) :
    Calls Tryz.prog 89 #[.pointer (some ⟨p, 0, none⟩), .int .u32 n] w fun e w' => e = .returned (.bool false) ∧ Below w.heap.size w w' := by
  go_enter Tryz.func89, Tryz.ntmps89
  go_wp2_with (go_at_call 103; refine HH.out.mono ?_; rintro e w1 ⟨rfl, hB⟩)
  go_ret
  exact ⟨rfl, hB⟩
theorem put_any (w : World) (p : Nat) (F : Nat → Prop) (s : List Int) (n : Int) (h : Po w p F s) (h0 : 0 ≤ n) (h1 : n < 4294967296) (hl : s.length < 65535) :
    Calls Tryz.prog 89 #[.pointer (some ⟨p, 0, none⟩), .int .u32 n] w fun e w' => e = .returned (.bool (!decide (n ∈ s))) ∧ Turned w w' p F (putS n s) := by
  have HH := phas_any w p F s n h h0 h1
  by_cases hn : n ∈ s
  · rw [decide_eq_true hn] at HH ⊢
    refine (put_old w p n (Lib.hid HH)).mono ?_
    rintro e w' ⟨rfl, hB⟩
    rw [putS_in h.ris hn]
    exact ⟨rfl, F, h.below hB, (Keep.of_below (F := fun _ => False) hB).mono (fun _ _ q => q.elim), fun b hb => .inl hb⟩
  · rw [decide_eq_false hn] at HH ⊢
    obtain ⟨mb, v, xs, D, P, e⟩ := h
    refine (put_new w p mb v xs s D n (Lib.hid P) h0 h1 hn hl (Lib.hid HH)).mono ?_
    rintro e w' ⟨rfl, v', xs', D', P', K, B⟩
    refine ⟨rfl, fp p mb v', ⟨mb, v', xs', D', P', fun b => Iff.rfl⟩, K.mono (fun b _ hb => (e b).2 hb), ?_⟩
    rintro b (rfl | hb | rfl)
    · exact .inl ((e _).2 (.inl rfl))
    · rcases B b hb with q | q
      · exact .inl ((e b).2 (.inr (.inl q)))
      · exact .inr q
    · exact .inl ((e _).2 (.inr (.inr rfl)))
theorem take_none (w : World) (p : Nat) (F : Nat → Prop) (h : Po w p F []) : Calls Tryz.prog 87 #[.pointer (some ⟨p, 0, none⟩)] w fun e w' => e = .returned (.tuple #[.int .u32 0, .bool false]) ∧ w = w' := by
  have C := plen_any w p F [] h
  go_enter Tryz.func87, Tryz.ntmps87
  go_wp2_with (go_at_call 88; refine C.mono ?_; rintro e w1 ⟨rfl, rfl⟩)
  go_ret2
  exact ⟨rfl, rfl⟩
theorem head_least {x : Int} {r xs : List Int} (hh : Heap xs.toArray xs.length) (hp : xs.Perm (x :: r)) (hr : Ris (x :: r)) : ∃ ys, xs = x :: ys ∧ ys.Perm r := by
  cases xs with
  | nil => simp at hp
  | cons y ys =>
    have e : y = x := by
      have h1 : x ∈ y :: ys := hp.symm.subset (by simp)
      have h2 : y ∈ x :: r := hp.subset (by simp)
      obtain ⟨k, hk, ek⟩ := List.getElem_of_mem h1
      have h3 := heap_least hh k hk
      rw [arr_get, arr_get, getElem!_def, getElem!_def, List.getElem?_eq_getElem hk, ek] at h3
      simp at h3
      rcases List.mem_cons.1 h2 with q | q
      · exact q
      · have := hr.lt y q
        omega
    subst e
    exact ⟨ys, rfl, (List.perm_cons y).1 hp⟩
set_option maxHeartbeats 1600000 in
theorem take_core (w : World) (p mb : Nat) (v : Value) (xs s : List Int) (D : DataW Unit) (x : Int) (HP : Hid (Pl w p mb v xs (x :: s) D)) (hl : s.length < 65535)
    (HH : Hid (Calls Tryz.prog 88 #[.pointer (some ⟨p, 0, none⟩)] w fun e w' => e = .returned (.int .i64 ((s.length + 1 : Nat) : Int)) ∧ w = w')) :
    Calls Tryz.prog 87 #[.pointer (some ⟨p, 0, none⟩)] w fun e w' => e = .returned (.tuple #[.int .u32 x, .bool true]) ∧ ∃ v' xs' D', Pl w' p mb v' xs' s D' ∧ Keep (fp p mb v) w w' ∧ ∀ b, v'.ownBlock = some b → v.ownBlock = some b ∨ w.heap.size ≤ b := by
  obtain ⟨ys, rfl, hys⟩ := head_least HP.out.heap HP.out.perm HP.out.ris
  obtain ⟨h0, h1⟩ := HP.out.ris.rng x (by simp)
  have hkey := key_u32 h0 h1
  have hyl : ys.length = s.length := hys.length_eq
  obtain ⟨g, cap, rfl⟩ := Go.Joins.ownsRow_form HP.out.rv.own (by simp)
  have hv : (x :: ys).length = ys.length + 1 := by simp
  have C := hpop_any p g cap x ys w (by rw [← hv]; exact HP.out.rv) (by rw [← hv]; exact HP.out.heap) (by omega)
  rw [← hv] at C
  have C := Lib.hid C
  generalize hV : (Value.slice (some ⟨g, 0, none⟩) (x :: ys).length cap) = v at *
  have hz : ((s.length + 1 : Nat) : Int) ≠ 0 := by omega
  generalize ((s.length + 1 : Nat) : Int) = z at *
  clear hv hV
  have hz2 : (z == 0) = false := by simpa using hz
  have hta : ∀ w, (Instr.typeAssert (.iface 31 (.int .u32 x)) 20 31 false).run Tryz.prog w = .ok (.int .u32 x) w := fun w => by kernel_rfl
  go_enter Tryz.func87, Tryz.ntmps87
  go_upto_region 4 with (first
    | (go_at_call 88; refine HH.out.mono ?_; rintro e w1 ⟨rfl, rfl⟩)
    | (go_at_call 125; refine C.out.mono ?_; rintro e w2 ⟨rfl, v2, xs2, T, HP2, PM⟩))
  have hM2 := HP.out.map.keep T.keep (by
    rintro (e | e)
    · exact HP.out.nem e
    · exact HP.out.neb e)
  have c2 := T.rest 1 _ (by omega) HP.out.c1
  have hown := hM2.own
  have HM := Lib.hid hM2
  have HT := Lib.hid T
  clear C HH hM2 T
  go_wp2_with (first
    | (at_delete; refine wpList_delete_own _ rfl _ _ 183 31 rfl 202 klaw Tryz.underlying183 _ mb _ D rfl hown _ _ rfl hkey ?_; intro w3 hown3 hturn3)
    | go_in)
  go_ret2
  have K3 := turn_keep hturn3
  have nb2 : v2.ownBlock ≠ some mb := fun e => by
    rcases HT.out.blk mb e with q | q
    · exact HP.out.neb q
    · have := HP.out.map.lt
      omega
  refine ⟨rfl, v2, xs2, _, ⟨HT.out.rv.keep K3 ?_, HP2, PM.trans hys, HP.out.ris.tail, K3.cell c2 (fun e => HP.out.nem e.symm), HM.out.del HP.out.ris hown3, HP.out.nem, nb2⟩, ?_, HT.out.blk⟩
  · rintro b (rfl | hb) e
    · exact HP.out.nem e.symm
    · rw [e] at hb
      exact nb2 hb
  · refine (HT.out.keep.mono (fun b _ hb => ?_)).trans K3 (fun i e => .inl (.inr (.inr e)))
    exact hb.imp id (fun q => .inl q)
theorem take_some (w : World) (p : Nat) (F : Nat → Prop) (x : Int) (s : List Int) (h : Po w p F (x :: s)) (hl : s.length < 65535) : Calls Tryz.prog 87 #[.pointer (some ⟨p, 0, none⟩)] w fun e w' => e = .returned (.tuple #[.int .u32 x, .bool true]) ∧ Turned w w' p F s := by
  have HH := plen_any w p F (x :: s) h
  obtain ⟨mb, v, xs, D, P, e⟩ := h
  refine (take_core w p mb v xs s D x (Lib.hid P) hl (Lib.hid HH)).mono ?_
  rintro e w' ⟨rfl, v', xs', D', P', K, B⟩
  refine ⟨rfl, fp p mb v', ⟨mb, v', xs', D', P', fun b => Iff.rfl⟩, K.mono (fun b _ hb => (e b).2 hb), ?_⟩
  rintro b (rfl | hb | rfl)
  · exact .inl ((e _).2 (.inl rfl))
  · rcases B b hb with q | q
    · exact .inl ((e b).2 (.inr (.inl q)))
    · exact .inr q
  · exact .inl ((e _).2 (.inr (.inr rfl)))
end Go.Proofs.YtlcnefeikejcaaaGreatDoor
