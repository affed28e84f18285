/- Slices of bytes as the program has them: their bytes as a list; the conversion to a text; rows of the call's own; and slices that came in. -/
import Derived.Test.YtceoelemlokelaaBase
import Derived.Laws.OwnMore
import Derived.Laws.BytesArg
import Derived.Laws.CopyOwn
import Derived.OwnWalk
import Derived.Lib.SliceRun
namespace Go.Proofs.Ytceoelemlokelaa
open Go.RowKit Go.ChangeShapes Go.WideShapes

theorem Try.info5 : (Try.prog.info? 5).map (fun i => (i.zero, i.size, i.bytes)) = some (some (.int .u8 0), 1, 1) := by kernel_rfl
/-- Bytes as values. -/
def bvs (l : List UInt8) : List Value := l.map fun c => .int .u8 ((c.toNat : Nat) : Int)
theorem bvs_length (l : List UInt8) : (bvs l).length = l.length := by simp [bvs]
theorem bvs_append (l m : List UInt8) : bvs (l ++ m) = bvs l ++ bvs m := by simp [bvs]
theorem bvs_get (l : List UInt8) (j : Nat) (h : j < l.length) : (bvs l)[j]? = some (.int .u8 ((l[j].toNat : Nat) : Int)) := by simp [bvs, h]
theorem bvs_one (l : List UInt8) : ∀ u ∈ bvs l, u.oneCell' = true := by
  intro u hu
  simp only [bvs, List.mem_map] at hu
  obtain ⟨c, _, rfl⟩ := hu
  rfl
theorem bvs_set (l : List UInt8) (i : Nat) (x : UInt8) : bvs (l.set i x) = (bvs l).set i (.int .u8 ((x.toNat : Nat) : Int)) := by simp [bvs, List.map_set]
theorem bvs_map (l : List UInt8) : bvs l = (l.map fun c => ((c.toNat : Nat) : Int)).map (Value.int .u8) := by simp [bvs]
/-- A text as the program has it. -/
def str (l : List UInt8) : ByteArray := ⟨l.toArray⟩
theorem str_size (l : List UInt8) : (str l).size = l.length := rfl
theorem str_list (l : List UInt8) : (str l).data.toList = l := by simp [str]
theorem str_toList (l : List UInt8) : (str l).toList = l := by rw [ByteArray.toList_eq]; exact str_list l
theorem str_append (l m : List UInt8) : str l ++ str m = str (l ++ m) := by
  apply ByteArray.ext
  simp [str]
theorem str_of_nums (l : List UInt8) : strOfNums (l.map fun c => ((c.toNat : Nat) : Int)) = str l := by
  unfold strOfNums str
  simp only [List.map_map]
  congr 2
  rw [List.map_congr_left (g := id) (fun c _ => by simp)]
  simp
theorem str_inj {l m : List UInt8} (h : str l = str m) : l = m := by rw [← str_list l, ← str_list m, h]

/-- A slice of these bytes: their cells, wherever they lie. -/
def Byts (w : World) (v : Value) (l : List UInt8) : Prop :=
  ∃ A c, v = .slice A l.length c ∧ l.length ≤ c ∧ (0 < l.length → ∃ b off, A = some ⟨b, off, none⟩ ∧ ∀ j (h : j < l.length), w.cell? ⟨b, off + j, none⟩ = some (.int .u8 ((l[j].toNat : Nat) : Int)))
theorem Byts.below {w w1 : World} {v : Value} {l : List UInt8} (h : Byts w v l) (hb : Below w.heap.size w w1) : Byts w1 v l := by
  obtain ⟨A, c, e, hc, h⟩ := h
  refine ⟨A, c, e, hc, fun hl => ?_⟩
  obtain ⟨b, off, e2, h2⟩ := h hl
  exact ⟨b, off, e2, fun j hj => kept (h2 j hj) hb⟩
theorem Byts.none (w : World) : Byts w (.slice none 0 0) [] := ⟨_, _, rfl, Nat.le_refl _, fun h => by simp at h⟩
theorem Byts.own {w : World} {base : Nat} {v : Value} {l : List UInt8} (h : w.ownsRow base 5 1 v l.length (bvs l)) : Byts w v l := by
  rcases h.2 with ⟨e, h0⟩ | ⟨g, cap, cur, e, _, _, hc, _⟩
  · obtain rfl : l = [] := List.length_eq_zero_iff.1 h0
    subst e
    exact Byts.none w
  · subst e
    refine ⟨_, _, rfl, hc, fun _ => ⟨g, 0, rfl, fun j hj => ?_⟩⟩
    rw [Nat.zero_add, h.cellAt j (by omega), bvs_get l j hj]
theorem Byts.lit (w : World) (l : List UInt8) (hl : l.length ≤ 1000) : Byts (w.alloc (.cells (bvs l).toArray 5)) (.slice (some ⟨w.heap.size, 0, Option.none⟩) l.length l.length) l :=
  Byts.own (base := 0) (by
    have := World.ownsRow_lit (base := 0) (e := 5) (size := 1) w (bvs l).toArray l.length (Nat.zero_le _) (by unfold maxLen; omega) (by simp [bvs_length])
    simpa using this)
theorem Byts.conv {w : World} {v : Value} {l : List UInt8} (h : Byts w v l) : (convert 29 9 v).run Try.prog w = .ok (.string (str l)) w := by
  obtain ⟨A, c, rfl, hc, h⟩ := h
  by_cases h0 : 0 < l.length
  · obtain ⟨b, off, rfl, h2⟩ := h h0
    have := run_convert_bytes_arg (P := Try.prog) w 29 5 Try.underlying29 Try.underlying5 b off l.length c (l.map fun c => ((c.toNat : Nat) : Int)) (by simp) (fun i hi => by
      rw [h2 i hi]
      simp [List.getD, hi]) 9 Try.underlying9
    rw [str_of_nums] at this
    exact this
  · obtain rfl : l = [] := List.length_eq_zero_iff.1 (by omega)
    rw [run_convert_bytes_string w 29 9 5 _ _ c Try.underlying29 Try.underlying5 Try.underlying9]
    cases A <;> simp [Conv.bytesToString, loadCells]
    all_goals rfl
/-- A row that is owned and has no room to spare lies whole in its block. -/
theorem own_heap {w : World} {base g n : Nat} {xs : List Value} (h : w.ownsRow base 5 1 (.slice (some ⟨g, 0, none⟩) n n) n xs) : w.heap[g]? = some (.cells xs.toArray 5 (0, 0)) := by
  rcases h.2 with ⟨h', _⟩ | ⟨g', cap, cur, h', _, hg, _, _, hcs, htake⟩
  · simp at h'
  · simp only [Value.slice.injEq, Option.some.injEq, Addr.mk.injEq, and_true, true_and] at h'
    obtain ⟨rfl, rfl⟩ := h'
    rw [List.take_of_length_le (by rw [Array.length_toList, hcs]; exact Nat.le_refl _)] at htake
    rw [← htake]
    exact hg
theorem own_of {w : World} {base g n : Nat} {xs : List Value} (hg : w.heap[g]? = some (.cells xs.toArray 5 (0, 0))) (hb : base ≤ g) (hn : xs.length = n) (hm : n ≤ maxLen) :
    w.ownsRow base 5 1 (.slice (some ⟨g, 0, none⟩) n n) n xs :=
  ⟨by omega, .inr ⟨g, n, xs.toArray, rfl, hb, hg, Nat.le_refl _, hm, by simp [hn], by simp [← hn]⟩⟩
theorem made_zeros (k : Nat) : (madeCells #[Value.int .u8 0] k).toList = bvs (List.replicate k 0) := by
  apply List.ext_getElem?
  intro i
  by_cases h : i < k
  · simp [madeCells, bvs, h, Nat.mod_one]
  · rw [List.getElem?_eq_none (by simp [size_madeCells]; omega), List.getElem?_eq_none (by simp [bvs]; omega)]
theorem Try.cells5 : Try.prog.cellsOf 5 = 1 := by kernel_rfl
theorem open_byts {H : Type} {enc : TypeId × Value → H} {u : World} {r : Reach} {b0 base : Nat} {sp : Nat → Bool} {held : Bool} {v : Value} {d : DataW H} {p : List MemPlace}
    (hsp : ∀ b, sp b = true) (hv : Value.okWide Try.prog u r b0 29 v) (h : DataW.Trod enc Try.prog u base sp held 29 v d p) : ∃ l, Byts u v l := by
  obtain ⟨A, len, cap, rfl⟩ := okWide_slice Try.underlying29 hv
  obtain ⟨fuel, hf⟩ := h
  rcases open_ints Try.underlying29 Try.underlying5 Try.cells5 hf with ⟨hcs, _⟩ | ⟨x, l, c, zs, hcs, _, hl, hm, hz, _, hcell, hwz⟩
  · simp [Value.cells] at hcs
    obtain ⟨rfl, rfl, rfl⟩ := hcs
    exact ⟨[], Byts.none u⟩
  · simp [Value.cells] at hcs
    obtain ⟨rfl, rfl, rfl⟩ := hcs
    rw [hsp] at hz
    have hz' : zs.length = cap := by simpa using hz
    have bd : ∀ j, j < zs.length → 0 ≤ zs.getD j 0 ∧ zs.getD j 0 ≤ 255 := by
      intro j hj
      have h1 := hwz (zs.getD j 0) (by simp [List.getD, hj])
      simpa [Lit.wf, IntKind.min, IntKind.max, IntKind.signed, IntKind.bits] using h1
    have hlen : ((zs.take len).map fun z => UInt8.ofNat z.toNat).length = len := by simp; omega
    refine ⟨(zs.take len).map fun z => UInt8.ofNat z.toNat, some x, cap, by rw [hlen], by rw [hlen]; exact hl, fun hpos => ?_⟩
    rw [hlen] at hpos
    obtain ⟨b, off, spot⟩ := x
    have hspot : spot = none := by simpa [Addr.add] using World.cell?_spot (hcell 0 (by omega))
    subst hspot
    refine ⟨b, off, rfl, fun k hk => ?_⟩
    rw [hlen] at hk
    have g := hcell k (by omega)
    have hb := bd k (by omega)
    have e1 : ((zs.take len).map fun z => UInt8.ofNat z.toNat)[k].toNat = (zs.getD k 0).toNat := by
      simp only [List.getElem_map, List.getElem_take]
      have e : zs.getD k 0 = zs[k] := by simp [List.getD, show k < zs.length by omega]
      rw [e] at hb ⊢
      simp
      omega
    have e : (((zs.getD k 0).toNat : Nat) : Int) = zs.getD k 0 := by omega
    rw [e1, e, ← g]
    unfold Addr.add
    by_cases hk0 : k = 0
    · simp [hk0]
    · simp [hk0]
end Go.Proofs.Ytceoelemlokelaa
