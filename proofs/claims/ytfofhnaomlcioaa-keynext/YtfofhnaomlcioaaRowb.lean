/- Rows of bytes as the program has them; the contracts of key.Cmp and slices.Clone. -/
import Derived.Test.YtfofhnaomlcioaaKeys
import Derived.Laws.OwnMore
import Derived.Lib.BytesEntry
import Derived.Lib.SliceRun
namespace Go.Proofs.Ytfofhnaomlcioaa
open Go.RowKit
open W (hi lo dig MM M cmpN)

/-- Bytes as values. -/
def bvs (l : List UInt8) : List Value := l.map fun c => .int .u8 ((c.toNat : Nat) : Int)
theorem bvs_length (l : List UInt8) : (bvs l).length = l.length := by simp [bvs]
theorem bvs_append (l m : List UInt8) : bvs (l ++ m) = bvs l ++ bvs m := by simp [bvs]
theorem bvs_get (l : List UInt8) (j : Nat) (h : j < l.length) : (bvs l)[j]? = some (.int .u8 ((l[j].toNat : Nat) : Int)) := by simp [bvs, h]
theorem bvs_one (l : List UInt8) : ∀ u ∈ bvs l, u.oneCell' = true := by
  intro u hu
  simp only [bvs, List.mem_map] at hu
  obtain ⟨c, _, rfl⟩ := hu
  rfl
theorem bvs_set (l : List UInt8) (i : Nat) (x : UInt8) : bvs (l.set i x) = (bvs l).set i (.int .u8 ((x.toNat : Nat) : Int)) := by simp [bvs, List.map_set]
theorem bvs_map (l : List UInt8) : bvs l = (l.map fun c => ((c.toNat : Nat) : Int)).map (Value.int .u8) := by simp [bvs]
/-- A text as the program has it. -/
def str (l : List UInt8) : ByteArray := ⟨l.toArray⟩
theorem str_size (l : List UInt8) : (str l).size = l.length := rfl
theorem str_list (l : List UInt8) : (str l).data.toList = l := by simp [str]
theorem str_toList (l : List UInt8) : (str l).toList = l := by rw [ByteArray.toList_eq]; exact str_list l
theorem str_append (l m : List UInt8) : str l ++ str m = str (l ++ m) := by
  apply ByteArray.ext
  simp [str]
theorem str_of_nums (l : List UInt8) : strOfNums (l.map fun c => ((c.toNat : Nat) : Int)) = str l := by
  unfold strOfNums str
  simp only [List.map_map]
  congr 2
  rw [List.map_congr_left (g := id) (fun c _ => by simp)]
  simp
theorem str_inj {l m : List UInt8} (h : str l = str m) : l = m := by rw [← str_list l, ← str_list m, h]

/-- A slice of these bytes: their cells, wherever they lie. -/
def Byts (w : World) (v : Value) (l : List UInt8) : Prop :=
  ∃ A c, v = .slice A l.length c ∧ l.length ≤ c ∧ (0 < l.length → ∃ b off, A = some ⟨b, off, none⟩ ∧ ∀ j (h : j < l.length), w.cell? ⟨b, off + j, none⟩ = some (.int .u8 ((l[j].toNat : Nat) : Int)))
theorem Byts.below {w w1 : World} {v : Value} {l : List UInt8} (h : Byts w v l) (hb : Below w.heap.size w w1) : Byts w1 v l := by
  obtain ⟨A, c, e, hc, h⟩ := h
  refine ⟨A, c, e, hc, fun hl => ?_⟩
  obtain ⟨b, off, e2, h2⟩ := h hl
  exact ⟨b, off, e2, fun j hj => kept (h2 j hj) hb⟩
theorem Byts.none (w : World) : Byts w (.slice none 0 0) [] := ⟨_, _, rfl, Nat.le_refl _, fun h => by simp at h⟩
theorem Byts.own {w : World} {base : Nat} {v : Value} {l : List UInt8} (h : w.ownsRow base 5 1 v l.length (bvs l)) : Byts w v l := by
  rcases h.2 with ⟨e, h0⟩ | ⟨g, cap, cur, e, _, _, hc, _⟩
  · obtain rfl : l = [] := List.length_eq_zero_iff.1 h0
    subst e
    exact Byts.none w
  · subst e
    refine ⟨_, _, rfl, hc, fun _ => ⟨g, 0, rfl, fun j hj => ?_⟩⟩
    rw [Nat.zero_add, h.cellAt j (by omega), bvs_get l j hj]
theorem Byts.lit (w : World) (l : List UInt8) (hl : l.length ≤ 1000) : Byts (w.alloc (.cells (bvs l).toArray 5)) (.slice (some ⟨w.heap.size, 0, Option.none⟩) l.length l.length) l :=
  Byts.own (base := 0) (by
    have := World.ownsRow_lit (base := 0) (e := 5) (size := 1) w (bvs l).toArray l.length (Nat.zero_le _) (by unfold maxLen; omega) (by simp [bvs_length])
    simpa using this)
theorem Byts.conv {w : World} {v : Value} {l : List UInt8} (h : Byts w v l) : (convert 22 9 v).run Try.prog w = .ok (.string (str l)) w := by
  obtain ⟨A, c, rfl, hc, h⟩ := h
  by_cases h0 : 0 < l.length
  · obtain ⟨b, off, rfl, h2⟩ := h h0
    have := run_convert_bytes_arg (P := Try.prog) w 22 5 Try.underlying22 Try.underlying5 b off l.length c (l.map fun c => ((c.toNat : Nat) : Int)) (by simp) (fun i hi => by
      rw [h2 i hi]
      simp [List.getD, hi]) 9 Try.underlying9
    rw [str_of_nums] at this
    exact this
  · obtain rfl : l = [] := List.length_eq_zero_iff.1 (by omega)
    rw [run_convert_bytes_string w 22 9 5 _ _ c Try.underlying22 Try.underlying5 Try.underlying9]
    cases A <;> simp [Conv.bytesToString, loadCells]
    all_goals rfl
theorem Byts.load {w : World} {v : Value} {l : List UInt8} (h : Byts w v l) : (Extern.Bytes.bytesOf v).run Try.prog w = .ok (str l) w := by
  obtain ⟨A, c, rfl, hc, h⟩ := h
  by_cases h0 : 0 < l.length
  · obtain ⟨b, off, rfl, h2⟩ := h h0
    have k := Lib.run_loadBytesX (P := Try.prog) w (l.map fun c => ((c.toNat : Nat) : Int)) ⟨b, off, Option.none⟩ .empty (fun j x hj => by
      have hjl : j < l.length := by simpa using (List.getElem?_eq_some_iff.1 hj).1
      have e : (⟨b, off, Option.none⟩ : Addr).add j = ⟨b, off + j, Option.none⟩ := by unfold Addr.add; split <;> simp_all
      rw [e, h2 j hjl]
      simp [hjl] at hj
      rw [hj])
    simp only [Extern.Bytes.bytesOf]
    rw [List.length_map] at k
    rw [k]
    congr 1
    apply ByteArray.ext
    show #[] ++ _ = _
    simp only [Array.empty_append, str, Lib.bytesOf, List.map_map]
    congr 1
    rw [List.map_congr_left (g := id) (fun c _ => by simp)]
    simp
  · obtain rfl : l = [] := List.length_eq_zero_iff.1 (by omega)
    cases A <;> rfl

theorem run_bytecmp {w : World} {v1 v2 : Value} {l1 l2 : List UInt8} (h1 : Byts w v1 l1) (h2 : Byts w v2 l2) :
    (callFunc 37 #[v1, v2]).run Try.prog w = .ok (.value (.int .i64 (Lib.compareBytes l1 l2))) w := by
  rw [run_callFunc_extern Try.func37 (by kernel_rfl) (by kernel_rfl) (by kernel_rfl) (e := Extern.BytealgCompare.compare) (by kernel_rfl)]
  have k : (Extern.BytealgCompare.compare #[v1, v2]).run Try.prog w = .ok (.int .i64 (Lib.compareBytes l1 l2)) w := by
    change Sem.run Try.prog (do pure (goInt (Extern.BytealgCompare.cmp (← Extern.Bytes.bytesOf v1) (← Extern.Bytes.bytesOf v2)))) w = _
    simp only [Sem.run_bind, Sem.run_pure, h1.load, h2.load, Result.andThen]
    rw [Lib.cmp_eq, str_list, str_list]
    rfl
  rw [k]
  rfl
theorem compare_any (v1 v2 : Value) (l1 l2 : List UInt8) (w : World) (h1 : Byts w v1 l1) (h2 : Byts w v2 l2) :
    Calls Try.prog 28 #[v1, v2] w fun e w' => e = .returned (.int .i64 (Lib.compareBytes l1 l2)) ∧ Below w.heap.size w w' := by
  have hr := run_bytecmp h1 h2
  clear h1 h2
  go_enter Try.func28, Try.ntmps28
  go_wp2
  go_ret
  exact ⟨rfl, Below.refl _ _⟩
theorem keycmp_any (v1 v2 : Value) (l1 l2 : List UInt8) (w : World) (h1 : Byts w v1 l1) (h2 : Byts w v2 l2) :
    Calls Try.prog 10 #[v1, v2] w fun e w' => e = .returned (.int .i64 (Lib.compareBytes l1 l2)) ∧ Below w.heap.size w w' := by
  have H := Lib.hid (compare_any v1 v2 l1 l2 w h1 h2)
  clear h1 h2
  go_enter Try.func10, Try.ntmps10
  go_wp2_with fail
  refine H.out.mono ?_
  rintro e w1 ⟨rfl, hb⟩
  go_wp2
  go_ret
  exact ⟨rfl, hb⟩

set_option maxHeartbeats 400000 in
theorem clone_any (v : Value) (l : List UInt8) (w : World) (h : Byts w v l) (hl : l.length ≤ 1000000) :
    Calls Try.prog 27 #[v] w fun e w' => ∃ v', e = .returned v' ∧ w'.ownsRow w.heap.size 5 1 v' l.length (bvs l) ∧ Below w.heap.size w w' := by
  obtain ⟨i0, hi0, hz0, hz1, hz2⟩ := info_parts Try.info5
  have q : ∀ (w : World) (a : Option Addr) (n c n' c' : Nat), (binOp .eql 22 (.slice a n c) (.slice none n' c')).run Try.prog w = .ok (.bool a.isNone) w := fun w a n c n' c' => Lib.run_eql_slice_nil w _ _ a n c n' c' Try.underlying22
  obtain ⟨A, c, rfl, hc, h⟩ := h
  have H := Lib.hid h; clear h
  cases A with
  | none =>
    obtain rfl : l = [] := by
      cases l with
      | nil => rfl
      | cons x l => obtain ⟨b, off, e, _⟩ := H.out (by simp); cases e
    clear H
    go_enter Try.func27, Try.ntmps27
    go_wp2
    go_ret
    exact ⟨_, rfl, World.ownsRow_nil _ _ _ _, Below.refl _ _⟩
  | some a =>
    go_enter Try.func27, Try.ntmps27
    go_wp2_with (first
      | (at_builtin; refine wpList_append_own _ rfl _ _ 22 rfl w.heap.size 5 i0 _ 1 1 Try.underlying22 hi0 hz0 hz1 hz2 rfl (by omega) _ _ _ rfl (World.ownsRow_lit w #[] 0 (Nat.le_refl _) (by unfold maxLen; omega) rfl) a l.length c (bvs l) rfl ?c1 ?c2 ?c3 ?c4 ?c5 ?c6 ?_)
      | go_in)
    case c1 => rw [bvs_length, Nat.mul_one]
    case c2 =>
      intro j u hj
      have hjl : j < l.length := by rw [← bvs_length]; exact (List.getElem?_eq_some_iff.1 hj).1
      obtain ⟨b, off, e, h2⟩ := H.out (by omega)
      simp only [Option.some.injEq] at e
      subst e
      have e : (⟨b, off, Option.none⟩ : Addr).add j = ⟨b, off + j, Option.none⟩ := by unfold Addr.add; split <;> simp_all
      rw [bvs_get l j hjl] at hj
      rw [e, ← hj]
      exact alc (h2 j hjl) _
    case c3 => exact bvs_one l
    case c4 => unfold maxLen; omega
    case c5 => omega
    case c6 => simp
    intro v' w2 hown hgrow _
    have hB : Below w.heap.size w w2 := (alb _).grown hgrow (by simp) (by intro k hk; simp [Value.ownBlock] at hk; omega)
    clear hgrow
    go_wp2
    go_ret
    exact ⟨_, rfl, by simpa using hown, hB⟩
end Go.Proofs.Ytfofhnaomlcioaa
