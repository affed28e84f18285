/- The statements' own small calls: full, Op.bytes. -/
import Derived.Test.YtcbiagdpolhbfaaRf
import Derived.Lib.AppendZerosOnto
namespace Go.Proofs.Ytcbiagdpolhbfaa
open Go.RowKit
open D (St)

/-- A block of one byte, and a mark at its front. -/
def fullL (c : UInt8) (k : Nat) : List UInt8 := UInt8.ofNat (k / 256) :: UInt8.ofNat (k % 256) :: List.replicate 510 c
theorem fullL_length (c : UInt8) (k : Nat) : (fullL c k).length = 512 := by simp only [fullL, List.length_cons, List.length_replicate]
theorem fullL_set (c : UInt8) (k : Nat) : ((List.replicate 512 c).set 0 (UInt8.ofNat (k / 256))).set 1 (UInt8.ofNat (k % 256)) = fullL c k := by
  rw [show (512 : Nat) = 510 + 1 + 1 from rfl, List.replicate_succ, List.replicate_succ]
  rfl
theorem fill_step (c : UInt8) (k : Nat) (h : k < 512) : (List.replicate k c ++ List.replicate (512 - k) (0 : UInt8)).set k c = List.replicate (k + 1) c ++ List.replicate (512 - (k + 1)) 0 := by
  rw [show 512 - k = (512 - (k + 1)) + 1 by omega, List.replicate_succ, List.set_append_right _ _ (by simp)]
  simp [List.replicate_succ']

set_option maxRecDepth 100000 in
theorem full_any (c : UInt8) (k : Nat) (hk : k < 65536) (w : World) :
    Calls Try.prog 23 #[.int .u8 ((c.toNat : Nat) : Int), .int .u16 (k : Int)] w fun e w' => ∃ g, e = .returned (.slice (some ⟨g, 0, none⟩) 512 512) ∧ w'.ownsRow w.heap.size 5 1 (.slice (some ⟨g, 0, none⟩) 512 512) 512 (bvs (fullL c k)) ∧ Below w.heap.size w w' := by
  obtain ⟨i0, hi0, hz0, hz1, hz2⟩ := info_parts Try.info5
  go_enter Try.func23, Try.ntmps23
  go_wp2_with (first
    | (refine wpList_make_full _ rfl _ _ 44 rfl w.heap.size 5 i0 _ 1 Try.underlying44 hi0 hz0 hz1 .i64 .i64 _ _ 512 rfl rfl rfl rfl ?b1 ?b2 (Nat.le_refl _) ?_)
    | fail)
  case b1 => rw [hz2]; decide
  case b2 => decide
  intro w1 ho hg
  have HB1 : Hid (Below w.heap.size w w1) := (Below.refl _ _).grown hg (Nat.le_refl _) (fun k h => by cases h)
  have HO1 : Hid (w1.ownsRow w.heap.size 5 1 (.slice (some ⟨w.heap.size, 0, none⟩) 512 512) 512 (bvs (List.replicate 0 c ++ List.replicate (512 - 0) 0))) := by
    have e : (madeCells #[Value.int .u8 0] 512).toList = bvs (List.replicate 0 c ++ List.replicate (512 - 0) 0) := by rw [made_zeros]; simp
    rw [← e]
    exact ho
  clear ho hg
  go_wp2
  go_loopw [10] (fun i wr => ∃ j : Nat, j ≤ 512 ∧ i = .int .i64 (j : Int) ∧ Hid (wr.ownsRow w.heap.size 5 1 (.slice (some ⟨w.heap.size, 0, none⟩) 512 512) 512 (bvs (List.replicate j c ++ List.replicate (512 - j) 0))) ∧ Hid (Below w.heap.size w wr)) (fun i _ => (512 - intOf i).toNat)
  case atStart => exact ⟨0, by omega, rfl, HO1, HB1⟩
  case round =>
    obtain ⟨j, hj, rfl, HO, HB⟩ := hrel
    by_cases hj2 : j < 512
    · have hc : ∃ u, wr.cell? ⟨w.heap.size, j, none⟩ = some u := by
        rw [HO.out.cellAt j (by omega)]
        exact ⟨_, List.getElem?_eq_getElem (by rw [HO.out.1]; omega)⟩
      obtain ⟨u, hu⟩ := hc
      have hf := HO.out.frozenAt j
      have HO2 : Hid ((wr.setCell ⟨w.heap.size, j, none⟩ (.int .u8 ((c.toNat : Nat) : Int))).ownsRow w.heap.size 5 1 (.slice (some ⟨w.heap.size, 0, none⟩) 512 512) 512 (bvs (List.replicate (j + 1) c ++ List.replicate (512 - (j + 1)) 0))) := by
        have := (HO.out.stored j (.int .u8 ((c.toNat : Nat) : Int))).1
        rw [← bvs_set, fill_step c j hj2] at this
        exact this
      have HB2 : Hid (Below w.heap.size w (wr.setCell ⟨w.heap.size, j, none⟩ (.int .u8 ((c.toNat : Nat) : Int)))) := ((Keep.of_below (F := fun b => w.heap.size ≤ b) HB.out).setCell (p := ⟨w.heap.size, j, none⟩) (.inl (Nat.le_refl _)) _).below (Nat.le_refl _) (fun _ h => h)
      go_wp2
      generalize wr.setCell ⟨w.heap.size, j, none⟩ (.int .u8 ((c.toNat : Nat) : Int)) = w5 at *
      go_roundw
      case rel => exact ⟨j + 1, by omega, by go_num, HO2, HB2⟩
      case measure => simp [intOf]; omega
    · obtain rfl : j = 512 := by omega
      have e0 : List.replicate 512 c ++ List.replicate (512 - 512) (0 : UInt8) = List.replicate 512 c := by simp
      rw [e0] at HO
      have c0 := HO.out.cellAt 0 (by omega)
      have c1 := HO.out.cellAt 1 (by omega)
      have f0 := HO.out.frozenAt 0
      have f1 := HO.out.frozenAt 1
      go_wp2
      go_ret
      have e1 : ((k : Int) / 256) = (((UInt8.ofNat (k / 256)).toNat : Nat) : Int) := by simp; omega
      have e2 : ((k : Int) % 256) = (((UInt8.ofNat (k % 256)).toNat : Nat) : Int) := by simp
      refine ⟨_, rfl, ?_, (((Keep.of_below (F := fun b => w.heap.size ≤ b) HB.out).setCell (p := ⟨w.heap.size, 0, none⟩) (.inl (Nat.le_refl _)) _).setCell (p := ⟨w.heap.size, 1, none⟩) (.inl (Nat.le_refl _)) _).below (Nat.le_refl _) (fun _ h => h)⟩
      have := ((HO.out.stored 0 (.int .u8 ((k : Int) / 256))).1.stored 1 (.int .u8 ((k : Int) % 256))).1
      have e3 : ((bvs (List.replicate 512 c)).set 0 (.int .u8 ((k : Int) / 256))).set 1 (.int .u8 ((k : Int) % 256)) = bvs (fullL c k) := by
        rw [e1, e2, ← bvs_set, ← bvs_set, fullL_set]
      rw [e3] at this
      exact this

/-- What an operation writes. -/
def bytesL (c : UInt8) (k : Nat) (n : Int) : List UInt8 := if n < 0 then (fullL c k).take (512 + n).toNat else fullL c k ++ List.replicate n.toNat 0
theorem bytesL_le (c : UInt8) (k : Nat) (n : Int) (h : n ≤ 127) : (bytesL c k n).length ≤ 1000 := by
  unfold bytesL
  split
  · rw [List.length_take, fullL_length]; omega
  · rw [List.length_append, fullL_length, List.length_replicate]; omega
/-- An operation's cells. -/
def opv (d : Nat) (at_ : Int) (c : UInt8) (k : Nat) (n : Int) (lv : Value) : Value := .agg #[.int .u8 (d : Int), .int .i64 at_, .int .u8 ((c.toNat : Nat) : Int), .int .u16 (k : Int), .int .i8 n, lv]
theorem run_more {w : World} {g : Nat} {l : List UInt8} (hl : l.length = 512) (ho : w.ownsRow 0 5 1 (.slice (some ⟨g, 0, none⟩) 512 512) 512 (bvs l)) (k : Nat) (hk : k ≤ 127) (ty : TypeId) (kq : IntKind) :
    ∃ v' w', (Builtin.append_ #[44, 3] ty #[.slice (some ⟨g, 0, none⟩) 512 512, .int kq (k : Int)]).run Try.prog w = .ok v' w' ∧ Byts w' v' (l ++ List.replicate k 0) ∧ Below w.heap.size w w' := by
  obtain ⟨i0, hi0, hz0, hz1, hz2⟩ := info_parts Try.info5
  have hcell : ∀ j (h : j < l.length), w.cell? ⟨g, j, none⟩ = some (.int .u8 ((l[j].toNat : Nat) : Int)) := fun j h => by
    rw [ho.cellAt j (by omega), bvs_get l j h]
  have hw0 : IntKind.i64.wrap 0 = 0 := by rw [IntKind.wrap_i64]; rfl
  by_cases h0 : k = 0
  · subst h0
    refine ⟨.slice (some ⟨g, 0, none⟩) 512 512, w, ?_, ⟨_, _, by simp [hl]; rfl, by simp [hl], fun _ => ⟨g, 0, rfl, fun j hj => ?_⟩⟩, Below.refl _ _⟩
    · simp [Builtin.append_, run_underlying Try.underlying44, run_underlying Try.underlying3, sizeOf, typeInfo, hi0, Builtin.lenOf, Builtin.firstCells, storeCells, asInt, asIntOf, hw0]
    · simp only [List.replicate_zero, List.append_nil] at hj ⊢
      rw [Nat.zero_add]
      exact hcell j hj
  · have hfirst : (Builtin.firstCells i0.size 512 (.slice (some ⟨g, 0, none⟩) 512 512)).run Try.prog w.drew = .ok (bvs l).toArray w.drew := by
      have := run_loadCells_list (P := Try.prog) w.drew ⟨g, 0, none⟩ (bvs l) (fun j v hv => by
        have hj : j < l.length := by rw [← bvs_length]; exact (List.getElem?_eq_some_iff.1 hv).1
        rw [bvs_get l j hj] at hv
        rw [Addr.add_mid, Nat.zero_add, ← hv]
        exact hcell j hj)
      rw [bvs_length, hl] at this
      simp [Builtin.firstCells, hz1, this]
    have hr := Lib.run_append_grow_zeros (P := Try.prog) w 44 3 ty 5 i0 _ kq .i64 Try.underlying44 Try.underlying3 hi0 hz0 (some ⟨g, 0, none⟩) 512 512 (bvs l) hfirst k (by omega) (by omega) (by omega) (by omega) (by rw [hz2]; omega) (growslice_fits (by omega) (by rw [hz2]; omega))
    refine ⟨_, _, hr, ⟨_, _, by rw [List.length_append, List.length_replicate, hl], ?_, fun _ => ⟨w.heap.size, 0, rfl, fun j hj => ?_⟩⟩, ?_⟩
    · rw [List.length_append, List.length_replicate, hl]
      exact grownCap_ge _ _ _ _
    · have e1 : (w.drew.alloc (.cells ((bvs l).toArray ++ Builtin.zeroCells (Value.int .u8 0).cells k ++ Builtin.zeroCells (Value.int .u8 0).cells (grownCap w (512 + k) 512 5 - (512 + k))) 5)).cell? ⟨w.drew.heap.size, 0 + j, none⟩ = _ := World.cell?_alloc_at _ _ _ _ rfl
      have e2 : Builtin.zeroCells (Value.int .u8 0).cells k = (bvs (List.replicate k 0)).toArray := by
        rw [← made_zeros, Array.toArray_toList]
        simp [Builtin.zeroCells, madeCells, Value.cells]
      rw [show w.heap.size = w.drew.heap.size from rfl, e1, e2, Nat.zero_add, Array.getElem?_append_left (by simp [bvs_length]; simpa using hj), List.append_toArray]
      rw [← bvs_append]
      simpa using bvs_get _ j hj
    · exact (Keep.of_below (F := fun _ => False) (Below.refl _ _)).drew.alloc _ |>.below (Nat.le_refl _) (fun _ h => h.elim)
theorem bytes_any (d : Nat) (at_ : Int) (c : UInt8) (k : Nat) (n : Int) (A : Option Addr) (m cc : Nat) (hk : k < 65536) (hn1 : -128 ≤ n) (hn2 : n ≤ 127) (w : World) :
    Calls Try.prog 14 #[opv d at_ c k n (.slice A m cc)] w fun e w' => ∃ v, e = .returned v ∧ Byts w' v (bytesL c k n) ∧ Below w.heap.size w w' := by
  have HA := Lib.hid (alb (w := w) (.cells #[.int .u8 (d : Int), .int .i64 at_, .int .u8 ((c.toNat : Nat) : Int), .int .u16 (k : Int), .int .i8 n, .slice A m cc] 38))
  have HC : Hid ((w.alloc (.cells #[.int .u8 (d : Int), .int .i64 at_, .int .u8 ((c.toNat : Nat) : Int), .int .u16 (k : Int), .int .i8 n, .slice A m cc] 38)).cell? ⟨w.heap.size, 4, none⟩ = some (.int .i8 n)) := by unfold Hid; rw [World.cell?_alloc_at _ _ _ _ rfl]; rfl
  have HF := Lib.hid (full_any c k hk (w.alloc (.cells #[.int .u8 (d : Int), .int .i64 at_, .int .u8 ((c.toNat : Nat) : Int), .int .u16 (k : Int), .int .i8 n, .slice A m cc] 38)))
  have HL := Lib.hid (fullL_length c k)
  have HQ : Hid (bytesL c k n = if n < 0 then (fullL c k).take (512 + n).toNat else fullL c k ++ List.replicate n.toNat 0) := rfl
  generalize bytesL c k n = bl at *
  generalize fullL c k = fl at *
  unfold opv
  go_enter Try.func14, Try.ntmps14
  go_wp2_with fail
  generalize w.alloc (.cells #[.int .u8 (d : Int), .int .i64 at_, .int .u8 ((c.toNat : Nat) : Int), .int .u16 (k : Int), .int .i8 n, .slice A m cc] 38) = w1 at *
  refine HF.out.mono ?_
  rintro e w2 ⟨g, rfl, ho, hb⟩
  have c4 := kept HC.out hb
  have HB := Lib.hid (btr HA.out hb)
  have HO := Lib.hid (Go.Joins.ownsRow_le ho (Nat.zero_le _))
  clear ho hb HF HC HA
  by_cases h0 : n < 0
  · have e1 : bl = fl.take (512 + n).toNat := by rw [HQ.out, if_pos h0]
    obtain ⟨q, hq⟩ : ∃ q : Nat, (512 : Int) + n = (q : Int) := ⟨(512 + n).toNat, by omega⟩
    have hq2 : q < 512 := by omega
    have hq3 : 0 < q := by omega
    have hw : IntKind.i64.wrap (512 + n) = (q : Int) := by rw [IntKind.wrap_i64]; omega
    have hw2 : IntKind.i64.wrap n = n := by rw [IntKind.wrap_i64]; omega
    have e2 : (512 + n).toNat = q := by omega
    rw [e2] at e1
    clear HQ e2
    go_wp2
    go_ret
    refine ⟨_, rfl, ?_, HB.out⟩
    subst e1
    have hl : (fl.take q).length = q := by rw [List.length_take, HL.out]; omega
    refine ⟨some ⟨g, 0, none⟩, 512, by rw [hl]; rfl, by rw [hl]; omega, fun _ => ⟨g, 0, rfl, fun j hj => ?_⟩⟩
    rw [hl] at hj
    rw [Nat.zero_add, HO.out.cellAt j (by omega), bvs_get fl j (by rw [HL.out]; omega)]
    simp
  · have e1 : bl = fl ++ List.replicate n.toNat 0 := by rw [HQ.out, if_neg h0]
    obtain ⟨q, rfl⟩ := Int.eq_ofNat_of_zero_le (by omega : 0 ≤ n)
    have hw2 : IntKind.i64.wrap (q : Int) = (q : Int) := by rw [IntKind.wrap_i64]; omega
    obtain ⟨v', w', hr, hv, hb⟩ := run_more HL.out HO.out q (by omega) 44 .i64
    rw [Int.toNat_natCast] at e1
    rw [← e1] at hv
    have HV := Lib.hid hv
    clear HQ hv
    go_wp2_with (first
      | (at_builtin; refine Lib.wpList_append_run _ rfl _ _ 44 3 rfl _ _ rfl rfl v' w' hr ?_)
      | fail)
    go_ret
    exact ⟨_, rfl, HV.out, btr HB.out hb⟩
end Go.Proofs.Ytcbiagdpolhbfaa
