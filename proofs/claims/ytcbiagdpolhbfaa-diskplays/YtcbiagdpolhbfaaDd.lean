/- disk.Read. -/
import Derived.Test.YtcbiagdpolhbfaaDc
namespace Go.Proofs.Ytcbiagdpolhbfaa
open Go.RowKit
open D (St)

/-- What Read answers: the bytes (none, if it doesn't), the error. -/
def readB (s : St) (n : Int) : List UInt8 := if s.down then [] else if hasB s n then D.look s n.toNat else []
def readE (s : St) (n : Int) : Int := if s.down then 7 else if hasB s n then 0 else 4

theorem read_core {w : World} {p : Nat} {n : Int} {L : List UInt8} (c3 : w.cell? ⟨p, 3, none⟩ = some (.bool false)) (HLL : Hid (L.length = 512))
    (HH : Hid (Calls Try.prog 29 #[.pointer (some ⟨p, 0, none⟩), .int .i64 n] w fun e w' => e = .returned (.bool true) ∧ w' = w))
    (HC : Hid (Calls Try.prog 34 #[.pointer (some ⟨p, 0, none⟩), .int .i64 n] w fun e w' => e = .returned (.agg (bvs L).toArray) ∧ Below w.heap.size w w')) :
    Calls Try.prog 19 #[.pointer (some ⟨p, 0, none⟩), .int .i64 n] w fun e w' => ∃ v, e = .returned (.tuple #[v, .int .i64 0]) ∧ w'.ownsRow w.heap.size 5 1 v L.length (bvs L) ∧ Below w.heap.size w w' := by
  have hz := (zero_of_info Try.zero73).1
  have HZ := Lib.hid zb_size
  generalize zb = Z at *
  go_enter Try.func19, Try.ntmps19
  go_wp2_with fail
  refine HH.out.mono ?_
  rintro e w1 ⟨rfl, rfl⟩
  go_wp2_with fail
  refine HC.out.mono ?_
  rintro e w2 ⟨rfl, hb2⟩
  have HT := Lib.hid (there_blk (there_new w2 Z 73 512 HZ.out) HLL.out)
  have hB := Lib.hid ((Keep.setCells (F := fun _ => False) (Keep.of_below (alb (w := w2) (.cells Z 73))) (.inr (Nat.le_refl _)) 0 (bvs L)).below (Nat.le_refl _) (fun _ h => h.elim))
  have HR := Lib.hid (World.rangeAt_setCells_same (w2.alloc (.cells Z 73)) w2.heap.size 0 (bvs L) (by have := HT.out; rwa [List.size_toArray] at this))
  go_wp2_with (first
    | (refine wpList_store_mid rfl 73 _ _ rfl w2.heap.size 0 (bvs L).toArray rfl rfl HT.out (info_blkA HLL.out) (one_blk L) ?_)
    | fail)
  have HV : Hid (Byts ((w2.alloc (.cells Z 73)).setCells w2.heap.size 0 (bvs L)) (.slice (some ⟨w2.heap.size, 0, none⟩) 512 512) L) :=
    ⟨_, _, by rw [HLL.out], by rw [HLL.out]; exact Nat.le_refl _, fun _ => ⟨w2.heap.size, 0, rfl, fun j hj => HR.out j _ (bvs_get L j hj)⟩⟩
  generalize (w2.alloc (.cells Z 73)).setCells w2.heap.size 0 (bvs L) = w3 at *
  refine (clone_any _ L w3 HV.out (by rw [HLL.out]; decide)).mono ?_
  rintro e w4 ⟨v, rfl, ho, hb4⟩
  go_wp2
  go_ret2
  exact ⟨_, rfl, Go.Joins.ownsRow_le ho (Nat.le_trans hb2.size hB.out.size), btr (btr hb2 hB.out) hb4⟩
theorem read_down {w : World} {p : Nat} {n : Int} (c3 : w.cell? ⟨p, 3, none⟩ = some (.bool true)) :
    Calls Try.prog 19 #[.pointer (some ⟨p, 0, none⟩), .int .i64 n] w fun e w' => ∃ v, e = .returned (.tuple #[v, .int .i64 7]) ∧ w'.ownsRow w.heap.size 5 1 v ([] : List UInt8).length (bvs []) ∧ Below w.heap.size w w' := by
  go_enter Try.func19, Try.ntmps19
  go_wp2
  go_ret2
  exact ⟨_, rfl, World.ownsRow_nil _ _ _ _, Below.refl _ _⟩
theorem read_none {w : World} {p : Nat} {n : Int} (c3 : w.cell? ⟨p, 3, none⟩ = some (.bool false))
    (HH : Hid (Calls Try.prog 29 #[.pointer (some ⟨p, 0, none⟩), .int .i64 n] w fun e w' => e = .returned (.bool false) ∧ w' = w)) :
    Calls Try.prog 19 #[.pointer (some ⟨p, 0, none⟩), .int .i64 n] w fun e w' => ∃ v, e = .returned (.tuple #[v, .int .i64 4]) ∧ w'.ownsRow w.heap.size 5 1 v ([] : List UInt8).length (bvs []) ∧ Below w.heap.size w w' := by
  go_enter Try.func19, Try.ntmps19
  go_wp2_with fail
  refine HH.out.mono ?_
  rintro e w1 ⟨rfl, rfl⟩
  go_wp2
  go_ret2
  exact ⟨_, rfl, World.ownsRow_nil _ _ _ _, Below.refl _ _⟩
theorem read_any {w : World} {p g : Nat} {wv : Value} {s : St} (h : Dsk w p g wv s) (n : Int) :
    Calls Try.prog 19 #[.pointer (some ⟨p, 0, none⟩), .int .i64 n] w fun e w' => ∃ v, e = .returned (.tuple #[v, .int .i64 (readE s n)]) ∧ w'.ownsRow w.heap.size 5 1 v (readB s n).length (bvs (readB s n)) ∧ Below w.heap.size w w' := by
  have c3 := h.c3
  have HH := has_any h n
  unfold readE readB
  cases hd : s.down with
  | true =>
    rw [hd] at c3
    exact read_down c3
  | false =>
    rw [hd] at c3
    cases hq : hasB s n with
    | false =>
      rw [hq] at HH
      exact read_none c3 HH
    | true =>
      rw [hq] at HH
      simp only [hasB, Bool.and_eq_true, decide_eq_true_eq] at hq
      obtain ⟨m, rfl⟩ := Int.eq_ofNat_of_zero_le hq.1
      exact read_core c3 (D.look_length h.ok (by simp; omega)) HH (last_any h m (by omega))
end Go.Proofs.Ytcbiagdpolhbfaa
