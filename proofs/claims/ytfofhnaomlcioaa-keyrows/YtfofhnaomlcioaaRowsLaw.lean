/- The walk of the law KeyRows. -/
import Derived.Test.YtfofhnaomlcioaaNextLaw
import Derived.Test.YtfofhnaomlcioaaLin
namespace Go.Proofs.Ytfofhnaomlcioaa
open Go.RowKit
open W (hi lo dig MM M cmpN)

/-- A slice whose text is s, in this world and in every one in which what is there stays. -/
def Cvs (w : World) (v : Value) (s : ByteArray) : Prop := ∀ W, Below w.heap.size w W → (convert 22 9 v).run Try.prog W = .ok (.string s) W
theorem Cvs.below {w w1 : World} {v : Value} {s : ByteArray} (h : Cvs w v s) (hb : Below w.heap.size w w1) : Cvs w1 v s := fun W hW => h W (btr hb hW)
theorem Byts.cvs {w : World} {v : Value} {l : List UInt8} (h : Byts w v l) : Cvs w v (str l) := fun _ hW => (h.below hW).conv
theorem call_cvs {f : FuncId} {args : Array Value} {W : World} {l : List UInt8} (h : Calls Try.prog f args W fun e w' => ∃ v', e = .returned v' ∧ Byts w' v' l ∧ Below W.heap.size W w') :
    Calls Try.prog f args W fun e w' => ∃ v', e = .returned v' ∧ Cvs w' v' (str l) ∧ Below W.heap.size W w' :=
  h.mono fun _ _ ⟨v, e, b, hb⟩ => ⟨v, e, b.cvs, hb⟩

set_option maxHeartbeats 3200000 in
theorem rows_core (A1 A2 : Option Addr) (k1 c1 k2 c2 : Nat) (n c : Int) (ok : Bool) (sa sb sn sl sh : ByteArray) (hk1 : k1 ≤ 100) (hk2 : k2 ≤ 100) (w : World)
    (QA : Hid (Cvs w (.slice A1 k1 c1) sa)) (QB : Hid (Cvs w (.slice A2 k2 c2) sb))
    (HN : Hid (Calls Try.prog 8 #[.slice A1 k1 c1] w fun e w' => ∃ v', e = .returned (.tuple #[v', .bool ok]) ∧ Cvs w' v' sn ∧ Below w.heap.size w w'))
    (RN : Hid (∀ W : World, Calls Try.prog 9 #[.string sa] W fun e w' => e = .returned (.tuple #[.string sn, .bool ok]) ∧ Below W.heap.size W w'))
    (HC : Hid (∀ W : World, Below w.heap.size w W → Calls Try.prog 10 #[.slice A1 k1 c1, .slice A2 k2 c2] W fun e w' => e = .returned (.int .i64 c) ∧ Below W.heap.size W w'))
    (RC : Hid (∀ W : World, Calls Try.prog 11 #[.string sa, .string sb] W fun e w' => e = .returned (.int .i64 c) ∧ Below W.heap.size W w'))
    (HL : Hid (∀ W : World, Below w.heap.size w W → Calls Try.prog 12 #[.slice A1 k1 c1, .int .i64 n] W fun e w' => ∃ v', e = .returned v' ∧ Cvs w' v' sl ∧ Below W.heap.size W w'))
    (RL : Hid (∀ W : World, Calls Try.prog 13 #[.string sa, .int .i64 n, .int .u8 0] W fun e w' => e = .returned (.string sl) ∧ Below W.heap.size W w'))
    (HH : Hid (∀ W : World, Below w.heap.size w W → Calls Try.prog 14 #[.slice A1 k1 c1, .int .i64 n] W fun e w' => ∃ v', e = .returned v' ∧ Cvs w' v' sh ∧ Below W.heap.size W w'))
    (RH : Hid (∀ W : World, Calls Try.prog 13 #[.string sa, .int .i64 n, .int .u8 255] W fun e w' => e = .returned (.string sh) ∧ Below W.heap.size W w')) :
    Calls Try.prog 3 #[.slice A1 k1 c1, .slice A2 k2 c2, .int .i64 n] w fun e w' => e = .returned (.bool true) ∧ Below w.heap.size w w' := by
  go_enter Try.func3, Try.ntmps3
  go_wp2_with fail
  refine HN.out.mono ?_
  rintro e w1 ⟨v1, rfl, qn, h1⟩
  have hB := h1
  have QN := Lib.hid qn
  replace QA := Lib.hid (QA.out.below h1)
  replace QB := Lib.hid (QB.out.below h1)
  clear h1 qn HN
  have hcv := QA.out _ (Below.refl _ _)
  go_wp2_with fail
  refine (RN.out _).mono ?_
  rintro e w2 ⟨rfl, h2⟩
  replace QA := Lib.hid (QA.out.below h2)
  replace QB := Lib.hid (QB.out.below h2)
  replace QN := Lib.hid (QN.out.below h2)
  replace hB := btr hB h2
  clear h2 hcv RN
  go_wp2_with fail
  refine lin_start 46 rfl (by kernel_rfl) ?_
  replace QA := Lib.hid (QA.out.below ((Below.refl _ _).drew))
  replace QB := Lib.hid (QB.out.below ((Below.refl _ _).drew))
  replace QN := Lib.hid (QN.out.below ((Below.refl _ _).drew))
  replace hB := hB.drew
  generalize w2.drew = u at *
  refine lin_step 0 rfl (by kernel_rfl) (fun K hK => ?_)
  go_simp
  refine (fixed_any _).mono ?_
  rintro e w4 ⟨rfl, h4⟩
  refine hK.out _ _ h4 ?_
  clear hK K
  replace QA := Lib.hid (QA.out.below h4)
  replace QB := Lib.hid (QB.out.below h4)
  replace QN := Lib.hid (QN.out.below h4)
  replace hB := btr hB h4
  clear h4
  refine lin_take 1 32 (v := ?_) rfl rfl (by kernel_rfl) (by kernel_rfl) (by kernel_rfl) (fun _ _ _ _ _ h => h) (by rfl) (fun W hW => ?_) ?_
  rotate_left
  · go_simp; try rfl
  try simp only [Act.put, List.setIfInBounds_toArray, List.set_cons_zero, List.set_cons_succ]
  refine lin_take 2 33 (v := ?_) rfl rfl (by kernel_rfl) (by kernel_rfl) (by kernel_rfl) (fun _ _ _ _ _ h => h) (by rfl) (fun W hW => ?_) ?_
  rotate_left
  · go_simp; try rfl
  try simp only [Act.put, List.setIfInBounds_toArray, List.set_cons_zero, List.set_cons_succ]
  refine lin_take 3 34 (v := ?_) rfl rfl (by kernel_rfl) (by kernel_rfl) (by kernel_rfl) (fun _ _ _ _ _ h => h) (by rfl) (fun W hW => ?_) ?_
  rotate_left
  · go_simp; try rfl
  try simp only [Act.put, List.setIfInBounds_toArray, List.set_cons_zero, List.set_cons_succ]
  refine lin_take 5 36 (v := ?_) rfl rfl (by kernel_rfl) (by kernel_rfl) (by kernel_rfl) (fun _ _ _ _ _ h => h) (by rfl) (fun W hW => ?_) ?_
  rotate_left
  · go_simp; try rfl
  try simp only [Act.put, List.setIfInBounds_toArray, List.set_cons_zero, List.set_cons_succ]
  refine lin_take 6 37 (v := ?_) rfl rfl (by kernel_rfl) (by kernel_rfl) (by kernel_rfl) (fun _ _ _ _ _ h => h) (by rfl) (fun W hW => ?_) ?_
  rotate_left
  · have q1 := QA.out W hW; go_simp; try rfl
  try simp only [Act.put, List.setIfInBounds_toArray, List.set_cons_zero, List.set_cons_succ]
  refine lin_take 7 38 (v := ?_) rfl rfl (by kernel_rfl) (by kernel_rfl) (by kernel_rfl) (fun _ _ _ _ _ h => h) (by rfl) (fun W hW => ?_) ?_
  rotate_left
  · go_simp; try rfl
  try simp only [Act.put, List.setIfInBounds_toArray, List.set_cons_zero, List.set_cons_succ]
  refine lin_take 8 39 (v := ?_) rfl rfl (by kernel_rfl) (by kernel_rfl) (by kernel_rfl) (fun _ _ _ _ _ h => h) (by rfl) (fun W hW => ?_) ?_
  rotate_left
  · have q1 := QB.out W hW; go_simp; try rfl
  try simp only [Act.put, List.setIfInBounds_toArray, List.set_cons_zero, List.set_cons_succ]
  refine lin_step 4 rfl (by kernel_rfl) (fun K hK => ?_)
  go_simp
  refine (HC.out _ hB).mono ?_
  rintro e w5 ⟨rfl, h5⟩
  refine hK.out _ _ h5 ?_
  clear hK K
  replace QA := Lib.hid (QA.out.below h5)
  replace QB := Lib.hid (QB.out.below h5)
  replace QN := Lib.hid (QN.out.below h5)
  replace hB := btr hB h5
  clear h5
  refine lin_step 9 rfl (by kernel_rfl) (fun K hK => ?_)
  go_simp
  refine (RC.out _).mono ?_
  rintro e w6 ⟨rfl, h6⟩
  refine hK.out _ _ h6 ?_
  clear hK K
  replace QA := Lib.hid (QA.out.below h6)
  replace QB := Lib.hid (QB.out.below h6)
  replace QN := Lib.hid (QN.out.below h6)
  replace hB := btr hB h6
  clear h6
  refine lin_take 10 41 (v := ?_) rfl rfl (by kernel_rfl) (by kernel_rfl) (by kernel_rfl) (fun _ _ _ _ _ h => h) (by rfl) (fun W hW => ?_) ?_
  rotate_left
  · go_simp; try rfl
  try simp only [Act.put, List.setIfInBounds_toArray, List.set_cons_zero, List.set_cons_succ]
  refine lin_take 11 42 (v := ?_) rfl rfl (by kernel_rfl) (by kernel_rfl) (by kernel_rfl) (fun _ _ _ _ _ h => h) (by rfl) (fun W hW => ?_) ?_
  rotate_left
  · go_simp; try rfl
  try simp only [Act.put, List.setIfInBounds_toArray, List.set_cons_zero, List.set_cons_succ]
  refine lin_take 12 43 (v := ?_) rfl rfl (by kernel_rfl) (by kernel_rfl) (by kernel_rfl) (fun _ _ _ _ _ h => h) (by rfl) (fun W hW => ?_) ?_
  rotate_left
  · go_simp; try rfl
  try simp only [Act.put, List.setIfInBounds_toArray, List.set_cons_zero, List.set_cons_succ]
  refine lin_take 13 44 (v := ?_) rfl rfl (by kernel_rfl) (by kernel_rfl) (by kernel_rfl) (fun _ _ _ _ _ h => h) (by rfl) (fun W hW => ?_) ?_
  rotate_left
  · go_simp; try rfl
  try simp only [Act.put, List.setIfInBounds_toArray, List.set_cons_zero, List.set_cons_succ]
  refine lin_take 14 45 (v := ?_) rfl rfl (by kernel_rfl) (by kernel_rfl) (by kernel_rfl) (fun _ _ _ _ _ h => h) (by rfl) (fun W hW => ?_) ?_
  rotate_left
  · have q1 := QN.out W hW; go_simp; try rfl
  try simp only [Act.put, List.setIfInBounds_toArray, List.set_cons_zero, List.set_cons_succ]
  refine lin_take 15 46 (v := ?_) rfl rfl (by kernel_rfl) (by kernel_rfl) (by kernel_rfl) (fun _ _ _ _ _ h => h) (by rfl) (fun W hW => ?_) ?_
  rotate_left
  · go_simp; try rfl
  try simp only [Act.put, List.setIfInBounds_toArray, List.set_cons_zero, List.set_cons_succ]
  refine lin_take 16 47 (v := ?_) rfl rfl (by kernel_rfl) (by kernel_rfl) (by kernel_rfl) (fun _ _ _ _ _ h => h) (by rfl) (fun W hW => ?_) ?_
  rotate_left
  · go_simp; try rfl
  try simp only [Act.put, List.setIfInBounds_toArray, List.set_cons_zero, List.set_cons_succ]
  refine lin_take 17 48 (v := ?_) rfl rfl (by kernel_rfl) (by kernel_rfl) (by kernel_rfl) (fun _ _ _ _ _ h => h) (by rfl) (fun W hW => ?_) ?_
  rotate_left
  · go_simp; try rfl
  try simp only [Act.put, List.setIfInBounds_toArray, List.set_cons_zero, List.set_cons_succ]
  refine lin_take 18 49 (v := ?_) rfl rfl (by kernel_rfl) (by kernel_rfl) (by kernel_rfl) (fun _ _ _ _ _ h => h) (by rfl) (fun W hW => ?_) ?_
  rotate_left
  · go_simp; try rfl
  try simp only [Act.put, List.setIfInBounds_toArray, List.set_cons_zero, List.set_cons_succ]
  refine lin_take 19 50 (v := ?_) rfl rfl (by kernel_rfl) (by kernel_rfl) (by kernel_rfl) (fun _ _ _ _ _ h => h) (by rfl) (fun W hW => ?_) ?_
  rotate_left
  · go_simp; try rfl
  try simp only [Act.put, List.setIfInBounds_toArray, List.set_cons_zero, List.set_cons_succ]
  refine lin_take 20 51 (v := ?_) rfl rfl (by kernel_rfl) (by kernel_rfl) (by kernel_rfl) (fun _ _ _ _ _ h => h) (by rfl) (fun W hW => ?_) ?_
  rotate_left
  · go_simp; try rfl
  try simp only [Act.put, List.setIfInBounds_toArray, List.set_cons_zero, List.set_cons_succ]
  refine lin_take 21 52 (v := ?_) rfl rfl (by kernel_rfl) (by kernel_rfl) (by kernel_rfl) (fun _ _ _ _ _ h => h) (by rfl) (fun W hW => ?_) ?_
  rotate_left
  · go_simp; try rfl
  try simp only [Act.put, List.setIfInBounds_toArray, List.set_cons_zero, List.set_cons_succ]
  refine lin_take 22 53 (v := ?_) rfl rfl (by kernel_rfl) (by kernel_rfl) (by kernel_rfl) (fun _ _ _ _ _ h => h) (by rfl) (fun W hW => ?_) ?_
  rotate_left
  · go_simp; try rfl
  try simp only [Act.put, List.setIfInBounds_toArray, List.set_cons_zero, List.set_cons_succ]
  refine lin_take 23 54 (v := ?_) rfl rfl (by kernel_rfl) (by kernel_rfl) (by kernel_rfl) (fun _ _ _ _ _ h => h) (by rfl) (fun W hW => ?_) ?_
  rotate_left
  · go_simp; try rfl
  try simp only [Act.put, List.setIfInBounds_toArray, List.set_cons_zero, List.set_cons_succ]
  refine lin_take 24 55 (v := ?_) rfl rfl (by kernel_rfl) (by kernel_rfl) (by kernel_rfl) (fun _ _ _ _ _ h => h) (by rfl) (fun W hW => ?_) ?_
  rotate_left
  · go_simp; try rfl
  try simp only [Act.put, List.setIfInBounds_toArray, List.set_cons_zero, List.set_cons_succ]
  refine lin_take 25 56 (v := ?_) rfl rfl (by kernel_rfl) (by kernel_rfl) (by kernel_rfl) (fun _ _ _ _ _ h => h) (by rfl) (fun W hW => ?_) ?_
  rotate_left
  · go_simp; try rfl
  try simp only [Act.put, List.setIfInBounds_toArray, List.set_cons_zero, List.set_cons_succ]
  refine lin_take 28 59 (v := ?_) rfl rfl (by kernel_rfl) (by kernel_rfl) (by kernel_rfl) (fun _ _ _ _ _ h => h) (by rfl) (fun W hW => ?_) ?_
  rotate_left
  · go_simp; try rfl
  try simp only [Act.put, List.setIfInBounds_toArray, List.set_cons_zero, List.set_cons_succ]
  refine lin_take 29 60 (v := ?_) rfl rfl (by kernel_rfl) (by kernel_rfl) (by kernel_rfl) (fun _ _ _ _ _ h => h) (by rfl) (fun W hW => ?_) ?_
  rotate_left
  · have q1 := QA.out W hW; go_simp; try rfl
  try simp only [Act.put, List.setIfInBounds_toArray, List.set_cons_zero, List.set_cons_succ]
  refine lin_take 30 61 (v := ?_) rfl rfl (by kernel_rfl) (by kernel_rfl) (by kernel_rfl) (fun _ _ _ _ _ h => h) (by rfl) (fun W hW => ?_) ?_
  rotate_left
  · go_simp; try rfl
  try simp only [Act.put, List.setIfInBounds_toArray, List.set_cons_zero, List.set_cons_succ]
  refine lin_step 26 rfl (by kernel_rfl) (fun K hK => ?_)
  go_simp
  refine (HL.out _ hB).mono ?_
  rintro e w7 ⟨v7, rfl, q7, h7⟩
  refine hK.out _ _ h7 ?_
  clear hK K
  have QV := Lib.hid q7
  clear q7
  replace QA := Lib.hid (QA.out.below h7)
  replace QB := Lib.hid (QB.out.below h7)
  replace QN := Lib.hid (QN.out.below h7)
  replace hB := btr hB h7
  clear h7
  refine lin_take 27 58 (v := ?_) rfl rfl (by kernel_rfl) (by kernel_rfl) (by kernel_rfl) (fun _ _ _ _ _ h => h) (by rfl) (fun W hW => ?_) ?_
  rotate_left
  · have q1 := QV.out W hW; go_simp; try rfl
  try simp only [Act.put, List.setIfInBounds_toArray, List.set_cons_zero, List.set_cons_succ]
  refine lin_step 31 rfl (by kernel_rfl) (fun K hK => ?_)
  go_simp
  refine (RL.out _).mono ?_
  rintro e w8 ⟨rfl, h8⟩
  refine hK.out _ _ h8 ?_
  clear hK K
  clear QV
  replace QA := Lib.hid (QA.out.below h8)
  replace QB := Lib.hid (QB.out.below h8)
  replace QN := Lib.hid (QN.out.below h8)
  replace hB := btr hB h8
  clear h8
  refine lin_take 32 63 (v := ?_) rfl rfl (by kernel_rfl) (by kernel_rfl) (by kernel_rfl) (fun _ _ _ _ _ h => h) (by rfl) (fun W hW => ?_) ?_
  rotate_left
  · go_simp; try rfl
  try simp only [Act.put, List.setIfInBounds_toArray, List.set_cons_zero, List.set_cons_succ]
  refine lin_take 33 64 (v := ?_) rfl rfl (by kernel_rfl) (by kernel_rfl) (by kernel_rfl) (fun _ _ _ _ _ h => h) (by rfl) (fun W hW => ?_) ?_
  rotate_left
  · go_simp; try rfl
  try simp only [Act.put, List.setIfInBounds_toArray, List.set_cons_zero, List.set_cons_succ]
  refine lin_take 34 65 (v := ?_) rfl rfl (by kernel_rfl) (by kernel_rfl) (by kernel_rfl) (fun _ _ _ _ _ h => h) (by rfl) (fun W hW => ?_) ?_
  rotate_left
  · go_simp; try rfl
  try simp only [Act.put, List.setIfInBounds_toArray, List.set_cons_zero, List.set_cons_succ]
  refine lin_take 35 66 (v := ?_) rfl rfl (by kernel_rfl) (by kernel_rfl) (by kernel_rfl) (fun _ _ _ _ _ h => h) (by rfl) (fun W hW => ?_) ?_
  rotate_left
  · go_simp; try rfl
  try simp only [Act.put, List.setIfInBounds_toArray, List.set_cons_zero, List.set_cons_succ]
  refine lin_take 36 67 (v := ?_) rfl rfl (by kernel_rfl) (by kernel_rfl) (by kernel_rfl) (fun _ _ _ _ _ h => h) (by rfl) (fun W hW => ?_) ?_
  rotate_left
  · go_simp; try rfl
  try simp only [Act.put, List.setIfInBounds_toArray, List.set_cons_zero, List.set_cons_succ]
  refine lin_take 39 70 (v := ?_) rfl rfl (by kernel_rfl) (by kernel_rfl) (by kernel_rfl) (fun _ _ _ _ _ h => h) (by rfl) (fun W hW => ?_) ?_
  rotate_left
  · go_simp; try rfl
  try simp only [Act.put, List.setIfInBounds_toArray, List.set_cons_zero, List.set_cons_succ]
  refine lin_take 40 71 (v := ?_) rfl rfl (by kernel_rfl) (by kernel_rfl) (by kernel_rfl) (fun _ _ _ _ _ h => h) (by rfl) (fun W hW => ?_) ?_
  rotate_left
  · have q1 := QA.out W hW; go_simp; try rfl
  try simp only [Act.put, List.setIfInBounds_toArray, List.set_cons_zero, List.set_cons_succ]
  refine lin_take 41 72 (v := ?_) rfl rfl (by kernel_rfl) (by kernel_rfl) (by kernel_rfl) (fun _ _ _ _ _ h => h) (by rfl) (fun W hW => ?_) ?_
  rotate_left
  · go_simp; try rfl
  try simp only [Act.put, List.setIfInBounds_toArray, List.set_cons_zero, List.set_cons_succ]
  refine lin_step 37 rfl (by kernel_rfl) (fun K hK => ?_)
  go_simp
  refine (HH.out _ hB).mono ?_
  rintro e w9 ⟨v9, rfl, q9, h9⟩
  refine hK.out _ _ h9 ?_
  clear hK K
  have QV := Lib.hid q9
  clear q9
  replace QA := Lib.hid (QA.out.below h9)
  replace QB := Lib.hid (QB.out.below h9)
  replace QN := Lib.hid (QN.out.below h9)
  replace hB := btr hB h9
  clear h9
  refine lin_take 38 69 (v := ?_) rfl rfl (by kernel_rfl) (by kernel_rfl) (by kernel_rfl) (fun _ _ _ _ _ h => h) (by rfl) (fun W hW => ?_) ?_
  rotate_left
  · have q1 := QV.out W hW; go_simp; try rfl
  try simp only [Act.put, List.setIfInBounds_toArray, List.set_cons_zero, List.set_cons_succ]
  refine lin_step 42 rfl (by kernel_rfl) (fun K hK => ?_)
  go_simp
  refine (RH.out _).mono ?_
  rintro e w10 ⟨rfl, h10⟩
  refine hK.out _ _ h10 ?_
  clear hK K
  clear QV
  replace QA := Lib.hid (QA.out.below h10)
  replace QB := Lib.hid (QB.out.below h10)
  replace QN := Lib.hid (QN.out.below h10)
  replace hB := btr hB h10
  clear h10
  refine lin_take 43 74 (v := ?_) rfl rfl (by kernel_rfl) (by kernel_rfl) (by kernel_rfl) (fun _ _ _ _ _ h => h) (by rfl) (fun W hW => ?_) ?_
  rotate_left
  · go_simp; try rfl
  try simp only [Act.put, List.setIfInBounds_toArray, List.set_cons_zero, List.set_cons_succ]
  refine lin_take 44 75 (v := ?_) rfl rfl (by kernel_rfl) (by kernel_rfl) (by kernel_rfl) (fun _ _ _ _ _ h => h) (by rfl) (fun W hW => ?_) ?_
  rotate_left
  · go_simp; try rfl
  try simp only [Act.put, List.setIfInBounds_toArray, List.set_cons_zero, List.set_cons_succ]
  refine lin_take 45 6 (v := ?_) rfl rfl (by kernel_rfl) (by kernel_rfl) (by kernel_rfl) (fun _ _ _ _ _ h => h) (by rfl) (fun W hW => ?_) ?_
  rotate_left
  · go_simp; try rfl
  try simp only [Act.put, List.setIfInBounds_toArray, List.set_cons_zero, List.set_cons_succ]
  refine lin_done (by kernel_rfl) ?_
  go_wp2
  go_ret
  exact ⟨rfl, hB⟩

theorem rows_big (A1 A2 : Option Addr) (k1 c1 k2 c2 : Nat) (n : Int) (h : 100 < k1 ∨ (k1 ≤ 100 ∧ 100 < k2)) (w : World) :
    Calls Try.prog 3 #[.slice A1 k1 c1, .slice A2 k2 c2, .int .i64 n] w fun e w' => e = .returned (.bool true) ∧ Below w.heap.size w w' := by
  rcases h with h | ⟨h, h2⟩
  all_goals
    go_enter Try.func3, Try.ntmps3
    go_wp2_with fail
    refine (fixed_any _).mono ?_
    rintro e w4 ⟨rfl, h4⟩
    go_wp2
    go_ret
    exact ⟨rfl, h4⟩

theorem rowslaw_any (v1 v2 : Value) (l1 l2 : List UInt8) (n : Int) (w : World) (b1 : Byts w v1 l1) (b2 : Byts w v2 l2) :
    Calls Try.prog 3 #[v1, v2, .int .i64 n] w fun e w' => e = .returned (.bool true) ∧ Below w.heap.size w w' := by
  obtain ⟨A1, c1, rfl⟩ := b1.form
  obtain ⟨A2, c2, rfl⟩ := b2.form
  by_cases h1 : l1.length ≤ 100
  · by_cases h2 : l2.length ≤ 100
    · exact rows_core A1 A2 l1.length c1 l2.length c2 n (Lib.compareBytes l1 l2) (nx l1).isSome (str l1) (str l2) (str ((nx l1).getD [])) (str (fillL l1 (cl n) 0)) (str (fillL l1 (cl n) 255)) h1 h2 w
        b1.cvs b2.cvs ((keynext_any _ l1 w b1 (by omega)).mono fun _ _ ⟨v, e, b, hb⟩ => ⟨v, e, b.cvs, hb⟩) (fun W => refnextK_any l1 (by omega) W)
        (fun W hB => keycmp_any _ _ l1 l2 W (b1.below hB) (b2.below hB)) (fun W => refcmpK_any l1 l2 (by omega) (by omega) W)
        (fun W hB => call_cvs (low_any _ l1 n W (b1.below hB))) (fun W => filled_any l1 n 0 (by omega) W)
        (fun W hB => call_cvs (high_any _ l1 n W (b1.below hB))) (fun W => filled_any l1 n 255 (by omega) W)
    · exact rows_big A1 A2 _ c1 _ c2 n (.inr ⟨h1, by omega⟩) w
  · exact rows_big A1 A2 _ c1 _ c2 n (.inl (by omega)) w
end Go.Proofs.Ytfofhnaomlcioaa
