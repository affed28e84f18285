/- The walk of the law CrcSums. -/
import Derived.Test.YtcdooindjefkcaaDoorRefSum
import Derived.Test.YtcdooindjefkcaaDoorLin
namespace Go.Proofs.YtcdooindjefkcaaDoor
open Go.RowKit
open C (crc)

/-- A slice whose text is s, in this world and in every one in which what is there stays. -/
def Cvs (w : World) (v : Value) (s : ByteArray) : Prop := ∀ W, Below w.heap.size w W → (convert 22 9 v).run Tryd.prog W = .ok (.string s) W
theorem Cvs.below {w w1 : World} {v : Value} {s : ByteArray} (h : Cvs w v s) (hb : Below w.heap.size w w1) : Cvs w1 v s := fun W hW => h W (btr hb hW)
theorem Byts.cvs {w : World} {v : Value} {l : List UInt8} (h : Byts w v l) : Cvs w v (str l) := fun _ hW => (h.below hW).conv
theorem Byts.form {w : World} {v : Value} {l : List UInt8} (h : Byts w v l) : ∃ A c, v = .slice A l.length c := by
  obtain ⟨A, c, e, _⟩ := h
  exact ⟨A, c, e⟩
/-- A call that leaves the world as it is. -/
theorem same_below {f : FuncId} {args : Array Value} {W : World} {v : Value} (h : Calls Tryd.prog f args W fun e w' => e = .returned v ∧ w' = W) :
    Calls Tryd.prog f args W fun e w' => e = .returned v ∧ Below W.heap.size W w' :=
  h.mono fun _ _ ⟨e, hw⟩ => ⟨e, by subst hw; exact Below.refl _ _⟩

set_option maxHeartbeats 1600000 in
theorem sums_core (A1 : Option Addr) (k1 c1 : Nat) (s z y : Int) (sa : ByteArray) (hk1 : k1 ≤ 1000) (w : World)
    (QA : Hid (Cvs w (.slice A1 k1 c1) sa))
    (HF : Hid (∀ W : World, Below w.heap.size w W → Calls Tryd.prog 7 #[] W fun e w' => e = .returned (.bool true) ∧ Below W.heap.size W w'))
    (HS : Hid (∀ W : World, Below w.heap.size w W → Calls Tryd.prog 8 #[.slice A1 k1 c1] W fun e w' => e = .returned (.int .u32 z) ∧ Below W.heap.size W w'))
    (RS : Hid (∀ W : World, Calls Tryd.prog 9 #[.string sa] W fun e w' => e = .returned (.int .u32 z) ∧ Below W.heap.size W w'))
    (HM : Hid (∀ W : World, Below w.heap.size w W → Calls Tryd.prog 10 #[.int .u32 s, .slice A1 k1 c1] W fun e w' => e = .returned (.int .u32 y) ∧ Below W.heap.size W w'))
    (RM : Hid (∀ W : World, Calls Tryd.prog 11 #[.int .u32 s, .string sa] W fun e w' => e = .returned (.int .u32 y) ∧ Below W.heap.size W w')) :
    Calls Tryd.prog 3 #[.slice A1 k1 c1, .int .u32 s] w fun e w' => e = .returned (.bool true) ∧ Below w.heap.size w w' := by
  go_enter Tryd.func3, Tryd.ntmps3
  go_wp2_with fail
  refine lin_start 20 rfl (by kernel_rfl) ?_
  have hB : Below w.heap.size w w.drew := (Below.refl _ _).drew
  replace QA := Lib.hid (QA.out.below hB)
  generalize w.drew = u at *
  refine lin_step 0 rfl (by kernel_rfl) (fun K hK => ?_)
  go_simp
  refine (HF.out _ hB).mono ?_
  rintro e w2 ⟨rfl, h2⟩
  refine hK.out _ _ h2 ?_
  clear hK K
  replace QA := Lib.hid (QA.out.below h2)
  replace hB := btr hB h2
  clear h2
  refine lin_take 1 10 (v := ?_) rfl rfl (by kernel_rfl) (by kernel_rfl) (by kernel_rfl) (fun _ _ _ _ _ h => h) (by rfl) (fun W hW => ?_) ?_
  rotate_left
  · go_simp; try rfl
  try simp only [Act.put, List.setIfInBounds_toArray, List.set_cons_zero, List.set_cons_succ]
  refine lin_take 2 11 (v := ?_) rfl rfl (by kernel_rfl) (by kernel_rfl) (by kernel_rfl) (fun _ _ _ _ _ h => h) (by rfl) (fun W hW => ?_) ?_
  rotate_left
  · go_simp; try rfl
  try simp only [Act.put, List.setIfInBounds_toArray, List.set_cons_zero, List.set_cons_succ]
  refine lin_take 4 13 (v := ?_) rfl rfl (by kernel_rfl) (by kernel_rfl) (by kernel_rfl) (fun _ _ _ _ _ h => h) (by rfl) (fun W hW => ?_) ?_
  rotate_left
  · go_simp; try rfl
  try simp only [Act.put, List.setIfInBounds_toArray, List.set_cons_zero, List.set_cons_succ]
  refine lin_take 5 14 (v := ?_) rfl rfl (by kernel_rfl) (by kernel_rfl) (by kernel_rfl) (fun _ _ _ _ _ h => h) (by rfl) (fun W hW => ?_) ?_
  rotate_left
  · have q1 := QA.out W hW; go_simp; try rfl
  try simp only [Act.put, List.setIfInBounds_toArray, List.set_cons_zero, List.set_cons_succ]
  refine lin_step 3 rfl (by kernel_rfl) (fun K hK => ?_)
  go_simp
  refine (HS.out _ hB).mono ?_
  rintro e w3 ⟨rfl, h3⟩
  refine hK.out _ _ h3 ?_
  clear hK K
  replace QA := Lib.hid (QA.out.below h3)
  replace hB := btr hB h3
  clear h3
  refine lin_step 6 rfl (by kernel_rfl) (fun K hK => ?_)
  go_simp
  refine (RS.out _).mono ?_
  rintro e w4 ⟨rfl, h4⟩
  refine hK.out _ _ h4 ?_
  clear hK K
  replace QA := Lib.hid (QA.out.below h4)
  replace hB := btr hB h4
  clear h4
  refine lin_take 7 16 (v := ?_) rfl rfl (by kernel_rfl) (by kernel_rfl) (by kernel_rfl) (fun _ _ _ _ _ h => h) (by rfl) (fun W hW => ?_) ?_
  rotate_left
  · go_simp; try rfl
  try simp only [Act.put, List.setIfInBounds_toArray, List.set_cons_zero, List.set_cons_succ]
  refine lin_take 8 17 (v := ?_) rfl rfl (by kernel_rfl) (by kernel_rfl) (by kernel_rfl) (fun _ _ _ _ _ h => h) (by rfl) (fun W hW => ?_) ?_
  rotate_left
  · go_simp; try rfl
  try simp only [Act.put, List.setIfInBounds_toArray, List.set_cons_zero, List.set_cons_succ]
  refine lin_take 9 18 (v := ?_) rfl rfl (by kernel_rfl) (by kernel_rfl) (by kernel_rfl) (fun _ _ _ _ _ h => h) (by rfl) (fun W hW => ?_) ?_
  rotate_left
  · go_simp; try rfl
  try simp only [Act.put, List.setIfInBounds_toArray, List.set_cons_zero, List.set_cons_succ]
  refine lin_take 10 19 (v := ?_) rfl rfl (by kernel_rfl) (by kernel_rfl) (by kernel_rfl) (fun _ _ _ _ _ h => h) (by rfl) (fun W hW => ?_) ?_
  rotate_left
  · go_simp; try rfl
  try simp only [Act.put, List.setIfInBounds_toArray, List.set_cons_zero, List.set_cons_succ]
  refine lin_take 11 20 (v := ?_) rfl rfl (by kernel_rfl) (by kernel_rfl) (by kernel_rfl) (fun _ _ _ _ _ h => h) (by rfl) (fun W hW => ?_) ?_
  rotate_left
  · go_simp; try rfl
  try simp only [Act.put, List.setIfInBounds_toArray, List.set_cons_zero, List.set_cons_succ]
  refine lin_take 13 22 (v := ?_) rfl rfl (by kernel_rfl) (by kernel_rfl) (by kernel_rfl) (fun _ _ _ _ _ h => h) (by rfl) (fun W hW => ?_) ?_
  rotate_left
  · go_simp; try rfl
  try simp only [Act.put, List.setIfInBounds_toArray, List.set_cons_zero, List.set_cons_succ]
  refine lin_take 14 23 (v := ?_) rfl rfl (by kernel_rfl) (by kernel_rfl) (by kernel_rfl) (fun _ _ _ _ _ h => h) (by rfl) (fun W hW => ?_) ?_
  rotate_left
  · go_simp; try rfl
  try simp only [Act.put, List.setIfInBounds_toArray, List.set_cons_zero, List.set_cons_succ]
  refine lin_take 15 24 (v := ?_) rfl rfl (by kernel_rfl) (by kernel_rfl) (by kernel_rfl) (fun _ _ _ _ _ h => h) (by rfl) (fun W hW => ?_) ?_
  rotate_left
  · have q1 := QA.out W hW; go_simp; try rfl
  try simp only [Act.put, List.setIfInBounds_toArray, List.set_cons_zero, List.set_cons_succ]
  refine lin_step 12 rfl (by kernel_rfl) (fun K hK => ?_)
  go_simp
  refine (HM.out _ hB).mono ?_
  rintro e w5 ⟨rfl, h5⟩
  refine hK.out _ _ h5 ?_
  clear hK K
  replace QA := Lib.hid (QA.out.below h5)
  replace hB := btr hB h5
  clear h5
  refine lin_step 16 rfl (by kernel_rfl) (fun K hK => ?_)
  go_simp
  refine (RM.out _).mono ?_
  rintro e w6 ⟨rfl, h6⟩
  refine hK.out _ _ h6 ?_
  clear hK K
  replace QA := Lib.hid (QA.out.below h6)
  replace hB := btr hB h6
  clear h6
  refine lin_take 17 26 (v := ?_) rfl rfl (by kernel_rfl) (by kernel_rfl) (by kernel_rfl) (fun _ _ _ _ _ h => h) (by rfl) (fun W hW => ?_) ?_
  rotate_left
  · go_simp; try rfl
  try simp only [Act.put, List.setIfInBounds_toArray, List.set_cons_zero, List.set_cons_succ]
  refine lin_take 18 27 (v := ?_) rfl rfl (by kernel_rfl) (by kernel_rfl) (by kernel_rfl) (fun _ _ _ _ _ h => h) (by rfl) (fun W hW => ?_) ?_
  rotate_left
  · go_simp; try rfl
  try simp only [Act.put, List.setIfInBounds_toArray, List.set_cons_zero, List.set_cons_succ]
  refine lin_take 19 4 (v := ?_) rfl rfl (by kernel_rfl) (by kernel_rfl) (by kernel_rfl) (fun _ _ _ _ _ h => h) (by rfl) (fun W hW => ?_) ?_
  rotate_left
  · go_simp; try rfl
  try simp only [Act.put, List.setIfInBounds_toArray, List.set_cons_zero, List.set_cons_succ]
  refine lin_done (by kernel_rfl) ?_
  go_wp2
  go_ret
  exact ⟨rfl, hB⟩

theorem sums_big (A1 : Option Addr) (k1 c1 : Nat) (s : Int) (h : 1000 < k1) (w : World) (hT : Tab w) :
    Calls Tryd.prog 3 #[.slice A1 k1 c1, .int .u32 s] w fun e w' => e = .returned (.bool true) ∧ Below w.heap.size w w' := by
  have HF := Lib.hid (fixed_any w hT)
  clear hT
  go_enter Tryd.func3, Tryd.ntmps3
  go_wp2_with fail
  refine HF.out.mono ?_
  rintro e w4 ⟨rfl, h4⟩
  go_wp2
  go_ret
  exact ⟨rfl, h4⟩

theorem sumslaw_any (v : Value) (l : List UInt8) (s : Nat) (hs : s < 4294967296) (w : World) (b : Byts w v l) (hT : Tab w) :
    Calls Tryd.prog 3 #[v, .int .u32 (s : Int)] w fun e w' => e = .returned (.bool true) ∧ Below w.heap.size w w' := by
  obtain ⟨A, c, rfl⟩ := b.form
  by_cases h1 : l.length ≤ 1000
  · exact sums_core A l.length c s ((crc 0 l : Nat) : Int) ((crc s l : Nat) : Int) (str l) h1 w b.cvs (fun W hB => fixed_any W (hT.below hB))
      (fun W hB => same_below (sum_any _ l W (b.below hB) (by omega) (hT.below hB))) (fun W => same_below (refsum_any l W (by omega)))
      (fun W hB => same_below (more_any s hs _ l W (b.below hB) (by omega) (hT.below hB))) (fun W => same_below (refmore_any s hs l W (by omega)))
  · exact sums_big A _ c s (by omega) w hT
end Go.Proofs.YtcdooindjefkcaaDoor
