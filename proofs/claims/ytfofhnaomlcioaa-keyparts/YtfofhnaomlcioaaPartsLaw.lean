/- The walk of the law KeyParts. -/
import Derived.Test.YtfofhnaomlcioaaRowsLaw
namespace Go.Proofs.Ytfofhnaomlcioaa
open Go.RowKit
open W (hi lo dig MM M cmpN)

set_option maxRecDepth 100000 in
set_option maxHeartbeats 3200000 in
theorem parts_core (a n m : Nat) (A : Option Addr) (k c : Nat) (hk : k ≤ 100) (lp lt : List UInt8) (si ss sm sb : ByteArray) (d s d2 : Nat) (good may : Bool) (w : World)
    (HY : Hid (Cvs w (.slice A k c) sb))
    (HP : Hid (∀ W : World, Calls Try.prog 15 #[.agg #[.int .u64 (hi a : Nat), .int .u64 (lo a : Nat)], .int .u64 (n : Int)] W fun e w' => ∃ v', e = .returned v' ∧ Byts w' v' lp ∧ Below W.heap.size W w'))
    (HT : Hid (∀ W : World, Calls Try.prog 16 #[.int .u64 (n : Int), .int .u64 (m : Int)] W fun e w' => ∃ v', e = .returned v' ∧ Byts w' v' lt ∧ Below W.heap.size W w'))
    (HPp : Hid (∀ (W : World) v, Byts W v lp → Calls Try.prog 17 #[v] W fun e w' => e = .returned (.tuple #[.agg #[.int .u64 (hi a : Nat), .int .u64 (lo a : Nat)], .int .u64 (n : Int), .bool true]) ∧ Below W.heap.size W w'))
    (HTh : Hid (∀ (W : World) v, Byts W v lt → Calls Try.prog 18 #[v] W fun e w' => e = .returned (.tuple #[.int .u64 (n : Int), .int .u64 (m : Int), .bool true]) ∧ Below W.heap.size W w'))
    (HI : Hid (∀ W : World, Calls Try.prog 19 #[.agg #[.int .u64 (hi a : Nat), .int .u64 (lo a : Nat)]] W fun e w' => ∃ v', e = .returned v' ∧ Cvs w' v' si ∧ Below W.heap.size W w'))
    (RI : Hid (∀ W : World, Calls Try.prog 20 #[.agg #[.int .u64 (hi a : Nat), .int .u64 (lo a : Nat)]] W fun e w' => e = .returned (.string si) ∧ Below W.heap.size W w'))
    (HS : Hid (∀ W : World, Calls Try.prog 21 #[.int .u64 (n : Int)] W fun e w' => ∃ v', e = .returned v' ∧ Cvs w' v' ss ∧ Below W.heap.size W w'))
    (RS : Hid (∀ W : World, Calls Try.prog 22 #[.int .u64 (n : Int)] W fun e w' => e = .returned (.string ss) ∧ Below W.heap.size W w'))
    (RM : Hid (∀ W : World, Calls Try.prog 22 #[.int .u64 (m : Int)] W fun e w' => e = .returned (.string sm) ∧ Below W.heap.size W w'))
    (RP : Hid (∀ W : World, Calls Try.prog 23 #[.agg #[.int .u64 (hi a : Nat), .int .u64 (lo a : Nat)], .int .u64 (n : Int)] W fun e w' => e = .returned (.string (str lp)) ∧ Below W.heap.size W w'))
    (HA : Hid (∀ W : World, (Op.stringOp .add ss sm).run Try.prog W = .ok (.string (str lt)) W))
    (HB1 : Hid (∀ W : World, Below w.heap.size w W → Calls Try.prog 17 #[.slice A k c] W fun e w' => e = .returned (.tuple #[.agg #[.int .u64 (hi d : Nat), .int .u64 (lo d : Nat)], .int .u64 (s : Nat), .bool good]) ∧ Below W.heap.size W w'))
    (RB1 : Hid (∀ W : World, Calls Try.prog 24 #[.string sb] W fun e w' => e = .returned (.tuple #[.agg #[.int .u64 (hi d : Nat), .int .u64 (lo d : Nat)], .int .u64 (s : Nat), .bool good]) ∧ Below W.heap.size W w'))
    (HB2 : Hid (∀ W : World, Below w.heap.size w W → Calls Try.prog 18 #[.slice A k c] W fun e w' => e = .returned (.tuple #[.int .u64 (hi d2 : Nat), .int .u64 (lo d2 : Nat), .bool may]) ∧ Below W.heap.size W w'))
    (RB2 : Hid (∀ W : World, Calls Try.prog 25 #[.string sb] W fun e w' => e = .returned (.tuple #[.int .u64 (hi d2 : Nat), .int .u64 (lo d2 : Nat), .bool may]) ∧ Below W.heap.size W w')) :
    Calls Try.prog 4 #[.agg #[.int .u64 (hi a : Nat), .int .u64 (lo a : Nat), .int .u64 (n : Int)], .int .u64 (m : Int), .slice A k c] w fun e w' => e = .returned (.bool true) ∧ Below w.heap.size w w' := by
  go_enter Try.func4, Try.ntmps4
  go_upto_region 3 with fail
  go_cut [7, 8] (fun p x wc => ∃ g, p = .pointer (some ⟨g, 0, none⟩) ∧ x = .int .u64 (n : Int) ∧ wc.cell? ⟨g, 0, none⟩ = some (.int .u64 (hi a : Nat)) ∧ wc.cell? ⟨g, 1, none⟩ = some (.int .u64 (lo a : Nat)) ∧ Below w.heap.size w wc)
  case first =>
    go_region
    all_goals (go_wp2_with fail; go_meet; exact ⟨_, rfl, rfl, by simp [go_sem], by simp [go_sem], by repeat (first | exact Below.refl _ _ | apply bal | (refine Below.setCell ?_ (by simp) _) | (refine Below.drew ?_))⟩)
  case rest =>
    obtain ⟨g, rfl, rfl, a0, a1, hB⟩ := hcut
    replace HY := Lib.hid (HY.out.below hB)
    go_wp2_with fail
    refine (HP.out _).mono ?_
    rintro e w1 ⟨v1, rfl, p1, h1⟩
    replace a0 := kept a0 h1
    replace a1 := kept a1 h1
    replace HY := Lib.hid (HY.out.below h1)
    replace hB := btr hB h1
    clear h1
    go_wp2_with fail
    refine (HT.out _).mono ?_
    rintro e w2 ⟨v2, rfl, p2, h2⟩
    replace a0 := kept a0 h2
    replace a1 := kept a1 h2
    replace HY := Lib.hid (HY.out.below h2)
    replace p1 := p1.below h2
    replace hB := btr hB h2
    clear h2
    go_wp2_with fail
    refine (HPp.out _ _ p1).mono ?_
    rintro e w3 ⟨rfl, h3⟩
    replace a0 := kept a0 h3
    replace a1 := kept a1 h3
    replace HY := Lib.hid (HY.out.below h3)
    replace p1 := p1.below h3
    replace p2 := p2.below h3
    replace hB := btr hB h3
    clear h3
    have x0 : (w3.alloc (.cells #[.int .u64 (hi a : Nat), .int .u64 (lo a : Nat)] 35)).cell? ⟨w3.heap.size, 0, none⟩ = some (.int .u64 (hi a : Nat)) := by simp [go_sem]
    have x1 : (w3.alloc (.cells #[.int .u64 (hi a : Nat), .int .u64 (lo a : Nat)] 35)).cell? ⟨w3.heap.size, 1, none⟩ = some (.int .u64 (lo a : Nat)) := by simp [go_sem]
    have hal : Below w3.heap.size w3 (w3.alloc (.cells #[.int .u64 (hi a : Nat), .int .u64 (lo a : Nat)] 35)) := alb _
    replace a0 := kept a0 hal
    replace a1 := kept a1 hal
    replace HY := Lib.hid (HY.out.below hal)
    replace p1 := p1.below hal
    replace p2 := p2.below hal
    replace hB := btr hB hal
    clear hal
    go_wp2_with fail
    generalize w3.alloc (.cells #[.int .u64 (hi a : Nat), .int .u64 (lo a : Nat)] 35) = w3' at *
    generalize w3.heap.size = gx at *
    refine (HTh.out _ _ p2).mono ?_
    rintro e w4 ⟨rfl, h4⟩
    replace a0 := kept a0 h4
    replace a1 := kept a1 h4
    replace x0 := kept x0 h4
    replace x1 := kept x1 h4
    replace HY := Lib.hid (HY.out.below h4)
    replace p1 := p1.below h4
    replace p2 := p2.below h4
    replace hB := btr hB h4
    clear h4
    have QP := Lib.hid p1.cvs
    have QT := Lib.hid p2.cvs
    clear p1 p2
    go_wp2_with fail
    refine lin_start 60 rfl (by kernel_rfl) ?_
    have hdr : Below w4.heap.size w4 w4.drew := (Below.refl _ _).drew
    replace a0 := kept a0 hdr
    replace a1 := kept a1 hdr
    replace x0 := kept x0 hdr
    replace x1 := kept x1 hdr
    replace QP := Lib.hid (QP.out.below hdr)
    replace QT := Lib.hid (QT.out.below hdr)
    replace HY := Lib.hid (HY.out.below hdr)
    replace hB := btr hB hdr
    clear hdr
    generalize w4.drew = u at *
    refine lin_take 0 55 (v := ?_) rfl rfl (by kernel_rfl) (by kernel_rfl) (by kernel_rfl) (fun _ _ _ _ _ h => h) (by rfl) (fun W hW => ?_) ?_
    rotate_left
    · have k0 := kept a0 hW; have k1 := kept a1 hW; go_simp; try rfl
    try simp only [Act.put, List.setIfInBounds_toArray, List.set_cons_zero, List.set_cons_succ]
    refine lin_take 3 58 (v := ?_) rfl rfl (by kernel_rfl) (by kernel_rfl) (by kernel_rfl) (fun _ _ _ _ _ h => h) (by rfl) (fun W hW => ?_) ?_
    rotate_left
    · have k0 := kept a0 hW; have k1 := kept a1 hW; go_simp; try rfl
    try simp only [Act.put, List.setIfInBounds_toArray, List.set_cons_zero, List.set_cons_succ]
    refine lin_step 1 rfl (by kernel_rfl) (fun K hK => ?_)
    go_simp
    refine (HI.out _).mono ?_
    rintro e w6 ⟨v6, rfl, q6, h6⟩
    refine hK.out _ _ h6 ?_
    clear hK K
    have QV := Lib.hid q6
    clear q6
    replace a0 := kept a0 h6
    replace a1 := kept a1 h6
    replace x0 := kept x0 h6
    replace x1 := kept x1 h6
    replace QP := Lib.hid (QP.out.below h6)
    replace QT := Lib.hid (QT.out.below h6)
    replace HY := Lib.hid (HY.out.below h6)
    replace hB := btr hB h6
    clear h6
    refine lin_take 2 57 (v := ?_) rfl rfl (by kernel_rfl) (by kernel_rfl) (by kernel_rfl) (fun _ _ _ _ _ h => h) (by rfl) (fun W hW => ?_) ?_
    rotate_left
    · have q1 := QV.out W hW; go_simp; try rfl
    try simp only [Act.put, List.setIfInBounds_toArray, List.set_cons_zero, List.set_cons_succ]
    refine lin_step 4 rfl (by kernel_rfl) (fun K hK => ?_)
    go_simp
    refine (RI.out _).mono ?_
    rintro e w7 ⟨rfl, h7⟩
    refine hK.out _ _ h7 ?_
    clear hK K
    clear QV
    replace a0 := kept a0 h7
    replace a1 := kept a1 h7
    replace x0 := kept x0 h7
    replace x1 := kept x1 h7
    replace QP := Lib.hid (QP.out.below h7)
    replace QT := Lib.hid (QT.out.below h7)
    replace HY := Lib.hid (HY.out.below h7)
    replace hB := btr hB h7
    clear h7
    refine lin_take 5 60 (v := ?_) rfl rfl (by kernel_rfl) (by kernel_rfl) (by kernel_rfl) (fun _ _ _ _ _ h => h) (by rfl) (fun W hW => ?_) ?_
    rotate_left
    · go_simp; try rfl
    try simp only [Act.put, List.setIfInBounds_toArray, List.set_cons_zero, List.set_cons_succ]
    refine lin_take 6 61 (v := ?_) rfl rfl (by kernel_rfl) (by kernel_rfl) (by kernel_rfl) (fun _ _ _ _ _ h => h) (by rfl) (fun W hW => ?_) ?_
    rotate_left
    · go_simp; try rfl
    try simp only [Act.put, List.setIfInBounds_toArray, List.set_cons_zero, List.set_cons_succ]
    refine lin_take 7 62 (v := ?_) rfl rfl (by kernel_rfl) (by kernel_rfl) (by kernel_rfl) (fun _ _ _ _ _ h => h) (by rfl) (fun W hW => ?_) ?_
    rotate_left
    · go_simp; try rfl
    try simp only [Act.put, List.setIfInBounds_toArray, List.set_cons_zero, List.set_cons_succ]
    refine lin_take 10 65 (v := ?_) rfl rfl (by kernel_rfl) (by kernel_rfl) (by kernel_rfl) (fun _ _ _ _ _ h => h) (by rfl) (fun W hW => ?_) ?_
    rotate_left
    · go_simp; try rfl
    try simp only [Act.put, List.setIfInBounds_toArray, List.set_cons_zero, List.set_cons_succ]
    refine lin_step 8 rfl (by kernel_rfl) (fun K hK => ?_)
    go_simp
    refine (HS.out _).mono ?_
    rintro e w8 ⟨v8, rfl, q8, h8⟩
    refine hK.out _ _ h8 ?_
    clear hK K
    have QV := Lib.hid q8
    clear q8
    replace a0 := kept a0 h8
    replace a1 := kept a1 h8
    replace x0 := kept x0 h8
    replace x1 := kept x1 h8
    replace QP := Lib.hid (QP.out.below h8)
    replace QT := Lib.hid (QT.out.below h8)
    replace HY := Lib.hid (HY.out.below h8)
    replace hB := btr hB h8
    clear h8
    refine lin_take 9 64 (v := ?_) rfl rfl (by kernel_rfl) (by kernel_rfl) (by kernel_rfl) (fun _ _ _ _ _ h => h) (by rfl) (fun W hW => ?_) ?_
    rotate_left
    · have q1 := QV.out W hW; go_simp; try rfl
    try simp only [Act.put, List.setIfInBounds_toArray, List.set_cons_zero, List.set_cons_succ]
    refine lin_step 11 rfl (by kernel_rfl) (fun K hK => ?_)
    go_simp
    refine (RS.out _).mono ?_
    rintro e w9 ⟨rfl, h9⟩
    refine hK.out _ _ h9 ?_
    clear hK K
    clear QV
    replace a0 := kept a0 h9
    replace a1 := kept a1 h9
    replace x0 := kept x0 h9
    replace x1 := kept x1 h9
    replace QP := Lib.hid (QP.out.below h9)
    replace QT := Lib.hid (QT.out.below h9)
    replace HY := Lib.hid (HY.out.below h9)
    replace hB := btr hB h9
    clear h9
    refine lin_take 12 67 (v := ?_) rfl rfl (by kernel_rfl) (by kernel_rfl) (by kernel_rfl) (fun _ _ _ _ _ h => h) (by rfl) (fun W hW => ?_) ?_
    rotate_left
    · go_simp; try rfl
    try simp only [Act.put, List.setIfInBounds_toArray, List.set_cons_zero, List.set_cons_succ]
    refine lin_take 13 68 (v := ?_) rfl rfl (by kernel_rfl) (by kernel_rfl) (by kernel_rfl) (fun _ _ _ _ _ h => h) (by rfl) (fun W hW => ?_) ?_
    rotate_left
    · go_simp; try rfl
    try simp only [Act.put, List.setIfInBounds_toArray, List.set_cons_zero, List.set_cons_succ]
    refine lin_take 14 69 (v := ?_) rfl rfl (by kernel_rfl) (by kernel_rfl) (by kernel_rfl) (fun _ _ _ _ _ h => h) (by rfl) (fun W hW => ?_) ?_
    rotate_left
    · go_simp; try rfl
    try simp only [Act.put, List.setIfInBounds_toArray, List.set_cons_zero, List.set_cons_succ]
    refine lin_take 15 70 (v := ?_) rfl rfl (by kernel_rfl) (by kernel_rfl) (by kernel_rfl) (fun _ _ _ _ _ h => h) (by rfl) (fun W hW => ?_) ?_
    rotate_left
    · go_simp; try rfl
    try simp only [Act.put, List.setIfInBounds_toArray, List.set_cons_zero, List.set_cons_succ]
    refine lin_take 16 71 (v := ?_) rfl rfl (by kernel_rfl) (by kernel_rfl) (by kernel_rfl) (fun _ _ _ _ _ h => h) (by rfl) (fun W hW => ?_) ?_
    rotate_left
    · have q1 := QP.out W hW; go_simp; try rfl
    try simp only [Act.put, List.setIfInBounds_toArray, List.set_cons_zero, List.set_cons_succ]
    refine lin_take 17 72 (v := ?_) rfl rfl (by kernel_rfl) (by kernel_rfl) (by kernel_rfl) (fun _ _ _ _ _ h => h) (by rfl) (fun W hW => ?_) ?_
    rotate_left
    · have k0 := kept a0 hW; have k1 := kept a1 hW; go_simp; try rfl
    try simp only [Act.put, List.setIfInBounds_toArray, List.set_cons_zero, List.set_cons_succ]
    refine lin_take 18 73 (v := ?_) rfl rfl (by kernel_rfl) (by kernel_rfl) (by kernel_rfl) (fun _ _ _ _ _ h => h) (by rfl) (fun W hW => ?_) ?_
    rotate_left
    · go_simp; try rfl
    try simp only [Act.put, List.setIfInBounds_toArray, List.set_cons_zero, List.set_cons_succ]
    refine lin_step 19 rfl (by kernel_rfl) (fun K hK => ?_)
    go_simp
    refine (RP.out _).mono ?_
    rintro e w10 ⟨rfl, h10⟩
    refine hK.out _ _ h10 ?_
    clear hK K
    replace a0 := kept a0 h10
    replace a1 := kept a1 h10
    replace x0 := kept x0 h10
    replace x1 := kept x1 h10
    replace QP := Lib.hid (QP.out.below h10)
    replace QT := Lib.hid (QT.out.below h10)
    replace HY := Lib.hid (HY.out.below h10)
    replace hB := btr hB h10
    clear h10
    refine lin_take 20 75 (v := ?_) rfl rfl (by kernel_rfl) (by kernel_rfl) (by kernel_rfl) (fun _ _ _ _ _ h => h) (by rfl) (fun W hW => ?_) ?_
    rotate_left
    · go_simp; try rfl
    try simp only [Act.put, List.setIfInBounds_toArray, List.set_cons_zero, List.set_cons_succ]
    refine lin_take 21 76 (v := ?_) rfl rfl (by kernel_rfl) (by kernel_rfl) (by kernel_rfl) (fun _ _ _ _ _ h => h) (by rfl) (fun W hW => ?_) ?_
    rotate_left
    · go_simp; try rfl
    try simp only [Act.put, List.setIfInBounds_toArray, List.set_cons_zero, List.set_cons_succ]
    refine lin_take 22 77 (v := ?_) rfl rfl (by kernel_rfl) (by kernel_rfl) (by kernel_rfl) (fun _ _ _ _ _ h => h) (by rfl) (fun W hW => ?_) ?_
    rotate_left
    · go_simp; try rfl
    try simp only [Act.put, List.setIfInBounds_toArray, List.set_cons_zero, List.set_cons_succ]
    refine lin_take 23 78 (v := ?_) rfl rfl (by kernel_rfl) (by kernel_rfl) (by kernel_rfl) (fun _ _ _ _ _ h => h) (by rfl) (fun W hW => ?_) ?_
    rotate_left
    · go_simp; try rfl
    try simp only [Act.put, List.setIfInBounds_toArray, List.set_cons_zero, List.set_cons_succ]
    refine lin_take 24 79 (v := ?_) rfl rfl (by kernel_rfl) (by kernel_rfl) (by kernel_rfl) (fun _ _ _ _ _ h => h) (by rfl) (fun W hW => ?_) ?_
    rotate_left
    · have q1 := QT.out W hW; go_simp; try rfl
    try simp only [Act.put, List.setIfInBounds_toArray, List.set_cons_zero, List.set_cons_succ]
    refine lin_take 25 80 (v := ?_) rfl rfl (by kernel_rfl) (by kernel_rfl) (by kernel_rfl) (fun _ _ _ _ _ h => h) (by rfl) (fun W hW => ?_) ?_
    rotate_left
    · go_simp; try rfl
    try simp only [Act.put, List.setIfInBounds_toArray, List.set_cons_zero, List.set_cons_succ]
    refine lin_take 27 82 (v := ?_) rfl rfl (by kernel_rfl) (by kernel_rfl) (by kernel_rfl) (fun _ _ _ _ _ h => h) (by rfl) (fun W hW => ?_) ?_
    rotate_left
    · go_simp; try rfl
    try simp only [Act.put, List.setIfInBounds_toArray, List.set_cons_zero, List.set_cons_succ]
    refine lin_step 26 rfl (by kernel_rfl) (fun K hK => ?_)
    go_simp
    refine (RS.out _).mono ?_
    rintro e w11 ⟨rfl, h11⟩
    refine hK.out _ _ h11 ?_
    clear hK K
    replace a0 := kept a0 h11
    replace a1 := kept a1 h11
    replace x0 := kept x0 h11
    replace x1 := kept x1 h11
    replace QP := Lib.hid (QP.out.below h11)
    replace QT := Lib.hid (QT.out.below h11)
    replace HY := Lib.hid (HY.out.below h11)
    replace hB := btr hB h11
    clear h11
    refine lin_step 28 rfl (by kernel_rfl) (fun K hK => ?_)
    go_simp
    refine (RM.out _).mono ?_
    rintro e w12 ⟨rfl, h12⟩
    refine hK.out _ _ h12 ?_
    clear hK K
    replace a0 := kept a0 h12
    replace a1 := kept a1 h12
    replace x0 := kept x0 h12
    replace x1 := kept x1 h12
    replace QP := Lib.hid (QP.out.below h12)
    replace QT := Lib.hid (QT.out.below h12)
    replace HY := Lib.hid (HY.out.below h12)
    replace hB := btr hB h12
    clear h12
    refine lin_take 29 84 (v := ?_) rfl rfl (by kernel_rfl) (by kernel_rfl) (by kernel_rfl) (fun _ _ _ _ _ h => h) (by rfl) (fun W hW => ?_) ?_
    rotate_left
    · have q1 := HA.out W; go_simp; try rfl
    try simp only [Act.put, List.setIfInBounds_toArray, List.set_cons_zero, List.set_cons_succ]
    refine lin_take 30 85 (v := ?_) rfl rfl (by kernel_rfl) (by kernel_rfl) (by kernel_rfl) (fun _ _ _ _ _ h => h) (by rfl) (fun W hW => ?_) ?_
    rotate_left
    · go_simp; try rfl
    try simp only [Act.put, List.setIfInBounds_toArray, List.set_cons_zero, List.set_cons_succ]
    refine lin_take 31 86 (v := ?_) rfl rfl (by kernel_rfl) (by kernel_rfl) (by kernel_rfl) (fun _ _ _ _ _ h => h) (by rfl) (fun W hW => ?_) ?_
    rotate_left
    · go_simp; try rfl
    try simp only [Act.put, List.setIfInBounds_toArray, List.set_cons_zero, List.set_cons_succ]
    refine lin_take 32 87 (v := ?_) rfl rfl (by kernel_rfl) (by kernel_rfl) (by kernel_rfl) (fun _ _ _ _ _ h => h) (by rfl) (fun W hW => ?_) ?_
    rotate_left
    · go_simp; try rfl
    try simp only [Act.put, List.setIfInBounds_toArray, List.set_cons_zero, List.set_cons_succ]
    refine lin_take 33 88 (v := ?_) rfl rfl (by kernel_rfl) (by kernel_rfl) (by kernel_rfl) (fun _ _ _ _ _ h => h) (by rfl) (fun W hW => ?_) ?_
    rotate_left
    · go_simp; try rfl
    try simp only [Act.put, List.setIfInBounds_toArray, List.set_cons_zero, List.set_cons_succ]
    refine lin_take 34 89 (v := ?_) rfl rfl (by kernel_rfl) (by kernel_rfl) (by kernel_rfl) (fun _ _ _ _ _ h => h) (by rfl) (fun W hW => ?_) ?_
    rotate_left
    · go_simp; try rfl
    try simp only [Act.put, List.setIfInBounds_toArray, List.set_cons_zero, List.set_cons_succ]
    refine lin_take 35 90 (v := ?_) rfl rfl (by kernel_rfl) (by kernel_rfl) (by kernel_rfl) (fun _ _ _ _ _ h => h) (by rfl) (fun W hW => ?_) ?_
    rotate_left
    · go_simp; try rfl
    try simp only [Act.put, List.setIfInBounds_toArray, List.set_cons_zero, List.set_cons_succ]
    refine lin_take 36 91 (v := ?_) rfl rfl (by kernel_rfl) (by kernel_rfl) (by kernel_rfl) (fun _ _ _ _ _ h => h) (by rfl) (fun W hW => ?_) ?_
    rotate_left
    · go_simp; try rfl
    try simp only [Act.put, List.setIfInBounds_toArray, List.set_cons_zero, List.set_cons_succ]
    refine lin_take 37 92 (v := ?_) rfl rfl (by kernel_rfl) (by kernel_rfl) (by kernel_rfl) (fun _ _ _ _ _ h => h) (by rfl) (fun W hW => ?_) ?_
    rotate_left
    · have k0 := kept a0 hW; have k1 := kept a1 hW; have k2 := kept x0 hW; have k3 := kept x1 hW; go_simp; try rfl
    try simp only [Act.put, List.setIfInBounds_toArray, List.set_cons_zero, List.set_cons_succ]
    refine lin_take 38 93 (v := ?_) rfl rfl (by kernel_rfl) (by kernel_rfl) (by kernel_rfl) (fun _ _ _ _ _ h => h) (by rfl) (fun W hW => ?_) ?_
    rotate_left
    · have k0 := kept a0 hW; have k1 := kept a1 hW; have k2 := kept x0 hW; have k3 := kept x1 hW; go_simp; try rfl
    try simp only [Act.put, List.setIfInBounds_toArray, List.set_cons_zero, List.set_cons_succ]
    refine lin_take 39 94 (v := ?_) rfl rfl (by kernel_rfl) (by kernel_rfl) (by kernel_rfl) (fun _ _ _ _ _ h => h) (by rfl) (fun W hW => ?_) ?_
    rotate_left
    · go_simp; try rfl
    try simp only [Act.put, List.setIfInBounds_toArray, List.set_cons_zero, List.set_cons_succ]
    refine lin_take 40 95 (v := ?_) rfl rfl (by kernel_rfl) (by kernel_rfl) (by kernel_rfl) (fun _ _ _ _ _ h => h) (by rfl) (fun W hW => ?_) ?_
    rotate_left
    · go_simp; try rfl
    try simp only [Act.put, List.setIfInBounds_toArray, List.set_cons_zero, List.set_cons_succ]
    refine lin_take 41 96 (v := ?_) rfl rfl (by kernel_rfl) (by kernel_rfl) (by kernel_rfl) (fun _ _ _ _ _ h => h) (by rfl) (fun W hW => ?_) ?_
    rotate_left
    · go_simp; try rfl
    try simp only [Act.put, List.setIfInBounds_toArray, List.set_cons_zero, List.set_cons_succ]
    refine lin_take 42 97 (v := ?_) rfl rfl (by kernel_rfl) (by kernel_rfl) (by kernel_rfl) (fun _ _ _ _ _ h => h) (by rfl) (fun W hW => ?_) ?_
    rotate_left
    · go_simp; try rfl
    try simp only [Act.put, List.setIfInBounds_toArray, List.set_cons_zero, List.set_cons_succ]
    refine lin_take 43 98 (v := ?_) rfl rfl (by kernel_rfl) (by kernel_rfl) (by kernel_rfl) (fun _ _ _ _ _ h => h) (by rfl) (fun W hW => ?_) ?_
    rotate_left
    · go_simp; try rfl
    try simp only [Act.put, List.setIfInBounds_toArray, List.set_cons_zero, List.set_cons_succ]
    refine lin_take 44 99 (v := ?_) rfl rfl (by kernel_rfl) (by kernel_rfl) (by kernel_rfl) (fun _ _ _ _ _ h => h) (by rfl) (fun W hW => ?_) ?_
    rotate_left
    · go_simp; try rfl
    try simp only [Act.put, List.setIfInBounds_toArray, List.set_cons_zero, List.set_cons_succ]
    refine lin_take 45 100 (v := ?_) rfl rfl (by kernel_rfl) (by kernel_rfl) (by kernel_rfl) (fun _ _ _ _ _ h => h) (by rfl) (fun W hW => ?_) ?_
    rotate_left
    · go_simp; try rfl
    try simp only [Act.put, List.setIfInBounds_toArray, List.set_cons_zero, List.set_cons_succ]
    refine lin_take 46 101 (v := ?_) rfl rfl (by kernel_rfl) (by kernel_rfl) (by kernel_rfl) (fun _ _ _ _ _ h => h) (by rfl) (fun W hW => ?_) ?_
    rotate_left
    · go_simp; try rfl
    try simp only [Act.put, List.setIfInBounds_toArray, List.set_cons_zero, List.set_cons_succ]
    refine lin_take 47 102 (v := ?_) rfl rfl (by kernel_rfl) (by kernel_rfl) (by kernel_rfl) (fun _ _ _ _ _ h => h) (by rfl) (fun W hW => ?_) ?_
    rotate_left
    · go_simp; try rfl
    try simp only [Act.put, List.setIfInBounds_toArray, List.set_cons_zero, List.set_cons_succ]
    refine lin_take 48 103 (v := ?_) rfl rfl (by kernel_rfl) (by kernel_rfl) (by kernel_rfl) (fun _ _ _ _ _ h => h) (by rfl) (fun W hW => ?_) ?_
    rotate_left
    · go_simp; try rfl
    try simp only [Act.put, List.setIfInBounds_toArray, List.set_cons_zero, List.set_cons_succ]
    refine lin_take 49 104 (v := ?_) rfl rfl (by kernel_rfl) (by kernel_rfl) (by kernel_rfl) (fun _ _ _ _ _ h => h) (by rfl) (fun W hW => ?_) ?_
    rotate_left
    · go_simp; try rfl
    try simp only [Act.put, List.setIfInBounds_toArray, List.set_cons_zero, List.set_cons_succ]
    refine lin_take 50 105 (v := ?_) rfl rfl (by kernel_rfl) (by kernel_rfl) (by kernel_rfl) (fun _ _ _ _ _ h => h) (by rfl) (fun W hW => ?_) ?_
    rotate_left
    · go_simp; try rfl
    try simp only [Act.put, List.setIfInBounds_toArray, List.set_cons_zero, List.set_cons_succ]
    refine lin_take 51 106 (v := ?_) rfl rfl (by kernel_rfl) (by kernel_rfl) (by kernel_rfl) (fun _ _ _ _ _ h => h) (by rfl) (fun W hW => ?_) ?_
    rotate_left
    · go_simp; try rfl
    try simp only [Act.put, List.setIfInBounds_toArray, List.set_cons_zero, List.set_cons_succ]
    refine lin_take 52 107 (v := ?_) rfl rfl (by kernel_rfl) (by kernel_rfl) (by kernel_rfl) (fun _ _ _ _ _ h => h) (by rfl) (fun W hW => ?_) ?_
    rotate_left
    · go_simp; try rfl
    try simp only [Act.put, List.setIfInBounds_toArray, List.set_cons_zero, List.set_cons_succ]
    refine lin_take 53 108 (v := ?_) rfl rfl (by kernel_rfl) (by kernel_rfl) (by kernel_rfl) (fun _ _ _ _ _ h => h) (by rfl) (fun W hW => ?_) ?_
    rotate_left
    · go_simp; try rfl
    try simp only [Act.put, List.setIfInBounds_toArray, List.set_cons_zero, List.set_cons_succ]
    refine lin_take 54 109 (v := ?_) rfl rfl (by kernel_rfl) (by kernel_rfl) (by kernel_rfl) (fun _ _ _ _ _ h => h) (by rfl) (fun W hW => ?_) ?_
    rotate_left
    · go_simp; try rfl
    try simp only [Act.put, List.setIfInBounds_toArray, List.set_cons_zero, List.set_cons_succ]
    refine lin_take 55 110 (v := ?_) rfl rfl (by kernel_rfl) (by kernel_rfl) (by kernel_rfl) (fun _ _ _ _ _ h => h) (by rfl) (fun W hW => ?_) ?_
    rotate_left
    · go_simp; try rfl
    try simp only [Act.put, List.setIfInBounds_toArray, List.set_cons_zero, List.set_cons_succ]
    refine lin_take 56 111 (v := ?_) rfl rfl (by kernel_rfl) (by kernel_rfl) (by kernel_rfl) (fun _ _ _ _ _ h => h) (by rfl) (fun W hW => ?_) ?_
    rotate_left
    · go_simp; try rfl
    try simp only [Act.put, List.setIfInBounds_toArray, List.set_cons_zero, List.set_cons_succ]
    refine lin_take 57 112 (v := ?_) rfl rfl (by kernel_rfl) (by kernel_rfl) (by kernel_rfl) (fun _ _ _ _ _ h => h) (by rfl) (fun W hW => ?_) ?_
    rotate_left
    · go_simp; try rfl
    try simp only [Act.put, List.setIfInBounds_toArray, List.set_cons_zero, List.set_cons_succ]
    refine lin_take 58 113 (v := ?_) rfl rfl (by kernel_rfl) (by kernel_rfl) (by kernel_rfl) (fun _ _ _ _ _ h => h) (by rfl) (fun W hW => ?_) ?_
    rotate_left
    · go_simp; try rfl
    try simp only [Act.put, List.setIfInBounds_toArray, List.set_cons_zero, List.set_cons_succ]
    refine lin_take 59 114 (v := ?_) rfl rfl (by kernel_rfl) (by kernel_rfl) (by kernel_rfl) (fun _ _ _ _ _ h => h) (by rfl) (fun W hW => ?_) ?_
    rotate_left
    · go_simp; try rfl
    try simp only [Act.put, List.setIfInBounds_toArray, List.set_cons_zero, List.set_cons_succ]
    refine lin_done (by kernel_rfl) ?_
    clear a0 a1 x0 x1 QP QT
    go_wp2_with fail
    refine (HB1.out _ hB).mono ?_
    rintro e w20 ⟨rfl, h20⟩
    replace HY := Lib.hid (HY.out.below h20)
    replace hB := btr hB h20
    clear h20
    have y0 : (w20.alloc (.cells #[.int .u64 (hi d : Nat), .int .u64 (lo d : Nat)] 35)).cell? ⟨w20.heap.size, 0, none⟩ = some (.int .u64 (hi d : Nat)) := by simp [go_sem]
    have y1 : (w20.alloc (.cells #[.int .u64 (hi d : Nat), .int .u64 (lo d : Nat)] 35)).cell? ⟨w20.heap.size, 1, none⟩ = some (.int .u64 (lo d : Nat)) := by simp [go_sem]
    have hal : Below w20.heap.size w20 (w20.alloc (.cells #[.int .u64 (hi d : Nat), .int .u64 (lo d : Nat)] 35)) := alb _
    replace HY := Lib.hid (HY.out.below hal)
    replace hB := btr hB hal
    clear hal
    have hcv := HY.out _ (Below.refl _ _)
    go_wp2_with fail
    generalize w20.alloc (.cells #[.int .u64 (hi d : Nat), .int .u64 (lo d : Nat)] 35) = w21 at *
    generalize w20.heap.size = gy at *
    refine (RB1.out _).mono ?_
    rintro e w22 ⟨rfl, h22⟩
    clear hcv
    replace y0 := kept y0 h22
    replace y1 := kept y1 h22
    replace HY := Lib.hid (HY.out.below h22)
    replace hB := btr hB h22
    clear h22
    have z0 : (w22.alloc (.cells #[.int .u64 (hi d : Nat), .int .u64 (lo d : Nat)] 35)).cell? ⟨w22.heap.size, 0, none⟩ = some (.int .u64 (hi d : Nat)) := by simp [go_sem]
    have z1 : (w22.alloc (.cells #[.int .u64 (hi d : Nat), .int .u64 (lo d : Nat)] 35)).cell? ⟨w22.heap.size, 1, none⟩ = some (.int .u64 (lo d : Nat)) := by simp [go_sem]
    have hal : Below w22.heap.size w22 (w22.alloc (.cells #[.int .u64 (hi d : Nat), .int .u64 (lo d : Nat)] 35)) := alb _
    replace y0 := kept y0 hal
    replace y1 := kept y1 hal
    replace HY := Lib.hid (HY.out.below hal)
    replace hB := btr hB hal
    clear hal
    go_wp2_with fail
    generalize w22.alloc (.cells #[.int .u64 (hi d : Nat), .int .u64 (lo d : Nat)] 35) = w23 at *
    generalize w22.heap.size = gz at *
    refine (HB2.out _ hB).mono ?_
    rintro e w24 ⟨rfl, h24⟩
    replace y0 := kept y0 h24
    replace y1 := kept y1 h24
    replace z0 := kept z0 h24
    replace z1 := kept z1 h24
    replace HY := Lib.hid (HY.out.below h24)
    replace hB := btr hB h24
    clear h24
    have hcv := HY.out _ (Below.refl _ _)
    go_wp2_with fail
    refine (RB2.out _).mono ?_
    rintro e w25 ⟨rfl, h25⟩
    clear hcv
    replace y0 := kept y0 h25
    replace y1 := kept y1 h25
    replace z0 := kept z0 h25
    replace z1 := kept z1 h25
    replace HY := Lib.hid (HY.out.below h25)
    replace hB := btr hB h25
    clear h25
    go_wp2_with fail
    refine (fixed_any _).mono ?_
    rintro e w26 ⟨rfl, h26⟩
    replace y0 := kept y0 h26
    replace y1 := kept y1 h26
    replace z0 := kept z0 h26
    replace z1 := kept z1 h26
    replace HY := Lib.hid (HY.out.below h26)
    replace hB := btr hB h26
    clear h26
    go_wp2
    go_ret
    exact ⟨rfl, hB⟩

set_option maxRecDepth 100000 in
theorem parts_big (a n m : Nat) (A : Option Addr) (k c : Nat) (hk : 100 < k) (w : World) :
    Calls Try.prog 4 #[.agg #[.int .u64 (hi a : Nat), .int .u64 (lo a : Nat), .int .u64 (n : Int)], .int .u64 (m : Int), .slice A k c] w fun e w' => e = .returned (.bool true) ∧ Below w.heap.size w w' := by
  go_enter Try.func4, Try.ntmps4
  go_wp2_with fail
  refine (fixed_any _).mono ?_
  rintro e w4 ⟨rfl, h4⟩
  go_wp2
  go_ret
  exact ⟨rfl, btr (alb _) h4⟩

theorem pair_parts (a n : Nat) (ha : a < MM) (hn : n < 18446744073709551616) : ptN (tail a 16 ++ tail n 8) = a ∧ ptS (tail a 16 ++ tail n 8) = n ∧ ptB (tail a 16 ++ tail n 8) = true := by
  have hl : (tail a 16 ++ tail n 8).length = 24 := by simp [tail_length]
  have e1 : (tail a 16 ++ tail n 8).take 16 = tail a 16 := List.take_left' (tail_length a 16)
  have e2 : (tail a 16 ++ tail n 8).drop 16 = tail n 8 := List.drop_left' (tail_length a 16)
  refine ⟨?_, ?_, decide_eq_true hl⟩
  · unfold ptN
    rw [if_pos hl, e1, nb_wide a ha]
  · unfold ptS
    rw [if_pos hl, e2, nb_word n hn]
theorem two_halves (n m : Nat) (hn : n < 18446744073709551616) (hm : m < 18446744073709551616) : hi (rdN (tail n 8 ++ tail m 8)) = n ∧ lo (rdN (tail n 8 ++ tail m 8)) = m ∧ rdB (tail n 8 ++ tail m 8) = true := by
  have hl : (tail n 8 ++ tail m 8).length = 16 := by simp [tail_length]
  have e : rdN (tail n 8 ++ tail m 8) = nb (tail n 8 ++ tail m 8) := if_pos hl
  rw [e, nb_hi _ _ (tail_length m 8), nb_lo _ _ (tail_length m 8), nb_word n hn, nb_word m hm]
  exact ⟨rfl, rfl, decide_eq_true hl⟩

theorem partslaw_any (a n m : Nat) (v : Value) (l : List UInt8) (ha : a < MM) (hn : n < 18446744073709551616) (hm : m < 18446744073709551616) (w : World) (b : Byts w v l) :
    Calls Try.prog 4 #[.agg #[.int .u64 (hi a : Nat), .int .u64 (lo a : Nat), .int .u64 (n : Int)], .int .u64 (m : Int), v] w fun e w' => e = .returned (.bool true) ∧ Below w.heap.size w w' := by
  obtain ⟨A, c, rfl⟩ := b.form
  by_cases hk : l.length ≤ 100
  · refine parts_core a n m A l.length c hk (tail a 16 ++ tail n 8) (tail n 8 ++ tail m 8) (str (tail a 16)) (str (tail n 8)) (str (tail m 8)) (str l) (ptN l) (ptS l) (rdN l) (ptB l) (rdB l) w b.cvs
      (pair_any a n ha hn) (twoK_any n m hn hm) (fun W v h => ?_) (fun W v h => ?_) (fun W => call_cvs (id_any a ha W)) (refbytesK_any a ha) (fun W => call_cvs (stamp_any n hn W)) (refstamp_any n hn) (refstamp_any m hm)
      (refpair_any a n ha hn) (run_str_add (tail n 8) (tail m 8) (by simp [tail_length])) (fun W hB => parts_any _ l W (b.below hB)) (refparts_any l) (fun W hB => halves_any _ l W (b.below hB)) (refhalves_any l)
    · have q := parts_any v _ W h
      obtain ⟨e1, e2, e3⟩ := pair_parts a n ha hn
      rw [e1, e2, e3] at q
      exact q
    · have q := halves_any v _ W h
      obtain ⟨e1, e2, e3⟩ := two_halves n m hn hm
      rw [e1, e2, e3] at q
      exact q
  · exact parts_big a n m A _ c (by omega) w
end Go.Proofs.Ytfofhnaomlcioaa
