/- The document's own Four, Two and Seal. -/
import Derived.Test.YtbffpgndjbpifaaDoorGc
namespace Go.Proofs.YtbffpgndjbpifaaDoor
open Go.RowKit
open C (crc)

theorem str_extract (l : List UInt8) (i j : Nat) : (str l).extract i j = str ((l.drop i).take (j - i)) := by
  apply ByteArray.ext
  simp [str, ByteArray.data_extract]
theorem run_str_add (l m : List UInt8) (h : l.length + m.length ≤ 1000000) (w : World) : (Op.stringOp .add (str l) (str m)).run Tryd.prog w = .ok (.string (str (l ++ m))) w := by
  rw [run_string_add_sum w (str l) (str m) (by rw [str_size, str_size]; omega), str_append]
theorem reffour_any (n : Nat) (hn : n < 4294967296) (w : World) :
    Calls Tryd.prog 11 #[.int .u32 (n : Int)] w fun e w' => e = .returned (.string (str (G.four n))) ∧ Below w.heap.size w w' := by
  have hcv := (Byts.lit w (G.four n) (by rw [G.four_length]; omega)).conv
  rw [← four_vals n hn, G.four_length] at hcv
  generalize str (G.four n) = s at *
  go_enter Tryd.func11, Tryd.ntmps11
  go_wp2
  go_ret
  exact ⟨rfl, alb _⟩
theorem reftwo_any (n : Nat) (hn : n < 65536) (w : World) :
    Calls Tryd.prog 32 #[.int .i64 (n : Int)] w fun e w' => e = .returned (.string (str (G.two n))) ∧ Below w.heap.size w w' := by
  have hcv := (Byts.lit w (G.two n) (by rw [G.two_length]; omega)).conv
  rw [← two_vals n hn, G.two_length] at hcv
  have e1 : (n : Int) / 256 % 256 = (n : Int) / 256 := by omega
  generalize str (G.two n) = s at *
  go_enter Tryd.func32, Tryd.ntmps32
  go_wp2
  go_ret
  exact ⟨rfl, alb _⟩
theorem lit_one (w : World) (k : UInt8) : Byts (w.alloc (.cells #[.int .u8 ((k.toNat : Nat) : Int)] 5)) (.slice (some ⟨w.heap.size, 0, none⟩) 1 1) [k] := Byts.lit w [k] (by simp)
/-- One of two may come up. -/
theorem lin_two {P : Program} {ops : Array Oper} {Q : Exit → Act → World → Prop} (i j : Nat) {oi oj : Oper} {fuel : Nat} {listed : Array Bool} {a : Act} {w : World} (ho : ops[i]? = some oi) (ho2 : ops[j]? = some oj) (hg : oi.guard = none) (hg2 : oj.guard = none) (hr : Region.ready .any ops listed = [i, j])
    (h : ∀ K : Act → World → Prop, Shut (∀ a' w', Below w.heap.size w w' → Lin P ops Q fuel (listed.setIfInBounds i true) a' w' → K a' w') → Oper.wp P oi a w K Q)
    (h2 : ∀ K : Act → World → Prop, Shut (∀ a' w', Below w.heap.size w w' → Lin P ops Q fuel (listed.setIfInBounds j true) a' w' → K a' w') → Oper.wp P oj a w K Q) :
    Lin P ops Q (fuel + 1) listed a w := by
  refine wpAnyH_all hr (by simp) (fun k hk => ?_)
  rcases List.mem_cons.1 hk with rfl | hk
  · exact wpOp_step ho (fun K hK => by rw [if_pos (by simp [Region.wanted, hg])]; exact h K (fun a' w' hb hl => hK a' w' ⟨hb, held_mono (fun u hu => btr hb hu) _ _ _ _ hl⟩))
  · obtain rfl := List.mem_singleton.1 hk
    exact wpOp_step ho2 (fun K hK => by rw [if_pos (by simp [Region.wanted, hg2])]; exact h2 K (fun a' w' hb hl => hK a' w' ⟨hb, held_mono (fun u hu => btr hb hu) _ _ _ _ hl⟩))

set_option maxHeartbeats 1600000 in
theorem refseal_core (n x len : Nat) (k : UInt8) (sF sT sB sFK sFKT s3 s4 sR s6 sP : ByteArray) (w : World) (hl : len ≤ 500) (z3 : sB.size = len) (z4 : s4.size = 8 + len)
    (A1 : Hid (∀ w, (Op.stringOp .add sF (str [k])).run Tryd.prog w = .ok (.string sFK) w)) (A2 : Hid (∀ w, (Op.stringOp .add sFK sT).run Tryd.prog w = .ok (.string sFKT) w))
    (A3 : Hid (∀ w, (Op.stringOp .add sFKT ⟨#[0]⟩).run Tryd.prog w = .ok (.string s3) w)) (A4 : Hid (∀ w, (Op.stringOp .add s3 sB).run Tryd.prog w = .ok (.string s4) w))
    (A5 : Hid (∀ w, (Op.stringOp .add s4 (str (List.replicate (500 - len) 0))).run Tryd.prog w = .ok (.string sR) w)) (A6 : Hid (∀ w, (Op.stringOp .add s6 sR).run Tryd.prog w = .ok (.string sP) w))
    (HF : Hid (∀ w : World, Calls Tryd.prog 11 #[.int .u32 (n : Int)] w fun e w' => e = .returned (.string sF) ∧ Below w.heap.size w w'))
    (HT : Hid (∀ w : World, Calls Tryd.prog 32 #[.int .i64 (len : Int)] w fun e w' => e = .returned (.string sT) ∧ Below w.heap.size w w'))
    (HS : Hid (∀ w : World, Calls Tryd.prog 12 #[.string sR] w fun e w' => e = .returned (.int .u32 (x : Int)) ∧ Below w.heap.size w w'))
    (HX : Hid (∀ w : World, Calls Tryd.prog 11 #[.int .u32 (x : Int)] w fun e w' => e = .returned (.string s6) ∧ Below w.heap.size w w')) :
    Calls Tryd.prog 20 #[.int .u32 (n : Int), .int .u8 ((k.toNat : Nat) : Int), .string sB] w fun e w' => e = .returned (.tuple #[.string sP, .int .i64 0]) ∧ Below w.heap.size w w' := by
  obtain ⟨i0, hi0, hz0, hz1, hz2⟩ := info_parts Tryd.info5
  have hk := C.u8_lt k
  obtain ⟨sK, hsK⟩ : ∃ sK, sK = str [k] := ⟨_, rfl⟩
  rw [← hsK] at A1
  have HK : Hid (∀ W W' : World, Below (W.alloc (.cells #[.int .u8 ((k.toNat : Nat) : Int)] 5)).heap.size (W.alloc (.cells #[.int .u8 ((k.toNat : Nat) : Int)] 5)) W' → (convert 29 9 (.slice (some ⟨W.heap.size, 0, none⟩) 1 1)).run Tryd.prog W' = .ok (.string sK) W') := fun W W' h => by
    rw [hsK]
    exact ((lit_one W k).below h).conv
  clear hsK
  go_enter Tryd.func20, Tryd.ntmps20
  go_wp2_with fail
  refine lin_start 14 rfl (by kernel_rfl) ?_
  have hB : Below w.heap.size w w.drew := (Below.refl _ _).drew
  generalize w.drew = u at *
  refine lin_take 0 12 (v := ?_) rfl rfl (by kernel_rfl) (by kernel_rfl) (by kernel_rfl) (fun _ _ _ _ _ h => h) (by rfl) (fun W hW => ?_) ?_
  rotate_left
  · go_simp; try rfl
  try simp only [Act.put, List.setIfInBounds_toArray, List.set_cons_zero, List.set_cons_succ]
  refine lin_take 2 14 (v := ?_) rfl rfl (by kernel_rfl) (by kernel_rfl) (by kernel_rfl) (fun _ _ _ _ _ h => h) (by rfl) (fun W hW => ?_) ?_
  rotate_left
  · go_simp; try rfl
  try simp only [Act.put, List.setIfInBounds_toArray, List.set_cons_zero, List.set_cons_succ]
  refine lin_take 6 18 (v := ?_) rfl rfl (by kernel_rfl) (by kernel_rfl) (by kernel_rfl) (fun _ _ _ _ _ h => h) (by rfl) (fun W hW => ?_) ?_
  rotate_left
  · go_simp; try rfl
  try simp only [Act.put, List.setIfInBounds_toArray, List.set_cons_zero, List.set_cons_succ]
  refine lin_take 7 19 (v := ?_) rfl rfl (by kernel_rfl) (by kernel_rfl) (by kernel_rfl) (fun _ _ _ _ _ h => h) (by rfl) (fun W hW => ?_) ?_
  rotate_left
  · go_simp; try rfl
  try simp only [Act.put, List.setIfInBounds_toArray, List.set_cons_zero, List.set_cons_succ]
  refine lin_take 11 23 (v := ?_) rfl rfl (by kernel_rfl) (by kernel_rfl) (by kernel_rfl) (fun _ _ _ _ _ h => h) (by rfl) (fun W hW => ?_) ?_
  rotate_left
  · go_simp; try rfl
  try simp only [Act.put, List.setIfInBounds_toArray, List.set_cons_zero, List.set_cons_succ]
  refine lin_two 1 3 rfl rfl rfl rfl (by kernel_rfl) (fun K hK => ?_) (fun K hK => ?_)
  · go_simp
    refine (HF.out _).mono ?_
    rintro e w1 ⟨rfl, h1⟩
    refine hK.out _ _ h1 ?_
    clear hK K
    replace hB := btr hB h1
    clear h1
    refine lin_two 3 8 rfl rfl rfl rfl (by kernel_rfl) (fun K hK => ?_) (fun K hK => ?_)
    · go_simp
      have HK2 := Lib.hid (HK.out w1)
      refine hK.out _ _ (alb _) ?_
      clear hK K
      replace hB := bal hB (.cells #[.int .u8 ((k.toNat : Nat) : Int)] 5)
      generalize w1.alloc (.cells #[.int .u8 ((k.toNat : Nat) : Int)] 5) = w2 at *
      refine lin_take 4 16 (v := ?_) rfl rfl (by kernel_rfl) (by kernel_rfl) (by kernel_rfl) (fun _ _ _ _ _ h => h) (by rfl) (fun W hW => ?_) ?_
      rotate_left
      · have y1 := HK2.out W hW; go_simp; try rfl
      try simp only [Act.put, List.setIfInBounds_toArray, List.set_cons_zero, List.set_cons_succ]
      refine lin_take 5 17 (v := .string sFK) rfl rfl (by kernel_rfl) (by kernel_rfl) (by kernel_rfl) (fun _ _ _ _ _ h => h) (by rfl) (fun W hW => ?_) ?_
      · have y1 := A1.out W; go_simp; try rfl
      try simp only [Act.put, List.setIfInBounds_toArray, List.set_cons_zero, List.set_cons_succ]
      refine lin_step 8 rfl (by kernel_rfl) (fun K hK => ?_)
      go_simp
      refine (HT.out _).mono ?_
      rintro e w5 ⟨rfl, h1⟩
      refine hK.out _ _ h1 ?_
      clear hK K
      replace hB := btr hB h1
      clear h1
      refine lin_take 9 21 (v := .string sFKT) rfl rfl (by kernel_rfl) (by kernel_rfl) (by kernel_rfl) (fun _ _ _ _ _ h => h) (by rfl) (fun W hW => ?_) ?_
      · have y2 := A2.out W; have y3 := A3.out W; have y4 := A4.out W; go_simp; try rfl
      try simp only [Act.put, List.setIfInBounds_toArray, List.set_cons_zero, List.set_cons_succ]
      refine lin_take 10 22 (v := .string s3) rfl rfl (by kernel_rfl) (by kernel_rfl) (by kernel_rfl) (fun _ _ _ _ _ h => h) (by rfl) (fun W hW => ?_) ?_
      · have y2 := A2.out W; have y3 := A3.out W; have y4 := A4.out W; go_simp; try rfl
      try simp only [Act.put, List.setIfInBounds_toArray, List.set_cons_zero, List.set_cons_succ]
      refine lin_take 12 24 (v := .string s4) rfl rfl (by kernel_rfl) (by kernel_rfl) (by kernel_rfl) (fun _ _ _ _ _ h => h) (by rfl) (fun W hW => ?_) ?_
      · have y2 := A2.out W; have y3 := A3.out W; have y4 := A4.out W; go_simp; try rfl
      try simp only [Act.put, List.setIfInBounds_toArray, List.set_cons_zero, List.set_cons_succ]
      refine lin_take 13 8 (v := ?_) rfl rfl (by kernel_rfl) (by kernel_rfl) (by kernel_rfl) (fun _ _ _ _ _ h => h) (by rfl) (fun W hW => ?_) ?_
      rotate_left
      · have y2 := A2.out W; have y3 := A3.out W; have y4 := A4.out W; go_simp; try rfl
      try simp only [Act.put, List.setIfInBounds_toArray, List.set_cons_zero, List.set_cons_succ]
      refine lin_done (by kernel_rfl) ?_
      clear A1 A2 A3 A4 HF HT
      go_wp2_with (first
        | (refine wpList_make_full _ rfl _ _ 29 rfl w5.heap.size 5 i0 _ 1 Tryd.underlying29 hi0 hz0 hz1 _ _ _ _ (500 - len) rfl rfl ?l1 ?l2 ?l3 ?l4 ?l5 ?_)
        | go_in)
      case l1 => go_num
      case l2 => go_num
      case l3 => rw [hz2]; omega
      case l4 => unfold maxLen; omega
      case l5 => exact Nat.le_refl _
      intro w6 hown hgrow
      rw [made_zeros] at hown
      replace hB := btr hB ((Below.refl _ _).grown hgrow (Nat.le_refl _) (by intro g hg; cases hg))
      have hcv := (Byts.own (l := List.replicate (500 - len) 0) (by rw [List.length_replicate]; exact hown)).conv
      have y5 := A5.out w6
      clear hown hgrow A5 i0 hi0 hz0 hz1 hz2
      generalize str (List.replicate (500 - len) 0) = sZ at *
      go_wp2_with fail
      refine (HS.out _).mono ?_
      rintro e w7 ⟨rfl, h7⟩
      replace hB := btr hB h7
      clear h7 hcv y5
      go_wp2_with fail
      refine (HX.out _).mono ?_
      rintro e w8 ⟨rfl, h8⟩
      replace hB := btr hB h8
      clear h8
      have y6 := A6.out w8
      go_wp2
      go_ret2
      exact ⟨rfl, hB⟩
    · go_simp
      refine (HT.out _).mono ?_
      rintro e w2 ⟨rfl, h1⟩
      refine hK.out _ _ h1 ?_
      clear hK K
      replace hB := btr hB h1
      clear h1
      refine lin_step 3 rfl (by kernel_rfl) (fun K hK => ?_)
      go_simp
      have HK2 := Lib.hid (HK.out w2)
      refine hK.out _ _ (alb _) ?_
      clear hK K
      replace hB := bal hB (.cells #[.int .u8 ((k.toNat : Nat) : Int)] 5)
      generalize w2.alloc (.cells #[.int .u8 ((k.toNat : Nat) : Int)] 5) = w5 at *
      refine lin_take 4 16 (v := ?_) rfl rfl (by kernel_rfl) (by kernel_rfl) (by kernel_rfl) (fun _ _ _ _ _ h => h) (by rfl) (fun W hW => ?_) ?_
      rotate_left
      · have y1 := HK2.out W hW; go_simp; try rfl
      try simp only [Act.put, List.setIfInBounds_toArray, List.set_cons_zero, List.set_cons_succ]
      refine lin_take 5 17 (v := .string sFK) rfl rfl (by kernel_rfl) (by kernel_rfl) (by kernel_rfl) (fun _ _ _ _ _ h => h) (by rfl) (fun W hW => ?_) ?_
      · have y1 := A1.out W; go_simp; try rfl
      try simp only [Act.put, List.setIfInBounds_toArray, List.set_cons_zero, List.set_cons_succ]
      refine lin_take 9 21 (v := .string sFKT) rfl rfl (by kernel_rfl) (by kernel_rfl) (by kernel_rfl) (fun _ _ _ _ _ h => h) (by rfl) (fun W hW => ?_) ?_
      · have y2 := A2.out W; have y3 := A3.out W; have y4 := A4.out W; go_simp; try rfl
      try simp only [Act.put, List.setIfInBounds_toArray, List.set_cons_zero, List.set_cons_succ]
      refine lin_take 10 22 (v := .string s3) rfl rfl (by kernel_rfl) (by kernel_rfl) (by kernel_rfl) (fun _ _ _ _ _ h => h) (by rfl) (fun W hW => ?_) ?_
      · have y2 := A2.out W; have y3 := A3.out W; have y4 := A4.out W; go_simp; try rfl
      try simp only [Act.put, List.setIfInBounds_toArray, List.set_cons_zero, List.set_cons_succ]
      refine lin_take 12 24 (v := .string s4) rfl rfl (by kernel_rfl) (by kernel_rfl) (by kernel_rfl) (fun _ _ _ _ _ h => h) (by rfl) (fun W hW => ?_) ?_
      · have y2 := A2.out W; have y3 := A3.out W; have y4 := A4.out W; go_simp; try rfl
      try simp only [Act.put, List.setIfInBounds_toArray, List.set_cons_zero, List.set_cons_succ]
      refine lin_take 13 8 (v := ?_) rfl rfl (by kernel_rfl) (by kernel_rfl) (by kernel_rfl) (fun _ _ _ _ _ h => h) (by rfl) (fun W hW => ?_) ?_
      rotate_left
      · have y2 := A2.out W; have y3 := A3.out W; have y4 := A4.out W; go_simp; try rfl
      try simp only [Act.put, List.setIfInBounds_toArray, List.set_cons_zero, List.set_cons_succ]
      refine lin_done (by kernel_rfl) ?_
      clear A1 A2 A3 A4 HF HT
      go_wp2_with (first
        | (refine wpList_make_full _ rfl _ _ 29 rfl w5.heap.size 5 i0 _ 1 Tryd.underlying29 hi0 hz0 hz1 _ _ _ _ (500 - len) rfl rfl ?l1 ?l2 ?l3 ?l4 ?l5 ?_)
        | go_in)
      case l1 => go_num
      case l2 => go_num
      case l3 => rw [hz2]; omega
      case l4 => unfold maxLen; omega
      case l5 => exact Nat.le_refl _
      intro w6 hown hgrow
      rw [made_zeros] at hown
      replace hB := btr hB ((Below.refl _ _).grown hgrow (Nat.le_refl _) (by intro g hg; cases hg))
      have hcv := (Byts.own (l := List.replicate (500 - len) 0) (by rw [List.length_replicate]; exact hown)).conv
      have y5 := A5.out w6
      clear hown hgrow A5 i0 hi0 hz0 hz1 hz2
      generalize str (List.replicate (500 - len) 0) = sZ at *
      go_wp2_with fail
      refine (HS.out _).mono ?_
      rintro e w7 ⟨rfl, h7⟩
      replace hB := btr hB h7
      clear h7 hcv y5
      go_wp2_with fail
      refine (HX.out _).mono ?_
      rintro e w8 ⟨rfl, h8⟩
      replace hB := btr hB h8
      clear h8
      have y6 := A6.out w8
      go_wp2
      go_ret2
      exact ⟨rfl, hB⟩
  · go_simp
    have HK2 := Lib.hid (HK.out u)
    refine hK.out _ _ (alb _) ?_
    clear hK K
    replace hB := bal hB (.cells #[.int .u8 ((k.toNat : Nat) : Int)] 5)
    generalize u.alloc (.cells #[.int .u8 ((k.toNat : Nat) : Int)] 5) = w1 at *
    refine lin_take 4 16 (v := ?_) rfl rfl (by kernel_rfl) (by kernel_rfl) (by kernel_rfl) (fun _ _ _ _ _ h => h) (by rfl) (fun W hW => ?_) ?_
    rotate_left
    · have y1 := HK2.out W hW; go_simp; try rfl
    try simp only [Act.put, List.setIfInBounds_toArray, List.set_cons_zero, List.set_cons_succ]
    refine lin_step 1 rfl (by kernel_rfl) (fun K hK => ?_)
    go_simp
    refine (HF.out _).mono ?_
    rintro e w2 ⟨rfl, h1⟩
    refine hK.out _ _ h1 ?_
    clear hK K
    replace hB := btr hB h1
    clear h1
    refine lin_take 5 17 (v := .string sFK) rfl rfl (by kernel_rfl) (by kernel_rfl) (by kernel_rfl) (fun _ _ _ _ _ h => h) (by rfl) (fun W hW => ?_) ?_
    · have y1 := A1.out W; go_simp; try rfl
    try simp only [Act.put, List.setIfInBounds_toArray, List.set_cons_zero, List.set_cons_succ]
    refine lin_step 8 rfl (by kernel_rfl) (fun K hK => ?_)
    go_simp
    refine (HT.out _).mono ?_
    rintro e w5 ⟨rfl, h1⟩
    refine hK.out _ _ h1 ?_
    clear hK K
    replace hB := btr hB h1
    clear h1
    refine lin_take 9 21 (v := .string sFKT) rfl rfl (by kernel_rfl) (by kernel_rfl) (by kernel_rfl) (fun _ _ _ _ _ h => h) (by rfl) (fun W hW => ?_) ?_
    · have y2 := A2.out W; have y3 := A3.out W; have y4 := A4.out W; go_simp; try rfl
    try simp only [Act.put, List.setIfInBounds_toArray, List.set_cons_zero, List.set_cons_succ]
    refine lin_take 10 22 (v := .string s3) rfl rfl (by kernel_rfl) (by kernel_rfl) (by kernel_rfl) (fun _ _ _ _ _ h => h) (by rfl) (fun W hW => ?_) ?_
    · have y2 := A2.out W; have y3 := A3.out W; have y4 := A4.out W; go_simp; try rfl
    try simp only [Act.put, List.setIfInBounds_toArray, List.set_cons_zero, List.set_cons_succ]
    refine lin_take 12 24 (v := .string s4) rfl rfl (by kernel_rfl) (by kernel_rfl) (by kernel_rfl) (fun _ _ _ _ _ h => h) (by rfl) (fun W hW => ?_) ?_
    · have y2 := A2.out W; have y3 := A3.out W; have y4 := A4.out W; go_simp; try rfl
    try simp only [Act.put, List.setIfInBounds_toArray, List.set_cons_zero, List.set_cons_succ]
    refine lin_take 13 8 (v := ?_) rfl rfl (by kernel_rfl) (by kernel_rfl) (by kernel_rfl) (fun _ _ _ _ _ h => h) (by rfl) (fun W hW => ?_) ?_
    rotate_left
    · have y2 := A2.out W; have y3 := A3.out W; have y4 := A4.out W; go_simp; try rfl
    try simp only [Act.put, List.setIfInBounds_toArray, List.set_cons_zero, List.set_cons_succ]
    refine lin_done (by kernel_rfl) ?_
    clear A1 A2 A3 A4 HF HT
    go_wp2_with (first
      | (refine wpList_make_full _ rfl _ _ 29 rfl w5.heap.size 5 i0 _ 1 Tryd.underlying29 hi0 hz0 hz1 _ _ _ _ (500 - len) rfl rfl ?l1 ?l2 ?l3 ?l4 ?l5 ?_)
      | go_in)
    case l1 => go_num
    case l2 => go_num
    case l3 => rw [hz2]; omega
    case l4 => unfold maxLen; omega
    case l5 => exact Nat.le_refl _
    intro w6 hown hgrow
    rw [made_zeros] at hown
    replace hB := btr hB ((Below.refl _ _).grown hgrow (Nat.le_refl _) (by intro g hg; cases hg))
    have hcv := (Byts.own (l := List.replicate (500 - len) 0) (by rw [List.length_replicate]; exact hown)).conv
    have y5 := A5.out w6
    clear hown hgrow A5 i0 hi0 hz0 hz1 hz2
    generalize str (List.replicate (500 - len) 0) = sZ at *
    go_wp2_with fail
    refine (HS.out _).mono ?_
    rintro e w7 ⟨rfl, h7⟩
    replace hB := btr hB h7
    clear h7 hcv y5
    go_wp2_with fail
    refine (HX.out _).mono ?_
    rintro e w8 ⟨rfl, h8⟩
    replace hB := btr hB h8
    clear h8
    have y6 := A6.out w8
    go_wp2
    go_ret2
    exact ⟨rfl, hB⟩
theorem refseal_long (n k : Int) (sB : ByteArray) (hl : 500 < sB.size) (hl2 : sB.size ≤ 1000000) (w : World) :
    Calls Tryd.prog 20 #[.int .u32 n, .int .u8 k, .string sB] w fun e w' => e = .returned (.tuple #[.string ⟨#[]⟩, .int .i64 3]) ∧ Below w.heap.size w w' := by
  go_enter Tryd.func20, Tryd.ntmps20
  go_wp2
  go_ret2
  exact ⟨rfl, Below.refl _ _⟩
theorem refseal_any (n : Nat) (hn : n < 4294967296) (k : UInt8) (l : List UInt8) (hl : l.length ≤ 1000000) (w : World) :
    Calls Tryd.prog 20 #[.int .u32 (n : Int), .int .u8 ((k.toNat : Nat) : Int), .string (str l)] w fun e w' => e = .returned (.tuple #[.string (str (G.sealL n k l)), .int .i64 ((G.sealE l : Nat) : Int)]) ∧ Below w.heap.size w w' := by
  by_cases h : l.length ≤ 500
  · have e1 : G.sealE l = 0 := if_pos h
    have e2 : G.sealL n k l = G.page n k l := if_pos h
    rw [e1, e2]
    have er : G.four n ++ [k] ++ G.two l.length ++ [0] ++ l ++ List.replicate (500 - l.length) 0 = G.rest n k l := by simp [G.rest]
    have a1 := G.four_length n
    have a2 := G.two_length l.length
    have a3 := G.rest_length n k l h
    have a4 := G.four_length (crc 0 (G.rest n k l))
    refine refseal_core n (crc 0 (G.rest n k l)) l.length k (str (G.four n)) (str (G.two l.length)) (str l) (str (G.four n ++ [k])) (str (G.four n ++ [k] ++ G.two l.length)) (str (G.four n ++ [k] ++ G.two l.length ++ [0])) (str (G.four n ++ [k] ++ G.two l.length ++ [0] ++ l)) (str (G.rest n k l)) (str (G.four (crc 0 (G.rest n k l)))) (str (G.page n k l)) w h rfl ?_
      (run_str_add _ _ (by simp; omega)) (run_str_add _ _ (by simp; omega)) (run_str_add _ [0] (by simp; omega)) (run_str_add _ _ (by simp; omega)) ?_ (run_str_add _ _ (by omega))
      (reffour_any n hn) (reftwo_any _ (by omega)) (fun w => same_below (refsum_any _ w (by omega))) (reffour_any _ (C.crc_lt _ (by omega)))
    · rw [str_size]
      simp
      omega
    · rw [← er]
      exact run_str_add _ _ (by simp; omega)
  · have e1 : G.sealE l = 3 := if_neg h
    have e2 : G.sealL n k l = [] := if_neg h
    rw [e1, e2]
    exact refseal_long _ _ (str l) (by rw [str_size]; omega) (by rw [str_size]; omega) w
end Go.Proofs.YtbffpgndjbpifaaDoor
