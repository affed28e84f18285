/- page.Open: what a block is opened as. -/
import Derived.Test.YtbffpgndjbpifaaDoorGb
namespace Go.Proofs.YtbffpgndjbpifaaDoor
open Go.RowKit
open C (crc)

theorem or_low64 (x y : Nat) (hx : x < 256) (hy : y < 256) : bits .or .i64 ((x : Int) * 256) (y : Int) = ((x * 256 + y : Nat) : Int) := by
  have e0 : ((x : Int) * 256) = ((x * 256 : Nat) : Int) := by omega
  have e : x * 256 ||| y = x * 256 + y := by
    have := Nat.two_pow_add_eq_or_of_lt (i := 8) (b := y) (by simpa using hy) x
    rw [Nat.mul_comm x 256]
    exact this.symm
  rw [e0]
  show IntKind.i64.wrap ((BitVec.ofInt 64 ((x * 256 : Nat) : Int) ||| BitVec.ofInt 64 ((y : Nat) : Int)).toNat : Int) = _
  rw [BitVec.toNat_or, ofInt_u64 (x * 256) (by omega), ofInt_u64 y (by omega), e]
  have e2 : ((x * 256 + y : Nat) : Int) % 2 ^ 64 = ((x * 256 + y : Nat) : Int) := Int.emod_eq_of_lt (by omega) (by omega)
  simp only [IntKind.wrap, IntKind.bits, IntKind.signed, e2]
  rw [if_neg]
  simp
  omega
/-- A part of a slice. -/
theorem Byts.part {w : World} {b0 off k c : Nat} {l : List UInt8} (h : Byts w (.slice (some ⟨b0, off, Option.none⟩) k c) l) (f t : Nat) (hf : f ≤ t) (ht : t ≤ k) (c' : Nat) (hc' : t - f ≤ c') :
    Byts w (.slice (some ⟨b0, off + f, Option.none⟩) (t - f) c') ((l.drop f).take (t - f)) := by
  obtain ⟨A', c2, e, hc, q⟩ := h
  cases e
  have hl : ((l.drop f).take (t - f)).length = t - f := by simp; omega
  refine ⟨_, _, by rw [hl], by rw [hl]; exact hc', fun hp => ⟨b0, off + f, rfl, fun j hj => ?_⟩⟩
  rw [hl] at hj hp
  obtain ⟨b, off2, e, r⟩ := q (by omega)
  cases e
  rw [Nat.add_assoc, r (f + j) (by omega)]
  simp
theorem Byts.tail {w : World} {b0 off k c : Nat} {l : List UInt8} (h : Byts w (.slice (some ⟨b0, off, Option.none⟩) k c) l) (f : Nat) (hf : f ≤ k) (c' : Nat) (hc' : k - f ≤ c') :
    Byts w (.slice (some ⟨b0, off + f, Option.none⟩) (k - f) c') (l.drop f) := by
  have hl : l.length = k := by obtain ⟨A', c2, e, _⟩ := h; cases e; rfl
  have q := h.part f k hf (Nat.le_refl _) c' hc'
  rwa [List.take_of_length_le (by rw [List.length_drop]; omega)] at q
theorem Byts.cell {w : World} {b0 off k c : Nat} {l : List UInt8} (h : Byts w (.slice (some ⟨b0, off, Option.none⟩) k c) l) (j : Nat) (hj : j < k) :
    w.cell? ⟨b0, off + j, Option.none⟩ = some (.int .u8 (((l.getD j 0).toNat : Nat) : Int)) := by
  obtain ⟨A', c', e, hc, q⟩ := h
  cases e
  obtain ⟨b, off2, e, r⟩ := q (by omega)
  cases e
  rw [r j hj]
  simp [List.getD, hj]
theorem Byts.len {w : World} {A : Option Addr} {k c : Nat} {l : List UInt8} (h : Byts w (.slice A k c) l) : l.length = k := by
  obtain ⟨A', c2, e, _⟩ := h
  cases e
  rfl
theorem splice_whole {α : Type} (L cs : List α) (h : L.length = cs.length) : splice L 0 cs = cs := by
  unfold splice
  rw [List.drop_eq_nil_of_le (by omega)]
  simp
theorem Byts.empty (w : World) (A : Option Addr) (c : Nat) : Byts w (.slice A 0 c) [] := ⟨_, _, rfl, Nat.zero_le _, fun h => by simp at h⟩

set_option maxHeartbeats 1600000 in
theorem open_core (n b0 off c x m : Nat) (l B : List UInt8) (K a8 : UInt8) (E : Int) (s1 s2 s3 : Bool) (a9 a10 a11 : Nat) (w : World) (hc : 512 ≤ c) (hn : n < 4294967296) (hx : x < 4294967296) (h9 : a9 < 256) (h10 : a10 < 256)
    (hm : a9 * 256 + a10 = m)
    (HV : Hid (Byts w (.slice (some ⟨b0, off, none⟩) 512 c) l)) (E9 : Hid ((l.getD 9 0).toNat = a9)) (E10 : Hid ((l.getD 10 0).toNat = a10)) (E11 : Hid ((l.getD 11 0).toNat = a11)) (E8 : Hid (l.getD 8 0 = a8))
    (HS : Hid (∀ W : World, Below w.heap.size w W → Calls Tryd.prog 28 #[.slice (some ⟨b0, off + 4, none⟩) 508 (c - 4)] W fun e w' => e = .returned (.int .u32 (x : Int)) ∧ Below W.heap.size W w'))
    (HQ1 : Hid (∀ (W : World) (v : Value), Below w.heap.size w W → Byts W v (G.four x) → Calls Tryd.prog 29 #[.slice (some ⟨b0, off, none⟩) 4 c, v] W fun e w' => e = .returned (.bool s1) ∧ Below W.heap.size W w'))
    (HQ2 : Hid (∀ (W : World) (v : Value), Below w.heap.size w W → Byts W v (G.four n) → Calls Tryd.prog 29 #[.slice (some ⟨b0, off + 4, none⟩) 4 (c - 4), v] W fun e w' => e = .returned (.bool s2) ∧ Below W.heap.size W w'))
    (HN : Hid (m ≤ 500 → ∀ (W : World) (v : Value), Below w.heap.size w W → Byts W v (l.drop (12 + m)) → Calls Tryd.prog 30 #[v] W fun e w' => e = .returned (.bool s3) ∧ Below W.heap.size W w'))
    (HE1 : Hid (s1 = false → K = 0 ∧ B = [] ∧ E = 8)) (HE2 : Hid (s1 = true → s2 = false → K = 0 ∧ B = [] ∧ E = 4))
    (HE3 : Hid (s1 = true → s2 = true → (a11 ≠ 0 ∨ 500 < m ∨ s3 = false) → K = 0 ∧ B = [] ∧ E = 2))
    (HE4 : Hid (s1 = true → s2 = true → a11 = 0 → m ≤ 500 → s3 = true → K = a8 ∧ B = (l.drop 12).take m ∧ E = 0)) :
    Calls Tryd.prog 18 #[.int .u32 (n : Int), .slice (some ⟨b0, off, none⟩) 512 c] w fun e w' => ∃ v', e = .returned (.tuple #[.int .u8 ((K.toNat : Nat) : Int), v', .int .i64 E]) ∧ Byts w' v' B ∧ Below w.heap.size w w' := by
  have q0 : ¬ c = 0 := by omega
  have q4 : ¬ c = 4 := by omega
  have q12 : ¬ c = 12 := by omega
  have i4 : (4 : Int) ≤ (c : Int) := by omega
  have i8 : (8 : Int) ≤ (c : Int) := by omega
  go_enter Tryd.func18, Tryd.ntmps18
  go_wp2_with fail
  refine lin_start 8 rfl (by kernel_rfl) ?_
  have hB : Below w.heap.size w w.drew := (Below.refl _ _).drew
  generalize w.drew = u at *
  refine lin_take 0 12 (v := ?_) rfl rfl (by kernel_rfl) (by kernel_rfl) (by kernel_rfl) (fun _ _ _ _ _ h => h) (by rfl) (fun W hW => ?_) ?_
  rotate_left
  · go_simp; try rfl
  try simp only [Act.put, List.setIfInBounds_toArray, List.set_cons_zero, List.set_cons_succ]
  refine lin_take 1 13 (v := ?_) rfl rfl (by kernel_rfl) (by kernel_rfl) (by kernel_rfl) (fun _ _ _ _ _ h => h) (by rfl) (fun W hW => ?_) ?_
  rotate_left
  · go_simp; try rfl
  try simp only [Act.put, List.setIfInBounds_toArray, List.set_cons_zero, List.set_cons_succ]
  refine lin_take 2 14 (v := ?_) rfl rfl (by kernel_rfl) (by kernel_rfl) (by kernel_rfl) (fun _ _ _ _ _ h => h) (by rfl) (fun W hW => ?_) ?_
  rotate_left
  · go_simp; try rfl
  try simp only [Act.put, List.setIfInBounds_toArray, List.set_cons_zero, List.set_cons_succ]
  refine lin_take 3 15 (v := ?_) rfl rfl (by kernel_rfl) (by kernel_rfl) (by kernel_rfl) (fun _ _ _ _ _ h => h) (by rfl) (fun W hW => ?_) ?_
  rotate_left
  · go_simp; try rfl
  try simp only [Act.put, List.setIfInBounds_toArray, List.set_cons_zero, List.set_cons_succ]
  refine lin_step 4 rfl (by kernel_rfl) (fun K hK => ?_)
  go_simp
  refine (HS.out _ hB).mono ?_
  rintro e w1 ⟨rfl, h1⟩
  refine hK.out _ _ h1 ?_
  clear hK K
  replace hB := btr hB h1
  clear h1
  refine lin_step 5 rfl (by kernel_rfl) (fun K hK => ?_)
  go_simp
  refine (fourbytes_any x hx _).mono ?_
  rintro e w2 ⟨v2, rfl, hy2, h2⟩
  refine hK.out _ _ h2 ?_
  clear hK K
  replace hB := btr hB h2
  clear h2
  refine lin_step 6 rfl (by kernel_rfl) (fun K hK => ?_)
  go_simp
  refine (HQ1.out _ _ hB hy2).mono ?_
  rintro e w3 ⟨rfl, h3⟩
  refine hK.out _ _ h3 ?_
  clear hK K
  replace hB := btr hB h3
  clear h3 hy2
  refine lin_take 7 19 (v := ?_) rfl rfl (by kernel_rfl) (by kernel_rfl) (by kernel_rfl) (fun _ _ _ _ _ h => h) (by rfl) (fun W hW => ?_) ?_
  rotate_left
  · go_simp; try rfl
  try simp only [Act.put, List.setIfInBounds_toArray, List.set_cons_zero, List.set_cons_succ]
  refine lin_done (by kernel_rfl) ?_
  cases s1 with
  | false =>
    obtain ⟨rfl, rfl, rfl⟩ := HE1.out rfl
    go_wp2
    go_ret3
    exact ⟨_, rfl, Byts.none _, hB⟩
  | true =>
  go_wp2_with fail
  refine lin_start 6 rfl (by kernel_rfl) ?_
  replace hB := hB.drew
  generalize w3.drew = u2 at *
  refine lin_take 0 20 (v := ?_) rfl rfl (by kernel_rfl) (by kernel_rfl) (by kernel_rfl) (fun _ _ _ _ _ h => h) (by rfl) (fun W hW => ?_) ?_
  rotate_left
  · go_simp; try rfl
  try simp only [Act.put, List.setIfInBounds_toArray, List.set_cons_zero, List.set_cons_succ]
  refine lin_take 1 21 (v := ?_) rfl rfl (by kernel_rfl) (by kernel_rfl) (by kernel_rfl) (fun _ _ _ _ _ h => h) (by rfl) (fun W hW => ?_) ?_
  rotate_left
  · go_simp; try rfl
  try simp only [Act.put, List.setIfInBounds_toArray, List.set_cons_zero, List.set_cons_succ]
  refine lin_take 2 22 (v := ?_) rfl rfl (by kernel_rfl) (by kernel_rfl) (by kernel_rfl) (fun _ _ _ _ _ h => h) (by rfl) (fun W hW => ?_) ?_
  rotate_left
  · go_simp; try rfl
  try simp only [Act.put, List.setIfInBounds_toArray, List.set_cons_zero, List.set_cons_succ]
  refine lin_step 3 rfl (by kernel_rfl) (fun K hK => ?_)
  go_simp
  refine (fourbytes_any n hn _).mono ?_
  rintro e w4 ⟨v4, rfl, hy4, h4⟩
  refine hK.out _ _ h4 ?_
  clear hK K
  replace hB := btr hB h4
  clear h4
  refine lin_step 4 rfl (by kernel_rfl) (fun K hK => ?_)
  go_simp
  refine (HQ2.out _ _ hB hy4).mono ?_
  rintro e w5 ⟨rfl, h5⟩
  refine hK.out _ _ h5 ?_
  clear hK K
  replace hB := btr hB h5
  clear h5 hy4
  refine lin_take 5 25 (v := ?_) rfl rfl (by kernel_rfl) (by kernel_rfl) (by kernel_rfl) (fun _ _ _ _ _ h => h) (by rfl) (fun W hW => ?_) ?_
  rotate_left
  · go_simp; try rfl
  try simp only [Act.put, List.setIfInBounds_toArray, List.set_cons_zero, List.set_cons_succ]
  refine lin_done (by kernel_rfl) ?_
  cases s2 with
  | false =>
    obtain ⟨rfl, rfl, rfl⟩ := HE2.out (by first | rfl | trivial) rfl
    go_wp2
    go_ret3
    exact ⟨_, rfl, Byts.none _, hB⟩
  | true =>
  have HV5 := Lib.hid (HV.out.below hB)
  have c8 := HV5.out.cell 8 (by omega)
  have c9 := HV5.out.cell 9 (by omega)
  have c10 := HV5.out.cell 10 (by omega)
  have c11 := HV5.out.cell 11 (by omega)
  rw [E8.out] at c8
  rw [E9.out] at c9
  rw [E10.out] at c10
  rw [E11.out] at c11
  have hor := or_low64 a9 a10 h9 h10
  rw [hm] at hor
  go_wp2_with fail
  go_quiet (fail)
  have hBn := bdn hB nq
  have HVn := Lib.hid (HV5.out.below (bdn (Below.refl _ _) nq))
  have c8n : (w5.drewN nq).cell? ⟨b0, off + 8, none⟩ = some (.int .u8 ((a8.toNat : Nat) : Int)) := c8
  have c11n : (w5.drewN nq).cell? ⟨b0, off + 11, none⟩ = some (.int .u8 (a11 : Int)) := c11
  clear hB HV5 c8 c9 c10 c11 hor
  generalize w5.drewN nq = w6 at *
  by_cases k11 : a11 = 0
  · have ka : ((a11 : Int) != 0) = false := by rw [bne_eq_false_iff_eq]; omega
    by_cases km : m ≤ 500
    · have kd : decide ((500 : Int) < (m : Int)) = false := by simp; omega
      have HN2 := Lib.hid (HN.out km)
      clear HN
      have HLn := Lib.hid HVn.out.len
      have HCS : Hid (∃ cs, cs = bvs ((l.drop 12).take m)) := ⟨_, rfl⟩
      by_cases kc : c = 12 + m
      · have HW : Hid (Byts w6 (.slice (some ⟨b0, off, none⟩) (512 - (12 + m)) 0) (l.drop (12 + m))) := by
          have e1 : 512 - (12 + m) = 0 := by omega
          have hl := HLn.out
          rw [e1, List.drop_eq_nil_of_le (by omega)]
          exact Byts.empty _ _ _
        go_wp2_with fail
        refine (HN2.out w6 _ hBn HW.out).mono ?_
        clear HW
        rintro e w7 ⟨rfl, h7⟩
        have hB7 := btr hBn h7
        have HV7 := Lib.hid (HVn.out.below h7)
        have c8' := kept c8n h7
        clear h7 HVn c8n c11n hBn HN2
        cases s3 with
        | false =>
          obtain ⟨rfl, rfl, rfl⟩ := HE3.out (by first | rfl | trivial) (by first | rfl | trivial) (.inr (.inr rfl))
          go_wp2
          go_ret3
          exact ⟨_, rfl, Byts.none _, hB7⟩
        | true =>
        obtain ⟨rfl, hBB, rfl⟩ := HE4.out (by first | rfl | trivial) (by first | rfl | trivial) k11 km (by first | rfl | trivial)
        have HBB := Lib.hid hBB
        clear hBB
        obtain ⟨cs, hcs⟩ := HCS.out
        have HCS2 := Lib.hid hcs
        clear hcs
        obtain ⟨i0, hi0, hz0, hz1, hz2⟩ := info_parts Tryd.info5
        go_wp2_with (first
          | (refine wpList_make_full _ rfl _ _ 29 rfl w7.heap.size 5 i0 _ 1 Tryd.underlying29 hi0 hz0 hz1 _ _ _ _ m rfl rfl ?l1 ?l2 ?l3 ?l4 ?l5 ?_)
          | go_in)
        case l1 => rfl
        case l2 => rfl
        case l3 => rw [hz2]; omega
        case l4 => unfold maxLen; omega
        case l5 => exact Nat.le_refl _
        intro w8 hown hgrow
        have hb8 : Below w7.heap.size w7 w8 := (Below.refl _ _).grown hgrow (Nat.le_refl _) (by intro g hg; cases hg)
        rw [made_zeros] at hown
        have HG := Lib.hid (own_heap hown)
        clear hown hgrow
        have hcl : cs.length = m := by
          rw [HCS2.out, bvs_length, List.length_take, List.length_drop, HLn.out]
          omega
        go_wp2_with (first
          | (refine wpList_copy_splice rfl _ _ 29 29 rfl 5 Tryd.underlying29 Tryd.sizeB _ _ _ _ _ _ rfl rfl w7.heap.size 0 _ 5 HG.out cs ?m1 ?m2 ?m3 ?m4 w7.heap.size w7 hb8 (Nat.le_refl _) ?_)
          | go_in)
        case m1 => rw [hcl]; exact (Nat.min_eq_right (by omega)).symm
        case m2 =>
          intro hpos j u hj
          have hjm : j < m := by rw [← hcl]; exact (List.getElem?_eq_some_iff.1 hj).1
          rw [HCS2.out] at hj
          have hjl : j < ((l.drop 12).take m).length := by rw [← bvs_length]; exact (List.getElem?_eq_some_iff.1 hj).1
          rw [bvs_get _ j hjl] at hj
          rw [← hj]
          have := (HV7.out.below hb8).cell (12 + j) (by omega)
          rw [Nat.add_assoc, this]
          have hl := HLn.out
          simp [List.getD, show 12 + j < l.length by omega]
        case m3 => rw [hcl, bvs_length]; simp
        case m4 => rw [HCS2.out]; exact bvs_one _
        intro w9 HG9 hb9
        have HG10 : Hid (w9.heap[w7.heap.size]? = some (.cells (bvs B).toArray 5 (0, 0))) := by
          have q := HG9.out
          rw [splice_whole _ _ (by rw [hcl, bvs_length]; simp), HCS2.out, ← HBB.out] at q
          exact q
        have HBL : Hid (B.length = m) := by
          show B.length = m
          rw [HBB.out, List.length_take, List.length_drop, HLn.out]
          omega
        have c8k := kept c8' hb9
        clear HG HG9 hb8 c8'
        have hB9 := btr hB7 hb9
        clear hb9
        go_wp2
        go_ret3
        refine ⟨_, rfl, ?_, hB9⟩
        have q := own_of (base := 0) (n := m) HG10.out (Nat.zero_le _) (by rw [bvs_length]; exact HBL.out) (by unfold maxLen; omega)
        refine Byts.own (base := 0) ?_
        rw [HBL.out]
        exact q
      · have HW : Hid (Byts w6 (.slice (some ⟨b0, off + (12 + m), none⟩) (512 - (12 + m)) (c - (12 + m))) (l.drop (12 + m))) := HVn.out.tail (12 + m) (by omega) _ (by omega)
        go_wp2_with fail
        refine (HN2.out w6 _ hBn HW.out).mono ?_
        clear HW
        rintro e w7 ⟨rfl, h7⟩
        have hB7 := btr hBn h7
        have HV7 := Lib.hid (HVn.out.below h7)
        have c8' := kept c8n h7
        clear h7 HVn c8n c11n hBn HN2
        cases s3 with
        | false =>
          obtain ⟨rfl, rfl, rfl⟩ := HE3.out (by first | rfl | trivial) (by first | rfl | trivial) (.inr (.inr rfl))
          go_wp2
          go_ret3
          exact ⟨_, rfl, Byts.none _, hB7⟩
        | true =>
        obtain ⟨rfl, hBB, rfl⟩ := HE4.out (by first | rfl | trivial) (by first | rfl | trivial) k11 km (by first | rfl | trivial)
        have HBB := Lib.hid hBB
        clear hBB
        obtain ⟨cs, hcs⟩ := HCS.out
        have HCS2 := Lib.hid hcs
        clear hcs
        obtain ⟨i0, hi0, hz0, hz1, hz2⟩ := info_parts Tryd.info5
        go_wp2_with (first
          | (refine wpList_make_full _ rfl _ _ 29 rfl w7.heap.size 5 i0 _ 1 Tryd.underlying29 hi0 hz0 hz1 _ _ _ _ m rfl rfl ?l1 ?l2 ?l3 ?l4 ?l5 ?_)
          | go_in)
        case l1 => rfl
        case l2 => rfl
        case l3 => rw [hz2]; omega
        case l4 => unfold maxLen; omega
        case l5 => exact Nat.le_refl _
        intro w8 hown hgrow
        have hb8 : Below w7.heap.size w7 w8 := (Below.refl _ _).grown hgrow (Nat.le_refl _) (by intro g hg; cases hg)
        rw [made_zeros] at hown
        have HG := Lib.hid (own_heap hown)
        clear hown hgrow
        have hcl : cs.length = m := by
          rw [HCS2.out, bvs_length, List.length_take, List.length_drop, HLn.out]
          omega
        go_wp2_with (first
          | (refine wpList_copy_splice rfl _ _ 29 29 rfl 5 Tryd.underlying29 Tryd.sizeB _ _ _ _ _ _ rfl rfl w7.heap.size 0 _ 5 HG.out cs ?m1 ?m2 ?m3 ?m4 w7.heap.size w7 hb8 (Nat.le_refl _) ?_)
          | go_in)
        case m1 => rw [hcl]; exact (Nat.min_eq_right (by omega)).symm
        case m2 =>
          intro hpos j u hj
          have hjm : j < m := by rw [← hcl]; exact (List.getElem?_eq_some_iff.1 hj).1
          rw [HCS2.out] at hj
          have hjl : j < ((l.drop 12).take m).length := by rw [← bvs_length]; exact (List.getElem?_eq_some_iff.1 hj).1
          rw [bvs_get _ j hjl] at hj
          rw [← hj]
          have := (HV7.out.below hb8).cell (12 + j) (by omega)
          rw [Nat.add_assoc, this]
          have hl := HLn.out
          simp [List.getD, show 12 + j < l.length by omega]
        case m3 => rw [hcl, bvs_length]; simp
        case m4 => rw [HCS2.out]; exact bvs_one _
        intro w9 HG9 hb9
        have HG10 : Hid (w9.heap[w7.heap.size]? = some (.cells (bvs B).toArray 5 (0, 0))) := by
          have q := HG9.out
          rw [splice_whole _ _ (by rw [hcl, bvs_length]; simp), HCS2.out, ← HBB.out] at q
          exact q
        have HBL : Hid (B.length = m) := by
          show B.length = m
          rw [HBB.out, List.length_take, List.length_drop, HLn.out]
          omega
        have c8k := kept c8' hb9
        clear HG HG9 hb8 c8'
        have hB9 := btr hB7 hb9
        clear hb9
        go_wp2
        go_ret3
        refine ⟨_, rfl, ?_, hB9⟩
        have q := own_of (base := 0) (n := m) HG10.out (Nat.zero_le _) (by rw [bvs_length]; exact HBL.out) (by unfold maxLen; omega)
        refine Byts.own (base := 0) ?_
        rw [HBL.out]
        exact q
    · have kd : decide ((500 : Int) < (m : Int)) = true := by simp; omega
      obtain ⟨rfl, rfl, rfl⟩ := HE3.out (by first | rfl | trivial) (by first | rfl | trivial) (.inr (.inl (by omega)))
      go_wp2
      go_ret3
      exact ⟨_, rfl, Byts.none _, hBn⟩
  · have ka : ((a11 : Int) != 0) = true := by rw [bne_iff_ne]; omega
    obtain ⟨rfl, rfl, rfl⟩ := HE3.out (by first | rfl | trivial) (by first | rfl | trivial) (.inl k11)
    go_wp2
    go_ret3
    exact ⟨_, rfl, Byts.none _, hBn⟩
theorem open_short (n : Int) (A : Option Addr) (len c : Nat) (hl : len ≠ 512) (w : World) :
    Calls Tryd.prog 18 #[.int .u32 n, .slice A len c] w fun e w' => ∃ v', e = .returned (.tuple #[.int .u8 0, v', .int .i64 1]) ∧ Byts w' v' [] ∧ Below w.heap.size w w' := by
  have hb : ((len : Int) != 512) = true := by rw [bne_iff_ne]; omega
  go_enter Tryd.func18, Tryd.ntmps18
  go_wp2
  go_ret3
  exact ⟨_, rfl, Byts.none _, Below.refl _ _⟩
theorem open_any (n : Nat) (hn : n < 4294967296) (v : Value) (l : List UInt8) (w : World) (h : Byts w v l) (hT : Tab w) :
    Calls Tryd.prog 18 #[.int .u32 (n : Int), v] w fun e w' => ∃ v', e = .returned (.tuple #[.int .u8 (((G.openK n l).toNat : Nat) : Int), v', .int .i64 ((G.openE n l : Nat) : Int)]) ∧ Byts w' v' (G.openB n l) ∧ Below w.heap.size w w' := by
  obtain ⟨A, c, rfl⟩ := h.form
  by_cases hl : l.length = 512
  · rw [hl] at h ⊢
    obtain ⟨b0, off, hc, rfl⟩ : ∃ b0 off, 512 ≤ c ∧ A = some ⟨b0, off, none⟩ := by
      obtain ⟨A', c', e, hc, q⟩ := h
      obtain ⟨b, off, e2, _⟩ := q (by omega)
      simp only [Value.slice.injEq] at e
      exact ⟨b, off, by omega, e.1.trans e2⟩
    have hd : (l.drop 4).length ≤ 1000000 := by rw [List.length_drop]; omega
    have h4 : Byts w (.slice (some ⟨b0, off, none⟩) 4 c) (l.take 4) := by
      have := h.part 0 4 (by omega) (by omega) c (by omega)
      simpa using this
    have h8 : Byts w (.slice (some ⟨b0, off + 4, none⟩) 4 (c - 4)) ((l.drop 4).take 4) := h.part 4 8 (by omega) (by omega) (c - 4) (by omega)
    have ht : Byts w (.slice (some ⟨b0, off + 4, none⟩) 508 (c - 4)) (l.drop 4) := h.tail 4 (by omega) (c - 4) (by omega)
    have e1 : l.take 4 ≠ G.four (crc 0 (l.drop 4)) → G.openE n l = 8 := fun k => by unfold G.openE; rw [if_neg (by simpa using hl), if_pos k]
    have e2 : l.take 4 = G.four (crc 0 (l.drop 4)) → (l.drop 4).take 4 ≠ G.four n → G.openE n l = 4 := fun k k2 => by unfold G.openE; rw [if_neg (by simpa using hl), if_neg (by simpa using k), if_pos k2]
    have e3 : l.take 4 = G.four (crc 0 (l.drop 4)) → (l.drop 4).take 4 = G.four n → (l.getD 11 0 ≠ 0 ∨ 500 < G.len l ∨ G.zeros (l.drop (12 + G.len l)) = false) → G.openE n l = 2 := fun k k2 k3 => by
      unfold G.openE
      rw [if_neg (by simpa using hl), if_neg (by simpa using k), if_neg (by simpa using k2), if_pos k3]
    have ko : G.openE n l ≠ 0 → G.openK n l = 0 ∧ G.openB n l = [] := G.open_no n l
    refine open_core n b0 off c (crc 0 (l.drop 4)) (G.len l) l (G.openB n l) (G.openK n l) (l.getD 8 0) _ (decide (l.take 4 = G.four (crc 0 (l.drop 4)))) (decide ((l.drop 4).take 4 = G.four n)) (G.zeros (l.drop (12 + G.len l))) _ _ _ w hc hn (C.crc_lt _ (by omega)) (C.u8_lt _) (C.u8_lt _) rfl h rfl rfl rfl rfl
      (fun W hB => same_below (sum_any _ _ W (ht.below hB) hd (hT.below hB))) (fun W v hB hv => same_below (equal_any _ _ _ _ W (h4.below hB) hv)) (fun W v hB hv => same_below (equal_any _ _ _ _ W (h8.below hB) hv))
      (fun hm W v hB hv => same_below (noughts_any v _ W hv (by rw [List.length_drop]; omega))) ?_ ?_ ?_ ?_
    · intro k
      have k1 := e1 (of_decide_eq_false k)
      exact ⟨(ko (by omega)).1, (ko (by omega)).2, by rw [k1]; rfl⟩
    · intro k k2
      have k1 := e2 (of_decide_eq_true k) (of_decide_eq_false k2)
      exact ⟨(ko (by omega)).1, (ko (by omega)).2, by rw [k1]; rfl⟩
    · intro k k2 k3
      have k1 := e3 (of_decide_eq_true k) (of_decide_eq_true k2) (k3.imp (fun q1 q2 => q1 (by rw [q2]; rfl)) id)
      exact ⟨(ko (by omega)).1, (ko (by omega)).2, by rw [k1]; rfl⟩
    · intro k k2 k3 k4 k5
      have k1 := (G.openE_zero n l).2 ⟨hl, of_decide_eq_true k, of_decide_eq_true k2, UInt8.toNat_inj.1 k3, k4, k5⟩
      exact ⟨if_pos k1, if_pos k1, by rw [k1]; rfl⟩
  · have e1 : G.openE n l = 1 := by unfold G.openE; rw [if_pos hl]
    have ko := G.open_no n l (by omega)
    rw [e1, ko.1, ko.2]
    exact open_short _ A _ c hl w
end Go.Proofs.YtbffpgndjbpifaaDoor
