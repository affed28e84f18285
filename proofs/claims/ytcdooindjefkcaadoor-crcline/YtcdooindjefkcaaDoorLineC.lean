/- The walk of the law CrcLine. -/
import Derived.Test.YtcdooindjefkcaaDoorPartsC
import Derived.StillTailTactics
import Derived.Laws.Cover1
namespace Go.Proofs.YtcdooindjefkcaaDoor
open Go.RowKit
open C (crc)

/-- The first bytes of a slice. -/
theorem Byts.cut {w : World} {A : Option Addr} {k c n : Nat} {l : List UInt8} (h : Byts w (.slice A k c) l) (hn : n ≤ k) : Byts w (.slice A n c) (l.take n) := by
  obtain ⟨A', c', e, hc, q⟩ := h
  cases e
  have hl : (l.take n).length = n := by simp; omega
  refine ⟨A, c, by rw [hl], by rw [hl]; omega, fun hp => ?_⟩
  rw [hl] at hp
  obtain ⟨b, off, e, r⟩ := q (by omega)
  refine ⟨b, off, e, fun j hj => ?_⟩
  rw [hl] at hj
  rw [r j (by omega)]
  simp
/-- The j-th byte of a slice. -/
theorem Byts.at {w : World} {A : Option Addr} {k c : Nat} {l : List UInt8} (h : Byts w (.slice A k c) l) (j : Nat) (hj : j < k) :
    ∃ b off, A = some ⟨b, off, Option.none⟩ ∧ w.cell? ⟨b, off + j, Option.none⟩ = some (.int .u8 (((l.getD j 0).toNat : Nat) : Int)) := by
  obtain ⟨A', c', e, hc, q⟩ := h
  cases e
  obtain ⟨b, off, e, r⟩ := q (by omega)
  refine ⟨b, off, e, ?_⟩
  rw [r j hj]
  simp [List.getD, hj]
theorem run_cut (A : Option Addr) (k c n : Nat) (hn : n ≤ c) (W : World) : (Instr.slice 22 (.slice A k c) none (some (.int .i64 (n : Int))) none).run Tryd.prog W = .ok (.slice A n c) W := by
  rw [run_slice_h (w := W) 22 A k c Tryd.underlying22 .i64 (n : Int) (by omega) (by omega)]
  have e : (sizeOf (Tryd.prog.elem 22)).run Tryd.prog W = .ok 1 W := by kernel_rfl
  rw [e]
  simp only [Result.andThen, sliced, Nat.zero_mul, Int.toNat_natCast, Nat.sub_zero]
  congr 2
  split
  · rfl
  · cases A with
    | none => rfl
    | some a => simp [Addr.add]
/-- What is told behind j rounds: the first j bytes are made one. -/
def LineInv (a b c d : List UInt8) (n j : Nat) : Prop := d.length = n ∧ ∀ i, i < j → d.getD i 0 = a.getD i 0 ^^^ b.getD i 0 ^^^ c.getD i 0
theorem LineInv.step {a b c d : List UInt8} {n j : Nat} (h : LineInv a b c d n j) (hj : j < n) : LineInv a b c (d.set j (a.getD j 0 ^^^ b.getD j 0 ^^^ c.getD j 0)) n (j + 1) := by
  refine ⟨by simpa using h.1, fun i hi => ?_⟩
  by_cases e : i = j
  · subst e
    simp [List.getD, h.1, hj]
  · have := h.2 i (by omega)
    rw [← this]
    simp [List.getD, show ¬ j = i by omega]

set_option maxHeartbeats 3200000 in
set_option maxRecDepth 100000 in
theorem line_core (A1 A2 A3 : Option Addr) (k1 c1 k2 c2 k3 c3 n : Nat) (l1 l2 l3 : List UInt8) (hk1 : k1 ≤ 500) (hk2 : k2 ≤ 500) (hk3 : k3 ≤ 500) (h1 : n ≤ k1) (h2 : n ≤ k2) (h3 : n ≤ k3)
    (hc1 : k1 ≤ c1) (hc2 : k2 ≤ c2) (hc3 : k3 ≤ c3) (hmin : ∀ (ts : Array TypeId) (ty : TypeId) (W : World), (Builtin.min_ ts ty #[.int .i64 (k1 : Int), .int .i64 (k2 : Int), .int .i64 (k3 : Int)]).run Tryd.prog W = .ok (.int .i64 (n : Int)) W) (z1 z2 z3 z12 z : Int) (w : World)
    (hx1 : bits .xor .u32 z1 z2 = z12) (hx2 : bits .xor .u32 z12 z3 = z)
    (QA : Hid (Byts w (.slice A1 k1 c1) l1)) (QB : Hid (Byts w (.slice A2 k2 c2) l2)) (QC : Hid (Byts w (.slice A3 k3 c3) l3))
    (HF : Hid (∀ W : World, Below w.heap.size w W → Calls Tryd.prog 7 #[] W fun e w' => e = .returned (.bool true) ∧ Below W.heap.size W w'))
    (HO : Hid (∀ (W : World) (v : Value) (d : List UInt8), Below w.heap.size w W → Byts W v d → LineInv l1 l2 l3 d n n → Calls Tryd.prog 8 #[v] W fun e w' => e = .returned (.int .u32 z) ∧ Below W.heap.size W w'))
    (S1 : Hid (∀ W : World, Below w.heap.size w W → Calls Tryd.prog 8 #[.slice A1 n c1] W fun e w' => e = .returned (.int .u32 z1) ∧ Below W.heap.size W w'))
    (S2 : Hid (∀ W : World, Below w.heap.size w W → Calls Tryd.prog 8 #[.slice A2 n c2] W fun e w' => e = .returned (.int .u32 z2) ∧ Below W.heap.size W w'))
    (S3 : Hid (∀ W : World, Below w.heap.size w W → Calls Tryd.prog 8 #[.slice A3 n c3] W fun e w' => e = .returned (.int .u32 z3) ∧ Below W.heap.size W w')) :
    Calls Tryd.prog 6 #[.slice A1 k1 c1, .slice A2 k2 c2, .slice A3 k3 c3] w fun e w' => e = .returned (.bool true) ∧ Below w.heap.size w w' := by
  obtain ⟨i0, hi0, hz0, hz1, hz2⟩ := info_parts Tryd.info5
  have hd1 : decide ((500 : Int) < (k1 : Int)) = false := by simp; omega
  have hd2 : decide ((500 : Int) < (k2 : Int)) = false := by simp; omega
  have hd3 : decide ((500 : Int) < (k3 : Int)) = false := by simp; omega
  go_enter Tryd.func6, Tryd.ntmps6
  go_wp2_with (first
    | (refine wpList_make_full _ rfl _ _ 22 rfl w.heap.size 5 i0 _ 1 Tryd.underlying22 hi0 hz0 hz1 _ _ _ _ n rfl rfl ?m1 ?m2 ?m3 ?m4 ?m5 ?_)
    | go_in)
  case m1 => rfl
  case m2 => rfl
  case m3 => rw [hz2]; omega
  case m4 => unfold maxLen; omega
  case m5 => exact Nat.le_refl _
  intro w1 hown hgrow
  have hB : Below w.heap.size w w1 := (Below.refl _ _).grown hgrow (Nat.le_refl _) (by intro g hg; cases hg)
  rw [made_zeros] at hown
  have HOWN := Lib.hid hown
  clear hgrow hown hmin hd1 hd2 hd3
  go_wp2
  go_loopw [34] (fun i wr => ∃ (j : Nat) (d : List UInt8), j ≤ n ∧ i = .int .i64 (j : Int) ∧ Hid (LineInv l1 l2 l3 d n j) ∧ wr.ownsRow w.heap.size 5 1 (.slice (some ⟨w.heap.size, 0, none⟩) n n) n (bvs d) ∧ Below w.heap.size w wr) (fun i _ => n - (intOf i).toNat)
  case atStart => exact ⟨0, List.replicate n 0, by omega, rfl, ⟨by simp, fun i hi => by omega⟩, HOWN.out, hB⟩
  case round =>
    obtain ⟨j, d, hj, rfl, HI, hown, hB⟩ := hrel
    clear HOWN
    by_cases hlt : j < n
    · obtain ⟨b1, o1, rfl, a1⟩ := (QA.out.below hB).at j (by omega)
      obtain ⟨b2, o2, rfl, a2⟩ := (QB.out.below hB).at j (by omega)
      obtain ⟨b3, o3, rfl, a3⟩ := (QC.out.below hB).at j (by omega)
      have HI2 := Lib.hid (HI.out.step hlt)
      have x1 := u8_xor_nat (l1.getD j 0).toNat (l2.getD j 0).toNat (C.u8_lt _) (C.u8_lt _)
      rw [← UInt8.toNat_xor] at x1
      have x2 := u8_xor_nat (l1.getD j 0 ^^^ l2.getD j 0).toNat (l3.getD j 0).toNat (C.u8_lt _) (C.u8_lt _)
      rw [← UInt8.toNat_xor] at x2
      have fy := hown.frozenAt j
      have cy := hown.cellAt j (by omega)
      obtain ⟨q0, hq0⟩ : ∃ q0 : Nat, (bvs d)[j]? = some (.int .u8 (q0 : Int)) := ⟨_, bvs_get d j (by rw [HI.out.1]; exact hlt)⟩
      rw [hq0] at cy
      clear hq0
      have HN := Lib.hid ((hown.stored j (.int .u8 (((l1.getD j 0 ^^^ l2.getD j 0 ^^^ l3.getD j 0).toNat : Nat) : Int))).1)
      rw [← bvs_set] at HN
      generalize d.set j (l1.getD j 0 ^^^ l2.getD j 0 ^^^ l3.getD j 0) = d' at *
      generalize (l1.getD j 0 ^^^ l2.getD j 0 ^^^ l3.getD j 0).toNat = y at *
      generalize (l1.getD j 0 ^^^ l2.getD j 0).toNat = y2 at *
      generalize (l1.getD j 0).toNat = q1 at *
      generalize (l2.getD j 0).toNat = q2 at *
      generalize (l3.getD j 0).toNat = q3 at *
      clear hown HI QA QB QC HF HO S1 S2 S3 hx1 hx2
      go_wp2
      go_region
      go_wp2
      refine ⟨⟨j + 1, d', by omega, by go_num, HI2, HN.out.drew, (hB.setCell (Nat.le_refl _) _).drew⟩, by simp [intOf]; omega⟩
    · obtain rfl : j = n := by omega
      have HBY := Lib.hid (Byts.own (by rw [HI.out.1]; exact hown))
      have SD : Hid (∀ (W : World), Below wr.heap.size wr W → Calls Tryd.prog 8 #[.slice (some ⟨w.heap.size, 0, none⟩) j j] W fun e w' => e = .returned (.int .u32 z) ∧ Below W.heap.size W w') :=
        fun W hW => HO.out W _ d (btr hB hW) (HBY.out.below hW) HI.out
      replace HF : Hid (∀ W : World, Below wr.heap.size wr W → Calls Tryd.prog 7 #[] W fun e w' => e = .returned (.bool true) ∧ Below W.heap.size W w') := fun W hW => HF.out W (btr hB hW)
      replace S1 : Hid (∀ W : World, Below wr.heap.size wr W → Calls Tryd.prog 8 #[.slice A1 j c1] W fun e w' => e = .returned (.int .u32 z1) ∧ Below W.heap.size W w') := fun W hW => S1.out W (btr hB hW)
      replace S2 : Hid (∀ W : World, Below wr.heap.size wr W → Calls Tryd.prog 8 #[.slice A2 j c2] W fun e w' => e = .returned (.int .u32 z2) ∧ Below W.heap.size W w') := fun W hW => S2.out W (btr hB hW)
      replace S3 : Hid (∀ W : World, Below wr.heap.size wr W → Calls Tryd.prog 8 #[.slice A3 j c3] W fun e w' => e = .returned (.int .u32 z3) ∧ Below W.heap.size W w') := fun W hW => S3.out W (btr hB hW)
      have HB := Lib.hid hB
      clear hown HI HBY QA QB QC HO hB
      go_wp2_with fail
      refine lin_start 21 rfl (by kernel_rfl) ?_
      have hR : Below wr.heap.size wr wr.drew := (Below.refl _ _).drew
      generalize wr.drew = u at *
      refine lin_step 0 rfl (by kernel_rfl) (fun K hK => ?_)
      go_simp
      refine (HF.out _ hR).mono ?_
      rintro e u1 ⟨rfl, h2⟩
      refine hK.out _ _ h2 ?_
      clear hK K
      replace hR := btr hR h2
      clear h2
      refine lin_take 1 56 (v := ?_) rfl rfl (by kernel_rfl) (by kernel_rfl) (by kernel_rfl) (fun _ _ _ _ _ h => h) (by rfl) (fun W hW => ?_) ?_
      rotate_left
      · go_simp; try rfl
      try simp only [Act.put, List.setIfInBounds_toArray, List.set_cons_zero, List.set_cons_succ]
      refine lin_take 2 57 (v := ?_) rfl rfl (by kernel_rfl) (by kernel_rfl) (by kernel_rfl) (fun _ _ _ _ _ h => h) (by rfl) (fun W hW => ?_) ?_
      rotate_left
      · go_simp; try rfl
      try simp only [Act.put, List.setIfInBounds_toArray, List.set_cons_zero, List.set_cons_succ]
      refine lin_take 3 58 (v := ?_) rfl rfl (by kernel_rfl) (by kernel_rfl) (by kernel_rfl) (fun _ _ _ _ _ h => h) (by rfl) (fun W hW => ?_) ?_
      rotate_left
      · go_simp; try rfl
      try simp only [Act.put, List.setIfInBounds_toArray, List.set_cons_zero, List.set_cons_succ]
      refine lin_take 4 59 (v := .slice A1 j c1) rfl rfl (by kernel_rfl) (by kernel_rfl) (by kernel_rfl) (fun _ _ _ _ _ h => h) (by rfl) (fun W hW => ?_) ?_
      · have q1 := run_cut A1 k1 c1 j (by omega) W; go_simp; try rfl
      try simp only [Act.put, List.setIfInBounds_toArray, List.set_cons_zero, List.set_cons_succ]
      refine lin_take 6 61 (v := ?_) rfl rfl (by kernel_rfl) (by kernel_rfl) (by kernel_rfl) (fun _ _ _ _ _ h => h) (by rfl) (fun W hW => ?_) ?_
      rotate_left
      · go_simp; try rfl
      try simp only [Act.put, List.setIfInBounds_toArray, List.set_cons_zero, List.set_cons_succ]
      refine lin_take 7 62 (v := ?_) rfl rfl (by kernel_rfl) (by kernel_rfl) (by kernel_rfl) (fun _ _ _ _ _ h => h) (by rfl) (fun W hW => ?_) ?_
      rotate_left
      · go_simp; try rfl
      try simp only [Act.put, List.setIfInBounds_toArray, List.set_cons_zero, List.set_cons_succ]
      refine lin_take 8 63 (v := .slice A2 j c2) rfl rfl (by kernel_rfl) (by kernel_rfl) (by kernel_rfl) (fun _ _ _ _ _ h => h) (by rfl) (fun W hW => ?_) ?_
      · have q1 := run_cut A2 k2 c2 j (by omega) W; go_simp; try rfl
      try simp only [Act.put, List.setIfInBounds_toArray, List.set_cons_zero, List.set_cons_succ]
      refine lin_take 11 66 (v := ?_) rfl rfl (by kernel_rfl) (by kernel_rfl) (by kernel_rfl) (fun _ _ _ _ _ h => h) (by rfl) (fun W hW => ?_) ?_
      rotate_left
      · go_simp; try rfl
      try simp only [Act.put, List.setIfInBounds_toArray, List.set_cons_zero, List.set_cons_succ]
      refine lin_take 12 67 (v := ?_) rfl rfl (by kernel_rfl) (by kernel_rfl) (by kernel_rfl) (fun _ _ _ _ _ h => h) (by rfl) (fun W hW => ?_) ?_
      rotate_left
      · go_simp; try rfl
      try simp only [Act.put, List.setIfInBounds_toArray, List.set_cons_zero, List.set_cons_succ]
      refine lin_take 13 68 (v := .slice A3 j c3) rfl rfl (by kernel_rfl) (by kernel_rfl) (by kernel_rfl) (fun _ _ _ _ _ h => h) (by rfl) (fun W hW => ?_) ?_
      · have q1 := run_cut A3 k3 c3 j (by omega) W; go_simp; try rfl
      try simp only [Act.put, List.setIfInBounds_toArray, List.set_cons_zero, List.set_cons_succ]
      refine lin_take 16 71 (v := ?_) rfl rfl (by kernel_rfl) (by kernel_rfl) (by kernel_rfl) (fun _ _ _ _ _ h => h) (by rfl) (fun W hW => ?_) ?_
      rotate_left
      · go_simp; try rfl
      try simp only [Act.put, List.setIfInBounds_toArray, List.set_cons_zero, List.set_cons_succ]
      refine lin_step 5 rfl (by kernel_rfl) (fun K hK => ?_)
      go_simp
      refine (S1.out _ hR).mono ?_
      rintro e u2 ⟨rfl, h3⟩
      refine hK.out _ _ h3 ?_
      clear hK K
      replace hR := btr hR h3
      clear h3
      refine lin_step 9 rfl (by kernel_rfl) (fun K hK => ?_)
      go_simp
      refine (S2.out _ hR).mono ?_
      rintro e u3 ⟨rfl, h4⟩
      refine hK.out _ _ h4 ?_
      clear hK K
      replace hR := btr hR h4
      clear h4
      refine lin_take 10 65 (v := ?_) rfl rfl (by kernel_rfl) (by kernel_rfl) (by kernel_rfl) (fun _ _ _ _ _ h => h) (by rfl) (fun W hW => ?_) ?_
      rotate_left
      · go_simp; try rfl
      try simp only [Act.put, List.setIfInBounds_toArray, List.set_cons_zero, List.set_cons_succ]
      refine lin_step 14 rfl (by kernel_rfl) (fun K hK => ?_)
      go_simp
      refine (S3.out _ hR).mono ?_
      rintro e u4 ⟨rfl, h5⟩
      refine hK.out _ _ h5 ?_
      clear hK K
      replace hR := btr hR h5
      clear h5
      refine lin_take 15 70 (v := ?_) rfl rfl (by kernel_rfl) (by kernel_rfl) (by kernel_rfl) (fun _ _ _ _ _ h => h) (by rfl) (fun W hW => ?_) ?_
      rotate_left
      · go_simp; try rfl
      try simp only [Act.put, List.setIfInBounds_toArray, List.set_cons_zero, List.set_cons_succ]
      refine lin_step 17 rfl (by kernel_rfl) (fun K hK => ?_)
      go_simp
      refine (SD.out _ hR).mono ?_
      rintro e u5 ⟨rfl, h6⟩
      refine hK.out _ _ h6 ?_
      clear hK K
      replace hR := btr hR h6
      clear h6
      refine lin_take 18 73 (v := ?_) rfl rfl (by kernel_rfl) (by kernel_rfl) (by kernel_rfl) (fun _ _ _ _ _ h => h) (by rfl) (fun W hW => ?_) ?_
      rotate_left
      · go_simp; try rfl
      try simp only [Act.put, List.setIfInBounds_toArray, List.set_cons_zero, List.set_cons_succ]
      refine lin_take 19 74 (v := ?_) rfl rfl (by kernel_rfl) (by kernel_rfl) (by kernel_rfl) (fun _ _ _ _ _ h => h) (by rfl) (fun W hW => ?_) ?_
      rotate_left
      · go_simp; try rfl
      try simp only [Act.put, List.setIfInBounds_toArray, List.set_cons_zero, List.set_cons_succ]
      refine lin_take 20 6 (v := ?_) rfl rfl (by kernel_rfl) (by kernel_rfl) (by kernel_rfl) (fun _ _ _ _ _ h => h) (by rfl) (fun W hW => ?_) ?_
      rotate_left
      · go_simp; try rfl
      try simp only [Act.put, List.setIfInBounds_toArray, List.set_cons_zero, List.set_cons_succ]
      refine lin_done (by kernel_rfl) ?_
      go_wp2
      go_ret
      exact ⟨rfl, btr HB.out hR⟩

theorem line_big (A1 A2 A3 : Option Addr) (k1 c1 k2 c2 k3 c3 : Nat) (h : 500 < k1 ∨ (k1 ≤ 500 ∧ 500 < k2) ∨ (k1 ≤ 500 ∧ k2 ≤ 500 ∧ 500 < k3)) (w : World) (hT : Tab w) :
    Calls Tryd.prog 6 #[.slice A1 k1 c1, .slice A2 k2 c2, .slice A3 k3 c3] w fun e w' => e = .returned (.bool true) ∧ Below w.heap.size w w' := by
  have HF := Lib.hid (fixed_any w hT)
  clear hT
  rcases h with h | ⟨h, h2⟩ | ⟨h, h2, h3⟩
  all_goals
    go_enter Tryd.func6, Tryd.ntmps6
    go_wp2_with fail
    refine HF.out.mono ?_
    rintro e w4 ⟨rfl, h4⟩
    go_wp2
    go_ret
    exact ⟨rfl, h4⟩

theorem min3 (k1 k2 k3 : Nat) (ts : Array TypeId) (ty : TypeId) (W : World) : (Builtin.min_ ts ty #[.int .i64 (k1 : Int), .int .i64 (k2 : Int), .int .i64 (k3 : Int)]).run Tryd.prog W = .ok (.int .i64 ((min k1 (min k2 k3) : Nat) : Int)) W := by
  rw [run_min_int3]
  congr 2
  split <;> split <;> omega

theorem linelaw_any (v1 v2 v3 : Value) (l1 l2 l3 : List UInt8) (w : World) (b1 : Byts w v1 l1) (b2 : Byts w v2 l2) (b3 : Byts w v3 l3) (hT : Tab w) :
    Calls Tryd.prog 6 #[v1, v2, v3] w fun e w' => e = .returned (.bool true) ∧ Below w.heap.size w w' := by
  obtain ⟨A1, c1, rfl⟩ := b1.form
  obtain ⟨A2, c2, rfl⟩ := b2.form
  obtain ⟨A3, c3, rfl⟩ := b3.form
  by_cases h : l1.length ≤ 500 ∧ l2.length ≤ 500 ∧ l3.length ≤ 500
  · obtain ⟨h1, h2, h3⟩ := h
    have q1 : l1.length ≤ c1 := by obtain ⟨_, _, e, q, _⟩ := b1; cases e; exact q
    have q2 : l2.length ≤ c2 := by obtain ⟨_, _, e, q, _⟩ := b2; cases e; exact q
    have q3 : l3.length ≤ c3 := by obtain ⟨_, _, e, q, _⟩ := b3; cases e; exact q
    have m3 := min3 l1.length l2.length l3.length
    obtain ⟨n, hn⟩ : ∃ n, n = min l1.length (min l2.length l3.length) := ⟨_, rfl⟩
    rw [← hn] at m3
    have e1 : (l1.take n).length = n := by simp; omega
    have e2 : (l2.take n).length = n := by simp; omega
    have e3 : (l3.take n).length = n := by simp; omega
    have g : ∀ (l : List UInt8) (j : Nat), j < n → (l.take n).getD j 0 = l.getD j 0 := fun l j hj => by simp [List.getD, hj]
    have lt1 := C.crc_lt (s := 0) (l1.take n) (by omega)
    have lt2 := C.crc_lt (s := 0) (l2.take n) (by omega)
    have lt3 := C.crc_lt (s := 0) (l3.take n) (by omega)
    refine line_core A1 A2 A3 l1.length c1 l2.length c2 l3.length c3 n l1 l2 l3 h1 h2 h3 (by omega) (by omega) (by omega) q1 q2 q3 m3 _ _ _ _ _ w
      (u32_xor_nat _ _ lt1 lt2) (u32_xor_nat _ _ (Nat.xor_lt_two_pow (n := 32) (by omega) (by omega)) lt3) b1 b2 b3 (fun W hB => fixed_any W (hT.below hB))
      (fun W v d hB hv hI => ?_)
      (fun W hB => same_below (sum_any _ (l1.take n) W ((b1.below hB).cut (by omega)) (by omega) (hT.below hB)))
      (fun W hB => same_below (sum_any _ (l2.take n) W ((b2.below hB).cut (by omega)) (by omega) (hT.below hB)))
      (fun W hB => same_below (sum_any _ (l3.take n) W ((b3.below hB).cut (by omega)) (by omega) (hT.below hB)))
    have e := C.line (l1.take n) (l2.take n) (l3.take n) d (by omega) (by omega) (by rw [hI.1]; omega) (fun j hj => by rw [e1] at hj; rw [g l1 j hj, g l2 j hj, g l3 j hj]; exact hI.2 j hj)
    rw [e]
    exact same_below (sum_any v d W hv (by rw [hI.1]; omega) (hT.below hB))
  · exact line_big A1 A2 A3 _ c1 _ c2 _ c3 (by omega) w hT
end Go.Proofs.YtcdooindjefkcaaDoor
