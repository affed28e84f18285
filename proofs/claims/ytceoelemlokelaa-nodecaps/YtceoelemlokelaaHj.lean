/- node.Place and Kid: where a key stands. -/
import Derived.Test.YtceoelemlokelaaHi
import Derived.Laws.EntriesVeiled
namespace Go.Proofs.Ytceoelemlokelaa
open Go.RowKit
open Lib (compareBytes)

/-- What the closures read: the function that tells how keys stand to one, and that one. -/
structure Stn (w : World) (b bt : Nat) (xv : Value) (key : List UInt8) : Prop where
  fn : w.cell? ⟨b, 0, none⟩ = some (.func (Fn.func 44) #[] #[.pointer (some ⟨bt, 0, none⟩)])
  one : w.cell? ⟨bt, 0, none⟩ = some xv
  byts : Byts w xv key
theorem Stn.below {w w1 : World} {b bt : Nat} {xv : Value} {key : List UInt8} (h : Stn w b bt xv key) (k : Below w.heap.size w w1) : Stn w1 b bt xv key := ⟨kept h.fn k, kept h.one k, h.byts.below k⟩
theorem nplace1_any (w : World) (b bt : Nat) (u xv : Value) (l key : List UInt8) (h : Stn w b bt xv key) (hu : Byts w u l) :
    Calls Try.prog 38 #[u, .pointer (some ⟨b, 0, none⟩)] w fun e w' => e = .returned (.bool (decide (compareBytes l key < 0))) ∧ Below w.heap.size w w' := by
  have HC := Lib.hid (nto1_any w u xv l key bt hu h.one h.byts)
  have c0 := h.fn
  clear hu h
  obtain ⟨r, hr⟩ : ∃ r, r = compareBytes l key := ⟨_, rfl⟩
  rw [← hr] at HC ⊢
  clear hr
  go_enter Try.func38, Try.ntmps38
  go_wp2_with fail
  refine HC.out.mono ?_
  rintro e w1 ⟨rfl, hB⟩
  go_wp2
  go_ret
  exact ⟨rfl, hB⟩
theorem nkid1_any (w : World) (b bt : Nat) (u xv : Value) (l key : List UInt8) (h : Stn w b bt xv key) (hu : Byts w u l) :
    Calls Try.prog 39 #[u, .pointer (some ⟨b, 0, none⟩)] w fun e w' => e = .returned (.bool (decide (compareBytes l key ≤ 0))) ∧ Below w.heap.size w w' := by
  have HC := Lib.hid (nto1_any w u xv l key bt hu h.one h.byts)
  have c0 := h.fn
  clear hu h
  obtain ⟨r, hr⟩ : ∃ r, r = compareBytes l key := ⟨_, rfl⟩
  rw [← hr] at HC ⊢
  clear hr
  go_enter Try.func39, Try.ntmps39
  go_wp2_with fail
  refine HC.out.mono ?_
  rintro e w1 ⟨rfl, hB⟩
  go_wp2
  go_ret
  exact ⟨rfl, hB⟩
/-- So many keys don't stand behind one; so many stand ahead of it. -/
def KidAt (ks : List (List UInt8)) (key : List UInt8) (p : Nat) : Prop := p ≤ ks.length ∧ (∀ q, p = q + 1 → compareBytes (ks.getD q []) key ≤ 0) ∧ (p < ks.length → ¬ compareBytes (ks.getD p []) key ≤ 0)
def PlcAt (ks : List (List UInt8)) (key : List UInt8) (p : Nat) : Prop := p ≤ ks.length ∧ (∀ q, p = q + 1 → compareBytes (ks.getD q []) key < 0) ∧ (p < ks.length → ¬ compareBytes (ks.getD p []) key < 0)
/-- Whether the next one is the same. -/
def plcB (ks : List (List UInt8)) (key : List UInt8) (p : Nat) : Bool := decide (p < ks.length) && decide (compareBytes (ks.getD p []) key = 0)
theorem nkid_core (w : World) (lf : Bool) (A1 A2 : Option Addr) (n d1 n2 d2 : Nat) (vv pv : Value) (ks : List (List UInt8)) (key : List UInt8) (hn : n ≤ 1000000000000) (HL : Hid (ks.length = n)) (HX : Hid (Byts w (.slice A2 n2 d2) key))
    (H : Hid (0 < n → ∃ b off, A1 = some ⟨b, off, none⟩ ∧ ∀ j, j < n → ∃ u, w.cell? ⟨b, off + j, none⟩ = some u ∧ Byts w u (ks.getD j []))) :
    Calls Try.prog 20 #[.agg #[.bool lf, .slice A1 n d1, vv, pv], .slice A2 n2 d2] w fun e w' =>
      ∃ p : Nat, e = .returned (.int .i64 (p : Int)) ∧ KidAt ks key p ∧ Below w.heap.size w w' := by
  have HA : Hid (Below w.heap.size w (w.alloc (.cells #[.bool lf, .slice A1 n d1, vv, pv] 28))) := alb _
  have HN := Lib.hid (Nb.made w lf (.slice A1 n d1) vv pv)
  go_enter Try.func20, Try.ntmps20
  go_wp2_with fail
  generalize w.alloc (.cells #[.bool lf, .slice A1 n d1, vv, pv] 28) = w1 at *
  refine (nto_any w1 A2 n2 d2).mono ?_
  rintro e w2 ⟨rfl, hw2⟩
  have HB2 : Hid (Below w1.heap.size w1 w2) := by show Below _ _ _; rw [hw2]; exact alb _
  have hc := World.cell?_alloc_at (w := w1) #[.slice A2 n2 d2] 29 w1.heap.size 0 rfl
  rw [← hw2] at hc
  have HC := Lib.hid hc
  clear hw2 hc
  have hcl : (w2.alloc (.cells #[.func (Fn.func 44) #[] #[.pointer (some ⟨w1.heap.size, 0, none⟩)]] 73)).cell? ⟨w2.heap.size, 0, none⟩ = some (.func (Fn.func 44) #[] #[.pointer (some ⟨w1.heap.size, 0, none⟩)]) := by
    rw [World.cell?_alloc_at _ _ _ _ rfl]
    rfl
  have HB3 : Hid (Below w1.heap.size w1 (w2.alloc (.cells #[.func (Fn.func 44) #[] #[.pointer (some ⟨w1.heap.size, 0, none⟩)]] 73))) := bal HB2.out _
  obtain ⟨k0, k1, k2, k3⟩ := HN.out.below HB3.out
  have HS : Hid (Stn (w2.alloc (.cells #[.func (Fn.func 44) #[] #[.pointer (some ⟨w1.heap.size, 0, none⟩)]] 73)) w2.heap.size w1.heap.size (.slice A2 n2 d2) key) := ⟨hcl, alc HC.out _, HX.out.below (btr HA.out HB3.out)⟩
  clear k0 k2 k3 hcl HC HB2
  go_wp2_with fail
  generalize (w2.alloc (.cells #[.func (Fn.func 44) #[] #[.pointer (some ⟨w1.heap.size, 0, none⟩)]] 73)) = w3 at *
  generalize w2.heap.size = b6 at *
  refine (nhowK_core w3 A1 n d1 ks b6 (fun i => decide (compareBytes (ks.getD i []) key ≤ 0)) hn (Lib.hid ?_) (Lib.hid fun i hi W u hW hu => nkid1_any W b6 w1.heap.size u _ _ key (HS.out.below hW) hu)).mono ?_
  · intro h0
    obtain ⟨b, off, rfl, hcell⟩ := H.out h0
    refine ⟨b, off, rfl, fun j hj => ?_⟩
    obtain ⟨u, c0, hu⟩ := hcell j hj
    exact ⟨u, kept c0 (btr HA.out HB3.out), hu.below (btr HA.out HB3.out)⟩
  rintro e w4 ⟨p, rfl, h1, h2, h3, hB4⟩
  have HK : Hid (KidAt ks key p) := ⟨by rw [HL.out]; exact h1, fun q hq => of_decide_eq_true (h2 q hq), fun hq => of_decide_eq_false (h3 (by rw [← HL.out]; exact hq))⟩
  have HB4 := Lib.hid (btr (btr HA.out HB3.out) hB4)
  clear h1 h2 h3 hB4
  go_wp2
  go_ret
  exact ⟨p, rfl, HK.out, HB4.out⟩
theorem nplace_core (w : World) (lf : Bool) (A1 A2 : Option Addr) (n d1 n2 d2 : Nat) (vv pv : Value) (ks : List (List UInt8)) (key : List UInt8) (hn : n ≤ 1000000000000) (HL : Hid (ks.length = n)) (HX : Hid (Byts w (.slice A2 n2 d2) key))
    (H : Hid (0 < n → ∃ b off, A1 = some ⟨b, off, none⟩ ∧ ∀ j, j < n → ∃ u, w.cell? ⟨b, off + j, none⟩ = some u ∧ Byts w u (ks.getD j []))) :
    Calls Try.prog 19 #[.agg #[.bool lf, .slice A1 n d1, vv, pv], .slice A2 n2 d2] w fun e w' =>
      ∃ p : Nat, e = .returned (.tuple #[.int .i64 (p : Int), .bool (plcB ks key p)]) ∧ PlcAt ks key p ∧ Below w.heap.size w w' := by
  have HA : Hid (Below w.heap.size w (w.alloc (.cells #[.bool lf, .slice A1 n d1, vv, pv] 28))) := alb _
  have HN := Lib.hid (Nb.made w lf (.slice A1 n d1) vv pv)
  go_enter Try.func19, Try.ntmps19
  go_wp2_with fail
  generalize w.alloc (.cells #[.bool lf, .slice A1 n d1, vv, pv] 28) = w1 at *
  refine (nto_any w1 A2 n2 d2).mono ?_
  rintro e w2 ⟨rfl, hw2⟩
  have HB2 : Hid (Below w1.heap.size w1 w2) := by show Below _ _ _; rw [hw2]; exact alb _
  have hc := World.cell?_alloc_at (w := w1) #[.slice A2 n2 d2] 29 w1.heap.size 0 rfl
  rw [← hw2] at hc
  have HC := Lib.hid hc
  clear hw2 hc
  have hcl : (w2.alloc (.cells #[.func (Fn.func 44) #[] #[.pointer (some ⟨w1.heap.size, 0, none⟩)]] 73)).cell? ⟨w2.heap.size, 0, none⟩ = some (.func (Fn.func 44) #[] #[.pointer (some ⟨w1.heap.size, 0, none⟩)]) := by
    rw [World.cell?_alloc_at _ _ _ _ rfl]
    rfl
  have HB3 : Hid (Below w1.heap.size w1 (w2.alloc (.cells #[.func (Fn.func 44) #[] #[.pointer (some ⟨w1.heap.size, 0, none⟩)]] 73))) := bal HB2.out _
  obtain ⟨k0, k1, k2, k3⟩ := HN.out.below HB3.out
  have HS : Hid (Stn (w2.alloc (.cells #[.func (Fn.func 44) #[] #[.pointer (some ⟨w1.heap.size, 0, none⟩)]] 73)) w2.heap.size w1.heap.size (.slice A2 n2 d2) key) := ⟨hcl, alc HC.out _, HX.out.below (btr HA.out HB3.out)⟩
  clear k0 k2 k3 hcl HC HB2
  go_wp2_with fail
  generalize (w2.alloc (.cells #[.func (Fn.func 44) #[] #[.pointer (some ⟨w1.heap.size, 0, none⟩)]] 73)) = w3 at *
  generalize w2.heap.size = b6 at *
  refine (nhowP_core w3 A1 n d1 ks b6 (fun i => decide (compareBytes (ks.getD i []) key < 0)) hn (Lib.hid ?_) (Lib.hid fun i hi W u hW hu => nplace1_any W b6 w1.heap.size u _ _ key (HS.out.below hW) hu)).mono ?_
  · intro h0
    obtain ⟨b, off, rfl, hcell⟩ := H.out h0
    refine ⟨b, off, rfl, fun j hj => ?_⟩
    obtain ⟨u, c0, hu⟩ := hcell j hj
    exact ⟨u, kept c0 (btr HA.out HB3.out), hu.below (btr HA.out HB3.out)⟩
  rintro e w4 ⟨p, rfl, h1, h2, h3, hB4⟩
  have HK : Hid (PlcAt ks key p) := ⟨by rw [HL.out]; exact h1, fun q hq => of_decide_eq_true (h2 q hq), fun hq => of_decide_eq_false (h3 (by rw [← HL.out]; exact hq))⟩
  have HB4 := Lib.hid (btr (btr HA.out HB3.out) hB4)
  have HB34 := Lib.hid hB4
  have h1 := HK.out.1
  rw [HL.out] at h1
  clear h2 h3 hB4
  have a1 := kept k1 HB34.out
  have a0 := kept HS.out.fn HB34.out
  have HS4 := Lib.hid (HS.out.below HB34.out)
  clear k1 HS
  go_wp2_with fail
  refine lin_start 18 rfl (by kernel_rfl) ?_
  have hdr : Below w4.heap.size w4 w4.drew := (Below.refl _ _).drew
  replace a1 := kept a1 hdr
  replace a0 := kept a0 hdr
  have HS5 := Lib.hid (HS4.out.below hdr)
  have HB5 := Lib.hid (btr HB4.out hdr)
  have HB35 := Lib.hid (btr HB34.out hdr)
  clear hdr HS4 HB4 HB34
  generalize w4.drew = v4 at *
  by_cases hp : p < n
  · have hz : (p : Int) < (n : Int) := by omega
    obtain ⟨b, off, rfl, hcell⟩ := H.out (by omega)
    obtain ⟨u, c0, hu⟩ := hcell p hp
    replace c0 := kept c0 (btr HA.out (btr HB3.out HB35.out))
    have HT := Lib.hid (nto1_any v4 u (.slice A2 n2 d2) _ key w1.heap.size (hu.below (btr HA.out (btr HB3.out HB35.out))) HS5.out.one HS5.out.byts)
    have HE : Hid (plcB ks key p = decide (compareBytes (ks.getD p []) key = 0)) := by
      show plcB _ _ _ = _
      unfold plcB
      rw [HL.out, decide_eq_true hp, Bool.true_and]
    obtain ⟨r, hr⟩ : ∃ r, r = compareBytes (ks.getD p []) key := ⟨_, rfl⟩
    rw [← hr] at HT HE
    clear hcell hu hr
    refine lin_take 0 14 (v := ?_) rfl rfl (by kernel_rfl) (by kernel_rfl) (by kernel_rfl) (fun _ _ _ _ _ h => h) (by rfl) (fun W hW => ?_) ?_
    rotate_left
    · have k1 := kept a1 hW; go_simp; try rfl
    try simp only [Act.put, List.setIfInBounds_toArray, List.set_cons_zero, List.set_cons_succ]
    refine lin_take 1 15 (v := ?_) rfl rfl (by kernel_rfl) (by kernel_rfl) (by kernel_rfl) (fun _ _ _ _ _ h => h) (by rfl) (fun W hW => ?_) ?_
    rotate_left
    · have k1 := kept a1 hW; go_simp; try rfl
    try simp only [Act.put, List.setIfInBounds_toArray, List.set_cons_zero, List.set_cons_succ]
    refine lin_take 2 16 (v := ?_) rfl rfl (by kernel_rfl) (by kernel_rfl) (by kernel_rfl) (fun _ _ _ _ _ h => h) (by rfl) (fun W hW => ?_) ?_
    rotate_left
    · have k1 := kept a1 hW; go_simp; try rfl
    try simp only [Act.put, List.setIfInBounds_toArray, List.set_cons_zero, List.set_cons_succ]
    refine lin_take 3 17 (v := ?_) rfl rfl (by kernel_rfl) (by kernel_rfl) (by kernel_rfl) (fun _ _ _ _ _ h => h) (by rfl) (fun W hW => ?_) ?_
    rotate_left
    · have k1 := kept a1 hW; go_simp; try rfl
    try simp only [Act.put, List.setIfInBounds_toArray, List.set_cons_zero, List.set_cons_succ]
    refine lin_take 4 18 (v := ?_) rfl rfl (by kernel_rfl) (by kernel_rfl) (by kernel_rfl) (fun _ _ _ _ _ h => h) (by rfl) (fun W hW => ?_) ?_
    rotate_left
    · have k1 := kept a1 hW; go_simp; try rfl
    try simp only [Act.put, List.setIfInBounds_toArray, List.set_cons_zero, List.set_cons_succ]
    refine lin_take 5 19 (v := ?_) rfl rfl (by kernel_rfl) (by kernel_rfl) (by kernel_rfl) (fun _ _ _ _ _ h => h) (by rfl) (fun W hW => ?_) ?_
    rotate_left
    · have k1 := kept a1 hW; go_simp; try rfl
    try simp only [Act.put, List.setIfInBounds_toArray, List.set_cons_zero, List.set_cons_succ]
    refine lin_take 6 20 (v := ?_) rfl rfl (by kernel_rfl) (by kernel_rfl) (by kernel_rfl) (fun _ _ _ _ _ h => h) (by rfl) (fun W hW => ?_) ?_
    rotate_left
    · have k1 := kept a1 hW; go_simp; try rfl
    try simp only [Act.put, List.setIfInBounds_toArray, List.set_cons_zero, List.set_cons_succ]
    refine lin_take 7 21 (v := ?_) rfl rfl (by kernel_rfl) (by kernel_rfl) (by kernel_rfl) (fun _ _ _ _ _ h => h) (by rfl) (fun W hW => ?_) ?_
    rotate_left
    · have k1 := kept a1 hW; have k2 := kept a0 hW; have k3 := kept c0 hW; go_simp; try rfl
    try simp only [Act.put, List.setIfInBounds_toArray, List.set_cons_zero, List.set_cons_succ]
    refine lin_take 8 22 (v := ?_) rfl rfl (by kernel_rfl) (by kernel_rfl) (by kernel_rfl) (fun _ _ _ _ _ h => h) (by rfl) (fun W hW => ?_) ?_
    rotate_left
    · have k1 := kept a1 hW; have k2 := kept a0 hW; have k3 := kept c0 hW; go_simp; try rfl
    try simp only [Act.put, List.setIfInBounds_toArray, List.set_cons_zero, List.set_cons_succ]
    refine lin_take 9 23 (v := ?_) rfl rfl (by kernel_rfl) (by kernel_rfl) (by kernel_rfl) (fun _ _ _ _ _ h => h) (by rfl) (fun W hW => ?_) ?_
    rotate_left
    · have k1 := kept a1 hW; have k2 := kept a0 hW; have k3 := kept c0 hW; go_simp; try rfl
    try simp only [Act.put, List.setIfInBounds_toArray, List.set_cons_zero, List.set_cons_succ]
    refine lin_take 10 24 (v := ?_) rfl rfl (by kernel_rfl) (by kernel_rfl) (by kernel_rfl) (fun _ _ _ _ _ h => h) (by rfl) (fun W hW => ?_) ?_
    rotate_left
    · have k1 := kept a1 hW; have k2 := kept a0 hW; have k3 := kept c0 hW; go_simp; try rfl
    try simp only [Act.put, List.setIfInBounds_toArray, List.set_cons_zero, List.set_cons_succ]
    refine lin_take 11 25 (v := ?_) rfl rfl (by kernel_rfl) (by kernel_rfl) (by kernel_rfl) (fun _ _ _ _ _ h => h) (by rfl) (fun W hW => ?_) ?_
    rotate_left
    · have k1 := kept a1 hW; have k2 := kept a0 hW; have k3 := kept c0 hW; go_simp; try rfl
    try simp only [Act.put, List.setIfInBounds_toArray, List.set_cons_zero, List.set_cons_succ]
    refine lin_take 12 26 (v := ?_) rfl rfl (by kernel_rfl) (by kernel_rfl) (by kernel_rfl) (fun _ _ _ _ _ h => h) (by rfl) (fun W hW => ?_) ?_
    rotate_left
    · have k1 := kept a1 hW; have k2 := kept a0 hW; have k3 := kept c0 hW; go_simp; try rfl
    try simp only [Act.put, List.setIfInBounds_toArray, List.set_cons_zero, List.set_cons_succ]
    refine lin_step 13 rfl (by kernel_rfl) (fun K hK => ?_)
    go_simp
    refine (HT.out).mono ?_
    rintro e w6 ⟨rfl, h6⟩
    refine hK.out _ _ h6 ?_
    clear hK K
    have HB6 := Lib.hid (btr HB5.out h6)
    clear h6
    refine lin_take 14 28 (v := ?_) rfl rfl (by kernel_rfl) (by kernel_rfl) (by kernel_rfl) (fun _ _ _ _ _ h => h) (by rfl) (fun W hW => ?_) ?_
    rotate_left
    · go_simp; try rfl
    try simp only [Act.put, List.setIfInBounds_toArray, List.set_cons_zero, List.set_cons_succ]
    refine lin_take 15 29 (v := ?_) rfl rfl (by kernel_rfl) (by kernel_rfl) (by kernel_rfl) (fun _ _ _ _ _ h => h) (by rfl) (fun W hW => ?_) ?_
    rotate_left
    · go_simp; try rfl
    try simp only [Act.put, List.setIfInBounds_toArray, List.set_cons_zero, List.set_cons_succ]
    refine lin_take 16 4 (v := ?_) rfl rfl (by kernel_rfl) (by kernel_rfl) (by kernel_rfl) (fun _ _ _ _ _ h => h) (by rfl) (fun W hW => ?_) ?_
    rotate_left
    · go_simp; try rfl
    try simp only [Act.put, List.setIfInBounds_toArray, List.set_cons_zero, List.set_cons_succ]
    refine lin_take 17 5 (v := ?_) rfl rfl (by kernel_rfl) (by kernel_rfl) (by kernel_rfl) (fun _ _ _ _ _ h => h) (by rfl) (fun W hW => ?_) ?_
    rotate_left
    · go_simp; try rfl
    try simp only [Act.put, List.setIfInBounds_toArray, List.set_cons_zero, List.set_cons_succ]
    refine lin_done (by kernel_rfl) ?_
    go_wp2
    go_ret2
    refine ⟨p, ?_, HK.out, HB6.out⟩
    rw [HE.out]
    first | rfl | (congr 5; rw [Bool.eq_iff_iff]; simp)
  · have hz : ¬ (p : Int) < (n : Int) := by omega
    have HE : Hid (plcB ks key p = false) := by
      show plcB _ _ _ = _
      unfold plcB
      rw [HL.out, decide_eq_false hp, Bool.false_and]
    refine lin_take 0 14 (v := ?_) rfl rfl (by kernel_rfl) (by kernel_rfl) (by kernel_rfl) (fun _ _ _ _ _ h => h) (by rfl) (fun W hW => ?_) ?_
    rotate_left
    · have k1 := kept a1 hW; go_simp; try rfl
    try simp only [Act.put, List.setIfInBounds_toArray, List.set_cons_zero, List.set_cons_succ]
    refine lin_take 1 15 (v := ?_) rfl rfl (by kernel_rfl) (by kernel_rfl) (by kernel_rfl) (fun _ _ _ _ _ h => h) (by rfl) (fun W hW => ?_) ?_
    rotate_left
    · have k1 := kept a1 hW; go_simp; try rfl
    try simp only [Act.put, List.setIfInBounds_toArray, List.set_cons_zero, List.set_cons_succ]
    refine lin_take 2 16 (v := ?_) rfl rfl (by kernel_rfl) (by kernel_rfl) (by kernel_rfl) (fun _ _ _ _ _ h => h) (by rfl) (fun W hW => ?_) ?_
    rotate_left
    · have k1 := kept a1 hW; go_simp; try rfl
    try simp only [Act.put, List.setIfInBounds_toArray, List.set_cons_zero, List.set_cons_succ]
    refine lin_take 3 17 (v := ?_) rfl rfl (by kernel_rfl) (by kernel_rfl) (by kernel_rfl) (fun _ _ _ _ _ h => h) (by rfl) (fun W hW => ?_) ?_
    rotate_left
    · have k1 := kept a1 hW; go_simp; try rfl
    try simp only [Act.put, List.setIfInBounds_toArray, List.set_cons_zero, List.set_cons_succ]
    refine lin_take 4 18 (v := ?_) rfl rfl (by kernel_rfl) (by kernel_rfl) (by kernel_rfl) (fun _ _ _ _ _ h => h) (by rfl) (fun W hW => ?_) ?_
    rotate_left
    · have k1 := kept a1 hW; go_simp; try rfl
    try simp only [Act.put, List.setIfInBounds_toArray, List.set_cons_zero, List.set_cons_succ]
    refine lin_take 5 19 (v := ?_) rfl rfl (by kernel_rfl) (by kernel_rfl) (by kernel_rfl) (fun _ _ _ _ _ h => h) (by rfl) (fun W hW => ?_) ?_
    rotate_left
    · have k1 := kept a1 hW; go_simp; try rfl
    try simp only [Act.put, List.setIfInBounds_toArray, List.set_cons_zero, List.set_cons_succ]
    refine lin_take 6 20 (v := ?_) rfl rfl (by kernel_rfl) (by kernel_rfl) (by kernel_rfl) (fun _ _ _ _ _ h => h) (by rfl) (fun W hW => ?_) ?_
    rotate_left
    · have k1 := kept a1 hW; go_simp; try rfl
    try simp only [Act.put, List.setIfInBounds_toArray, List.set_cons_zero, List.set_cons_succ]
    refine lin_skip 7 21 rfl rfl (by kernel_rfl) (by kernel_rfl) (by kernel_rfl) (fun _ _ _ _ _ h => h) (by rfl) ?_
    try simp only [Act.put, List.setIfInBounds_toArray, List.set_cons_zero, List.set_cons_succ]
    refine lin_skip 8 22 rfl rfl (by kernel_rfl) (by kernel_rfl) (by kernel_rfl) (fun _ _ _ _ _ h => h) (by rfl) ?_
    try simp only [Act.put, List.setIfInBounds_toArray, List.set_cons_zero, List.set_cons_succ]
    refine lin_skip 9 23 rfl rfl (by kernel_rfl) (by kernel_rfl) (by kernel_rfl) (fun _ _ _ _ _ h => h) (by rfl) ?_
    try simp only [Act.put, List.setIfInBounds_toArray, List.set_cons_zero, List.set_cons_succ]
    refine lin_skip 10 24 rfl rfl (by kernel_rfl) (by kernel_rfl) (by kernel_rfl) (fun _ _ _ _ _ h => h) (by rfl) ?_
    try simp only [Act.put, List.setIfInBounds_toArray, List.set_cons_zero, List.set_cons_succ]
    refine lin_skip 11 25 rfl rfl (by kernel_rfl) (by kernel_rfl) (by kernel_rfl) (fun _ _ _ _ _ h => h) (by rfl) ?_
    try simp only [Act.put, List.setIfInBounds_toArray, List.set_cons_zero, List.set_cons_succ]
    refine lin_skip 12 26 rfl rfl (by kernel_rfl) (by kernel_rfl) (by kernel_rfl) (fun _ _ _ _ _ h => h) (by rfl) ?_
    try simp only [Act.put, List.setIfInBounds_toArray, List.set_cons_zero, List.set_cons_succ]
    refine lin_skip 13 27 rfl rfl (by kernel_rfl) (by kernel_rfl) (by kernel_rfl) (fun _ _ _ _ _ h => h) (by rfl) ?_
    try simp only [Act.put, List.setIfInBounds_toArray, List.set_cons_zero, List.set_cons_succ]
    refine lin_skip 14 28 rfl rfl (by kernel_rfl) (by kernel_rfl) (by kernel_rfl) (fun _ _ _ _ _ h => h) (by rfl) ?_
    try simp only [Act.put, List.setIfInBounds_toArray, List.set_cons_zero, List.set_cons_succ]
    refine lin_take 15 29 (v := ?_) rfl rfl (by kernel_rfl) (by kernel_rfl) (by kernel_rfl) (fun _ _ _ _ _ h => h) (by rfl) (fun W hW => ?_) ?_
    rotate_left
    · go_simp; try rfl
    try simp only [Act.put, List.setIfInBounds_toArray, List.set_cons_zero, List.set_cons_succ]
    refine lin_take 16 4 (v := ?_) rfl rfl (by kernel_rfl) (by kernel_rfl) (by kernel_rfl) (fun _ _ _ _ _ h => h) (by rfl) (fun W hW => ?_) ?_
    rotate_left
    · go_simp; try rfl
    try simp only [Act.put, List.setIfInBounds_toArray, List.set_cons_zero, List.set_cons_succ]
    refine lin_take 17 5 (v := ?_) rfl rfl (by kernel_rfl) (by kernel_rfl) (by kernel_rfl) (fun _ _ _ _ _ h => h) (by rfl) (fun W hW => ?_) ?_
    rotate_left
    · go_simp; try rfl
    try simp only [Act.put, List.setIfInBounds_toArray, List.set_cons_zero, List.set_cons_succ]
    refine lin_done (by kernel_rfl) ?_
    go_wp2
    go_ret2
    refine ⟨p, ?_, HK.out, HB5.out⟩
    rw [HE.out]
    rfl
end Go.Proofs.Ytceoelemlokelaa
