/- node.to, howMany, Place, Kid: the library's Search. -/
import Derived.Test.YtceoelemlokelaaHh
import Derived.Test.YtceoelemlokelaaLin
namespace Go.Proofs.Ytceoelemlokelaa
open Go.RowKit
open Lib (compareBytes)

theorem nto1_any (w : World) (u xv : Value) (l key : List UInt8) (b : Nat) (hu : Byts w u l) (hc : w.cell? ⟨b, 0, none⟩ = some xv) (hx : Byts w xv key) :
    Calls Try.prog 44 #[u, .pointer (some ⟨b, 0, none⟩)] w fun e w' => e = .returned (.int .i64 (compareBytes l key)) ∧ Below w.heap.size w w' := by
  have HC := Lib.hid (keycmp_any u xv l key w hu hx)
  clear hu hx
  go_enter Try.func44, Try.ntmps44
  go_wp2_with fail
  refine HC.out.mono ?_
  rintro e w1 ⟨rfl, hB⟩
  go_wp2
  go_ret
  exact ⟨rfl, hB⟩
theorem nto_any (w : World) (A : Option Addr) (n c : Nat) : Calls Try.prog 36 #[.slice A n c] w fun e w' => e = .returned (.func (Fn.func 44) #[] #[.pointer (some ⟨w.heap.size, 0, none⟩)]) ∧ w' = w.alloc (.cells #[.slice A n c] 29) := by
  go_enter Try.func36, Try.ntmps36
  go_wp2
  go_ret
  exact ⟨rfl, rfl⟩
set_option maxHeartbeats 1600000 in
theorem nsearch_any (w : World) (n : Nat) (f : Nat → Bool) (b1 b2 : Nat) (hn : n ≤ 1000000000000)
    (HF : Hid (∀ i, i < n → ∀ W, Below w.heap.size w W → Calls Try.prog 46 #[.int .i64 (i : Int), .pointer (some ⟨b1, 0, none⟩), .pointer (some ⟨b2, 0, none⟩)] W fun e w' => e = .returned (.bool (f i)) ∧ Below W.heap.size W w')) :
    Calls Try.prog 45 #[.int .i64 (n : Int), .func (Fn.func 46) #[] #[.pointer (some ⟨b1, 0, none⟩), .pointer (some ⟨b2, 0, none⟩)]] w fun e w' =>
      ∃ p : Nat, e = .returned (.int .i64 (p : Int)) ∧ p ≤ n ∧ (∀ q, p = q + 1 → f q = false) ∧ (p < n → f p = true) ∧ Below w.heap.size w w' := by
  go_enter Try.func45, Try.ntmps45
  go_wp2
  go_loopg [5, 6] n (fun g s5 s6 wr => ∃ i j : Nat, s5 = .int .i64 (i : Int) ∧ s6 = .int .i64 (j : Int) ∧ i ≤ j ∧ j ≤ n ∧ j - i ≤ g ∧ Hid (∀ q, i = q + 1 → f q = false) ∧ Hid (j < n → f j = true) ∧ Hid (Below w.heap.size w wr))
  case atStart => exact ⟨0, n, rfl, rfl, by omega, by omega, by omega, fun q h => by omega, fun h => by omega, Below.refl _ _⟩
  case round =>
    obtain ⟨i, j, rfl, rfl, h1, h2, h3, H1, H2, HB⟩ := hrel
    by_cases hij : i < j
    · have hz : (i : Int) < (j : Int) := by omega
      obtain ⟨h, hh⟩ : ∃ h, h = (i + j) / 2 := ⟨_, rfl⟩
      have hhi : i ≤ h ∧ h < j := by omega
      have hc : ((i : Int) + (j : Int)) / 2 = (h : Int) := by omega
      clear hh
      go_wp2_with fail
      refine (HF.out h (by omega) _ HB.out).mono ?_
      rintro e w2 ⟨rfl, hB⟩
      have HB2 : Hid (Below w.heap.size w w2) := btr HB.out hB
      clear hB
      obtain ⟨y, hy⟩ : ∃ y, f h = y := ⟨_, rfl⟩
      rw [hy]
      have HY := Lib.hid hy
      clear hy
      cases y with
      | false =>
        go_wp2
        go_roundg (j - (h + 1))
        case measure => omega
        case rel =>
          refine ⟨h + 1, j, by go_num, rfl, by omega, by omega, by omega, Lib.hid (fun q e => ?_), H2, HB2⟩
          obtain rfl : q = h := by omega
          exact HY.out
      | true =>
        go_wp2
        go_roundg (h - i)
        case measure => omega
        case rel => exact ⟨i, h, rfl, rfl, by omega, by omega, by omega, H1, fun _ => HY.out, HB2⟩
    · have hz : ¬ (i : Int) < (j : Int) := by omega
      obtain rfl : i = j := by omega
      go_wp2
      go_ret
      exact ⟨i, rfl, h2, H1.out, H2.out, HB.out⟩
theorem nhowP1_any (w : World) (n c b1 b2 i b0 b off : Nat) (u : Value) (y : Bool) (hi : i < n) (a0 : w.cell? ⟨b1, 0, none⟩ = some (.func (Fn.func 38) #[] #[.pointer (some ⟨b0, 0, none⟩)]))
    (a1 : w.cell? ⟨b2, 0, none⟩ = some (.slice (some ⟨b, off, none⟩) n c)) (c0 : w.cell? ⟨b, off + i, none⟩ = some u)
    (HF : Hid (∀ W, Below w.heap.size w W → Calls Try.prog 38 #[u, .pointer (some ⟨b0, 0, none⟩)] W fun e w' => e = .returned (.bool y) ∧ Below W.heap.size W w')) :
    Calls Try.prog 46 #[.int .i64 (i : Int), .pointer (some ⟨b1, 0, none⟩), .pointer (some ⟨b2, 0, none⟩)] w fun e w' => e = .returned (.bool (!y)) ∧ Below w.heap.size w w' := by
  have hz : (i : Int) < (n : Int) := by omega
  go_enter Try.func46, Try.ntmps46
  go_wp2_with fail
  refine lin_start 8 rfl (by kernel_rfl) ?_
  have HB : Hid (Below w.heap.size w w.drew) := (Below.refl _ _).drew
  replace a0 := kept a0 HB.out
  replace a1 := kept a1 HB.out
  replace c0 := kept c0 HB.out
  generalize w.drew = v at *
  refine lin_take 0 5 (v := ?_) rfl rfl (by kernel_rfl) (by kernel_rfl) (by kernel_rfl) (fun _ _ _ _ _ h => h) (by rfl) (fun W hW => ?_) ?_
  rotate_left
  · have k0 := kept a0 hW; have k1 := kept a1 hW; have k2 := kept c0 hW; go_simp; try rfl
  try simp only [Act.put, List.setIfInBounds_toArray, List.set_cons_zero, List.set_cons_succ]
  refine lin_take 1 6 (v := ?_) rfl rfl (by kernel_rfl) (by kernel_rfl) (by kernel_rfl) (fun _ _ _ _ _ h => h) (by rfl) (fun W hW => ?_) ?_
  rotate_left
  · have k0 := kept a0 hW; have k1 := kept a1 hW; have k2 := kept c0 hW; go_simp; try rfl
  try simp only [Act.put, List.setIfInBounds_toArray, List.set_cons_zero, List.set_cons_succ]
  refine lin_take 2 7 (v := ?_) rfl rfl (by kernel_rfl) (by kernel_rfl) (by kernel_rfl) (fun _ _ _ _ _ h => h) (by rfl) (fun W hW => ?_) ?_
  rotate_left
  · have k0 := kept a0 hW; have k1 := kept a1 hW; have k2 := kept c0 hW; go_simp; try rfl
  try simp only [Act.put, List.setIfInBounds_toArray, List.set_cons_zero, List.set_cons_succ]
  refine lin_take 3 8 (v := ?_) rfl rfl (by kernel_rfl) (by kernel_rfl) (by kernel_rfl) (fun _ _ _ _ _ h => h) (by rfl) (fun W hW => ?_) ?_
  rotate_left
  · have k0 := kept a0 hW; have k1 := kept a1 hW; have k2 := kept c0 hW; go_simp; try rfl
  try simp only [Act.put, List.setIfInBounds_toArray, List.set_cons_zero, List.set_cons_succ]
  refine lin_take 4 9 (v := ?_) rfl rfl (by kernel_rfl) (by kernel_rfl) (by kernel_rfl) (fun _ _ _ _ _ h => h) (by rfl) (fun W hW => ?_) ?_
  rotate_left
  · have k0 := kept a0 hW; have k1 := kept a1 hW; have k2 := kept c0 hW; go_simp; try rfl
  try simp only [Act.put, List.setIfInBounds_toArray, List.set_cons_zero, List.set_cons_succ]
  refine lin_step 5 rfl (by kernel_rfl) (fun K hK => ?_)
  go_simp
  refine (HF.out _ HB.out).mono ?_
  rintro e w2 ⟨rfl, h2⟩
  refine hK.out _ _ h2 ?_
  clear hK K
  have HB2 : Hid (Below w.heap.size w w2) := btr HB.out h2
  clear h2
  refine lin_take 6 11 (v := ?_) rfl rfl (by kernel_rfl) (by kernel_rfl) (by kernel_rfl) (fun _ _ _ _ _ h => h) (by rfl) (fun W hW => ?_) ?_
  rotate_left
  · go_simp; try rfl
  try simp only [Act.put, List.setIfInBounds_toArray, List.set_cons_zero, List.set_cons_succ]
  refine lin_take 7 4 (v := ?_) rfl rfl (by kernel_rfl) (by kernel_rfl) (by kernel_rfl) (fun _ _ _ _ _ h => h) (by rfl) (fun W hW => ?_) ?_
  rotate_left
  · go_simp; try rfl
  try simp only [Act.put, List.setIfInBounds_toArray, List.set_cons_zero, List.set_cons_succ]
  refine lin_done (by kernel_rfl) ?_
  go_wp2
  go_ret
  exact ⟨rfl, HB2.out⟩
/-- howMany, of a function that answers f of each key. -/
theorem nhowP_core (w : World) (A : Option Addr) (n c : Nat) (ks : List (List UInt8)) (b0 : Nat) (f : Nat → Bool) (hn : n ≤ 1000000000000)
    (H : Hid (0 < n → ∃ b off, A = some ⟨b, off, none⟩ ∧ ∀ j, j < n → ∃ u, w.cell? ⟨b, off + j, none⟩ = some u ∧ Byts w u (ks.getD j [])))
    (HF : Hid (∀ i, i < n → ∀ W u, Below w.heap.size w W → Byts W u (ks.getD i []) → Calls Try.prog 38 #[u, .pointer (some ⟨b0, 0, none⟩)] W fun e w' => e = .returned (.bool (f i)) ∧ Below W.heap.size W w')) :
    Calls Try.prog 37 #[.slice A n c, .func (Fn.func 38) #[] #[.pointer (some ⟨b0, 0, none⟩)]] w fun e w' =>
      ∃ p : Nat, e = .returned (.int .i64 (p : Int)) ∧ p ≤ n ∧ (∀ q, p = q + 1 → f q = true) ∧ (p < n → f p = false) ∧ Below w.heap.size w w' := by
  go_enter Try.func37, Try.ntmps37
  go_wp2_with fail
  have HB : Hid (Below w.heap.size w ((w.alloc (.cells #[.slice A n c] 25)).alloc (.cells #[.func (Fn.func 38) #[] #[.pointer (some ⟨b0, 0, none⟩)]] 76))) := bal (alb _) _
  have a1 : ((w.alloc (.cells #[.slice A n c] 25)).alloc (.cells #[.func (Fn.func 38) #[] #[.pointer (some ⟨b0, 0, none⟩)]] 76)).cell? ⟨w.heap.size, 0, none⟩ = some (.slice A n c) := alc (by rw [World.cell?_alloc_at _ _ _ _ rfl]; rfl) _
  have a0 : ((w.alloc (.cells #[.slice A n c] 25)).alloc (.cells #[.func (Fn.func 38) #[] #[.pointer (some ⟨b0, 0, none⟩)]] 76)).cell? ⟨w.heap.size + 1, 0, none⟩ = some (.func (Fn.func 38) #[] #[.pointer (some ⟨b0, 0, none⟩)]) := by
    rw [World.cell?_alloc_at _ _ _ _ (World.size_alloc _ _).symm]
    rfl
  generalize (w.alloc (.cells #[.slice A n c] 25)).alloc (.cells #[.func (Fn.func 38) #[] #[.pointer (some ⟨b0, 0, none⟩)]] 76) = w2 at *
  refine (nsearch_any w2 n (fun i => !(f i)) (w.heap.size + 1) w.heap.size hn (Lib.hid (fun i hi W hW => ?_))).mono ?_
  · obtain ⟨b, off, rfl, hcell⟩ := H.out (by omega)
    obtain ⟨u, c0, hu⟩ := hcell i hi
    have hwW := btr HB.out hW
    exact nhowP1_any W n c (w.heap.size + 1) w.heap.size i b0 b off u (f i) hi (kept a0 hW) (kept a1 hW) (kept c0 hwW) (Lib.hid (fun W2 h2 => HF.out i hi W2 u (btr hwW h2) (hu.below (btr hwW h2))))
  rintro e w3 ⟨p, rfl, h1, h2, h3, hB3⟩
  have HX : Hid (∀ q, p = q + 1 → f q = true) := fun q hq => by simpa using h2 q hq
  have HY : Hid (p < n → f p = false) := fun hq => by simpa using h3 hq
  have HB3 := Lib.hid (btr HB.out hB3)
  clear h2 h3 hB3
  go_wp2
  go_ret
  exact ⟨p, rfl, h1, HX.out, HY.out, HB3.out⟩
theorem nhowK1_any (w : World) (n c b1 b2 i b0 b off : Nat) (u : Value) (y : Bool) (hi : i < n) (a0 : w.cell? ⟨b1, 0, none⟩ = some (.func (Fn.func 39) #[] #[.pointer (some ⟨b0, 0, none⟩)]))
    (a1 : w.cell? ⟨b2, 0, none⟩ = some (.slice (some ⟨b, off, none⟩) n c)) (c0 : w.cell? ⟨b, off + i, none⟩ = some u)
    (HF : Hid (∀ W, Below w.heap.size w W → Calls Try.prog 39 #[u, .pointer (some ⟨b0, 0, none⟩)] W fun e w' => e = .returned (.bool y) ∧ Below W.heap.size W w')) :
    Calls Try.prog 46 #[.int .i64 (i : Int), .pointer (some ⟨b1, 0, none⟩), .pointer (some ⟨b2, 0, none⟩)] w fun e w' => e = .returned (.bool (!y)) ∧ Below w.heap.size w w' := by
  have hz : (i : Int) < (n : Int) := by omega
  go_enter Try.func46, Try.ntmps46
  go_wp2_with fail
  refine lin_start 8 rfl (by kernel_rfl) ?_
  have HB : Hid (Below w.heap.size w w.drew) := (Below.refl _ _).drew
  replace a0 := kept a0 HB.out
  replace a1 := kept a1 HB.out
  replace c0 := kept c0 HB.out
  generalize w.drew = v at *
  refine lin_take 0 5 (v := ?_) rfl rfl (by kernel_rfl) (by kernel_rfl) (by kernel_rfl) (fun _ _ _ _ _ h => h) (by rfl) (fun W hW => ?_) ?_
  rotate_left
  · have k0 := kept a0 hW; have k1 := kept a1 hW; have k2 := kept c0 hW; go_simp; try rfl
  try simp only [Act.put, List.setIfInBounds_toArray, List.set_cons_zero, List.set_cons_succ]
  refine lin_take 1 6 (v := ?_) rfl rfl (by kernel_rfl) (by kernel_rfl) (by kernel_rfl) (fun _ _ _ _ _ h => h) (by rfl) (fun W hW => ?_) ?_
  rotate_left
  · have k0 := kept a0 hW; have k1 := kept a1 hW; have k2 := kept c0 hW; go_simp; try rfl
  try simp only [Act.put, List.setIfInBounds_toArray, List.set_cons_zero, List.set_cons_succ]
  refine lin_take 2 7 (v := ?_) rfl rfl (by kernel_rfl) (by kernel_rfl) (by kernel_rfl) (fun _ _ _ _ _ h => h) (by rfl) (fun W hW => ?_) ?_
  rotate_left
  · have k0 := kept a0 hW; have k1 := kept a1 hW; have k2 := kept c0 hW; go_simp; try rfl
  try simp only [Act.put, List.setIfInBounds_toArray, List.set_cons_zero, List.set_cons_succ]
  refine lin_take 3 8 (v := ?_) rfl rfl (by kernel_rfl) (by kernel_rfl) (by kernel_rfl) (fun _ _ _ _ _ h => h) (by rfl) (fun W hW => ?_) ?_
  rotate_left
  · have k0 := kept a0 hW; have k1 := kept a1 hW; have k2 := kept c0 hW; go_simp; try rfl
  try simp only [Act.put, List.setIfInBounds_toArray, List.set_cons_zero, List.set_cons_succ]
  refine lin_take 4 9 (v := ?_) rfl rfl (by kernel_rfl) (by kernel_rfl) (by kernel_rfl) (fun _ _ _ _ _ h => h) (by rfl) (fun W hW => ?_) ?_
  rotate_left
  · have k0 := kept a0 hW; have k1 := kept a1 hW; have k2 := kept c0 hW; go_simp; try rfl
  try simp only [Act.put, List.setIfInBounds_toArray, List.set_cons_zero, List.set_cons_succ]
  refine lin_step 5 rfl (by kernel_rfl) (fun K hK => ?_)
  go_simp
  refine (HF.out _ HB.out).mono ?_
  rintro e w2 ⟨rfl, h2⟩
  refine hK.out _ _ h2 ?_
  clear hK K
  have HB2 : Hid (Below w.heap.size w w2) := btr HB.out h2
  clear h2
  refine lin_take 6 11 (v := ?_) rfl rfl (by kernel_rfl) (by kernel_rfl) (by kernel_rfl) (fun _ _ _ _ _ h => h) (by rfl) (fun W hW => ?_) ?_
  rotate_left
  · go_simp; try rfl
  try simp only [Act.put, List.setIfInBounds_toArray, List.set_cons_zero, List.set_cons_succ]
  refine lin_take 7 4 (v := ?_) rfl rfl (by kernel_rfl) (by kernel_rfl) (by kernel_rfl) (fun _ _ _ _ _ h => h) (by rfl) (fun W hW => ?_) ?_
  rotate_left
  · go_simp; try rfl
  try simp only [Act.put, List.setIfInBounds_toArray, List.set_cons_zero, List.set_cons_succ]
  refine lin_done (by kernel_rfl) ?_
  go_wp2
  go_ret
  exact ⟨rfl, HB2.out⟩
theorem nhowK_core (w : World) (A : Option Addr) (n c : Nat) (ks : List (List UInt8)) (b0 : Nat) (f : Nat → Bool) (hn : n ≤ 1000000000000)
    (H : Hid (0 < n → ∃ b off, A = some ⟨b, off, none⟩ ∧ ∀ j, j < n → ∃ u, w.cell? ⟨b, off + j, none⟩ = some u ∧ Byts w u (ks.getD j [])))
    (HF : Hid (∀ i, i < n → ∀ W u, Below w.heap.size w W → Byts W u (ks.getD i []) → Calls Try.prog 39 #[u, .pointer (some ⟨b0, 0, none⟩)] W fun e w' => e = .returned (.bool (f i)) ∧ Below W.heap.size W w')) :
    Calls Try.prog 37 #[.slice A n c, .func (Fn.func 39) #[] #[.pointer (some ⟨b0, 0, none⟩)]] w fun e w' =>
      ∃ p : Nat, e = .returned (.int .i64 (p : Int)) ∧ p ≤ n ∧ (∀ q, p = q + 1 → f q = true) ∧ (p < n → f p = false) ∧ Below w.heap.size w w' := by
  go_enter Try.func37, Try.ntmps37
  go_wp2_with fail
  have HB : Hid (Below w.heap.size w ((w.alloc (.cells #[.slice A n c] 25)).alloc (.cells #[.func (Fn.func 39) #[] #[.pointer (some ⟨b0, 0, none⟩)]] 76))) := bal (alb _) _
  have a1 : ((w.alloc (.cells #[.slice A n c] 25)).alloc (.cells #[.func (Fn.func 39) #[] #[.pointer (some ⟨b0, 0, none⟩)]] 76)).cell? ⟨w.heap.size, 0, none⟩ = some (.slice A n c) := alc (by rw [World.cell?_alloc_at _ _ _ _ rfl]; rfl) _
  have a0 : ((w.alloc (.cells #[.slice A n c] 25)).alloc (.cells #[.func (Fn.func 39) #[] #[.pointer (some ⟨b0, 0, none⟩)]] 76)).cell? ⟨w.heap.size + 1, 0, none⟩ = some (.func (Fn.func 39) #[] #[.pointer (some ⟨b0, 0, none⟩)]) := by
    rw [World.cell?_alloc_at _ _ _ _ (World.size_alloc _ _).symm]
    rfl
  generalize (w.alloc (.cells #[.slice A n c] 25)).alloc (.cells #[.func (Fn.func 39) #[] #[.pointer (some ⟨b0, 0, none⟩)]] 76) = w2 at *
  refine (nsearch_any w2 n (fun i => !(f i)) (w.heap.size + 1) w.heap.size hn (Lib.hid (fun i hi W hW => ?_))).mono ?_
  · obtain ⟨b, off, rfl, hcell⟩ := H.out (by omega)
    obtain ⟨u, c0, hu⟩ := hcell i hi
    have hwW := btr HB.out hW
    exact nhowK1_any W n c (w.heap.size + 1) w.heap.size i b0 b off u (f i) hi (kept a0 hW) (kept a1 hW) (kept c0 hwW) (Lib.hid (fun W2 h2 => HF.out i hi W2 u (btr hwW h2) (hu.below (btr hwW h2))))
  rintro e w3 ⟨p, rfl, h1, h2, h3, hB3⟩
  have HX : Hid (∀ q, p = q + 1 → f q = true) := fun q hq => by simpa using h2 q hq
  have HY : Hid (p < n → f p = false) := fun hq => by simpa using h3 hq
  have HB3 := Lib.hid (btr HB.out hB3)
  clear h2 h3 hB3
  go_wp2
  go_ret
  exact ⟨p, rfl, h1, HX.out, HY.out, HB3.out⟩
end Go.Proofs.Ytceoelemlokelaa
