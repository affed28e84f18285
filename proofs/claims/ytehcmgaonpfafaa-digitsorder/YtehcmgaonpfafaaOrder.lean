/- The walk of the law DigitsOrder. -/
import Derived.Test.YtehcmgaonpfafaaTexts
namespace Go.Proofs.Ytehcmgaonpfafaa
open Go.RowKit
open W (hi lo addN addB cmpN dig MM M txL isT isD dg num)

/-- How two numbers' texts stand, as the tests ask it: c is how the numbers stand. -/
def Ahead (s t : ByteArray) (c : Int) : Prop :=
  (c = -1 ∧ s.size < t.size) ∨
  (c = -1 ∧ ¬ s.size < t.size ∧ (((s.size : Nat) : Int) == ((t.size : Nat) : Int)) = true ∧ Op.bytesLess s.toList t.toList = true) ∨
  (c = 1 ∧ ¬ s.size < t.size ∧ (((s.size : Nat) : Int) == ((t.size : Nat) : Int)) = false) ∨
  (c = 1 ∧ ¬ s.size < t.size ∧ (((s.size : Nat) : Int) == ((t.size : Nat) : Int)) = true ∧ Op.bytesLess s.toList t.toList = false)
theorem ahead_of (a b : Nat) (h : a ≠ b) : Ahead (str (txL a)) (str (txL b)) (cmpN a b) ∧ ((str (txL a)).toList == (str (txL b)).toList) = false := by
  have ha := W.txL_isT a
  have hb := W.txL_isT b
  have na := W.txL_num a
  have nb := W.txL_num b
  unfold Ahead
  simp only [str_toList, str_size]
  refine ⟨?_, ?_⟩
  · generalize txL a = l at *
    generalize txL b = m at *
    rcases Nat.lt_trichotomy l.length m.length with c | c | c
    · have := W.isT_short ha hb c
      exact Or.inl ⟨by unfold W.cmpN; rw [if_pos (by omega)], c⟩
    · have hL := W.less_num l m (W.isT_all ha) (W.isT_all hb) c
      rw [na, nb] at hL
      have c1 : (((l.length : Nat) : Int) == ((m.length : Nat) : Int)) = true := by rw [c]; simp
      by_cases hlt : a < b
      · exact Or.inr (Or.inl ⟨by unfold W.cmpN; rw [if_pos hlt], by omega, c1, by rw [hL]; simp [hlt]⟩)
      · exact Or.inr (Or.inr (Or.inr ⟨by unfold W.cmpN; rw [if_neg hlt, if_pos (by omega)], by omega, c1, by rw [hL]; simp; omega⟩))
    · have := W.isT_short hb ha c
      exact Or.inr (Or.inr (Or.inl ⟨by unfold W.cmpN; rw [if_neg (by omega), if_pos (by omega)], by omega, beq_eq_false_iff_ne.2 (by omega)⟩))
  · rw [beq_eq_false_iff_ne]
    intro e
    rw [← na, ← nb, e] at h
    exact h rfl
theorem halves_ne {a b : Nat} (h : a ≠ b) : (((hi a : Nat) : Int) == ((hi b : Nat) : Int)) = false ∨ ((((hi a : Nat) : Int) == ((hi b : Nat) : Int)) = true ∧ (((lo a : Nat) : Int) == ((lo b : Nat) : Int)) = false) := by
  by_cases h1 : hi a = hi b
  · refine Or.inr ⟨by rw [h1]; simp, beq_eq_false_iff_ne.2 (fun e => h (W.ext a b h1 (by omega)))⟩
  · exact Or.inl (beq_eq_false_iff_ne.2 (by omega))

set_option maxHeartbeats 800000 in
/-- The law's walk, once how the two stand is told. -/
theorem order_walk (a b : Nat) (s t : ByteArray) (c : Int) (C1 : Hid (∀ w : World, Calls Try.prog 7 #[.agg #[.int .u64 (hi a : Nat), .int .u64 (lo a : Nat)]] w fun e w' => e = .returned (.string s) ∧ Below w.heap.size w w'))
    (C2 : Hid (∀ w : World, Calls Try.prog 7 #[.agg #[.int .u64 (hi b : Nat), .int .u64 (lo b : Nat)]] w fun e w' => e = .returned (.string t) ∧ Below w.heap.size w w'))
    (C3 : Hid (∀ w : World, Calls Try.prog 16 #[.agg #[.int .u64 (hi a : Nat), .int .u64 (lo a : Nat)], .agg #[.int .u64 (hi b : Nat), .int .u64 (lo b : Nat)]] w fun e w' => e = .returned (.int .i64 c) ∧ Below w.heap.size w w'))
    (hs1 : (1 : Int) ≤ (s.size : Int)) (hs2 : (s.size : Int) ≤ 39) (hA : Ahead s t c) (hne : (s.toList == t.toList) = false)
    (hh : (((hi a : Nat) : Int) == ((hi b : Nat) : Int)) = false ∨ ((((hi a : Nat) : Int) == ((hi b : Nat) : Int)) = true ∧ (((lo a : Nat) : Int) == ((lo b : Nat) : Int)) = false)) (w : World) :
    Calls Try.prog 6 #[.agg #[.int .u64 (hi a : Nat), .int .u64 (lo a : Nat)], .agg #[.int .u64 (hi b : Nat), .int .u64 (lo b : Nat)]] w fun e w' => e = .returned (.bool true) ∧ Below w.heap.size w w' := by
  unfold Ahead at hA
  rcases hA with ⟨rfl, h1⟩ | ⟨rfl, h1, h2, h3⟩ | ⟨rfl, h1, h2⟩ | ⟨rfl, h1, h2, h3⟩
  all_goals
    rcases hh with z0 | ⟨z0, z1⟩
    all_goals
      go_enter Try.func6, Try.ntmps6
      go_wp2_with fail
      have a0 : ((w.alloc (.cells #[.int .u64 (hi a : Nat), .int .u64 (lo a : Nat)] 24)).alloc (.cells #[.int .u64 (hi b : Nat), .int .u64 (lo b : Nat)] 24)).cell? ⟨w.heap.size, 0, none⟩ = some (.int .u64 (hi a : Nat)) := by simp [go_sem]
      have a1 : ((w.alloc (.cells #[.int .u64 (hi a : Nat), .int .u64 (lo a : Nat)] 24)).alloc (.cells #[.int .u64 (hi b : Nat), .int .u64 (lo b : Nat)] 24)).cell? ⟨w.heap.size, 1, none⟩ = some (.int .u64 (lo a : Nat)) := by simp [go_sem]
      have b0 : ((w.alloc (.cells #[.int .u64 (hi a : Nat), .int .u64 (lo a : Nat)] 24)).alloc (.cells #[.int .u64 (hi b : Nat), .int .u64 (lo b : Nat)] 24)).cell? ⟨w.heap.size + 1, 0, none⟩ = some (.int .u64 (hi b : Nat)) := by simp [go_sem]
      have b1 : ((w.alloc (.cells #[.int .u64 (hi a : Nat), .int .u64 (lo a : Nat)] 24)).alloc (.cells #[.int .u64 (hi b : Nat), .int .u64 (lo b : Nat)] 24)).cell? ⟨w.heap.size + 1, 1, none⟩ = some (.int .u64 (lo b : Nat)) := by simp [go_sem]
      have hB : Below w.heap.size w ((w.alloc (.cells #[.int .u64 (hi a : Nat), .int .u64 (lo a : Nat)] 24)).alloc (.cells #[.int .u64 (hi b : Nat), .int .u64 (lo b : Nat)] 24)) := bal (alb _) _
      generalize (w.alloc (.cells #[.int .u64 (hi a : Nat), .int .u64 (lo a : Nat)] 24)).alloc (.cells #[.int .u64 (hi b : Nat), .int .u64 (lo b : Nat)] 24) = v at *
      have A0 := Lib.hid a0
      have A1 := Lib.hid a1
      have B0 := Lib.hid b0
      have B1 := Lib.hid b1
      replace a0 := cell_regrown a0
      replace a1 := cell_regrown a1
      replace b0 := cell_regrown b0
      replace b1 := cell_regrown b1
      refine wp_region_quiet_below (by kernel_rfl) (by kernel_rfl) ?_
      repeat (first | go_big_quiet_step (first | (go_at_call 7; with_reducible exact Calls.regrown_of (C1.out _)) | (go_at_call 7; with_reducible exact Calls.regrown_of (C2.out _))))
      refine wpQuiet_nil ?_
      rintro _ ⟨⟨dq, osq⟩, rfl⟩
      have hR := below_regrown v dq osq
      clear a0 a1 b0 b1
      replace hB := btr hB hR
      have a0 := kept A0.out hR
      have a1 := kept A1.out hR
      have b0 := kept B0.out hR
      have b1 := kept B1.out hR
      dsimp only at hR hB a0 a1 b0 b1 ⊢
      generalize Go.Sort.grow (redrawn v dq) osq = u at *
      clear hR A0 A1 B0 B1
      go_wp2_with fail
      refine (fixed_any _).mono ?_
      rintro e w5 ⟨rfl, hb5⟩
      replace a0 := kept a0 hb5
      replace a1 := kept a1 hb5
      replace b0 := kept b0 hb5
      replace b1 := kept b1 hb5
      replace hB := btr hB hb5
      clear hb5
      go_wp2_with fail
      refine (C3.out _).mono ?_
      rintro e w6 ⟨rfl, hb6⟩
      replace a0 := kept a0 hb6
      replace a1 := kept a1 hb6
      replace b0 := kept b0 hb6
      replace b1 := kept b1 hb6
      replace hB := btr hB hb6
      clear hb6
      go_wp2
      go_ret
      exact ⟨rfl, hB⟩

theorem less_self : ∀ l : List UInt8, Op.bytesLess l l = false
  | [] => rfl
  | a :: l => by simp [Op.bytesLess, less_self l]
set_option maxHeartbeats 800000 in
/-- The same, of one number twice. -/
theorem order_same (a : Nat) (s : ByteArray) (C1 : Hid (∀ w : World, Calls Try.prog 7 #[.agg #[.int .u64 (hi a : Nat), .int .u64 (lo a : Nat)]] w fun e w' => e = .returned (.string s) ∧ Below w.heap.size w w'))
    (C3 : Hid (∀ w : World, Calls Try.prog 16 #[.agg #[.int .u64 (hi a : Nat), .int .u64 (lo a : Nat)], .agg #[.int .u64 (hi a : Nat), .int .u64 (lo a : Nat)]] w fun e w' => e = .returned (.int .i64 0) ∧ Below w.heap.size w w'))
    (hs1 : (1 : Int) ≤ (s.size : Int)) (hs2 : (s.size : Int) ≤ 39) (w : World) :
    Calls Try.prog 6 #[.agg #[.int .u64 (hi a : Nat), .int .u64 (lo a : Nat)], .agg #[.int .u64 (hi a : Nat), .int .u64 (lo a : Nat)]] w fun e w' => e = .returned (.bool true) ∧ Below w.heap.size w w' := by
  have h3 : Op.bytesLess s.toList s.toList = false := less_self _
  go_enter Try.func6, Try.ntmps6
  go_wp2_with fail
  have a0 : ((w.alloc (.cells #[.int .u64 (hi a : Nat), .int .u64 (lo a : Nat)] 24)).alloc (.cells #[.int .u64 (hi a : Nat), .int .u64 (lo a : Nat)] 24)).cell? ⟨w.heap.size, 0, none⟩ = some (.int .u64 (hi a : Nat)) := by simp [go_sem]
  have a1 : ((w.alloc (.cells #[.int .u64 (hi a : Nat), .int .u64 (lo a : Nat)] 24)).alloc (.cells #[.int .u64 (hi a : Nat), .int .u64 (lo a : Nat)] 24)).cell? ⟨w.heap.size, 1, none⟩ = some (.int .u64 (lo a : Nat)) := by simp [go_sem]
  have b0 : ((w.alloc (.cells #[.int .u64 (hi a : Nat), .int .u64 (lo a : Nat)] 24)).alloc (.cells #[.int .u64 (hi a : Nat), .int .u64 (lo a : Nat)] 24)).cell? ⟨w.heap.size + 1, 0, none⟩ = some (.int .u64 (hi a : Nat)) := by simp [go_sem]
  have b1 : ((w.alloc (.cells #[.int .u64 (hi a : Nat), .int .u64 (lo a : Nat)] 24)).alloc (.cells #[.int .u64 (hi a : Nat), .int .u64 (lo a : Nat)] 24)).cell? ⟨w.heap.size + 1, 1, none⟩ = some (.int .u64 (lo a : Nat)) := by simp [go_sem]
  have hB : Below w.heap.size w ((w.alloc (.cells #[.int .u64 (hi a : Nat), .int .u64 (lo a : Nat)] 24)).alloc (.cells #[.int .u64 (hi a : Nat), .int .u64 (lo a : Nat)] 24)) := bal (alb _) _
  generalize (w.alloc (.cells #[.int .u64 (hi a : Nat), .int .u64 (lo a : Nat)] 24)).alloc (.cells #[.int .u64 (hi a : Nat), .int .u64 (lo a : Nat)] 24) = v at *
  have A0 := Lib.hid a0
  have A1 := Lib.hid a1
  have B0 := Lib.hid b0
  have B1 := Lib.hid b1
  replace a0 := cell_regrown a0
  replace a1 := cell_regrown a1
  replace b0 := cell_regrown b0
  replace b1 := cell_regrown b1
  refine wp_region_quiet_below (by kernel_rfl) (by kernel_rfl) ?_
  repeat (first | go_big_quiet_step (first | (go_at_call 7; with_reducible exact Calls.regrown_of (C1.out _))))
  refine wpQuiet_nil ?_
  rintro _ ⟨⟨dq, osq⟩, rfl⟩
  have hR := below_regrown v dq osq
  clear a0 a1 b0 b1
  replace hB := btr hB hR
  have a0 := kept A0.out hR
  have a1 := kept A1.out hR
  have b0 := kept B0.out hR
  have b1 := kept B1.out hR
  dsimp only at hR hB a0 a1 b0 b1 ⊢
  generalize Go.Sort.grow (redrawn v dq) osq = u at *
  clear hR A0 A1 B0 B1
  go_wp2_with fail
  refine (fixed_any _).mono ?_
  rintro e w5 ⟨rfl, hb5⟩
  replace a0 := kept a0 hb5
  replace a1 := kept a1 hb5
  replace b0 := kept b0 hb5
  replace b1 := kept b1 hb5
  replace hB := btr hB hb5
  clear hb5
  go_wp2_with fail
  refine (C3.out _).mono ?_
  rintro e w6 ⟨rfl, hb6⟩
  replace a0 := kept a0 hb6
  replace a1 := kept a1 hb6
  replace b0 := kept b0 hb6
  replace b1 := kept b1 hb6
  replace hB := btr hB hb6
  clear hb6
  go_wp2
  go_ret
  exact ⟨rfl, hB⟩

theorem order_any (a b : Nat) (ha : a < MM) (hb : b < MM) (w : World) :
    Calls Try.prog 6 #[.agg #[.int .u64 (hi a : Nat), .int .u64 (lo a : Nat)], .agg #[.int .u64 (hi b : Nat), .int .u64 (lo b : Nat)]] w fun e w' => e = .returned (.bool true) ∧ Below w.heap.size w w' := by
  have l1 := W.txL_len a
  have l2 := W.txL_len_le a ha
  by_cases h : a = b
  · subst h
    refine order_same a (str (txL a)) (text_any a ha) (fun w => ?_) (by rw [str_size]; omega) (by rw [str_size]; omega) w
    have k := refcmp_any a a ha ha w
    rwa [show cmpN a a = 0 by unfold W.cmpN; simp] at k
  · have k := ahead_of a b h
    exact order_walk a b _ _ (cmpN a b) (text_any a ha) (text_any b hb) (refcmp_any a b ha hb) (by rw [str_size]; omega) (by rw [str_size]; omega) k.1 k.2 (halves_ne h) w
end Go.Proofs.Ytehcmgaonpfafaa
