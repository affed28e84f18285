/- digits.withDigit: a number with one more digit at its end. -/
import Derived.Test.YtehcmgaonpfafaaForm
namespace Go.Proofs.Ytehcmgaonpfafaa
open Go.RowKit
open W (hi lo addN addB dig MM M)

theorem addN_ok {a b : Nat} (h : a + b < MM) : addN a b = a + b := by unfold W.addN; rw [if_pos h]
theorem addN_no {a b : Nat} (h : ¬ a + b < MM) : addN a b = 0 := by unfold W.addN; rw [if_neg h]
theorem add_at {x1 x2 x3 x4 y1 y2 : Int} {ok : Bool} (a b : Nat) (h1 : x1 = (hi a : Nat)) (h2 : x2 = (lo a : Nat)) (h3 : x3 = (hi b : Nat)) (h4 : x4 = (lo b : Nat)) (h5 : y1 = (hi (addN a b) : Nat)) (h6 : y2 = (lo (addN a b) : Nat)) (h7 : ok = addB a b) (w : World) :
    Calls Try.prog 30 #[.agg #[.int .u64 x1, .int .u64 x2], .agg #[.int .u64 x3, .int .u64 x4]] w fun e w' => e = .returned (.tuple #[.agg #[.int .u64 y1, .int .u64 y2], .bool ok]) ∧ Below w.heap.size w w' := by
  rw [h1, h2, h3, h4, h5, h6, h7]; exact add_any a b w
theorem hi_of (p q : Nat) (hq : q < 18446744073709551616) : hi (p * 18446744073709551616 + q) = p := by unfold W.hi; rw [W.M_eq]; omega
theorem lo_of (p q : Nat) (hq : q < 18446744073709551616) : lo (p * 18446744073709551616 + q) = q := by unfold W.lo; rw [W.M_eq]; omega
theorem hi_mul (p : Nat) : hi (p * 18446744073709551616) = p := by unfold W.hi; rw [W.M_eq]; omega
theorem lo_mul (p : Nat) : lo (p * 18446744073709551616) = 0 := by unfold W.lo; rw [W.M_eq]; omega
theorem ten_key (K X p q x y a : Nat) (hX : X = x * 10) (hp : K * p + q = y * 10) (h1 : x * K + y = a) : X * K + q + p * K = a * 10 := by
  subst hX h1
  rw [Nat.mul_right_comm x 10 K, Nat.mul_comm p K]
  generalize x * K = z at *
  generalize K * p = v at *
  omega
theorem ten_sum (a x y : Nat) (h1 : x * 18446744073709551616 + y = a) (h2 : x ≤ 18446744073709551615) (_ : y ≤ 18446744073709551615) (h : x * 10 / 18446744073709551616 = 0) :
    x * 10 % 18446744073709551616 * 18446744073709551616 + y * 10 % 18446744073709551616 + y * 10 / 18446744073709551616 * 18446744073709551616 = a * 10 := by
  exact ten_key 18446744073709551616 _ _ _ x y a (Nat.mod_eq_of_lt (by omega)) (Nat.div_add_mod (y * 10) 18446744073709551616) h1
theorem ten_big (a x y : Nat) (h1 : x * 18446744073709551616 + y = a) (_ : x ≤ 18446744073709551615) (_ : y ≤ 18446744073709551615) (h : x * 10 / 18446744073709551616 ≠ 0) : ¬ a * 10 < MM := by
  have e1 : 18446744073709551616 ≤ x * 10 := by omega
  rw [W.MM_eq]
  omega
/-- Ten times a number, by its halves. -/
theorem ten_times (a : Nat) (ha : a < MM) : ∃ ov p q c P C : Nat, hi a * 10 / 18446744073709551616 = ov ∧ hi a * 10 % 18446744073709551616 = p ∧ lo a * 10 / 18446744073709551616 = c ∧ lo a * 10 % 18446744073709551616 = q ∧
    hi P = p ∧ lo P = q ∧ hi C = c ∧ lo C = 0 ∧ (ov = 0 → P + C = a * 10) ∧ (ov ≠ 0 → ¬ a * 10 < MM) := by
  have h1 := W.hi_lo a
  have h2 := W.hi_le a ha
  have h3 := W.lo_le a
  clear ha
  generalize hi a = x at *
  generalize lo a = y at *
  refine ⟨_, _, _, _, x * 10 % 18446744073709551616 * 18446744073709551616 + y * 10 % 18446744073709551616, y * 10 / 18446744073709551616 * 18446744073709551616, rfl, rfl, rfl, rfl, hi_of _ _ (Nat.mod_lt _ (by omega)), lo_of _ _ (Nat.mod_lt _ (by omega)), hi_mul _, lo_mul _, ?_, ?_⟩
  · exact ten_sum a x y h1 h2 h3
  · exact ten_big a x y h1 h2 h3

def DigitPost (a d : Nat) (w : World) (e : Ending) (w' : World) : Prop :=
  e = .returned (.tuple #[.agg #[.int .u64 (hi (addN (a * 10) d) : Nat), .int .u64 (lo (addN (a * 10) d) : Nat)], .bool (addB (a * 10) d)]) ∧ Below w.heap.size w w'
theorem digitPost_no {a d : Nat} {w w' : World} (h : ¬ a * 10 + d < MM) (hB : Below w.heap.size w w') : DigitPost a d w (.returned (.tuple #[.agg #[.int .u64 0, .int .u64 0], .bool false])) w' := by
  refine ⟨?_, hB⟩
  rw [addN_no h, W.addB_false h]
  rfl

set_option maxHeartbeats 400000 in
theorem withDigit_any (a d : Nat) (ha : a < MM) (hd : d < 10) (w : World) :
    Calls Try.prog 20 #[.agg #[.int .u64 (hi a : Nat), .int .u64 (lo a : Nat)], .int .u8 (48 + (d : Int))] w (DigitPost a d w) := by
  have m1 := mul10 (hi a) (by have := W.hi_le a ha; omega)
  have m2 := mul10 (lo a) (by have := W.lo_le a; omega)
  obtain ⟨ov, p, q, c, P, C, e1, e2, e3, e4, hP1, hP2, hC1, hC2, hs, hn⟩ := ten_times a ha
  rw [e1, e2] at m1
  rw [e3, e4] at m2
  have M1 := Lib.hid m1; clear m1
  have M2 := Lib.hid m2; clear m2
  have HP1 := Lib.hid hP1; clear hP1
  have HP2 := Lib.hid hP2; clear hP2
  have HC1 := Lib.hid hC1; clear hC1
  have HC2 := Lib.hid hC2; clear hC2
  clear e1 e2 e3 e4
  by_cases hov : ov = 0
  · subst hov
    have HS := Lib.hid (hs rfl); clear hs hn
    by_cases hlt : a * 10 < MM
    · have HA : Hid (∀ w, Calls Try.prog 30 #[.agg #[.int .u64 (p : Int), .int .u64 (q : Int)], .agg #[.int .u64 (c : Int), .int .u64 0]] w fun e w' => e = .returned (.tuple #[.agg #[.int .u64 (hi (a * 10) : Nat), .int .u64 (lo (a * 10) : Nat)], .bool true]) ∧ Below w.heap.size w w') := fun w => by
        refine add_at P C (by rw [HP1.out]) (by rw [HP2.out]) (by rw [HC1.out]) (by rw [HC2.out]; rfl) ?_ ?_ ?_ w
        · rw [addN_ok (by rw [HS.out]; exact hlt), HS.out]
        · rw [addN_ok (by rw [HS.out]; exact hlt), HS.out]
        · rw [W.addB_true (by rw [HS.out]; exact hlt)]
      have HA2 : Hid (∀ w, Calls Try.prog 30 #[.agg #[.int .u64 (hi (a * 10) : Nat), .int .u64 (lo (a * 10) : Nat)], .agg #[.int .u64 0, .int .u64 (d : Int)]] w fun e w' => e = .returned (.tuple #[.agg #[.int .u64 (hi (addN (a * 10) d) : Nat), .int .u64 (lo (addN (a * 10) d) : Nat)], .bool (addB (a * 10) d)]) ∧ Below w.heap.size w w') := fun w =>
        add_at (a * 10) d rfl rfl (by rw [show d = 0 * 18446744073709551616 + d by omega, hi_of 0 d (by omega)]; rfl) (by rw [show lo d = d by have := lo_of 0 d (by omega); simpa using this]) rfl rfl rfl w
      have g1 : IntKind.u8.wrap (48 + (d : Int) - 48) = (d : Int) := by rw [IntKind.wrap_u8]; omega
      have g2 : IntKind.u64.wrap (d : Int) = (d : Int) := by rw [IntKind.wrap_u64]; omega
      clear hlt
      go_enter Try.func20, Try.ntmps20
      go_wp2_with fail
      refine (M1.out _).mono ?_
      rintro e w1 ⟨rfl, rfl⟩
      go_wp2_with fail
      refine (M2.out _).mono ?_
      rintro e w1 ⟨rfl, rfl⟩
      go_wp2_with fail
      refine (HA.out _).mono ?_
      rintro e w1 ⟨rfl, hb1⟩
      go_wp2_with fail
      have hz := hb1.size
      simp only [World.size_alloc] at hz
      have hBu : Below w.heap.size w (w1.alloc (.cells #[.int .u64 (hi (a * 10) : Nat), .int .u64 (lo (a * 10) : Nat)] 24)) := bal (btr (bal (alb _) _) hb1) _
      have c0 : (w1.alloc (.cells #[.int .u64 (hi (a * 10) : Nat), .int .u64 (lo (a * 10) : Nat)] 24)).cell? ⟨w1.heap.size, 0, none⟩ = some (.int .u64 (hi (a * 10) : Nat)) := by simp [go_sem]
      have c1 : (w1.alloc (.cells #[.int .u64 (hi (a * 10) : Nat), .int .u64 (lo (a * 10) : Nat)] 24)).cell? ⟨w1.heap.size, 1, none⟩ = some (.int .u64 (lo (a * 10) : Nat)) := by simp [go_sem]
      have r0 := alc (kept (p := ⟨w.heap.size + 1, 0, none⟩) (x := .int .u64 0) (by simp [go_sem]) hb1) (.cells #[.int .u64 (hi (a * 10) : Nat), .int .u64 (lo (a * 10) : Nat)] 24)
      have r1 := alc (kept (p := ⟨w.heap.size + 1, 1, none⟩) (x := .int .u64 0) (by simp [go_sem]) hb1) (.cells #[.int .u64 (hi (a * 10) : Nat), .int .u64 (lo (a * 10) : Nat)] 24)
      have f0 := alf (kept (p := ⟨w.heap.size + 1, 0, none⟩) (x := .int .u64 0) (by simp [go_sem]) hb1) (keptf (p := ⟨w.heap.size + 1, 0, none⟩) (x := .int .u64 0) (by simp [go_sem]) (by simp [go_sem]) hb1) (.cells #[.int .u64 (hi (a * 10) : Nat), .int .u64 (lo (a * 10) : Nat)] 24)
      have f1 := alf (kept (p := ⟨w.heap.size + 1, 1, none⟩) (x := .int .u64 0) (by simp [go_sem]) hb1) (keptf (p := ⟨w.heap.size + 1, 1, none⟩) (x := .int .u64 0) (by simp [go_sem]) (by simp [go_sem]) hb1) (.cells #[.int .u64 (hi (a * 10) : Nat), .int .u64 (lo (a * 10) : Nat)] 24)
      generalize w1.alloc (.cells #[.int .u64 (hi (a * 10) : Nat), .int .u64 (lo (a * 10) : Nat)] 24) = u at *
      generalize w1.heap.size = B at *
      clear hb1 hz M1 M2 HA HP1 HP2 HC1 HC2 HS
      go_region_with (first
        | (go_at_call 21; ((with_reducible refine (of_any _ _).mono ?_)); rintro e w2 ⟨rfl, h2⟩; have x0 := kept (v := u.drew) c0 h2; have x1 := kept (v := u.drew) c1 h2)
        | (go_at_call 30; ((with_reducible refine (HA2.out _).mono ?_)); rintro e w3 ⟨rfl, h3⟩; have z0 := kept (kept (v := u.drew) r0 h2) h3; have z1 := kept (kept (v := u.drew) r1 h2) h3; have y0 := keptf (kept (v := u.drew) r0 h2) (keptf (v := u.drew) r0 f0 h2) h3; have y1 := keptf (kept (v := u.drew) r1 h2) (keptf (v := u.drew) r1 f1 h2) h3))
      all_goals (go_wp2; refine bodyPost_ret (v := .tuple #[.agg #[.int .u64 (hi (addN (a * 10) d) : Nat), .int .u64 (lo (addN (a * 10) d) : Nat)], .bool (addB (a * 10) d)]) (by simp [results, Try.results20, go_sem, z0, z1]) rfl ⟨rfl, ((btr (btr hBu.drew h2) h3).setCell (by simp) _).setCell (by simp) _⟩)
    · have HF := Lib.hid (show ¬ a * 10 + d < MM by omega)
      have HA : Hid (∀ w, Calls Try.prog 30 #[.agg #[.int .u64 (p : Int), .int .u64 (q : Int)], .agg #[.int .u64 (c : Int), .int .u64 0]] w fun e w' => e = .returned (.tuple #[.agg #[.int .u64 0, .int .u64 0], .bool false]) ∧ Below w.heap.size w w') := fun w => by
        refine add_at P C (by rw [HP1.out]) (by rw [HP2.out]) (by rw [HC1.out]) (by rw [HC2.out]; rfl) ?_ ?_ ?_ w
        · rw [addN_no (by rw [HS.out]; exact hlt)]; rfl
        · rw [addN_no (by rw [HS.out]; exact hlt)]; rfl
        · rw [W.addB_false (by rw [HS.out]; exact hlt)]
      clear hlt
      go_enter Try.func20, Try.ntmps20
      go_wp2_with fail
      refine (M1.out _).mono ?_
      rintro e w1 ⟨rfl, rfl⟩
      go_wp2_with fail
      refine (M2.out _).mono ?_
      rintro e w1 ⟨rfl, rfl⟩
      go_wp2_with fail
      refine (HA.out _).mono ?_
      rintro e w1 ⟨rfl, hb1⟩
      have hc := oldc hb1
      have hf := oldf hb1
      have hz : w.heap.size + 1 < w1.heap.size := by have := hb1.size; simp at this; omega
      have hB1 : Below w.heap.size w w1 := btr (bal (alb _) _) hb1
      go_wp2
      refine bodyPost_ret (v := .tuple #[.agg #[.int .u64 0, .int .u64 0], .bool false]) (by simp [results, Try.results20, go_sem, hc, hz]) rfl (digitPost_no HF.out ?_)
      repeat (first | exact hB1 | apply bal | (refine Below.setCell ?_ (by simp) _) | (refine Below.setCell ?_ (by simp; omega) _))
  · have HF := Lib.hid (show ¬ a * 10 + d < MM by have := hn hov; omega); clear hs hn
    have hov' : ((ov : Int) != 0) = true := by rw [bne_iff_ne]; omega
    clear hov
    go_enter Try.func20, Try.ntmps20
    go_wp2_with fail
    refine (M1.out _).mono ?_
    rintro e w1 ⟨rfl, rfl⟩
    go_wp2_with fail
    refine (M2.out _).mono ?_
    rintro e w1 ⟨rfl, rfl⟩
    go_wp2
    refine bodyPost_ret (v := .tuple #[.agg #[.int .u64 0, .int .u64 0], .bool false]) (by simp [results, Try.results20, go_sem]) rfl (digitPost_no HF.out ?_)
    repeat (first | exact Below.refl _ _ | apply bal | (refine Below.setCell ?_ (by simp) _))
end Go.Proofs.Ytehcmgaonpfafaa
