/- node.Caps, mayHave, size. -/
import Derived.Test.YtceoelemlokelaaHd
namespace Go.Proofs.Ytceoelemlokelaa
open Go.RowKit

theorem not_fits {k v : Int} (h : ¬ (1 ≤ k ∧ k ≤ 24 ∧ 0 ≤ v ∧ v ≤ 108)) : k < 1 ∨ (¬ k < 1 ∧ 24 < k) ∨ (¬ k < 1 ∧ ¬ 24 < k ∧ v < 0) ∨ (¬ k < 1 ∧ ¬ 24 < k ∧ ¬ v < 0 ∧ 108 < v) := by omega
theorem ncaps_no (k v : Int) (h : ¬ (1 ≤ k ∧ k ≤ 24 ∧ 0 ≤ v ∧ v ≤ 108)) (w : World) : Calls Try.prog 7 #[.int .i64 k, .int .i64 v] w fun e w' => e = .returned (.tuple #[.int .i64 0, .int .i64 0]) ∧ Below w.heap.size w w' := by
  rcases not_fits h with q | ⟨q1, q2⟩ | ⟨q1, q2, q3⟩ | ⟨q1, q2, q3, q4⟩
  all_goals
    clear h
    go_enter Try.func7, Try.ntmps7
    go_wp2
    go_ret2
    exact ⟨rfl, Below.refl _ _⟩
theorem ncaps_yes (k v a b : Int) (h1 : 1 ≤ k) (h2 : k ≤ 24) (h3 : 0 ≤ v) (h4 : v ≤ 108) (ha : (498 : Int).tdiv (k + v) = a) (hb : (498 + k).tdiv (4 + k) = b) (ha2 : 0 ≤ a ∧ a ≤ 498) (hb2 : 0 ≤ b ∧ b ≤ 100) (w : World) :
    Calls Try.prog 7 #[.int .i64 k, .int .i64 v] w fun e w' => e = .returned (.tuple #[.int .i64 a, .int .i64 b]) ∧ Below w.heap.size w w' := by
  have n1 : ¬ k < 1 := by omega
  have n2 : ¬ 24 < k := by omega
  have n3 : ¬ v < 0 := by omega
  have n4 : ¬ 108 < v := by omega
  have n5 : k + v ≠ 0 := by omega
  have n6 : 4 + k ≠ 0 := by omega
  go_enter Try.func7, Try.ntmps7
  go_wp2_with fail
  go_region
  go_wp2
  go_ret2
  exact ⟨rfl, (Below.refl _ w).drew⟩
theorem ncaps_any (k v : Int) (w : World) : Calls Try.prog 7 #[.int .i64 k, .int .i64 v] w fun e w' => e = .returned (.tuple #[.int .i64 (N.capA k v), .int .i64 (N.capB k v)]) ∧ Below w.heap.size w w' := by
  by_cases h : 1 ≤ k ∧ k ≤ 24 ∧ 0 ≤ v ∧ v ≤ 108
  · obtain ⟨e1, e2⟩ := N.cap_yes h
    obtain ⟨a, b, ea, eb, a3, b3, a4, b4, _⟩ := N.cap_law k v h
    refine ncaps_yes k v _ _ h.1 h.2.1 h.2.2.1 h.2.2.2 ?_ ?_ ?_ ?_ w
    · rw [e1, Int.tdiv_eq_ediv_of_nonneg (by omega)]
    · rw [e2, Int.tdiv_eq_ediv_of_nonneg (by omega)]
    · omega
    · omega
  · obtain ⟨e1, e2⟩ := N.cap_no h
    rw [e1, e2]
    exact ncaps_no k v h w
theorem nmay_core (kd c : Nat) (k v a b : Int) (R : Bool) (w : World) (hkd : kd < 256) (HR : Hid (R = if kd = 3 then decide (1 ≤ c ∧ (c : Int) ≤ a) else if kd = 4 then decide (2 ≤ c ∧ (c : Int) ≤ b) else false))
    (HC : Hid (∀ w, Calls Try.prog 7 #[.int .i64 k, .int .i64 v] w fun e w' => e = .returned (.tuple #[.int .i64 a, .int .i64 b]) ∧ Below w.heap.size w w')) :
    Calls Try.prog 26 #[.int .u8 (kd : Int), .int .i64 (c : Int), .int .i64 k, .int .i64 v] w fun e w' => e = .returned (.bool R) ∧ Below w.heap.size w w' := by
  by_cases h3 : kd = 3
  · subst h3
    by_cases h1 : 1 ≤ c
    · have g1 : ¬ (c : Int) < 1 := by omega
      have g2 : (1 : Int) ≤ (c : Int) := by omega
      have e : Hid (R = decide ((c : Int) ≤ a)) := by show R = _; rw [HR.out, if_pos rfl]; simp [h1]
      clear HR
      obtain ⟨r, hr⟩ : ∃ r, decide ((c : Int) ≤ a) = r := ⟨_, rfl⟩
      have HE : Hid (R = r) := e.out.trans hr
      clear e
      go_enter Try.func26, Try.ntmps26
      go_wp2_with fail
      refine (HC.out _).mono ?_
      rintro e w1 ⟨rfl, hB⟩
      go_wp2
      go_ret
      exact ⟨by rw [HE.out]; rfl, hB⟩
    · have g1 : (c : Int) < 1 := by omega
      have g2 : ¬ (1 : Int) ≤ (c : Int) := by omega
      have e : Hid (R = false) := by show R = _; rw [HR.out, if_pos rfl]; simp [h1]
      clear HR
      go_enter Try.func26, Try.ntmps26
      go_wp2_with fail
      refine (HC.out _).mono ?_
      rintro e w1 ⟨rfl, hB⟩
      go_wp2
      go_ret
      exact ⟨by rw [e.out]; rfl, hB⟩
  · have i3 : ((kd : Int) == 3) = false := by rw [beq_eq_false_iff_ne]; omega
    by_cases h4 : kd = 4
    · subst h4
      by_cases h1 : 2 ≤ c
      · have g1 : ¬ (c : Int) < 2 := by omega
        have g2 : (2 : Int) ≤ (c : Int) := by omega
        have e : Hid (R = decide ((c : Int) ≤ b)) := by show R = _; rw [HR.out, if_neg h3, if_pos rfl]; simp [h1]
        clear HR
        obtain ⟨r, hr⟩ : ∃ r, decide ((c : Int) ≤ b) = r := ⟨_, rfl⟩
        have HE : Hid (R = r) := e.out.trans hr
        clear e
        go_enter Try.func26, Try.ntmps26
        go_wp2_with fail
        refine (HC.out _).mono ?_
        rintro e w1 ⟨rfl, hB⟩
        go_wp2
        go_ret
        exact ⟨by rw [HE.out]; rfl, hB⟩
      · have g1 : (c : Int) < 2 := by omega
        have g2 : ¬ (2 : Int) ≤ (c : Int) := by omega
        have e : Hid (R = false) := by show R = _; rw [HR.out, if_neg h3, if_pos rfl]; simp [h1]
        clear HR
        go_enter Try.func26, Try.ntmps26
        go_wp2_with fail
        refine (HC.out _).mono ?_
        rintro e w1 ⟨rfl, hB⟩
        go_wp2
        go_ret
        exact ⟨by rw [e.out]; rfl, hB⟩
    · have i4 : ((kd : Int) == 4) = false := by rw [beq_eq_false_iff_ne]; omega
      have e : Hid (R = false) := by show R = _; rw [HR.out, if_neg h3, if_neg h4]
      clear HR h3 h4
      go_enter Try.func26, Try.ntmps26
      go_wp2_with fail
      refine (HC.out _).mono ?_
      rintro e w1 ⟨rfl, hB⟩
      go_wp2
      go_ret
      exact ⟨by rw [e.out]; rfl, hB⟩
theorem nmay_any (kd c : Nat) (k v : Int) (w : World) (hkd : kd < 256) :
    Calls Try.prog 26 #[.int .u8 (kd : Int), .int .i64 (c : Int), .int .i64 k, .int .i64 v] w fun e w' => e = .returned (.bool (N.may kd c k v)) ∧ Below w.heap.size w w' :=
  nmay_core kd c k v _ _ _ w hkd (Lib.hid rfl) (Lib.hid (fun w => ncaps_any k v w))
theorem nsize_any (kd c k v : Nat) (hc : c ≤ 500) (h1 : 1 ≤ c) (hk : k ≤ 24) (hv : v ≤ 108) (w : World) :
    Calls Try.prog 33 #[.int .u8 (kd : Int), .int .i64 (c : Int), .int .i64 (k : Int), .int .i64 (v : Int)] w fun e w' => e = .returned (.int .i64 ((N.sizeN (decide (kd = 3)) c k v : Nat) : Int)) ∧ w = w' := by
  by_cases h3 : kd = 3
  · subst h3
    obtain ⟨q, hq⟩ : ∃ q, q = c * (k + v) := ⟨_, rfl⟩
    have e : N.sizeN (decide (3 = 3)) c k v = 2 + q := by rw [hq]; rfl
    have b : q ≤ 500 * 132 := by rw [hq]; exact Nat.mul_le_mul hc (by omega)
    have hq2 : (c : Int) * ((k : Int) + (v : Int)) = (q : Int) := by rw [hq, Int.natCast_mul, Int.natCast_add]
    rw [e]
    clear e hq
    go_enter Try.func33, Try.ntmps33
    go_wp2
    go_ret
    exact ⟨rfl, rfl⟩
  · have i3 : ((kd : Int) == 3) = false := by rw [beq_eq_false_iff_ne]; omega
    obtain ⟨d, rfl⟩ : ∃ d, c = d + 1 := ⟨c - 1, by omega⟩
    obtain ⟨q, hq⟩ : ∃ q, q = d * k := ⟨_, rfl⟩
    have e : N.sizeN (decide (kd = 3)) (d + 1) k v = 2 + (d + 1) * 4 + q := by
      rw [decide_eq_false h3, hq]
      show 2 + (d + 1) * 4 + (d + 1 - 1) * k = _
      rw [Nat.add_sub_cancel]
    have b : q ≤ 500 * 24 := by rw [hq]; exact Nat.mul_le_mul (by omega) hk
    have hq2 : (d : Int) * (k : Int) = (q : Int) := by rw [hq, Int.natCast_mul]
    rw [e]
    clear e hq h3
    go_enter Try.func33, Try.ntmps33
    go_wp2
    go_ret
    exact ⟨by first | rfl | (congr 3; omega), rfl⟩
end Go.Proofs.Ytceoelemlokelaa
