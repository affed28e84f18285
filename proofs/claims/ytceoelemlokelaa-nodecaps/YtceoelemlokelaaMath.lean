/- Plain arithmetic for layer 1: numbers below 2^128 as two halves, and as sixteen digits of 256. No program is named here. -/
namespace Go.Proofs.Ytceoelemlokelaa.W

/-- 2^64, behind a name. -/
def M : Nat := 18446744073709551616
/-- 2^128, behind a name. -/
def MM : Nat := 340282366920938463463374607431768211456
theorem M_eq : M = 18446744073709551616 := rfl
theorem MM_eq : MM = 340282366920938463463374607431768211456 := rfl

/-- The halves of a number. -/
def hi (n : Nat) : Nat := n / M
def lo (n : Nat) : Nat := n % M
theorem lo_lt (n : Nat) : lo n < M := by unfold lo; rw [M_eq]; omega
theorem hi_lt (n : Nat) (h : n < MM) : hi n < M := by unfold hi; rw [M_eq]; rw [MM_eq] at h; omega
theorem hi_le (n : Nat) (h : n < MM) : hi n ≤ 18446744073709551615 := by have := hi_lt n h; rw [M_eq] at this; omega
theorem lo_le (n : Nat) : lo n ≤ 18446744073709551615 := by have := lo_lt n; rw [M_eq] at this; omega
theorem hi_lo (n : Nat) : hi n * 18446744073709551616 + lo n = n := by unfold hi lo; rw [M_eq]; omega
theorem parts (h l : Nat) (hh : h ≤ 18446744073709551615) (hl : l ≤ 18446744073709551615) : ∃ n, n < MM ∧ h = hi n ∧ l = lo n :=
  ⟨h * 18446744073709551616 + l, by rw [MM_eq]; omega, by unfold hi; rw [M_eq]; omega, by unfold lo; rw [M_eq]; omega⟩
theorem ext (a b : Nat) (h1 : hi a = hi b) (h2 : lo a = lo b) : a = b := by rw [← hi_lo a, ← hi_lo b, h1, h2]

/-- The sum, or 0 where it is too great; whether there is one. -/
def addN (a b : Nat) : Nat := if a + b < MM then a + b else 0
def addB (a b : Nat) : Bool := decide (a + b < MM)
/-- What is left, or 0 where nothing is; whether there is something. -/
def subN (a b : Nat) : Nat := a - b
def subB (a b : Nat) : Bool := decide (b ≤ a)
/-- How two numbers stand to one another. -/
def cmpN (a b : Nat) : Int := if a < b then -1 else if b < a then 1 else 0
theorem addN_lt (a b : Nat) : addN a b < MM := by unfold addN; split; assumption; rw [MM_eq]; omega
theorem subN_lt (a b : Nat) (h : a < MM) : subN a b < MM := by unfold subN; omega
theorem addB_true {a b : Nat} (h : a + b < MM) : addB a b = true := by simp [addB, h]
theorem addB_false {a b : Nat} (h : ¬ a + b < MM) : addB a b = false := by simp [addB, h]

theorem add_parts (a b : Nat) : ∃ c r c2 r2 : Nat, (lo a + lo b + 0) % 18446744073709551616 = r ∧ (lo a + lo b + 0) / 18446744073709551616 = c ∧ c ≤ 1 ∧
    (hi a + hi b + c) % 18446744073709551616 = r2 ∧ (hi a + hi b + c) / 18446744073709551616 = c2 ∧
    ((c2 = 0 ∧ addB a b = true ∧ r2 = hi (addN a b) ∧ r = lo (addN a b)) ∨ (1 ≤ c2 ∧ addB a b = false ∧ hi (addN a b) = 0 ∧ lo (addN a b) = 0)) := by
  have h1 := hi_lo a
  have h2 := hi_lo b
  have h3 := lo_le a
  have h4 := lo_le b
  refine ⟨_, _, _, _, rfl, rfl, by omega, rfl, rfl, ?_⟩
  by_cases h : a + b < MM
  · refine Or.inl ⟨?_, addB_true h, ?_, ?_⟩
    · rw [MM_eq] at h; omega
    · simp only [addN, h, if_true]; unfold hi at *; rw [M_eq] at *; rw [MM_eq] at h; omega
    · simp only [addN, h, if_true]; unfold lo at *; rw [M_eq] at *; omega
  · refine Or.inr ⟨?_, addB_false h, ?_, ?_⟩
    · rw [MM_eq] at h; omega
    · simp only [addN, h, if_false]; rfl
    · simp only [addN, h, if_false]; rfl

theorem sub_parts (a b : Nat) (ha : a < MM) (hb : b < MM) : ∃ c r c2 r2 : Nat, (lo a + 18446744073709551616 - lo b - 0) % 18446744073709551616 = r ∧ (if lo a < lo b + 0 then 1 else 0) = c ∧ c ≤ 1 ∧
    (hi a + 18446744073709551616 - hi b - c) % 18446744073709551616 = r2 ∧ (if hi a < hi b + c then 1 else 0) = c2 ∧
    ((c2 = 0 ∧ subB a b = true ∧ r2 = hi (subN a b) ∧ r = lo (subN a b)) ∨ (1 ≤ c2 ∧ subB a b = false ∧ hi (subN a b) = 0 ∧ lo (subN a b) = 0)) := by
  have h1 := hi_lo a
  have h2 := hi_lo b
  have h3 := lo_le a
  have h4 := lo_le b
  have h5 := hi_le a ha
  have h6 := hi_le b hb
  refine ⟨_, _, _, _, rfl, rfl, by split <;> omega, rfl, rfl, ?_⟩
  by_cases h : b ≤ a
  · refine Or.inl ⟨?_, by simp [subB, h], ?_, ?_⟩
    · split <;> split <;> omega
    · unfold subN; generalize hx : hi (a - b) = x; unfold hi at hx; rw [M_eq] at hx; split <;> omega
    · unfold subN; generalize hx : lo (a - b) = x; unfold lo at hx; rw [M_eq] at hx; omega
  · have hz : a - b = 0 := by omega
    refine Or.inr ⟨?_, by simp [subB, h], by rw [subN, hz]; rfl, by rw [subN, hz]; rfl⟩
    split <;> split <;> omega

theorem cmp_hi {a b : Nat} (h : hi a ≠ hi b) : cmpN a b = if hi a < hi b then -1 else 1 := by
  have h1 := hi_lo a
  have h2 := hi_lo b
  have h3 := lo_le a
  have h4 := lo_le b
  unfold cmpN
  by_cases hlt : hi a < hi b
  · rw [if_pos hlt, if_pos (by omega)]
  · rw [if_neg hlt, if_neg (by omega), if_pos (by omega)]
theorem cmp_lo {a b : Nat} (h : hi a = hi b) : cmpN a b = if lo a < lo b then -1 else if lo b < lo a then 1 else 0 := by
  have h1 := hi_lo a
  have h2 := hi_lo b
  unfold cmpN
  by_cases hlt : lo a < lo b
  · rw [if_pos hlt, if_pos (by omega)]
  · by_cases hgt : lo b < lo a
    · rw [if_neg hlt, if_neg (by omega), if_pos hgt, if_pos (by omega)]
    · rw [if_neg hlt, if_neg (by omega), if_neg hgt, if_neg (by omega)]

/-- How two words stand to one another. -/
def cmpI (x y : Int) : Int := if x < y then -1 else if y < x then 1 else 0
theorem cmpI_lt {x y : Int} (h : x < y) : cmpI x y = -1 := by unfold cmpI; rw [if_pos h]
theorem cmpI_gt {x y : Int} (h : y < x) : cmpI x y = 1 := by unfold cmpI; rw [if_neg (by omega), if_pos h]
theorem cmpI_eq {x y : Int} (h1 : ¬ x < y) (h : ¬ y < x) : cmpI x y = 0 := by unfold cmpI; rw [if_neg h1, if_neg h]
theorem cmpN_hi {a b : Nat} (h : ¬ hi a = hi b) : cmpN a b = cmpI (hi a : Nat) (hi b : Nat) := by
  rw [cmp_hi h]
  unfold cmpI
  by_cases hlt : hi a < hi b
  · rw [if_pos hlt, if_pos (by omega)]
  · rw [if_neg hlt, if_neg (by omega), if_pos (by omega)]
theorem cmpN_lo {a b : Nat} (h : hi a = hi b) : cmpN a b = cmpI (lo a : Nat) (lo b : Nat) := by
  rw [cmp_lo h]
  unfold cmpI
  simp only [Int.ofNat_lt]

/-! Digits: digit m of n, counted from the lowest. -/
def dig (n m : Nat) : Nat := n / 256 ^ m % 256
theorem dig_lt (n m : Nat) : dig n m < 256 := Nat.mod_lt _ (by omega)
theorem M_pow : M = 256 ^ 8 := by rw [M_eq]
theorem MM_pow : MM = 256 ^ 16 := by rw [MM_eq]

theorem div_step (n m : Nat) : n / 256 ^ m = n / 256 ^ (m + 1) * 256 + dig n m := by
  unfold dig
  rw [Nat.pow_succ, ← Nat.div_div_eq_div_mul]
  omega
theorem dig_hi (n m : Nat) : dig (hi n) m = dig n (m + 8) := by
  unfold dig hi
  rw [M_pow, Nat.div_div_eq_div_mul, ← Nat.pow_add, Nat.add_comm 8 m]
theorem dig_lo (n m : Nat) (h : m < 8) : dig (lo n) m = dig n m := by
  unfold dig lo
  rw [M_pow]
  have e : (256 : Nat) ^ 8 = 256 ^ m * 256 ^ (8 - m) := by rw [← Nat.pow_add]; congr 1; omega
  rw [e, Nat.mod_mul_right_div_self, Nat.mod_mod_of_dvd]
  obtain ⟨k, hk⟩ : ∃ k, 8 - m = k + 1 := ⟨7 - m, by omega⟩
  rw [hk, Nat.pow_succ]
  exact Nat.dvd_mul_left _ _
/-- What the row of digits holds behind k rounds. -/
def rowTo (n k j : Nat) : Int := if j < 8 then (if 8 ≤ j + k then ((dig (hi n) (7 - j) : Nat) : Int) else 0) else (if 16 ≤ j + k then ((dig (lo n) (15 - j) : Nat) : Int) else 0)
def rowOf (n j : Nat) : Int := ((dig n (15 - j) : Nat) : Int)
theorem rowTo_zero (n j : Nat) (h : j < 16) : (0 : Int) = rowTo n 0 j := by
  unfold rowTo
  split
  · rw [if_neg (by omega)]
  · rw [if_neg (by omega)]
theorem rowTo_step (n k j : Nat) (hk : k < 8) (hj : j < 16) :
    (if j = 8 + (7 - k) then ((lo n / 256 ^ k : Nat) : Int) % 256 else if j = 7 - k then ((hi n / 256 ^ k : Nat) : Int) % 256 else rowTo n k j) = rowTo n (k + 1) j := by
  unfold rowTo
  by_cases h1 : j = 8 + (7 - k)
  · rw [if_pos h1, if_neg (by omega), if_pos (by omega)]
    have : 15 - j = k := by omega
    rw [this]; rfl
  · rw [if_neg h1]
    by_cases h2 : j = 7 - k
    · rw [if_pos h2, if_pos (by omega), if_pos (by omega)]
      have : 7 - j = k := by omega
      rw [this]; rfl
    · rw [if_neg h2]
      by_cases h3 : j < 8
      · rw [if_pos h3, if_pos h3]
        by_cases h4 : 8 ≤ j + k
        · rw [if_pos h4, if_pos (by omega)]
        · rw [if_neg h4, if_neg (by omega)]
      · rw [if_neg h3, if_neg h3]
        by_cases h4 : 16 ≤ j + k
        · rw [if_pos h4, if_pos (by omega)]
        · rw [if_neg h4, if_neg (by omega)]
theorem rowTo_all (n j : Nat) (hj : j < 16) : rowTo n 8 j = rowOf n j := by
  unfold rowTo rowOf
  by_cases h : j < 8
  · rw [if_pos h, if_pos (by omega), dig_hi]
    congr 2; omega
  · rw [if_neg h, if_pos (by omega), dig_lo _ _ (by omega)]
theorem rowOf_bd (n j : Nat) : 0 ≤ rowOf n j ∧ rowOf n j ≤ 255 := by unfold rowOf; have := dig_lt n (15 - j); omega
theorem div_pow_le (n k : Nat) : n / 256 ^ k ≤ n := Nat.div_le_self _ _
theorem div_pow_succ (n k : Nat) : n / 256 ^ k / 256 = n / 256 ^ (k + 1) := by rw [Nat.pow_succ, Nat.div_div_eq_div_mul]
/-! The number of sixteen digits: its halves behind k digits of each. -/
theorem hi_step (n k : Nat) (hk : k < 8) : ((hi n / 256 ^ (8 - k) : Nat) : Int) * 256 + rowOf n k = ((hi n / 256 ^ (8 - (k + 1)) : Nat) : Int) := by
  have h := div_step (hi n) (8 - (k + 1))
  have e : 8 - (k + 1) + 1 = 8 - k := by omega
  rw [e, dig_hi] at h
  unfold rowOf
  have e2 : 8 - (k + 1) + 8 = 15 - k := by omega
  rw [e2] at h
  omega
theorem lo_step (n k : Nat) (hk : k < 8) : ((lo n / 256 ^ (8 - k) : Nat) : Int) * 256 + rowOf n (8 + k) = ((lo n / 256 ^ (8 - (k + 1)) : Nat) : Int) := by
  have h := div_step (lo n) (8 - (k + 1))
  have e : 8 - (k + 1) + 1 = 8 - k := by omega
  rw [e, dig_lo _ _ (by omega)] at h
  unfold rowOf
  have e2 : 15 - (8 + k) = 8 - (k + 1) := by omega
  rw [e2]
  omega
theorem hi_start (n : Nat) (h : n < MM) : hi n / 256 ^ 8 = 0 := by rw [← M_pow]; exact Nat.div_eq_of_lt (hi_lt n h)
theorem lo_start (n : Nat) : lo n / 256 ^ 8 = 0 := by rw [← M_pow]; exact Nat.div_eq_of_lt (lo_lt n)
/-! Adding digit by digit. -/
def carry (a b k : Nat) : Nat := (a % 256 ^ k + b % 256 ^ k) / 256 ^ k
def addRow (a b k j : Nat) : Int := if 16 ≤ j + k then rowOf (a + b) j else rowOf a j
theorem pow_pos (k : Nat) : 0 < 256 ^ k := Nat.pow_pos (by omega)
theorem carry_zero (a b : Nat) : carry a b 0 = 0 := by simp [carry, Nat.mod_one]
theorem carry_le (a b k : Nat) : carry a b k ≤ 1 := by
  unfold carry
  have hp := pow_pos k
  have h1 := Nat.mod_lt a hp
  have h2 := Nat.mod_lt b hp
  generalize 256 ^ k = P at *
  have : (a % P + b % P) / P < 2 := (Nat.div_lt_iff_lt_mul hp).2 (by omega)
  omega
theorem mod_split (a P : Nat) : a % (P * 256) = a / P % 256 * P + a % P := by
  rw [Nat.mod_mul, Nat.mul_comm (a / P % 256) P, Nat.add_comm]
theorem div_add_split (a b P : Nat) (hp : 0 < P) : (a + b) / P = a / P + b / P + (a % P + b % P) / P := by
  have h1 := Nat.div_add_mod a P
  have h2 := Nat.div_add_mod b P
  have h : a + b = (a % P + b % P) + P * (a / P + b / P) := by rw [Nat.mul_add]; omega
  rw [h, Nat.add_mul_div_left _ _ hp]
  omega
theorem add_dig (a b k : Nat) : (dig a k + dig b k + carry a b k) % 256 = dig (a + b) k := by
  unfold dig carry
  have hp := pow_pos k
  rw [div_add_split a b _ hp]
  omega
theorem add_carry (a b k : Nat) : (dig a k + dig b k + carry a b k) / 256 = carry a b (k + 1) := by
  unfold dig carry
  have hp := pow_pos k
  rw [Nat.pow_succ, mod_split a, mod_split b]
  generalize 256 ^ k = P at *
  rw [← Nat.div_div_eq_div_mul]
  congr 1
  have h : a / P % 256 * P + a % P + (b / P % 256 * P + b % P) = (a % P + b % P) + P * (a / P % 256 + b / P % 256) := by
    rw [Nat.mul_add, Nat.mul_comm (a / P % 256), Nat.mul_comm (b / P % 256)]; omega
  rw [h, Nat.add_mul_div_left _ _ hp]
  omega
theorem addRow_zero (a b j : Nat) (hj : j < 16) : rowOf a j = addRow a b 0 j := by unfold addRow; rw [if_neg (by omega)]
theorem addRow_at (a b k : Nat) (hk : k < 16) : addRow a b k (15 - k) = ((dig a k : Nat) : Int) := by
  unfold addRow rowOf
  rw [if_neg (by omega)]
  congr 2; omega
theorem rowOf_at (b k : Nat) (hk : k < 16) : rowOf b (15 - k) = ((dig b k : Nat) : Int) := by
  unfold rowOf
  congr 2; omega
theorem addRow_step (a b k j : Nat) (hk : k < 16) : (if j = 15 - k then (((dig a k : Nat) : Int) + ((dig b k : Nat) : Int) + ((carry a b k : Nat) : Int)) % 256 else addRow a b k j) = addRow a b (k + 1) j := by
  by_cases h : j = 15 - k
  · rw [if_pos h]
    unfold addRow rowOf
    rw [if_pos (by omega)]
    have e : 15 - j = k := by omega
    rw [e, ← add_dig]
    omega
  · rw [if_neg h]
    unfold addRow
    by_cases h2 : 16 ≤ j + k
    · rw [if_pos h2, if_pos (by omega)]
    · rw [if_neg h2, if_neg (by omega)]
theorem addRow_all (a b j : Nat) : addRow a b 16 j = rowOf (a + b) j := by unfold addRow; rw [if_pos (by omega)]
theorem carry_end (a b : Nat) (ha : a < MM) (hb : b < MM) : (carry a b 16 = 0 ∧ a + b < MM) ∨ (carry a b 16 = 1 ∧ ¬ a + b < MM) := by
  unfold carry
  rw [MM_pow] at *
  rw [Nat.mod_eq_of_lt ha, Nat.mod_eq_of_lt hb]
  have hp := pow_pos 16
  generalize 256 ^ 16 = P at *
  by_cases h : a + b < P
  · exact Or.inl ⟨Nat.div_eq_of_lt h, h⟩
  · refine Or.inr ⟨?_, h⟩
    have h1 : (a + b) / P < 2 := (Nat.div_lt_iff_lt_mul hp).2 (by omega)
    have h2 : 1 ≤ (a + b) / P := (Nat.le_div_iff_mul_le hp).2 (by omega)
    omega

/-! Taking away digit by digit. -/
def loan (a b k : Nat) : Nat := if a % 256 ^ k < b % 256 ^ k then 1 else 0
def subRow (a b k j : Nat) : Int := if 16 ≤ j + k then rowOf (a + MM - b) j else rowOf a j
theorem loan_zero (a b : Nat) : loan a b 0 = 0 := by simp [loan, Nat.mod_one]
theorem loan_le (a b k : Nat) : loan a b k ≤ 1 := by unfold loan; split <;> omega
/-- What stands at a place, with a loan or without. -/
def subNeg (a b k : Nat) : Bool := decide (((dig a k : Nat) : Int) - ((dig b k : Nat) : Int) - ((loan a b k : Nat) : Int) < 0)
theorem sub_loan (a b k : Nat) : loan a b (k + 1) = if subNeg a b k then 1 else 0 := by
  unfold loan subNeg loan dig
  have hp := pow_pos k
  rw [Nat.pow_succ, mod_split a, mod_split b]
  generalize 256 ^ k = P at *
  have ha := Nat.mod_lt a hp
  have hb := Nat.mod_lt b hp
  generalize a % P = ra at *
  generalize b % P = rb at *
  generalize a / P % 256 = x at *
  generalize b / P % 256 = y at *
  rcases Nat.lt_trichotomy x y with h | h | h
  · have h1 : x * P + P ≤ y * P := by rw [← Nat.succ_mul]; exact Nat.mul_le_mul_right _ h
    rw [if_pos (by omega)]
    split <;> simp <;> omega
  · subst h
    by_cases hr : ra < rb
    · rw [if_pos (by omega), if_pos hr]; simp
    · rw [if_neg (by omega), if_neg hr]; simp
  · have h1 : y * P + P ≤ x * P := by rw [← Nat.succ_mul]; exact Nat.mul_le_mul_right _ h
    rw [if_neg (by omega)]
    split <;> simp <;> omega
theorem sub_dig (a b k : Nat) (hb : b < MM) (hk : k < 16) :
    ((dig (a + MM - b) k : Nat) : Int) = if subNeg a b k then ((dig a k : Nat) : Int) - ((dig b k : Nat) : Int) - ((loan a b k : Nat) : Int) + 256 else ((dig a k : Nat) : Int) - ((dig b k : Nat) : Int) - ((loan a b k : Nat) : Int) := by
  unfold subNeg loan dig
  have hp := pow_pos k
  obtain ⟨R, hR⟩ : ∃ R, MM = 256 ^ k * (256 * R) := by
    refine ⟨256 ^ (15 - k), ?_⟩
    rw [MM_pow, ← Nat.pow_succ', ← Nat.pow_add]
    congr 1; omega
  rw [hR] at hb ⊢
  generalize 256 ^ k = P at *
  have ha1 := Nat.mod_lt a hp
  have hb1 := Nat.mod_lt b hp
  have ha2 := Nat.div_add_mod a P
  have hb2 := Nat.div_add_mod b P
  have hq : b / P < 256 * R := (Nat.div_lt_iff_lt_mul hp).2 (by rw [Nat.mul_comm]; exact hb)
  generalize a % P = ra at *
  generalize b % P = rb at *
  generalize a / P = x at *
  generalize b / P = y at *
  by_cases hr : ra < rb
  · have e : a + P * (256 * R) - b = (P + ra - rb) + P * (x + 256 * R - y - 1) := by
      have h3 : P * (x + 256 * R - y - 1) = P * x + P * (256 * R) - P * y - P := by
        rw [Nat.mul_sub, Nat.mul_sub, Nat.mul_add, Nat.mul_one]
      have h4 : P * y + P ≤ P * (256 * R) := by rw [← Nat.mul_succ]; exact Nat.mul_le_mul_left _ hq
      omega
    rw [e, Nat.add_mul_div_left _ _ hp, Nat.div_eq_of_lt (by omega), if_pos hr]
    by_cases hn : ((x % 256 : Nat) : Int) - ((y % 256 : Nat) : Int) - ((1 : Nat) : Int) < 0
    · simp only [hn, decide_true, if_true]; omega
    · simp only [hn, decide_false]; simp only [Bool.false_eq_true, if_false]; omega
  · have e : a + P * (256 * R) - b = (ra - rb) + P * (x + 256 * R - y) := by
      have h3 : P * (x + 256 * R - y) = P * x + P * (256 * R) - P * y := by
        rw [Nat.mul_sub, Nat.mul_add]
      have h4 : P * y ≤ P * (256 * R) := Nat.mul_le_mul_left _ (Nat.le_of_lt hq)
      omega
    rw [e, Nat.add_mul_div_left _ _ hp, Nat.div_eq_of_lt (by omega), if_neg hr]
    by_cases hn : ((x % 256 : Nat) : Int) - ((y % 256 : Nat) : Int) - ((0 : Nat) : Int) < 0
    · simp only [hn, decide_true, if_true]; omega
    · simp only [hn, decide_false]; simp only [Bool.false_eq_true, if_false]; omega
theorem subRow_zero (a b j : Nat) (hj : j < 16) : rowOf a j = subRow a b 0 j := by unfold subRow; rw [if_neg (by omega)]
theorem subRow_at (a b k : Nat) (hk : k < 16) : subRow a b k (15 - k) = ((dig a k : Nat) : Int) := by
  unfold subRow rowOf
  rw [if_neg (by omega)]
  congr 2; omega
theorem subRow_step (a b k j : Nat) (v : Int) (hk : k < 16) (hv : ((dig (a + MM - b) k : Nat) : Int) = v) : (if j = 15 - k then v else subRow a b k j) = subRow a b (k + 1) j := by
  by_cases h : j = 15 - k
  · rw [if_pos h, ← hv]
    unfold subRow rowOf
    rw [if_pos (by omega)]
    congr 2; omega
  · rw [if_neg h]
    unfold subRow
    by_cases h2 : 16 ≤ j + k
    · rw [if_pos h2, if_pos (by omega)]
    · rw [if_neg h2, if_neg (by omega)]
theorem subRow_all (a b j : Nat) (h : b ≤ a) (hj : j < 16) : subRow a b 16 j = rowOf (subN a b) j := by
  unfold subRow rowOf subN dig
  rw [if_pos (by omega)]
  have e : a + MM - b = (a - b) + 256 ^ (15 - j) * (256 * 256 ^ j) := by
    have : MM = 256 ^ (15 - j) * (256 * 256 ^ j) := by
      rw [MM_pow, ← Nat.pow_succ', ← Nat.pow_add]
      congr 1; omega
    rw [← this]; omega
  rw [e, Nat.add_mul_div_left _ _ (pow_pos _), Nat.add_mul_mod_self_left]
theorem loan_end (a b : Nat) (ha : a < MM) (hb : b < MM) : (loan a b 16 = 0 ∧ b ≤ a) ∨ (loan a b 16 = 1 ∧ ¬ b ≤ a) := by
  unfold loan
  rw [MM_pow] at *
  rw [Nat.mod_eq_of_lt ha, Nat.mod_eq_of_lt hb]
  by_cases h : a < b
  · exact Or.inr ⟨if_pos h, by omega⟩
  · exact Or.inl ⟨if_neg h, by omega⟩

/-! Comparing digit by digit. -/
def eqTo (a b k : Nat) : Prop := a / 256 ^ (16 - k) = b / 256 ^ (16 - k)
theorem eqTo_zero (a b : Nat) (ha : a < MM) (hb : b < MM) : eqTo a b 0 := by
  unfold eqTo
  rw [MM_pow] at *
  rw [Nat.div_eq_of_lt ha, Nat.div_eq_of_lt hb]
theorem eqTo_step (a b k : Nat) (hk : k < 16) (h : eqTo a b k) (hd : rowOf a k = rowOf b k) : eqTo a b (k + 1) := by
  unfold eqTo at *
  unfold rowOf at hd
  have e : 16 - (k + 1) = 15 - k := by omega
  have e2 : 15 - k + 1 = 16 - k := by omega
  rw [e, div_step a (15 - k), div_step b (15 - k), e2, h]
  omega
theorem eqTo_lt (a b k : Nat) (hk : k < 16) (h : eqTo a b k) (hd : rowOf a k < rowOf b k) : a < b := by
  unfold eqTo at h
  unfold rowOf at hd
  have e2 : 15 - k + 1 = 16 - k := by omega
  have h1 := div_step a (15 - k)
  have h2 := div_step b (15 - k)
  rw [e2] at h1 h2
  rcases Nat.lt_or_ge a b with hlt | hge
  · exact hlt
  · have := Nat.div_le_div_right (c := 256 ^ (15 - k)) hge
    omega
theorem eqTo_comm {a b k : Nat} (h : eqTo a b k) : eqTo b a k := Eq.symm h
theorem eqTo_end (a b : Nat) (h : eqTo a b 16) : a = b := by unfold eqTo at h; simpa using h
theorem cmpN_lt {a b : Nat} (h : a < b) : cmpN a b = -1 := by unfold cmpN; rw [if_pos h]
theorem cmpN_gt {a b : Nat} (h : b < a) : cmpN a b = 1 := by unfold cmpN; rw [if_neg (by omega), if_pos h]
theorem cmpN_eq {a b : Nat} (h : a = b) : cmpN a b = 0 := by unfold cmpN; rw [if_neg (by omega), if_neg (by omega)]

/-- The greatest number. -/
def topN : Nat := 340282366920938463463374607431768211455
theorem topN_lt : topN < MM := by decide
theorem topN_eq : topN + 1 = MM := by decide
theorem topN_hi : hi topN = 18446744073709551615 := by decide
theorem topN_lo : lo topN = 18446744073709551615 := by decide
def topTo (k j : Nat) : Int := if j < k then 255 else 0
theorem topTo_zero (j : Nat) : (0 : Int) = topTo 0 j := by unfold topTo; rw [if_neg (by omega)]
theorem topTo_step (k j : Nat) : (if j = k then (255 : Int) else topTo k j) = topTo (k + 1) j := by
  unfold topTo
  by_cases h : j = k
  · rw [if_pos h, if_pos (by omega)]
  · rw [if_neg h]
    by_cases h2 : j < k
    · rw [if_pos h2, if_pos (by omega)]
    · rw [if_neg h2, if_neg (by omega)]
theorem topTo_all (j : Nat) (hj : j < 16) : topTo 16 j = rowOf topN j := by
  have : j = 0 ∨ j = 1 ∨ j = 2 ∨ j = 3 ∨ j = 4 ∨ j = 5 ∨ j = 6 ∨ j = 7 ∨ j = 8 ∨ j = 9 ∨ j = 10 ∨ j = 11 ∨ j = 12 ∨ j = 13 ∨ j = 14 ∨ j = 15 := by omega
  rcases this with rfl | rfl | rfl | rfl | rfl | rfl | rfl | rfl | rfl | rfl | rfl | rfl | rfl | rfl | rfl | rfl <;> decide

/-! Sums of lists. -/
def tot : List Nat → Nat
  | [] => 0
  | n :: l => n + tot l
def sumN (l : List Nat) : Nat := if tot l < MM then tot l else 0
def sumB (l : List Nat) : Bool := decide (tot l < MM)
theorem tot_append (l r : List Nat) : tot (l ++ r) = tot l + tot r := by
  induction l with
  | nil => simp [tot]
  | cons n l ih => simp only [List.cons_append, tot, ih]; omega
theorem tot_reverse (l : List Nat) : tot l.reverse = tot l := by
  induction l with
  | nil => rfl
  | cons n l ih => rw [List.reverse_cons, tot_append, ih]; simp only [tot]; omega
theorem take_succ_getD (l : List Nat) (k : Nat) (h : k < l.length) : l.take (k + 1) = l.take k ++ [l.getD k 0] := by
  rw [List.take_succ_eq_append_getElem h]
  simp [List.getD, h]
theorem tot_take_succ (l : List Nat) (k : Nat) (h : k < l.length) : tot (l.take (k + 1)) = tot (l.take k) + l.getD k 0 := by
  rw [take_succ_getD l k h, tot_append]; simp [tot]
theorem tot_take_le (l : List Nat) (k : Nat) : tot (l.take k) ≤ tot l := by
  have h := List.take_append_drop k l
  have := tot_append (l.take k) (l.drop k)
  rw [h] at this
  omega
theorem sumB_true {l : List Nat} (h : tot l < MM) : sumB l = true := by simp [sumB, h]
theorem sumB_false {l : List Nat} (h : ¬ tot l < MM) : sumB l = false := by simp [sumB, h]
theorem sumN_true {l : List Nat} (h : tot l < MM) : sumN l = tot l := by simp [sumN, h]
theorem sumN_false {l : List Nat} (h : ¬ tot l < MM) : sumN l = 0 := by simp [sumN, h]
theorem sum_stops (l : List Nat) (k : Nat) (hk : k < l.length) (h : ¬ tot (l.take k) + l.getD k 0 < MM) : ¬ tot l < MM := by
  have := tot_take_le l (k + 1)
  rw [tot_take_succ l k hk] at this
  omega

/-! The least of a list. -/
def leastTo (l : List Nat) : Nat → Nat
  | 0 => topN
  | k + 1 => if l.getD k 0 < leastTo l k then l.getD k 0 else leastTo l k
theorem leastTo_hit {l : List Nat} {k : Nat} (h : l.getD k 0 < leastTo l k) : leastTo l (k + 1) = l.getD k 0 := by simp only [leastTo, h, if_true]
theorem leastTo_miss {l : List Nat} {k : Nat} (h : ¬ l.getD k 0 < leastTo l k) : leastTo l (k + 1) = leastTo l k := by simp only [leastTo, h, if_false]
theorem leastTo_le (l : List Nat) : ∀ k j, j < k → leastTo l k ≤ l.getD j 0
  | 0, _, h => by omega
  | k + 1, j, h => by
    by_cases hk : l.getD k 0 < leastTo l k
    · rw [leastTo_hit hk]
      by_cases e : j = k
      · rw [e]; exact Nat.le_refl _
      · have := leastTo_le l k j (by omega); omega
    · rw [leastTo_miss hk]
      by_cases e : j = k
      · rw [e]; omega
      · exact leastTo_le l k j (by omega)
theorem leastTo_lt (l : List Nat) : ∀ k, leastTo l k < MM
  | 0 => topN_lt
  | k + 1 => by
    have := leastTo_lt l k
    by_cases hk : l.getD k 0 < leastTo l k
    · rw [leastTo_hit hk]; omega
    · rw [leastTo_miss hk]; exact this
theorem leastTo_mem (l : List Nat) (hm : ∀ k, k < l.length → l.getD k 0 < MM) : ∀ k, 0 < k → k ≤ l.length → ∃ j, j < k ∧ l.getD j 0 = leastTo l k
  | 0, h, _ => by omega
  | k + 1, _, hl => by
    by_cases hk : l.getD k 0 < leastTo l k
    · exact ⟨k, by omega, (leastTo_hit hk).symm⟩
    · rw [leastTo_miss hk]
      by_cases h0 : k = 0
      · subst h0
        have h1 := hm 0 (by omega)
        have h2 := topN_eq
        have h3 : leastTo l 0 = topN := rfl
        exact ⟨0, by omega, by omega⟩
      · obtain ⟨j, hj, e⟩ := leastTo_mem l hm k (by omega) (by omega)
        exact ⟨j, by omega, e⟩
def hasTo (l : List Nat) (m : Nat) : Nat → Bool
  | 0 => false
  | k + 1 => hasTo l m k || (l.getD k 0 == m)
theorem hasTo_mem (l : List Nat) (m : Nat) : ∀ k j, j < k → l.getD j 0 = m → hasTo l m k = true
  | 0, _, h, _ => by omega
  | k + 1, j, h, e => by
    by_cases hj : j = k
    · subst hj; simp only [hasTo, e, beq_self_eq_true, Bool.or_true]
    · simp [hasTo, hasTo_mem l m k j (by omega) e]

/-! The number of digits that are told one by one, the highest first. -/
def val (f : Nat → Nat) : Nat → Nat
  | 0 => 0
  | k + 1 => val f k * 256 + f k
theorem val_lt (f : Nat → Nat) (hf : ∀ j, f j < 256) : ∀ k, val f k < 256 ^ k
  | 0 => by simp [val]
  | k + 1 => by
    have h1 := val_lt f hf k
    have h2 := hf k
    rw [Nat.pow_succ]
    have : (val f k + 1) * 256 ≤ 256 ^ k * 256 := Nat.mul_le_mul_right _ h1
    simp only [val]
    omega
theorem val_div (f : Nat → Nat) (hf : ∀ j, f j < 256) (k : Nat) : ∀ m, val f (k + m) / 256 ^ m = val f k
  | 0 => by simp
  | m + 1 => by
    have h := val_div f hf k m
    have h2 := hf (k + m)
    rw [Nat.pow_succ', ← Nat.div_div_eq_div_mul, ← Nat.add_assoc]
    have e : val f (k + m + 1) / 256 = val f (k + m) := by simp only [val]; omega
    rw [e, h]
theorem val_split (f : Nat → Nat) (k : Nat) : ∀ m, val f (k + m) = val f k * 256 ^ m + val (fun j => f (k + j)) m
  | 0 => by simp [val]
  | m + 1 => by
    rw [← Nat.add_assoc]
    simp only [val]
    rw [val_split f k m, Nat.pow_succ, Nat.add_mul, Nat.mul_assoc]
    omega
theorem val_row (f : Nat → Nat) (hf : ∀ j, f j < 256) (j : Nat) (hj : j < 16) : rowOf (val f 16) j = ((f j : Nat) : Int) := by
  unfold rowOf dig
  have e : val f 16 / 256 ^ (15 - j) = val f (j + 1) := by
    have := val_div f hf (j + 1) (15 - j)
    have e2 : j + 1 + (15 - j) = 16 := by omega
    rw [e2] at this
    exact this
  rw [e]
  have h2 := hf j
  simp only [val]
  omega
theorem val_max (f : Nat → Nat) (hf : ∀ j, f j < 256) : val f 16 < MM := by rw [MM_pow]; exact val_lt f hf 16
theorem val_hi (f : Nat → Nat) (hf : ∀ j, f j < 256) : hi (val f 16) = val f 8 := by
  unfold hi
  rw [M_pow]
  exact val_div f hf 8 8
theorem val_lo (f : Nat → Nat) (hf : ∀ j, f j < 256) : lo (val f 16) = val (fun j => f (8 + j)) 8 := by
  unfold lo
  rw [M_pow]
  have h : val f 16 = val f 8 * 256 ^ 8 + val (fun j => f (8 + j)) 8 := val_split f 8 8
  have h2 := val_lt (fun j => f (8 + j)) (fun j => hf (8 + j)) 8
  have e : val f 16 = val (fun j => f (8 + j)) 8 + 256 ^ 8 * val f 8 := by rw [Nat.mul_comm]; omega
  rw [e, Nat.add_mul_mod_self_left, Nat.mod_eq_of_lt h2]
theorem val_of (n : Nat) (hn : n < MM) : val (fun j => dig n (15 - j)) 16 = n := by
  have key : ∀ k, k ≤ 16 → val (fun j => dig n (15 - j)) k = n / 256 ^ (16 - k) := by
    intro k
    induction k with
    | zero => intro _; rw [MM_pow] at hn; simp only [val, Nat.sub_zero]; rw [Nat.div_eq_of_lt hn]
    | succ k ih =>
      intro hk
      have h := div_step n (15 - k)
      have e : 15 - k + 1 = 16 - k := by omega
      have e2 : 16 - (k + 1) = 15 - k := by omega
      simp only [val]
      rw [ih (by omega), e2, h, e]
  have := key 16 (Nat.le_refl _)
  simpa using this

/-! What the row of bytes holds behind k rounds. -/
def byTo (n k j : Nat) : Int := if j < 8 then (if j < k then rowOf n j else 0) else (if j < 8 + k then rowOf n j else 0)
theorem byTo_zero (n j : Nat) : (0 : Int) = byTo n 0 j := by
  unfold byTo
  by_cases h : j < 8
  · rw [if_pos h, if_neg (by omega)]
  · rw [if_neg h, if_neg (by omega)]
theorem byTo_step (n k j : Nat) (hk : k < 8) : (if j = 8 + k then rowOf n (8 + k) else if j = k then rowOf n k else byTo n k j) = byTo n (k + 1) j := by
  unfold byTo
  by_cases h1 : j = 8 + k
  · rw [if_pos h1, if_neg (by omega), if_pos (by omega), h1]
  · rw [if_neg h1]
    by_cases h2 : j = k
    · rw [if_pos h2, if_pos (by omega), if_pos (by omega), h2]
    · rw [if_neg h2]
      by_cases h3 : j < 8
      · rw [if_pos h3, if_pos h3]
        by_cases h4 : j < k
        · rw [if_pos h4, if_pos (by omega)]
        · rw [if_neg h4, if_neg (by omega)]
      · rw [if_neg h3, if_neg h3]
        by_cases h4 : j < 8 + k
        · rw [if_pos h4, if_pos (by omega)]
        · rw [if_neg h4, if_neg (by omega)]
theorem byTo_all (n j : Nat) (hj : j < 16) : byTo n 8 j = rowOf n j := by
  unfold byTo
  by_cases h : j < 8
  · rw [if_pos h, if_pos h]
  · rw [if_neg h, if_pos (by omega)]
theorem hi_byte (n k : Nat) (hk : k < 8) : ((hi n / 256 ^ (7 - k) % 256 : Nat) : Int) = rowOf n k := by
  have h := dig_hi n (7 - k)
  unfold rowOf
  have e : 7 - k + 8 = 15 - k := by omega
  rw [e] at h
  rw [← h]
  rfl
theorem lo_byte (n k : Nat) (hk : k < 8) : ((lo n / 256 ^ (7 - k) % 256 : Nat) : Int) = rowOf n (8 + k) := by
  have h := dig_lo n (7 - k) (by omega)
  unfold rowOf
  have e : 15 - (8 + k) = 7 - k := by omega
  rw [e, ← h]
  rfl
theorem shift_byte (x m : Nat) : ((x : Nat) : Int) / 2 ^ (8 * m) % 256 = ((x / 256 ^ m % 256 : Nat) : Int) := by
  have e : (2 : Int) ^ (8 * m) = ((256 ^ m : Nat) : Int) := by
    rw [Int.natCast_pow, Int.pow_mul]
    rfl
  rw [e]
  omega
theorem hi_shift (n k : Nat) (hk : k < 8) : ((hi n : Nat) : Int) / 2 ^ (8 * (7 - k)) % 256 = rowOf n k := by rw [shift_byte, hi_byte n k hk]
theorem lo_shift (n k : Nat) (hk : k < 8) : ((lo n : Nat) : Int) / 2 ^ (8 * (7 - k)) % 256 = rowOf n (8 + k) := by rw [shift_byte, lo_byte n k hk]
/-- What the row of digits that are read holds behind k rounds. -/
def rdTo (f : Nat → Nat) (k j : Nat) : Int := if j < k then ((f j : Nat) : Int) else 0
theorem rdTo_zero (f : Nat → Nat) (j : Nat) : (0 : Int) = rdTo f 0 j := by unfold rdTo; rw [if_neg (by omega)]
theorem rdTo_step (f : Nat → Nat) (k j : Nat) : (if j = k then ((f k : Nat) : Int) else rdTo f k j) = rdTo f (k + 1) j := by
  unfold rdTo
  by_cases h : j = k
  · rw [if_pos h, if_pos (by omega), h]
  · rw [if_neg h]
    by_cases h2 : j < k
    · rw [if_pos h2, if_pos (by omega)]
    · rw [if_neg h2, if_neg (by omega)]
theorem rdTo_all (f : Nat → Nat) (hf : ∀ j, f j < 256) (j : Nat) (hj : j < 16) : rdTo f 16 j = rowOf (val f 16) j := by
  unfold rdTo
  rw [if_pos hj, val_row f hf j hj]
/-- The first k digits of a number, as a list. -/
def rowsTo (n k : Nat) : List Int := (List.range k).map (rowOf n)
theorem rowsTo_succ (n k : Nat) : rowsTo n (k + 1) = rowsTo n k ++ [rowOf n k] := by simp [rowsTo, List.range_succ]
theorem rowsTo_length (n k : Nat) : (rowsTo n k).length = k := by simp [rowsTo]
theorem rowsTo_get (n k j : Nat) (h : j < k) : (rowsTo n k).getD j 0 = rowOf n j := by simp [rowsTo, List.getD, h]
end Go.Proofs.Ytceoelemlokelaa.W
