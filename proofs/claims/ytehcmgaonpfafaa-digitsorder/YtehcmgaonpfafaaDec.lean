/- Plain mathematics of layer 2: texts of decimal digits, and the numbers that they are. No program is named here. -/
import Derived.Test.YtehcmgaonpfafaaRefTwo
namespace Go.Proofs.Ytehcmgaonpfafaa.W

/-- What a byte is as a digit. -/
def dg (c : UInt8) : Nat := c.toNat - 48
/-- A digit's byte. -/
def ch (d : Nat) : UInt8 := UInt8.ofNat (48 + d)
theorem ch_nat (d : Nat) (h : d < 10) : (ch d).toNat = 48 + d := by unfold ch; simp; omega
theorem ch_ne (d : Nat) (h : d < 10) (h0 : 0 < d) : ch d ≠ 48 := by
  intro e
  have := congrArg UInt8.toNat e
  rw [ch_nat d h] at this
  simp at this
  omega
def isD (c : UInt8) : Bool := 48 ≤ c.toNat && c.toNat ≤ 57
/-- The number of a row of digits, the highest first. -/
def num : List UInt8 → Nat
  | [] => 0
  | c :: l => dg c * 10 ^ l.length + num l
/-- Is a row of bytes some number's text? -/
def isT (l : List UInt8) : Bool := !l.isEmpty && !(decide (1 < l.length) && l.head? == some 48) && l.all isD
/-- A number's text. -/
def txL (n : Nat) : List UInt8 := if n < 10 then [ch n] else txL (n / 10) ++ [ch (n % 10)]
  termination_by n
  decreasing_by omega

theorem dg_lt {c : UInt8} (h : isD c = true) : dg c < 10 := by
  unfold isD at h; unfold dg; simp at h; omega
theorem dg_of (d : Nat) (h : d < 10) : dg (ch d) = d := by
  unfold dg; rw [ch_nat d h]; omega
theorem isD_of (d : Nat) (h : d < 10) : isD (ch d) = true := by
  unfold isD; rw [ch_nat d h]; simp; omega
theorem isD_inj {c d : UInt8} (hc : isD c = true) (hd : isD d = true) (h : dg c = dg d) : c = d := by
  unfold isD at hc hd; unfold dg at h; simp at hc hd
  exact UInt8.toNat_inj.1 (by omega)

theorem num_snoc (l : List UInt8) (c : UInt8) : num (l ++ [c]) = num l * 10 + dg c := by
  induction l with
  | nil => simp [num]
  | cons a l ih =>
    simp only [List.cons_append, num, ih, List.length_append, List.length_cons, List.length_nil, Nat.zero_add, Nat.pow_succ]
    rw [Nat.add_mul, Nat.mul_assoc]
    omega
theorem num_lt (l : List UInt8) (h : l.all isD = true) : num l < 10 ^ l.length := by
  induction l with
  | nil => simp [num]
  | cons a l ih =>
    simp only [List.all_cons, Bool.and_eq_true] at h
    have h1 := ih h.2
    have h2 := dg_lt h.1
    simp only [num, List.length_cons, Nat.pow_succ]
    have h3 : dg a * 10 ^ l.length ≤ 9 * 10 ^ l.length := Nat.mul_le_mul_right _ (by omega)
    omega
theorem num_take (l : List UInt8) (k : Nat) (h : k < l.length) : num (l.take (k + 1)) = num (l.take k) * 10 + dg l[k] := by
  rw [List.take_succ_eq_append_getElem h, num_snoc]
theorem num_append_le (l m : List UInt8) : num l ≤ num (l ++ m) := by
  induction l with
  | nil => simp [num]
  | cons a l ih =>
    simp only [List.cons_append, num, List.length_append]
    have h : dg a * 10 ^ l.length ≤ dg a * 10 ^ (l.length + m.length) := Nat.mul_le_mul_left _ (Nat.pow_le_pow_right (by omega) (by omega))
    omega
theorem num_take_le (l : List UInt8) (k : Nat) : num (l.take k) ≤ num l := by
  have h := num_append_le (l.take k) (l.drop k)
  rwa [List.take_append_drop] at h

/-- Rows of one length stand as their numbers do. -/
theorem less_num : ∀ (l m : List UInt8), l.all isD = true → m.all isD = true → l.length = m.length → Op.bytesLess l m = decide (num l < num m)
  | [], [], _, _, _ => by simp [Op.bytesLess, num]
  | [], b :: m, _, _, h => by simp at h
  | a :: l, [], _, _, h => by simp at h
  | a :: l, b :: m, hl, hm, h => by
    simp only [List.all_cons, Bool.and_eq_true] at hl hm
    simp only [List.length_cons, Nat.add_right_cancel_iff] at h
    have ih := less_num l m hl.2 hm.2 h
    have n1 := num_lt l hl.2
    have n2 := num_lt m hm.2
    have ha := dg_lt hl.1
    have hb := dg_lt hm.1
    have hlt : (a < b) ↔ dg a < dg b := by
      have h1 := hl.1; have h2 := hm.1
      unfold isD at h1 h2; simp at h1 h2
      rw [UInt8.lt_iff_toNat_lt]; unfold dg; omega
    have heq : (a = b) ↔ dg a = dg b := ⟨fun e => by rw [e], isD_inj hl.1 hm.1⟩
    rw [Bool.eq_iff_iff, decide_eq_true_eq]
    simp only [Op.bytesLess, ih]
    simp only [Bool.or_eq_true, Bool.and_eq_true, decide_eq_true_eq, beq_iff_eq]
    rw [hlt, heq]
    simp only [num]
    rw [h]
    rw [h] at n1
    generalize num l = x at *
    generalize num m = y at *
    generalize dg a = p at *
    generalize dg b = q at *
    generalize 10 ^ m.length = P at *
    rcases Nat.lt_trichotomy p q with h | h | h
    · have : p * P + P ≤ q * P := by rw [← Nat.succ_mul]; exact Nat.mul_le_mul_right _ h
      constructor
      · intro _; omega
      · intro _; exact Or.inl h
    · subst h
      constructor
      · rintro (h | ⟨_, h⟩) <;> omega
      · intro h; exact Or.inr ⟨rfl, by omega⟩
    · have : q * P + P ≤ p * P := by rw [← Nat.succ_mul]; exact Nat.mul_le_mul_right _ h
      constructor
      · rintro (h | ⟨h, _⟩) <;> omega
      · intro _; omega
theorem num_inj : ∀ (l m : List UInt8), l.all isD = true → m.all isD = true → l.length = m.length → num l = num m → l = m
  | [], [], _, _, _, _ => rfl
  | [], b :: m, _, _, h, _ => by simp at h
  | a :: l, [], _, _, h, _ => by simp at h
  | a :: l, b :: m, hl, hm, h, e => by
    simp only [List.all_cons, Bool.and_eq_true] at hl hm
    simp only [List.length_cons, Nat.add_right_cancel_iff] at h
    have n1 := num_lt l hl.2
    have n2 := num_lt m hm.2
    simp only [num] at e
    rw [h] at n1 e
    have hpq : dg a = dg b := by
      generalize num l = x at *
      generalize num m = y at *
      generalize dg a = p at *
      generalize dg b = q at *
      generalize 10 ^ m.length = P at *
      rcases Nat.lt_trichotomy p q with h | h | h
      · have : p * P + P ≤ q * P := by rw [← Nat.succ_mul]; exact Nat.mul_le_mul_right _ h
        omega
      · exact h
      · have : q * P + P ≤ p * P := by rw [← Nat.succ_mul]; exact Nat.mul_le_mul_right _ h
        omega
    rw [isD_inj hl.1 hm.1 hpq, num_inj l m hl.2 hm.2 h (by rw [hpq] at e; omega)]

theorem isT_all {l : List UInt8} (h : isT l = true) : l.all isD = true := by unfold isT at h; simp only [Bool.and_eq_true] at h; exact h.2
theorem isT_ne {l : List UInt8} (h : isT l = true) : l ≠ [] := by unfold isT at h; intro e; subst e; simp at h
theorem isT_len {l : List UInt8} (h : isT l = true) : 1 ≤ l.length := by
  have := isT_ne h
  cases l with
  | nil => exact absurd rfl this
  | cons a l => simp
/-- A text of two digits or more is of a number that has as many. -/
theorem isT_big {l : List UInt8} (h : isT l = true) (h2 : 2 ≤ l.length) : 10 ^ (l.length - 1) ≤ num l := by
  have hall := isT_all h
  cases l with
  | nil => simp at h2
  | cons a l =>
    simp only [List.all_cons, Bool.and_eq_true] at hall
    have ha : a ≠ 48 := by
      intro e
      subst e
      unfold isT at h
      have h3 : decide (1 < (48 :: l).length) = true := by simp only [decide_eq_true_eq]; omega
      rw [h3] at h
      simp at h
    have hd := hall.1
    unfold isD at hd
    simp at hd
    have : a.toNat ≠ 48 := fun e => ha (UInt8.toNat_inj.1 e)
    have h1 : 1 ≤ dg a := by unfold dg; omega
    simp only [List.length_cons, Nat.add_sub_cancel, num]
    have := Nat.mul_le_mul_right (10 ^ l.length) h1
    omega
/-- A shorter text is of a lesser number. -/
theorem isT_short {l m : List UInt8} (hl : isT l = true) (hm : isT m = true) (h : l.length < m.length) : num l < num m := by
  have h1 := num_lt l (isT_all hl)
  have h2 := isT_big hm (by have := isT_len hl; omega)
  have h3 : 10 ^ l.length ≤ 10 ^ (m.length - 1) := Nat.pow_le_pow_right (by omega) (by omega)
  omega
theorem isT_inj {l m : List UInt8} (hl : isT l = true) (hm : isT m = true) (h : num l = num m) : l = m := by
  rcases Nat.lt_trichotomy l.length m.length with c | c | c
  · have := isT_short hl hm c; omega
  · exact num_inj l m (isT_all hl) (isT_all hm) c h
  · have := isT_short hm hl c; omega
/-- How two texts stand: as their numbers do. -/
theorem isT_less {l m : List UInt8} (hl : isT l = true) (hm : isT m = true) : (decide (l.length < m.length) || (decide (l.length = m.length) && Op.bytesLess l m)) = decide (num l < num m) := by
  rcases Nat.lt_trichotomy l.length m.length with c | c | c
  · have := isT_short hl hm c
    simp [c, this]
  · rw [less_num l m (isT_all hl) (isT_all hm) c]
    simp [c]
  · have := isT_short hm hl c
    have h1 : ¬ l.length < m.length := by omega
    have h2 : ¬ l.length = m.length := by omega
    have h3 : ¬ num l < num m := by omega
    simp [h1, h2, h3]

theorem txL_all (n : Nat) : (txL n).all isD = true := by
  induction n using Nat.strongRecOn with
  | ind n ih =>
    unfold txL
    split
    · simp [isD_of n (by omega)]
    · rename_i h
      rw [List.all_append, ih (n / 10) (by omega)]
      simp [isD_of (n % 10) (by omega)]
theorem txL_num (n : Nat) : num (txL n) = n := by
  induction n using Nat.strongRecOn with
  | ind n ih =>
    unfold txL
    split
    · simp [num, dg_of n (by omega)]
    · rw [num_snoc, ih (n / 10) (by omega), dg_of (n % 10) (by omega)]
      omega
theorem txL_head (n : Nat) (h : 1 ≤ n) : ∃ a l, txL n = a :: l ∧ a ≠ 48 := by
  induction n using Nat.strongRecOn with
  | ind n ih =>
    unfold txL
    split
    · exact ⟨_, _, rfl, ch_ne n (by omega) h⟩
    · obtain ⟨a, l, e, ha⟩ := ih (n / 10) (by omega) (by omega)
      rw [e]
      exact ⟨a, _, rfl, ha⟩
theorem txL_isT (n : Nat) : isT (txL n) = true := by
  have hall := txL_all n
  by_cases h : 1 ≤ n
  · obtain ⟨a, l, e, ha⟩ := txL_head n h
    rw [e] at hall ⊢
    unfold isT
    rw [hall]
    simp [ha]
  · have : n = 0 := by omega
    subst this
    unfold isT
    rw [hall]
    unfold txL
    simp
theorem txL_of {l : List UInt8} {n : Nat} (h : isT l = true) (hn : num l = n) : txL n = l := isT_inj (txL_isT n) h (by rw [txL_num, hn])
theorem txL_len (n : Nat) : 1 ≤ (txL n).length := isT_len (txL_isT n)
theorem isT_len_le {l : List UInt8} (h : isT l = true) (hn : num l < MM) : l.length ≤ 39 := by
  by_cases h2 : 2 ≤ l.length
  · have h1 := isT_big h h2
    have h3 : 10 ^ (l.length - 1) < 10 ^ 39 := by
      have : MM < 10 ^ 39 := by decide
      omega
    have := (Nat.pow_lt_pow_iff_right (by omega : 1 < 10)).1 h3
    omega
  · omega
theorem txL_len_le (n : Nat) (h : n < MM) : (txL n).length ≤ 39 := isT_len_le (txL_isT n) (by rw [txL_num]; exact h)

/-! Digits divided off from below. -/
def pre (m : Nat) : List UInt8 := if m = 0 then [] else txL m
/-- Behind some rounds: what is left, and the digits that were divided off, the lowest first. -/
def Off (n m : Nat) (l : List UInt8) : Prop := (l = [] ∧ m = n) ∨ (l ≠ [] ∧ txL n = pre m ++ l.reverse)
theorem off_start (n : Nat) : Off n n [] := Or.inl ⟨rfl, rfl⟩
theorem off_step {n m : Nat} {l : List UInt8} (h : Off n m l) (hm : m ≠ 0 ∨ l = []) : Off n (m / 10) (l ++ [ch (m % 10)]) := by
  have key : m ≠ 0 ∨ l = [] → txL m = pre (m / 10) ++ [ch (m % 10)] := by
    intro _
    rw [txL]
    unfold pre
    by_cases h10 : m < 10
    · rw [if_pos h10, if_pos (by omega), Nat.mod_eq_of_lt h10]; rfl
    · rw [if_neg h10, if_neg (by omega)]
  refine Or.inr ⟨by simp, ?_⟩
  rw [List.reverse_append]
  simp only [List.reverse_singleton, List.singleton_append]
  rcases h with ⟨rfl, rfl⟩ | ⟨hl, e⟩
  · rw [key (Or.inr rfl)]; rfl
  · have hm0 : m ≠ 0 := hm.resolve_right hl
    rw [e]
    have : pre m = txL m := by unfold pre; rw [if_neg hm0]
    rw [this, key hm, List.append_assoc]
    rfl
theorem off_end {n : Nat} {l : List UInt8} (h : Off n 0 l) (hl : l ≠ []) : l.reverse = txL n := by
  rcases h with ⟨e, _⟩ | ⟨_, e⟩
  · exact absurd e hl
  · rw [e]; rfl
/-- How many rounds there are at most. -/
theorem off_len {n m : Nat} {l : List UInt8} (h : Off n m l) (hn : n < MM) : l.length ≤ 39 := by
  rcases h with ⟨e, _⟩ | ⟨_, e⟩
  · subst e; simp
  · have := txL_len_le n hn
    rw [e] at this
    simp at this
    omega

/-! Rows of digits, the lowest first: twice, and a bit. -/
def tw : List Nat → Nat → List Nat
  | [], c => if 0 < c then [c] else []
  | d :: l, c => (2 * d + c) % 10 :: tw l ((2 * d + c) / 10)
def low : List Nat → Nat
  | [] => 0
  | d :: l => d + 10 * low l
def nz : List Nat → Bool
  | [] => true
  | [d] => decide (0 < d)
  | _ :: e :: l => nz (e :: l)
def alld (l : List Nat) : Bool := l.all (fun d => decide (d < 10))
theorem tw_low : ∀ (l : List Nat) (c : Nat), low (tw l c) = 2 * low l + c
  | [], c => by unfold tw; by_cases h : 0 < c <;> simp [h, low] <;> omega
  | d :: l, c => by simp only [tw, low, tw_low l]; omega
theorem tw_all : ∀ (l : List Nat) (c : Nat), c ≤ 1 → alld l = true → alld (tw l c) = true
  | [], c, hc, _ => by unfold tw; by_cases h : 0 < c <;> simp [h, alld]; omega
  | d :: l, c, hc, h => by
    unfold alld at h
    simp only [List.all_cons, Bool.and_eq_true, decide_eq_true_eq] at h
    have ih := tw_all l ((2 * d + c) / 10) (by omega) h.2
    unfold alld at ih ⊢
    simp only [tw, List.all_cons, ih, Bool.and_true, decide_eq_true_eq]
    omega
theorem tw_ne : ∀ (l : List Nat) (c : Nat), l ≠ [] → tw l c ≠ []
  | [], _, h => absurd rfl h
  | d :: l, c, _ => by simp [tw]
theorem tw_nz : ∀ (l : List Nat) (c : Nat), c ≤ 1 → alld l = true → nz l = true → nz (tw l c) = true
  | [], c, hc, _, _ => by unfold tw; by_cases h : 0 < c <;> simp [h, nz]
  | [d], c, hc, ha, hn => by
    unfold alld at ha
    simp only [nz, List.all_cons, List.all_nil, Bool.and_true, decide_eq_true_eq] at hn ha
    simp only [tw]
    by_cases h : 0 < (2 * d + c) / 10
    · simp [h, nz]
    · simp only [h, if_false, nz, decide_eq_true_eq]; omega
  | d :: e :: l, c, hc, ha, hn => by
    unfold alld at ha
    simp only [List.all_cons, Bool.and_eq_true, decide_eq_true_eq] at ha
    have ih := tw_nz (e :: l) ((2 * d + c) / 10) (by omega) (by unfold alld; simp only [List.all_cons, Bool.and_eq_true, decide_eq_true_eq]; exact ha.2) (by simpa [nz] using hn)
    have he : tw (d :: e :: l) c = (2 * d + c) % 10 :: tw (e :: l) ((2 * d + c) / 10) := rfl
    rw [he]
    have hne := tw_ne (e :: l) ((2 * d + c) / 10) (by simp)
    cases hx : tw (e :: l) ((2 * d + c) / 10) with
    | nil => exact absurd hx hne
    | cons x y => rw [hx] at ih; simpa [nz] using ih
/-- Such a row as a text. -/
def hiT (l : List Nat) : List UInt8 := (l.map fun d => ch d).reverse
theorem hiT_num (l : List Nat) (h : alld l = true) : num (hiT l) = low l := by
  induction l with
  | nil => rfl
  | cons d l ih =>
    unfold alld at h
    simp only [List.all_cons, Bool.and_eq_true, decide_eq_true_eq] at h
    have ih := ih h.2
    unfold hiT at ih ⊢
    simp only [List.map_cons, List.reverse_cons, num_snoc, ih, low, dg_of d h.1]
    omega
theorem hiT_all (l : List Nat) (h : alld l = true) : (hiT l).all isD = true := by
  unfold hiT alld at *
  rw [List.all_reverse, List.all_map]
  rw [List.all_eq_true] at h ⊢
  intro x hx
  have := h x hx
  simp only [decide_eq_true_eq] at this
  exact isD_of x this
theorem nz_last : ∀ (l : List Nat), l ≠ [] → nz l = true → ∃ m d, l = m ++ [d] ∧ 0 < d
  | [], h, _ => absurd rfl h
  | [d], _, h => ⟨[], d, rfl, by simpa [nz] using h⟩
  | c :: e :: l, _, h => by
    obtain ⟨m, d, e1, hd⟩ := nz_last (e :: l) (by simp) (by simpa [nz] using h)
    exact ⟨c :: m, d, by rw [e1]; rfl, hd⟩
theorem hiT_isT (l : List Nat) (h : alld l = true) (hz : nz l = true) (hl : l ≠ []) : isT (hiT l) = true := by
  have hall := hiT_all l h
  obtain ⟨m, d, rfl, hd⟩ := nz_last l hl hz
  have hd10 : d < 10 := by
    unfold alld at h
    rw [List.all_eq_true] at h
    have := h d (by simp)
    simpa using this
  unfold isT
  rw [hall]
  have e : hiT (m ++ [d]) = ch d :: hiT m := by unfold hiT; simp
  rw [e]
  simp [ch_ne d hd10 hd]
theorem hiT_txL (l : List Nat) (n : Nat) (h : alld l = true) (hz : nz l = true) (hl : l ≠ []) (hn : low l = n) : hiT l = txL n := (txL_of (hiT_isT l h hz hl) (by rw [hiT_num l h, hn])).symm
end Go.Proofs.Ytehcmgaonpfafaa.W
