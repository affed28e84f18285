/- The sum CRC-32C as numbers: plain mathematics, no program. One step of the rule is linear over xor and takes no number below 2^32 but 0 to 0; the sum of bytes is so many steps of the bytes as one number. -/
import Derived.Test.YtceoelemlokelaaRows
namespace Go.Proofs.Ytceoelemlokelaa.C

/-- The number that is made one with, and the number of ones. -/
def pol : Nat := 2197175160
def ones : Nat := 4294967295
/-- One step: halved, and made one with the number if the bit that falls away is 1. -/
def step (r : Nat) : Nat := if r % 2 = 1 then r / 2 ^^^ pol else r / 2
def steps : Nat → Nat → Nat
  | 0, r => r
  | n + 1, r => steps n (step r)
/-- One byte. -/
def bt (r c : Nat) : Nat := steps 8 (r ^^^ c)
/-- Many bytes. -/
def more (r : Nat) (l : List UInt8) : Nat := l.foldl (fun r c => bt r c.toNat) r
/-- The sum of l behind the sum s. -/
def crc (s : Nat) (l : List UInt8) : Nat := more (s ^^^ ones) l ^^^ ones
/-- Bytes as one number, the first one lowest. -/
def num : List UInt8 → Nat
  | [] => 0
  | c :: l => c.toNat + 256 * num l

theorem xor_div (a b : Nat) : (a ^^^ b) / 2 = a / 2 ^^^ b / 2 := by
  have := @Nat.xor_div_two_pow a b 1
  simpa using this
theorem xor_mod (a b : Nat) : (a ^^^ b) % 2 = (a % 2 + b % 2) % 2 := by
  have := @Nat.xor_mod_two_pow a b 1
  simp only [Nat.pow_one] at this
  rw [this]
  have h1 : a % 2 = 0 ∨ a % 2 = 1 := by omega
  have h2 : b % 2 = 0 ∨ b % 2 = 1 := by omega
  rcases h1 with h1 | h1 <;> rcases h2 with h2 | h2 <;> rw [h1, h2] <;> rfl
theorem xac (a b p : Nat) : (a ^^^ b) ^^^ p = (a ^^^ p) ^^^ b := by rw [Nat.xor_assoc, Nat.xor_comm b p, ← Nat.xor_assoc]
theorem xpp (a b p : Nat) : (a ^^^ p) ^^^ (b ^^^ p) = a ^^^ b := by rw [Nat.xor_assoc, Nat.xor_comm b p, ← Nat.xor_assoc p p b, Nat.xor_self, Nat.zero_xor]
theorem step_xor (a b : Nat) : step (a ^^^ b) = step a ^^^ step b := by
  unfold step
  rw [xor_mod, xor_div]
  have h1 : a % 2 = 0 ∨ a % 2 = 1 := by omega
  have h2 : b % 2 = 0 ∨ b % 2 = 1 := by omega
  rcases h1 with h1 | h1 <;> rcases h2 with h2 | h2 <;> rw [h1, h2] <;> simp
  · rw [Nat.xor_assoc]
  · rw [xac]
  · rw [xpp]
theorem steps_xor (n : Nat) : ∀ a b, steps n (a ^^^ b) = steps n a ^^^ steps n b := by
  induction n with
  | zero => intro a b; rfl
  | succ n ih => intro a b; simp only [steps]; rw [step_xor, ih]
theorem step_even (a : Nat) : step (2 * a) = a := by
  unfold step
  rw [if_neg (by omega)]
  omega
theorem steps_pow (n : Nat) : ∀ a, steps n (2 ^ n * a) = a := by
  induction n with
  | zero => intro a; simp [steps]
  | succ n ih =>
    intro a
    have e : 2 ^ (n + 1) * a = 2 * (2 ^ n * a) := by rw [Nat.pow_succ, Nat.mul_comm (2 ^ n) 2, Nat.mul_assoc]
    simp only [steps]
    rw [e, step_even, ih]
theorem steps_add (m n : Nat) : ∀ a, steps (m + n) a = steps n (steps m a) := by
  induction m with
  | zero => intro a; simp [steps]
  | succ m ih =>
    intro a
    have e : m + 1 + n = (m + n) + 1 := by omega
    rw [e]
    simp only [steps]
    rw [ih]
theorem step_lt {a : Nat} (h : a < 4294967296) : step a < 4294967296 := by
  unfold step
  split
  · exact Nat.xor_lt_two_pow (n := 32) (by omega) (by unfold pol; omega)
  · omega
theorem steps_lt (n : Nat) : ∀ {a : Nat}, a < 4294967296 → steps n a < 4294967296 := by
  induction n with
  | zero => intro a h; exact h
  | succ n ih => intro a h; exact ih (step_lt h)
theorem step_zero {a : Nat} (h : a < 4294967296) (e : step a = 0) : a = 0 := by
  unfold step at e
  split at e
  · rename_i h1
    have : a / 2 = pol := by
      have k : (a / 2 ^^^ pol) ^^^ pol = 0 ^^^ pol := by rw [e]
      rw [Nat.xor_assoc, Nat.xor_self, Nat.xor_zero, Nat.zero_xor] at k
      exact k
    unfold pol at this
    omega
  · omega
theorem steps_zero (n : Nat) : ∀ {a : Nat}, a < 4294967296 → steps n a = 0 → a = 0 := by
  induction n with
  | zero => intro a _ e; exact e
  | succ n ih => intro a h e; exact step_zero h (ih (step_lt h) e)
theorem step_nought : step 0 = 0 := by decide
theorem steps_nought (n : Nat) : steps n 0 = 0 := by
  induction n with
  | zero => rfl
  | succ n ih => simp only [steps]; rw [step_nought, ih]
theorem low_xor (n c x : Nat) (h : c < 2 ^ n) : c + 2 ^ n * x = c ^^^ (2 ^ n * x) := by
  have h1 : (2 ^ n * x) % 2 ^ n = 0 := Nat.mul_mod_right _ _
  apply Nat.eq_of_testBit_eq
  intro i
  rw [Nat.testBit_xor, Nat.add_comm, Nat.testBit_two_pow_mul_add _ h, Nat.testBit_two_pow_mul]
  by_cases hi : i < n
  · simp [hi, Nat.not_le.2 hi]
  · have : c < 2 ^ i := Nat.lt_of_lt_of_le h (Nat.pow_le_pow_right (by omega) (by omega))
    simp [hi, Nat.le_of_not_lt hi, Nat.testBit_lt_two_pow this]
/-- Two halves of a byte by a table: four steps. -/
theorem half_steps (r : Nat) : r / 16 ^^^ steps 4 (r % 16) = steps 4 r := by
  have e : r = r % 16 + 2 ^ 4 * (r / 16) := by omega
  have k := low_xor 4 (r % 16) (r / 16) (by omega)
  have e2 : steps 4 r = steps 4 (r % 16 ^^^ 2 ^ 4 * (r / 16)) := by rw [← k, ← e]
  rw [e2, steps_xor, steps_pow, Nat.xor_comm]
theorem steps_steps (r : Nat) : steps 4 (steps 4 r) = steps 8 r := (steps_add 4 4 r).symm

theorem u8_lt (c : UInt8) : c.toNat < 256 := c.toNat_lt
theorem bt_lt {r : Nat} (c : UInt8) (h : r < 4294967296) : bt r c.toNat < 4294967296 :=
  steps_lt 8 (Nat.xor_lt_two_pow (n := 32) (by omega) (by have := u8_lt c; omega))
theorem more_lt (l : List UInt8) : ∀ {r : Nat}, r < 4294967296 → more r l < 4294967296 := by
  induction l with
  | nil => intro r h; exact h
  | cons c l ih => intro r h; exact ih (bt_lt c h)
theorem ones_lt {s : Nat} (h : s < 4294967296) : s ^^^ ones < 4294967296 := Nat.xor_lt_two_pow (n := 32) (by omega) (by unfold ones; omega)
theorem crc_lt {s : Nat} (l : List UInt8) (h : s < 4294967296) : crc s l < 4294967296 := ones_lt (more_lt l (ones_lt h))
theorem more_append (r : Nat) (l m : List UInt8) : more r (l ++ m) = more (more r l) m := by simp [more]
theorem more_snoc (r : Nat) (l : List UInt8) (c : UInt8) : more r (l ++ [c]) = bt (more r l) c.toNat := by simp [more]
theorem crc_append (s : Nat) (l m : List UInt8) : crc s (l ++ m) = crc (crc s l) m := by
  unfold crc
  rw [more_append]
  congr 2
  rw [Nat.xor_assoc, Nat.xor_self, Nat.xor_zero]
theorem crc_nine : crc 0 [49, 50, 51, 52, 53, 54, 55, 56, 57] = 3808858755 := by decide +kernel
theorem crc_none : crc 0 [] = 0 := by decide +kernel

/-- The bytes' sum as steps of one number. -/
theorem more_num (l : List UInt8) : ∀ r, more r l = steps (8 * l.length) (r ^^^ num l) := by
  induction l with
  | nil => intro r; simp [more, num, steps]
  | cons c l ih =>
    intro r
    have e : more r (c :: l) = more (bt r c.toNat) l := rfl
    have k := low_xor 8 c.toNat (num l) (by have := u8_lt c; omega)
    have e3 : c.toNat + 256 * num l = c.toNat ^^^ 2 ^ 8 * num l := k
    have e2 : 8 * (c :: l).length = 8 + 8 * l.length := by simp; omega
    have e4 : num (c :: l) = c.toNat ^^^ 2 ^ 8 * num l := e3
    rw [e, ih, e2, steps_add, e4, ← Nat.xor_assoc, steps_xor 8 (r ^^^ c.toNat), steps_pow]
    rfl
theorem crc_num (s : Nat) (l : List UInt8) : crc s l = steps (8 * l.length) (s ^^^ ones ^^^ num l) ^^^ ones := by unfold crc; rw [more_num]
theorem xor_canc {a b p : Nat} (h : a ^^^ p = b ^^^ p) : a = b := by
  have : (a ^^^ p) ^^^ p = (b ^^^ p) ^^^ p := by rw [h]
  rwa [Nat.xor_assoc, Nat.xor_self, Nat.xor_zero, Nat.xor_assoc, Nat.xor_self, Nat.xor_zero] at this
/-- Told: a change of four bytes in a row, as one number, is told. -/
theorem told (l c : List UInt8) (p v : Nat) (hl : c.length = l.length) (hp : p ≤ l.length) (hv : v < 4294967296) (h : num c = num l ^^^ 2 ^ (8 * p) * v) :
    crc 0 c = crc 0 l ↔ v = 0 := by
  have e : steps (8 * l.length) (2 ^ (8 * p) * v) = steps (8 * (l.length - p)) v := by
    have e1 : 8 * l.length = 8 * p + 8 * (l.length - p) := by omega
    rw [e1, steps_add, steps_pow]
  have e2 : steps (8 * c.length) (0 ^^^ ones ^^^ num c) = steps (8 * l.length) (0 ^^^ ones ^^^ num l) ^^^ steps (8 * (l.length - p)) v := by
    rw [hl, h, ← Nat.xor_assoc, steps_xor, e]
  constructor
  · intro k
    rw [crc_num, crc_num, e2] at k
    have k2 := xor_canc k
    have k3 : steps (8 * (l.length - p)) v = 0 := by
      have k4 : steps (8 * (l.length - p)) v ^^^ steps (8 * l.length) (0 ^^^ ones ^^^ num l) = 0 ^^^ steps (8 * l.length) (0 ^^^ ones ^^^ num l) := by
        rw [Nat.xor_comm (steps (8 * (l.length - p)) v), k2, Nat.zero_xor (steps _ _)]
      exact xor_canc k4
    exact steps_zero _ hv k3
  · rintro rfl
    rw [crc_num, crc_num, e2, steps_nought, Nat.xor_zero]
/-- One byte of a row changed. -/
theorem num_set (l : List UInt8) : ∀ (j : Nat) (x : UInt8), j < l.length → num (l.set j (l.getD j 0 ^^^ x)) = num l ^^^ 2 ^ (8 * j) * x.toNat := by
  induction l with
  | nil => intro j x h; simp at h
  | cons c l ih =>
    intro j x h
    have sp : ∀ (c : UInt8) (n : Nat), c.toNat + 256 * n = c.toNat ^^^ 2 ^ 8 * n := fun c n => low_xor 8 c.toNat n (by have := u8_lt c; omega)
    have dist : ∀ a b : Nat, 2 ^ 8 * (a ^^^ b) = 2 ^ 8 * a ^^^ 2 ^ 8 * b := fun a b => by
      apply Nat.eq_of_testBit_eq
      intro i
      simp only [Nat.testBit_xor, Nat.testBit_two_pow_mul]
      by_cases hi : 8 ≤ i <;> simp [hi]
    cases j with
    | zero =>
      simp only [List.getD_cons_zero, List.set_cons_zero, num, Nat.mul_zero, Nat.pow_zero, Nat.one_mul]
      rw [sp, sp, UInt8.toNat_xor, Nat.xor_assoc, Nat.xor_comm x.toNat, ← Nat.xor_assoc]
    | succ j =>
      simp only [List.getD_cons_succ, List.set_cons_succ, num]
      rw [ih j x (by simpa using h), sp, sp, dist, Nat.xor_assoc]
      congr 2
      rw [← Nat.mul_assoc, ← Nat.pow_add]
      congr 2
      omega
/-- One more of the changed bytes. -/
theorem told_step {L v i p x : Nat} (hv : v < 2 ^ (8 * i)) : (L ^^^ 2 ^ (8 * p) * v) ^^^ 2 ^ (8 * (p + i)) * x = L ^^^ 2 ^ (8 * p) * (v + 2 ^ (8 * i) * x) := by
  have dist : ∀ a b : Nat, 2 ^ (8 * p) * (a ^^^ b) = 2 ^ (8 * p) * a ^^^ 2 ^ (8 * p) * b := fun a b => by
    apply Nat.eq_of_testBit_eq
    intro j
    simp only [Nat.testBit_xor, Nat.testBit_two_pow_mul]
    by_cases hj : 8 * p ≤ j <;> simp [hj]
  rw [low_xor _ _ _ hv, dist, Nat.xor_assoc]
  congr 2
  rw [← Nat.mul_assoc, ← Nat.pow_add]
  congr 2
  omega
/-- Three rows of one length, made one. -/
theorem num_three (a : List UInt8) : ∀ (b c d : List UInt8), b.length = a.length → c.length = a.length → d.length = a.length →
    (∀ j, j < a.length → d.getD j 0 = a.getD j 0 ^^^ b.getD j 0 ^^^ c.getD j 0) → num d = num a ^^^ num b ^^^ num c := by
  induction a with
  | nil =>
    intro b c d hb hc hd _
    obtain rfl : b = [] := List.length_eq_zero_iff.1 hb
    obtain rfl : c = [] := List.length_eq_zero_iff.1 hc
    obtain rfl : d = [] := List.length_eq_zero_iff.1 hd
    rfl
  | cons x a ih =>
    intro b c d hb hc hd h
    cases b with
    | nil => simp at hb
    | cons y b =>
    cases c with
    | nil => simp at hc
    | cons z c =>
    cases d with
    | nil => simp at hd
    | cons u d =>
    have hu : u = x ^^^ y ^^^ z := by have := h 0 (by simp); simpa using this
    have k := ih b c d (by simpa using hb) (by simpa using hc) (by simpa using hd) (fun j hj => by have := h (j + 1) (by simp; omega); simpa using this)
    have sp : ∀ (c : UInt8) (n : Nat), c.toNat + 256 * n = c.toNat ^^^ 2 ^ 8 * n := fun c n => low_xor 8 c.toNat n (by have := u8_lt c; omega)
    have dist : ∀ a b : Nat, 2 ^ 8 * (a ^^^ b) = 2 ^ 8 * a ^^^ 2 ^ 8 * b := fun a b => by
      apply Nat.eq_of_testBit_eq
      intro i
      simp only [Nat.testBit_xor, Nat.testBit_two_pow_mul]
      by_cases hi : 8 ≤ i <;> simp [hi]
    simp only [num]
    rw [sp, sp, sp, sp, k, hu, dist, dist, UInt8.toNat_xor, UInt8.toNat_xor]
    generalize x.toNat = X
    generalize y.toNat = Y
    generalize z.toNat = Z
    generalize 2 ^ 8 * num a = A
    generalize 2 ^ 8 * num b = B
    generalize 2 ^ 8 * num c = D
    ac_rfl
theorem line (a b c d : List UInt8) (hb : b.length = a.length) (hc : c.length = a.length) (hd : d.length = a.length)
    (h : ∀ j, j < a.length → d.getD j 0 = a.getD j 0 ^^^ b.getD j 0 ^^^ c.getD j 0) : crc 0 a ^^^ crc 0 b ^^^ crc 0 c = crc 0 d := by
  rw [crc_num, crc_num, crc_num, crc_num, hb, hc, hd, num_three a b c d hb hc hd h]
  have e : (0 ^^^ ones ^^^ (num a ^^^ num b ^^^ num c)) = (0 ^^^ ones ^^^ num a) ^^^ (0 ^^^ ones ^^^ num b) ^^^ (0 ^^^ ones ^^^ num c) := by
    have k : ones = ones ^^^ ones ^^^ ones := by rw [Nat.xor_self, Nat.zero_xor]
    simp only [Nat.zero_xor]
    generalize num a = A
    generalize num b = B
    generalize num c = D
    rw [show ones ^^^ (A ^^^ B ^^^ D) = (ones ^^^ ones ^^^ ones) ^^^ (A ^^^ B ^^^ D) by rw [← k]]
    ac_rfl
  rw [e, steps_xor _ (0 ^^^ ones ^^^ num a ^^^ (0 ^^^ ones ^^^ num b)), steps_xor _ (0 ^^^ ones ^^^ num a)]
  generalize steps (8 * a.length) (0 ^^^ ones ^^^ num a) = A
  generalize steps (8 * a.length) (0 ^^^ ones ^^^ num b) = B
  generalize steps (8 * a.length) (0 ^^^ ones ^^^ num c) = D
  have k : (A ^^^ ones) ^^^ (B ^^^ ones) ^^^ (D ^^^ ones) = (A ^^^ B ^^^ D) ^^^ (ones ^^^ ones ^^^ ones) := by ac_rfl
  rw [k]
  rw [Nat.xor_self ones, Nat.zero_xor]
end Go.Proofs.Ytceoelemlokelaa.C
