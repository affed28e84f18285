/- Texts of wide numbers stand to one another as the numbers do. -/
import Derived.Test.YtfofhnaomlcioaaBytesTwo
namespace Go.Proofs.Ytfofhnaomlcioaa
open W (hi lo dig MM rowOf val rowsTo)

/-- The lowest k digits, the highest of them first. -/
def tail (n : Nat) : Nat → List UInt8
  | 0 => []
  | k + 1 => UInt8.ofNat (dig n k) :: tail n k
theorem txt_list (n : Nat) : (txt n).toList = tail n 16 := by rw [ByteArray.toList_eq]; rfl
theorem u8_lt (x y : Nat) (hx : x < 256) (hy : y < 256) : (UInt8.ofNat x < UInt8.ofNat y) ↔ x < y := by
  rw [UInt8.lt_iff_toNat_lt]
  simp [Nat.mod_eq_of_lt hx, Nat.mod_eq_of_lt hy]
theorem u8_eq (x y : Nat) (hx : x < 256) (hy : y < 256) : (UInt8.ofNat x = UInt8.ofNat y) ↔ x = y := by
  constructor
  · intro h
    have := congrArg UInt8.toNat h
    simpa [Nat.mod_eq_of_lt hx, Nat.mod_eq_of_lt hy] using this
  · intro h; rw [h]
theorem low_split (n k : Nat) : n % 256 ^ (k + 1) = dig n k * 256 ^ k + n % 256 ^ k := by rw [Nat.pow_succ, W.mod_split]; rfl
theorem tail_less (a b : Nat) : ∀ k, Op.bytesLess (tail a k) (tail b k) = decide (a % 256 ^ k < b % 256 ^ k)
  | 0 => by simp [tail, Op.bytesLess, Nat.mod_one]
  | k + 1 => by
    have ih := tail_less a b k
    have ha := W.dig_lt a k
    have hb := W.dig_lt b k
    have hp := W.pow_pos k
    have h1 := Nat.mod_lt a hp
    have h2 := Nat.mod_lt b hp
    simp only [tail, Op.bytesLess, ih]
    rw [low_split a k, low_split b k]
    generalize a % 256 ^ k = x at *
    generalize b % 256 ^ k = y at *
    generalize dig a k = p at *
    generalize dig b k = q at *
    generalize 256 ^ k = P at *
    rw [Bool.eq_iff_iff]
    simp only [Bool.or_eq_true, Bool.and_eq_true, decide_eq_true_eq, beq_iff_eq]
    rw [u8_lt p q ha hb, u8_eq p q ha hb]
    rcases Nat.lt_trichotomy p q with h | h | h
    · have : p * P + P ≤ q * P := by rw [← Nat.succ_mul]; exact Nat.mul_le_mul_right _ h
      constructor
      · intro _; omega
      · intro _; exact Or.inl h
    · subst h
      constructor
      · rintro (h | ⟨_, h⟩) <;> omega
      · intro h; exact Or.inr ⟨rfl, by omega⟩
    · have : q * P + P ≤ p * P := by rw [← Nat.succ_mul]; exact Nat.mul_le_mul_right _ h
      constructor
      · rintro (h | ⟨h, _⟩) <;> omega
      · intro _; omega
theorem tail_eq (a b : Nat) : ∀ k, tail a k = tail b k ↔ a % 256 ^ k = b % 256 ^ k
  | 0 => by simp [tail, Nat.mod_one]
  | k + 1 => by
    have ih := tail_eq a b k
    have ha := W.dig_lt a k
    have hb := W.dig_lt b k
    have hp := W.pow_pos k
    have h1 := Nat.mod_lt a hp
    have h2 := Nat.mod_lt b hp
    simp only [tail, List.cons.injEq, ih, u8_eq _ _ ha hb]
    rw [low_split a k, low_split b k]
    generalize a % 256 ^ k = x at *
    generalize b % 256 ^ k = y at *
    generalize dig a k = p at *
    generalize dig b k = q at *
    generalize 256 ^ k = P at *
    rcases Nat.lt_trichotomy p q with h | h | h
    · have : p * P + P ≤ q * P := by rw [← Nat.succ_mul]; exact Nat.mul_le_mul_right _ h
      omega
    · subst h; omega
    · have : q * P + P ≤ p * P := by rw [← Nat.succ_mul]; exact Nat.mul_le_mul_right _ h
      omega
theorem txt_less (a b : Nat) (ha : a < MM) (hb : b < MM) : Op.bytesLess (txt a).toList (txt b).toList = decide (a < b) := by
  rw [txt_list, txt_list, tail_less]
  rw [W.MM_pow] at ha hb
  rw [Nat.mod_eq_of_lt ha, Nat.mod_eq_of_lt hb]
theorem txt_same (a b : Nat) (ha : a < MM) (hb : b < MM) : ((txt a).toList == (txt b).toList) = decide (a = b) := by
  rw [txt_list, txt_list, Bool.eq_iff_iff]
  simp only [beq_iff_eq, decide_eq_true_eq, tail_eq]
  rw [W.MM_pow] at ha hb
  rw [Nat.mod_eq_of_lt ha, Nat.mod_eq_of_lt hb]
theorem halves_same (a b : Nat) : (((hi a : Nat) : Int) == ((hi b : Nat) : Int) && ((lo a : Nat) : Int) == ((lo b : Nat) : Int)) = decide (a = b) := by
  rw [Bool.eq_iff_iff]
  simp only [Bool.and_eq_true, beq_iff_eq, decide_eq_true_eq]
  constructor
  · rintro ⟨h1, h2⟩; exact W.ext a b (by omega) (by omega)
  · rintro rfl; exact ⟨rfl, rfl⟩
theorem cmp_neg (a b : Nat) : decide (W.cmpN a b < 0) = decide (a < b) := by
  unfold W.cmpN
  by_cases h : a < b
  · simp [h]
  · by_cases h2 : b < a
    · simp [h, h2]
    · simp [h, h2]
end Go.Proofs.Ytfofhnaomlcioaa
