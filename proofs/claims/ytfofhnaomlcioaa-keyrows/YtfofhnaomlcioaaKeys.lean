/- Rows of bytes, plain mathematics: the number that a row is, how two rows stand, the row behind one, the rows that begin so. -/
import Derived.Test.YtfofhnaomlcioaaTexts
import Derived.Lib.Bytealg
namespace Go.Proofs.Ytfofhnaomlcioaa
open W (hi lo dig MM M cmpN val)

/-- The number that a row is, the highest byte first. -/
def nb : List UInt8 → Nat
  | [] => 0
  | x :: l => x.toNat * 256 ^ l.length + nb l
theorem u8_le (x : UInt8) : x.toNat ≤ 255 := by have := x.toNat_lt; omega
theorem nb_lt : ∀ l : List UInt8, nb l < 256 ^ l.length
  | [] => by simp [nb]
  | x :: l => by
    have ih := nb_lt l
    have hx := u8_le x
    simp only [nb, List.length_cons, Nat.pow_succ]
    have h : x.toNat * 256 ^ l.length ≤ 255 * 256 ^ l.length := Nat.mul_le_mul_right _ hx
    omega
theorem nb_append (p q : List UInt8) : nb (p ++ q) = nb p * 256 ^ q.length + nb q := by
  induction p with
  | nil => simp [nb]
  | cons x p ih =>
    simp only [List.cons_append, nb, ih, List.length_append, Nat.pow_add, Nat.add_mul, Nat.mul_assoc, Nat.add_assoc]
theorem nb_zeros (k : Nat) : nb (List.replicate k 0) = 0 := by
  induction k with
  | zero => rfl
  | succ k ih => simp [List.replicate_succ, nb, ih]
theorem nb_full (k : Nat) : nb (List.replicate k 255) + 1 = 256 ^ k := by
  induction k with
  | zero => rfl
  | succ k ih =>
    simp only [List.replicate_succ, nb, List.length_replicate, Nat.pow_succ]
    have : (255 : UInt8).toNat = 255 := rfl
    rw [this]
    omega
theorem cmp_nb : ∀ a b : List UInt8, a.length = b.length → Lib.compareBytes a b = cmpN (nb a) (nb b)
  | [], [], _ => by simp [Lib.compareBytes, nb, W.cmpN]
  | [], _ :: _, h => by simp at h
  | _ :: _, [], h => by simp at h
  | x :: a, y :: b, h => by
    have hl : a.length = b.length := by simpa using h
    have ih := cmp_nb a b hl
    have h1 := nb_lt a
    have h2 := nb_lt b
    unfold Lib.compareBytes
    simp only [nb]
    rw [hl] at h1 ⊢
    rw [ih]
    have e1 : (x < y) ↔ x.toNat < y.toNat := UInt8.lt_iff_toNat_lt
    have e2 : (y < x) ↔ y.toNat < x.toNat := UInt8.lt_iff_toNat_lt
    simp only [e1, e2]
    generalize x.toNat = p
    generalize y.toNat = q
    generalize 256 ^ b.length = P at *
    generalize nb a = u at *
    generalize nb b = v at *
    rcases Nat.lt_trichotomy p q with hp | hp | hp
    · have : p * P + P ≤ q * P := by rw [← Nat.succ_mul]; exact Nat.mul_le_mul_right _ hp
      rw [if_pos hp, W.cmpN_lt (by omega)]
    · subst hp
      rw [if_neg (by omega), if_neg (by omega)]
      unfold W.cmpN
      by_cases c : u < v
      · rw [if_pos c, if_pos (by omega)]
      · by_cases c2 : v < u
        · rw [if_neg c, if_pos c2, if_neg (by omega), if_pos (by omega)]
        · rw [if_neg c, if_neg c2, if_neg (by omega), if_neg (by omega)]
    · have : q * P + P ≤ p * P := by rw [← Nat.succ_mul]; exact Nat.mul_le_mul_right _ hp
      rw [if_neg (by omega), if_pos hp, W.cmpN_gt (by omega)]
/-- Behind equal beginnings the rest tells. -/
theorem cmp_drop (a b : List UInt8) : ∀ k, k ≤ a.length → k ≤ b.length → (∀ j, j < k → a.getD j 0 = b.getD j 0) → Lib.compareBytes a b = Lib.compareBytes (a.drop k) (b.drop k) := by
  induction a generalizing b with
  | nil => intro k hk _ _; obtain rfl : k = 0 := by simpa using hk
           simp
  | cons x a ih =>
    intro k hk hb h
    cases k with
    | zero => simp
    | succ k =>
      cases b with
      | nil => simp at hb
      | cons y b =>
        have h0 : x = y := by simpa using h 0 (by omega)
        subst h0
        simp only [List.drop_succ_cons]
        rw [← ih b k (by simpa using hk) (by simpa using hb) (fun j hj => by simpa using h (j + 1) (by omega))]
        conv => lhs; unfold Lib.compareBytes
        simp

theorem tail_length (n : Nat) : ∀ k, (tail n k).length = k
  | 0 => rfl
  | k + 1 => by simp [tail, tail_length n k]
theorem nb_tail (n : Nat) : ∀ k, nb (tail n k) = n % 256 ^ k
  | 0 => by simp [tail, nb, Nat.mod_one]
  | k + 1 => by
    have hd := W.dig_lt n k
    have e : (UInt8.ofNat (dig n k)).toNat = dig n k := by simp [Nat.mod_eq_of_lt hd]
    simp only [tail, nb, tail_length, nb_tail n k, e]
    rw [low_split]
theorem nb_wide (n : Nat) (h : n < MM) : nb (tail n 16) = n := by rw [nb_tail, ← W.MM_pow, Nat.mod_eq_of_lt h]
theorem nb_word (n : Nat) (h : n < 18446744073709551616) : nb (tail n 8) = n := by rw [nb_tail, ← W.M_pow, W.M_eq, Nat.mod_eq_of_lt h]

/-! What 'val' of W tells of a row. -/
def fb (l : List UInt8) (j : Nat) : Nat := (l.getD j 0).toNat
theorem fb_lt (l : List UInt8) (j : Nat) : fb l j < 256 := (l.getD j 0).toNat_lt
theorem fb_get (l : List UInt8) (j : Nat) (h : j < l.length) : fb l j = l[j].toNat := by simp [fb, h]
theorem val_take (l : List UInt8) : ∀ k, k ≤ l.length → val (fb l) k = nb (l.take k)
  | 0, _ => by simp [W.val, nb]
  | k + 1, h => by
    rw [List.take_succ_eq_append_getElem (by omega), nb_append, ← val_take l k (by omega)]
    simp only [W.val, nb, List.length_singleton, List.length_nil, Nat.pow_one, Nat.pow_zero, Nat.mul_one, Nat.add_zero]
    rw [fb_get l k (by omega)]
theorem val_nb (l : List UInt8) (h : l.length = 16) : val (fb l) 16 = nb l := by
  rw [val_take l 16 (by omega), List.take_of_length_le (by omega)]
theorem nb_max (l : List UInt8) (h : l.length = 16) : nb l < MM := by have := nb_lt l; rw [h, ← W.MM_pow] at this; exact this

/-- The lower half of sixteen bytes. -/
theorem nb_lo (p q : List UInt8) (h : q.length = 8) : lo (nb (p ++ q)) = nb q := by
  have := nb_lt q
  rw [nb_append, h]
  rw [h] at this
  unfold W.lo
  rw [W.M_pow, Nat.mul_add_mod_self_right, Nat.mod_eq_of_lt this]
theorem nb_hi (p q : List UInt8) (h : q.length = 8) : hi (nb (p ++ q)) = nb p := by
  have := nb_lt q
  rw [nb_append, h]
  rw [h] at this
  unfold W.hi
  have hp : 0 < 256 ^ 8 := by decide
  rw [W.M_pow, Nat.mul_comm, Nat.mul_add_div hp, Nat.div_eq_of_lt this, Nat.add_zero]

/-! The row behind. -/
def nx : List UInt8 → Option (List UInt8)
  | [] => none
  | x :: l => match nx l with
    | some m => some (x :: m)
    | none => if x = 255 then none else some ((x + 1) :: List.replicate l.length 0)
theorem nx_ff : ∀ q : List UInt8, (∀ c ∈ q, c = 255) → nx q = none
  | [], _ => rfl
  | x :: q, h => by
    have ih := nx_ff q (fun c hc => h c (List.mem_cons_of_mem _ hc))
    have hx := h x (List.mem_cons_self ..)
    simp only [nx, ih, hx, if_true]
theorem nx_at (p : List UInt8) (x : UInt8) (q : List UInt8) (hq : ∀ c ∈ q, c = 255) (hx : x ≠ 255) : nx (p ++ x :: q) = some (p ++ (x + 1) :: List.replicate q.length 0) := by
  induction p with
  | nil => simp only [List.nil_append, nx, nx_ff q hq, hx, if_false]
  | cons y p ih => simp only [List.cons_append, nx, ih]
theorem succ_nat (x : UInt8) (h : x ≠ 255) : (x + 1).toNat = x.toNat + 1 := by
  have h1 : x.toNat ≠ 255 := fun e => h (UInt8.toNat_inj.1 e)
  have h2 := u8_le x
  rw [UInt8.toNat_add]
  have : (1 : UInt8).toNat = 1 := rfl
  rw [this]
  omega
theorem nx_none : ∀ a : List UInt8, nx a = none → nb a + 1 = 256 ^ a.length
  | [], _ => rfl
  | x :: l, h => by
    have ih := nx_none l
    simp only [nx] at h
    cases e : nx l with
    | some m => simp [e] at h
    | none =>
      simp only [e] at h
      by_cases hx : x = 255
      · have := ih e
        subst hx
        have e2 : (255 : UInt8).toNat = 255 := rfl
        simp only [nb, List.length_cons, Nat.pow_succ, e2]
        omega
      · simp [hx] at h
theorem nx_some : ∀ a m : List UInt8, nx a = some m → m.length = a.length ∧ nb m = nb a + 1
  | [], m, h => by simp [nx] at h
  | x :: l, m, h => by
    simp only [nx] at h
    cases e : nx l with
    | some r =>
      simp only [e, Option.some.injEq] at h
      subst h
      have ih := nx_some l r e
      exact ⟨by simp [ih.1], by simp only [nb, ih.1, ih.2, Nat.add_assoc]⟩
    | none =>
      simp only [e] at h
      by_cases hx : x = 255
      · simp [hx] at h
      · simp only [hx, if_false, Option.some.injEq] at h
        subst h
        have hn := nx_none l e
        refine ⟨by simp, ?_⟩
        simp only [List.length_replicate, nb, nb_zeros, succ_nat x hx, Nat.add_mul, Nat.one_mul, Nat.add_zero, Nat.add_assoc]
        rw [hn]

/-! Rows of so many bytes that begin so. -/
def cl (n : Int) : Nat := (min (max n 0) 24).toNat
theorem cl_le (n : Int) : cl n ≤ 24 := by unfold cl; omega
def fillL (l : List UInt8) (k : Nat) (x : UInt8) : List UInt8 := l.take k ++ List.replicate (k - l.length) x
theorem fillL_length (l : List UInt8) (k : Nat) (x : UInt8) : (fillL l k x).length = k := by simp [fillL]; omega
/-- Of k bytes the first i are laid. -/
def fillTo (l : List UInt8) (k : Nat) (x : UInt8) (i : Nat) : List UInt8 := l.take k ++ (List.replicate (i - min l.length k) x ++ List.replicate (k - i) 0)
theorem fillTo_length (l : List UInt8) (k : Nat) (x : UInt8) (i : Nat) (h1 : min l.length k ≤ i) (h2 : i ≤ k) : (fillTo l k x i).length = k := by simp [fillTo]; omega
theorem fillTo_end (l : List UInt8) (k : Nat) (x : UInt8) : fillTo l k x k = fillL l k x := by
  unfold fillTo fillL
  congr 1
  simp
  omega
theorem fillTo_step (l : List UInt8) (k : Nat) (x : UInt8) (i : Nat) (h1 : min l.length k ≤ i) (h2 : i < k) : (fillTo l k x i).set i x = fillTo l k x (i + 1) := by
  unfold fillTo
  have e1 : (l.take k).length = min l.length k := by simp; omega
  have e2 : i + 1 - min l.length k = (i - min l.length k) + 1 := by omega
  have e3 : k - i = (k - (i + 1)) + 1 := by omega
  rw [List.set_append_right _ _ (by rw [e1]; exact h1), List.set_append_right _ _ (by rw [e1, List.length_replicate]; omega), e1, List.length_replicate]
  rw [show i - min l.length k - (i - min l.length k) = 0 by omega, e3, List.replicate_succ, List.set_cons_zero, e2, List.replicate_succ']
  simp
/-- The document's way: one byte at a time behind, then the first k. -/
theorem fillL_take (l : List UInt8) (k : Nat) (x : UInt8) (j : Nat) (h : l.length + j = max l.length k) : (l ++ List.replicate j x).take k = fillL l k x := by
  unfold fillL
  rw [List.take_append]
  congr 1
  rw [List.take_replicate]
  congr 1
  omega
end Go.Proofs.Ytfofhnaomlcioaa
