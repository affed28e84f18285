/- A page's bytes, as plain mathematics: sealed, opened, changed. -/
import Derived.Test.YtceoelemlokelaaCrc
namespace Go.Proofs.Ytceoelemlokelaa
namespace G
open C (crc num)

/-- Four bytes of a number, the highest first. -/
def four (n : Nat) : List UInt8 := [UInt8.ofNat (n / 16777216), UInt8.ofNat (n / 65536), UInt8.ofNat (n / 256), UInt8.ofNat n]
def two (n : Nat) : List UInt8 := [UInt8.ofNat (n / 256), UInt8.ofNat n]
theorem four_length (n : Nat) : (four n).length = 4 := rfl
theorem two_length (n : Nat) : (two n).length = 2 := rfl
theorem four_inj {a b : Nat} (ha : a < 4294967296) (hb : b < 4294967296) (h : four a = four b) : a = b := by
  unfold four at h
  simp only [List.cons.injEq, and_true] at h
  obtain ⟨h0, h1, h2, h3⟩ := h
  have e0 := congrArg UInt8.toNat h0
  have e1 := congrArg UInt8.toNat h1
  have e2 := congrArg UInt8.toNat h2
  have e3 := congrArg UInt8.toNat h3
  simp only [UInt8.toNat_ofNat'] at e0 e1 e2 e3
  omega
theorem two_of (a c : UInt8) : two (a.toNat * 256 + c.toNat) = [a, c] := by
  have ha := a.toNat_lt
  have hc := c.toNat_lt
  unfold two
  congr 1
  · apply UInt8.toNat_inj.1
    simp only [UInt8.toNat_ofNat']
    omega
  · congr 1
    apply UInt8.toNat_inj.1
    simp only [UInt8.toNat_ofNat']
    omega
theorem of_two (n : Nat) (h : n < 65536) : (UInt8.ofNat (n / 256)).toNat * 256 + (UInt8.ofNat n).toNat = n := by
  simp only [UInt8.toNat_ofNat']
  omega

/-- All of a page behind its sum. -/
def rest (n : Nat) (k : UInt8) (l : List UInt8) : List UInt8 := four n ++ (k :: (two l.length ++ (0 :: (l ++ List.replicate (500 - l.length) 0))))
def page (n : Nat) (k : UInt8) (l : List UInt8) : List UInt8 := four (crc 0 (rest n k l)) ++ rest n k l
theorem rest_length (n : Nat) (k : UInt8) (l : List UInt8) (h : l.length ≤ 500) : (rest n k l).length = 508 := by
  simp [rest, four_length, two_length]
  omega
theorem page_length (n : Nat) (k : UInt8) (l : List UInt8) (h : l.length ≤ 500) : (page n k l).length = 512 := by
  simp [page, four_length, rest_length n k l h]
/-- What Seal answers. -/
def sealE (l : List UInt8) : Nat := if l.length ≤ 500 then 0 else 3
def sealL (n : Nat) (k : UInt8) (l : List UInt8) : List UInt8 := if l.length ≤ 500 then page n k l else []
/-- How long the body is, as a block says. -/
def len (b : List UInt8) : Nat := (b.getD 9 0).toNat * 256 + (b.getD 10 0).toNat
/-- The bytes behind a body of so many bytes are 0. -/
def zeros (b : List UInt8) : Bool := b.all (fun x => x == 0)
theorem zeros_iff (b : List UInt8) : zeros b = true ↔ b = List.replicate b.length 0 := by
  unfold zeros
  rw [List.all_eq_true]
  constructor
  · intro h
    exact List.eq_replicate_iff.2 ⟨rfl, fun x hx => by simpa using h x hx⟩
  · intro h x hx
    have := (List.eq_replicate_iff.1 h).2 x hx
    simpa using this
/-- What Open answers: the error's number, the kind, the body. -/
def openE (n : Nat) (b : List UInt8) : Nat :=
  if b.length ≠ 512 then 1 else if b.take 4 ≠ four (crc 0 (b.drop 4)) then 8 else if (b.drop 4).take 4 ≠ four n then 4
  else if b.getD 11 0 ≠ 0 ∨ 500 < len b ∨ zeros (b.drop (12 + len b)) = false then 2 else 0
def openK (n : Nat) (b : List UInt8) : UInt8 := if openE n b = 0 then b.getD 8 0 else 0
def openB (n : Nat) (b : List UInt8) : List UInt8 := if openE n b = 0 then (b.drop 12).take (len b) else []
theorem twelve (b : List UInt8) (h : b.length = 512) : ∃ a0 a1 a2 a3 a4 a5 a6 a7 a8 a9 a10 a11 t, b = [a0, a1, a2, a3] ++ ([a4, a5, a6, a7] ++ (a8 :: a9 :: a10 :: a11 :: t)) ∧ t.length = 500 := by
  match b, h with
  | a0 :: a1 :: a2 :: a3 :: a4 :: a5 :: a6 :: a7 :: a8 :: a9 :: a10 :: a11 :: t, h => exact ⟨a0, a1, a2, a3, a4, a5, a6, a7, a8, a9, a10, a11, t, rfl, by simpa using h⟩

/-- A block whose sum and number are right is a page of its own parts just if its form is right. -/
theorem shape (n : Nat) (b : List UInt8) (h : b.length = 512) (h1 : b.take 4 = four (crc 0 (b.drop 4))) (h2 : (b.drop 4).take 4 = four n) (hm : len b ≤ 500) :
    page n (b.getD 8 0) ((b.drop 12).take (len b)) = b ↔ b.getD 11 0 = 0 ∧ zeros (b.drop (12 + len b)) = true := by
  have hd : ∀ m, b.drop (12 + m) = (b.drop 12).drop m := fun m => by rw [List.drop_drop]
  rw [hd, zeros_iff]
  obtain ⟨a0, a1, a2, a3, a4, a5, a6, a7, a8, a9, a10, a11, t, rfl, ht⟩ := twelve b h
  have e9 : len ([a0, a1, a2, a3] ++ ([a4, a5, a6, a7] ++ (a8 :: a9 :: a10 :: a11 :: t))) = a9.toNat * 256 + a10.toNat := rfl
  rw [e9] at hm ⊢
  have ed : List.drop 12 ([a0, a1, a2, a3] ++ ([a4, a5, a6, a7] ++ (a8 :: a9 :: a10 :: a11 :: t))) = t := rfl
  have e4 : List.drop 4 ([a0, a1, a2, a3] ++ ([a4, a5, a6, a7] ++ (a8 :: a9 :: a10 :: a11 :: t))) = [a4, a5, a6, a7] ++ (a8 :: a9 :: a10 :: a11 :: t) := rfl
  have e5 : List.take 4 ([a0, a1, a2, a3] ++ ([a4, a5, a6, a7] ++ (a8 :: a9 :: a10 :: a11 :: t))) = [a0, a1, a2, a3] := rfl
  have e6 : List.take 4 ([a4, a5, a6, a7] ++ (a8 :: a9 :: a10 :: a11 :: t)) = [a4, a5, a6, a7] := rfl
  have e8 : List.getD ([a0, a1, a2, a3] ++ ([a4, a5, a6, a7] ++ (a8 :: a9 :: a10 :: a11 :: t))) 8 0 = a8 := rfl
  have e11 : List.getD ([a0, a1, a2, a3] ++ ([a4, a5, a6, a7] ++ (a8 :: a9 :: a10 :: a11 :: t))) 11 0 = a11 := rfl
  rw [e4, e5] at h1
  rw [e4, e6] at h2
  rw [ed, e8, e11]
  have hl : (t.take (a9.toNat * 256 + a10.toNat)).length = a9.toNat * 256 + a10.toNat := by simp; omega
  have hr : rest n a8 (t.take (a9.toNat * 256 + a10.toNat)) = [a4, a5, a6, a7] ++ (a8 :: a9 :: a10 :: (0 :: (t.take (a9.toNat * 256 + a10.toNat) ++ List.replicate (500 - (a9.toNat * 256 + a10.toNat)) 0))) := by
    unfold rest
    rw [hl, two_of, ← h2]
    rfl
  have hdl : (t.drop (a9.toNat * 256 + a10.toNat)).length = 500 - (a9.toNat * 256 + a10.toNat) := by simp; omega
  rw [hdl]
  generalize a9.toNat * 256 + a10.toNat = m at *
  constructor
  · intro k
    have k2 := congrArg (List.drop 4) k
    rw [e4] at k2
    have k3 : rest n a8 (t.take m) = [a4, a5, a6, a7] ++ (a8 :: a9 :: a10 :: a11 :: t) := k2
    rw [hr] at k3
    simp only [List.append_cancel_left_eq, List.cons.injEq, true_and] at k3
    refine ⟨k3.1.symm, ?_⟩
    have k4 := congrArg (List.drop m) k3.2
    rw [← k4, List.drop_append, hl]
    simp
  · rintro ⟨rfl, k⟩
    have k3 : rest n a8 (t.take m) = [a4, a5, a6, a7] ++ (a8 :: a9 :: a10 :: 0 :: t) := by
      rw [hr, ← k, List.take_append_drop]
    unfold page
    rw [k3, ← h1]

theorem openE_zero (n : Nat) (b : List UInt8) : openE n b = 0 ↔ b.length = 512 ∧ b.take 4 = four (crc 0 (b.drop 4)) ∧ (b.drop 4).take 4 = four n ∧ b.getD 11 0 = 0 ∧ len b ≤ 500 ∧ zeros (b.drop (12 + len b)) = true := by
  unfold openE
  constructor
  · intro h
    split at h
    · omega
    · split at h
      · omega
      · split at h
        · omega
        · split at h
          · omega
          · rename_i h1 h2 h3 h4
            simp only [ne_eq, Decidable.not_not, not_or, Nat.not_lt, Bool.not_eq_false] at h1 h2 h3 h4
            exact ⟨h1, h2, h3, h4.1, h4.2.1, h4.2.2⟩
  · rintro ⟨h1, h2, h3, h4, h5, h6⟩
    rw [if_neg (by simpa using h1), if_neg (by simpa using h2), if_neg (by simpa using h3), if_neg]
    simp only [ne_eq, not_or, Decidable.not_not, Nat.not_lt, Bool.not_eq_false]
    exact ⟨h4, h5, h6⟩
theorem openB_length (n : Nat) (b : List UInt8) : (openB n b).length ≤ 500 := by
  unfold openB
  by_cases h : openE n b = 0
  · rw [if_pos h]
    have := ((openE_zero n b).1 h).2.2.2.2.1
    simp
    omega
  · rw [if_neg h]
    simp
/-- One way: what is opened is sealed as the same bytes. -/
theorem open_page (n : Nat) (b : List UInt8) (h : openE n b = 0) : page n (openK n b) (openB n b) = b := by
  unfold openK openB
  rw [if_pos h, if_pos h]
  obtain ⟨h1, h2, h3, h4, h5, h6⟩ := (openE_zero n b).1 h
  exact (shape n b h1 h2 h3 h5).2 ⟨h4, h6⟩
/-- The parts of a page. -/
theorem page_parts (n : Nat) (k : UInt8) (l : List UInt8) (h : l.length ≤ 500) :
    (page n k l).take 4 = four (crc 0 ((page n k l).drop 4)) ∧ ((page n k l).drop 4).take 4 = four n ∧ (page n k l).getD 8 0 = k ∧ (page n k l).getD 11 0 = 0 ∧ len (page n k l) = l.length ∧ (page n k l).drop 12 = l ++ List.replicate (500 - l.length) 0 := by
  refine ⟨rfl, rfl, rfl, rfl, ?_, rfl⟩
  exact of_two l.length (by omega)
theorem page_open (n m : Nat) (k : UInt8) (l : List UInt8) (h : l.length ≤ 500) (hn : n < 4294967296) (hm : m < 4294967296) : openE m (page n k l) = if n = m then 0 else 4 := by
  obtain ⟨h1, h2, h3, h4, h5, h6⟩ := page_parts n k l h
  by_cases e : n = m
  · subst e
    rw [if_pos rfl, openE_zero]
    refine ⟨page_length n k l h, h1, h2, h4, by omega, ?_⟩
    rw [zeros_iff, ← List.drop_drop, h6, h5]
    simp
  · rw [if_neg e]
    unfold openE
    rw [if_neg (by simpa using page_length n k l h), if_neg (by simpa using h1), if_pos]
    rw [h2]
    intro q
    exact e (four_inj hn hm q)
theorem page_open_self (n : Nat) (k : UInt8) (l : List UInt8) (h : l.length ≤ 500) : openE n (page n k l) = 0 := by
  obtain ⟨h1, h2, h3, h4, h5, h6⟩ := page_parts n k l h
  rw [openE_zero]
  refine ⟨page_length n k l h, h1, h2, h4, by omega, ?_⟩
  rw [zeros_iff, ← List.drop_drop, h6, h5]
  simp
theorem page_back (n : Nat) (k : UInt8) (l : List UInt8) (h : l.length ≤ 500) : openK n (page n k l) = k ∧ openB n (page n k l) = l := by
  obtain ⟨h1, h2, h3, h4, h5, h6⟩ := page_parts n k l h
  unfold openK openB
  rw [if_pos (page_open_self n k l h), if_pos (page_open_self n k l h), h3, h5, h6]
  simp
theorem open_no (n : Nat) (b : List UInt8) (h : openE n b ≠ 0) : openK n b = 0 ∧ openB n b = [] := ⟨if_neg h, if_neg h⟩

/-! Changes. -/
theorem num_lt (l : List UInt8) : num l < 2 ^ (8 * l.length) := by
  induction l with
  | nil => simp [num]
  | cons c l ih =>
    have hc := c.toNat_lt
    have e : 2 ^ (8 * (c :: l).length) = 256 * 2 ^ (8 * l.length) := by rw [show 8 * (c :: l).length = 8 + 8 * l.length by simp; omega, Nat.pow_add]
    rw [e]
    show c.toNat + 256 * num l < _
    omega
theorem num_inj (l : List UInt8) : ∀ (m : List UInt8), l.length = m.length → num l = num m → l = m := by
  induction l with
  | nil => intro m h _; exact (List.length_eq_zero_iff.1 h.symm).symm
  | cons c l ih =>
    intro m h e
    cases m with
    | nil => simp at h
    | cons d m =>
      have hc := c.toNat_lt
      have hd := d.toNat_lt
      have e2 : c.toNat + 256 * num l = d.toNat + 256 * num m := e
      have h1 : c = d := UInt8.toNat_inj.1 (by omega)
      rw [h1, ih m (by simpa using h) (by omega)]
theorem num_append (l m : List UInt8) : num (l ++ m) = num l + 2 ^ (8 * l.length) * num m := by
  induction l with
  | nil => simp [num]
  | cons c l ih =>
    have e : 2 ^ (8 * (c :: l).length) = 256 * 2 ^ (8 * l.length) := by rw [show 8 * (c :: l).length = 8 + 8 * l.length by simp; omega, Nat.pow_add]
    rw [e]
    show c.toNat + 256 * num (l ++ m) = c.toNat + 256 * num l + _
    rw [ih, Nat.mul_add, Nat.add_assoc, Nat.mul_assoc]
/-- Told: a change of four bytes in a row isn't opened by the page's own number. -/
theorem told (n : Nat) (k : UInt8) (l c : List UInt8) (p v : Nat) (h : l.length ≤ 500) (hc : c.length = 512) (hv : v < 4294967296) (hn : num c = num (page n k l) ^^^ 2 ^ (8 * p) * v) (hp : p ≤ 512)
    (hs : ∀ j, j < p ∨ p + 4 ≤ j → c.getD j 0 = (page n k l).getD j 0) (ho : openE n c = 0) : v = 0 := by
  obtain ⟨h1, h2, _⟩ := page_parts n k l h
  have hl := page_length n k l h
  generalize page n k l = P at *
  obtain ⟨_, o1, o2, _⟩ := (openE_zero n c).1 ho
  have ext : ∀ (a b : List UInt8), a.length = b.length → (∀ j, j < a.length → a.getD j 0 = b.getD j 0) → a = b := by
    intro a b e q
    apply List.ext_getElem e
    intro j ja jb
    have := q j ja
    simpa [List.getD, ja, jb] using this
  have pos : 0 < 2 ^ (8 * p) := Nat.two_pow_pos _
  have fin : c = P → v = 0 := by
    intro e
    rw [e] at hn
    have k1 : (2 ^ (8 * p) * v) ^^^ num P = 0 ^^^ num P := by rw [Nat.xor_comm, ← hn, Nat.zero_xor]
    have k2 := C.xor_canc k1
    rcases Nat.mul_eq_zero.1 k2 with k3 | k3
    · omega
    · exact k3
  by_cases h4 : 4 ≤ p
  · have et : c.take 4 = P.take 4 := by
      apply ext
      · simp [hc, hl]
      · intro j hj
        have hj4 : j < 4 := by simp at hj; omega
        have := hs j (by omega)
        simpa [List.getD, hj4] using this
    have ec : crc 0 (c.drop 4) = crc 0 (P.drop 4) := four_inj (C.crc_lt _ (by omega)) (C.crc_lt _ (by omega)) (by rw [← o1, ← h1, et])
    have sp : ∀ b : List UInt8, b.length = 512 → num b = num (b.take 4) ^^^ 2 ^ 32 * num (b.drop 4) := by
      intro b hb
      have e4 : (b.take 4).length = 4 := by simp; omega
      have q := num_append (b.take 4) (b.drop 4)
      rw [List.take_append_drop, e4] at q
      have q2 := num_lt (b.take 4)
      rw [e4] at q2
      rw [q]
      exact C.low_xor 32 _ _ q2
    have dist : ∀ a b : Nat, 2 ^ 32 * (a ^^^ b) = 2 ^ 32 * a ^^^ 2 ^ 32 * b := fun a b => by
      apply Nat.eq_of_testBit_eq
      intro i
      simp only [Nat.testBit_xor, Nat.testBit_two_pow_mul]
      by_cases hi : 32 ≤ i <;> simp [hi]
    have e8 : 2 ^ (8 * p) * v = 2 ^ 32 * (2 ^ (8 * (p - 4)) * v) := by
      rw [← Nat.mul_assoc, ← Nat.pow_add]
      congr 2
      omega
    rw [sp c hc, sp P hl, et, e8, Nat.xor_assoc, ← dist] at hn
    have q1 : num (c.drop 4) = num (P.drop 4) ^^^ 2 ^ (8 * (p - 4)) * v := by
      have q2 : (2 ^ 32 * num (c.drop 4)) ^^^ num (P.take 4) = (2 ^ 32 * (num (P.drop 4) ^^^ 2 ^ (8 * (p - 4)) * v)) ^^^ num (P.take 4) := by
        rw [Nat.xor_comm, hn, Nat.xor_comm]
      have q3 := C.xor_canc q2
      exact Nat.eq_of_mul_eq_mul_left (by omega) q3
    exact (C.told (P.drop 4) (c.drop 4) (p - 4) v (by simp [hc, hl]) (by simp [hl]; omega) hv q1).1 ec
  · apply fin
    have e8 : c.drop 4 = P.drop 4 := by
      apply ext
      · simp [hc, hl]
      · intro j hj
        have hj2 : j < 508 := by simp [hc] at hj; omega
        by_cases hj4 : j < 4
        · have q : (c.drop 4).take 4 = (P.drop 4).take 4 := by rw [o2, h2]
          have q2 := congrArg (fun x => List.getD x j 0) q
          simpa [List.getD, hj4] using q2
        · have := hs (4 + j) (by omega)
          simpa [List.getD] using this
    rw [← List.take_append_drop 4 c, ← List.take_append_drop 4 P, e8, o1, h1, e8]
end G
end Go.Proofs.Ytceoelemlokelaa
