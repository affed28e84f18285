/- A super as plain mathematics: its bytes, what a block says, the newest of two. -/
import Derived.Test.YtbffpgndjbpifaaDoorGm
namespace Go.Proofs.YtbffpgndjbpifaaDoor
namespace U
open G (four page openE openK openB)

/-- So many bytes of a number, the highest first. -/
def be : Nat → Nat → List UInt8
  | 0, _ => []
  | k + 1, n => UInt8.ofNat (n / 256 ^ k) :: be k n
theorem be_length : ∀ k n, (be k n).length = k
  | 0, _ => rfl
  | k + 1, n => by simp [be, be_length k n]
theorem be_four (n : Nat) : be 4 n = four n := by simp [be, four]
theorem be_eight (n : Nat) : be 8 n = four (n / 4294967296) ++ four (n % 4294967296) := by
  have h : ∀ a b : Nat, a % 256 = b % 256 → UInt8.ofNat a = UInt8.ofNat b := fun a b e => by
    apply UInt8.toNat_inj.1
    simpa using e
  simp only [be, four, List.cons_append, List.nil_append, List.cons.injEq, and_true]
  (repeat' apply And.intro) <;> first | trivial | (apply h; omega)
/-- The number that bytes are, the highest first. -/
def val (l : List UInt8) : Nat := l.foldl (fun n c => n * 256 + c.toNat) 0
theorem val_snoc (l : List UInt8) (c : UInt8) : val (l ++ [c]) = val l * 256 + c.toNat := by simp [val]
theorem fold_lt : ∀ (l : List UInt8) (a : Nat), l.foldl (fun n c => n * 256 + c.toNat) a < (a + 1) * 256 ^ l.length
  | [], a => by simp
  | c :: l, a => by
    have hc := c.toNat_lt
    have h := fold_lt l (a * 256 + c.toNat)
    have e : (a * 256 + c.toNat + 1) * 256 ^ l.length ≤ ((a + 1) * 256) * 256 ^ l.length := Nat.mul_le_mul_right _ (by omega)
    rw [List.length_cons, Nat.pow_succ, Nat.mul_comm (256 ^ l.length) 256, ← Nat.mul_assoc]
    exact Nat.lt_of_lt_of_le h e
theorem val_lt (l : List UInt8) : val l < 256 ^ l.length := by
  have := fold_lt l 0
  rwa [Nat.zero_add, Nat.one_mul] at this
theorem fold_be : ∀ (k n a : Nat), (be k n).foldl (fun n c => n * 256 + c.toNat) a = a * 256 ^ k + n % 256 ^ k
  | 0, n, a => by simp [be, Nat.mod_one]
  | k + 1, n, a => by
    show (be k n).foldl _ (a * 256 + (UInt8.ofNat (n / 256 ^ k)).toNat) = _
    have e1 : (UInt8.ofNat (n / 256 ^ k)).toNat = n / 256 ^ k % 256 := by simp
    have e2 := Nat.mod_mul (x := n) (a := 256 ^ k) (b := 256)
    rw [fold_be k n, e1, Nat.pow_succ, e2, Nat.add_mul, Nat.mul_assoc, Nat.mul_comm 256 (256 ^ k), Nat.mul_comm (n / 256 ^ k % 256)]
    omega
theorem val_be (k n : Nat) (h : n < 256 ^ k) : val (be k n) = n := by
  unfold val
  rw [fold_be, Nat.mod_eq_of_lt h]
  simp
theorem val_four (n : Nat) (h : n < 4294967296) : val (four n) = n := by
  rw [← be_four]
  exact val_be 4 n (by omega)

/-- A super's body: Seq, and 27 numbers of four bytes. -/
def body (q : Nat) (r : List Nat) : List UInt8 := be 8 q ++ r.flatMap four
theorem flat_length : ∀ r : List Nat, (r.flatMap four).length = 4 * r.length
  | [] => rfl
  | x :: r => by
    rw [List.flatMap_cons, List.length_append, flat_length r, List.length_cons, G.four_length]
    omega
theorem flat_drop : ∀ (r : List Nat) (i : Nat), (r.flatMap four).drop (4 * i) = (r.drop i).flatMap four
  | r, 0 => by simp
  | [], i + 1 => by simp
  | x :: r, i + 1 => by
    rw [List.flatMap_cons, List.drop_succ_cons, ← flat_drop r i, show 4 * (i + 1) = 4 + 4 * i by omega, ← List.drop_drop]
    rfl
theorem body_length (q : Nat) (r : List Nat) (h : r.length = 27) : (body q r).length = 116 := by
  rw [body, List.length_append, be_length, flat_length, h]
def seqOf (b : List UInt8) : Nat := val (b.take 8)
def rootAt (b : List UInt8) (i : Nat) : Nat := val ((b.drop (8 + 4 * i)).take 4)
def rootsOf (b : List UInt8) : List Nat := (List.range 27).map (rootAt b)
theorem rootsOf_length (b : List UInt8) : (rootsOf b).length = 27 := by simp [rootsOf]
theorem rootsOf_get (b : List UInt8) (i : Nat) (h : i < 27) : (rootsOf b)[i]? = some (rootAt b i) := by simp [rootsOf, h]
theorem rootAt_lt (b : List UInt8) (i : Nat) : rootAt b i < 4294967296 := by
  have h := val_lt ((b.drop (8 + 4 * i)).take 4)
  have e : ((b.drop (8 + 4 * i)).take 4).length ≤ 4 := by simp; omega
  have := Nat.pow_le_pow_right (n := 256) (by omega) e
  unfold rootAt
  omega
theorem rootsOf_lt (b : List UInt8) : ∀ x ∈ rootsOf b, x < 4294967296 := by
  intro x hx
  simp only [rootsOf, List.mem_map] at hx
  obtain ⟨i, _, rfl⟩ := hx
  exact rootAt_lt b i
theorem seqOf_lt (b : List UInt8) : seqOf b < 18446744073709551616 := by
  have h := val_lt (b.take 8)
  have e : (b.take 8).length ≤ 8 := by simp; omega
  have := Nat.pow_le_pow_right (n := 256) (by omega) e
  unfold seqOf
  omega
theorem seqOf_two (b : List UInt8) (h : b.length = 116) : seqOf b = val (b.take 4) * 4294967296 + val ((b.drop 4).take 4) := by
  match b, h with
  | a0 :: a1 :: a2 :: a3 :: a4 :: a5 :: a6 :: a7 :: t, _ =>
    simp only [seqOf, val, List.take_succ_cons, List.take_zero, List.drop_succ_cons, List.drop_zero, List.foldl_cons, List.foldl_nil]
    omega
theorem seqOf_body (q : Nat) (r : List Nat) (h : q < 18446744073709551616) : seqOf (body q r) = q := by
  unfold seqOf body
  rw [List.take_left' (be_length 8 q)]
  exact val_be 8 q (by omega)
theorem rootsOf_body (q : Nat) (r : List Nat) (h : r.length = 27) (hr : ∀ x ∈ r, x < 4294967296) : rootsOf (body q r) = r := by
  apply List.ext_getElem?
  intro i
  by_cases hi : i < 27
  · rw [rootsOf_get _ i hi, List.getElem?_eq_getElem (by omega)]
    congr 1
    unfold rootAt body
    rw [← List.drop_drop, List.drop_left' (be_length 8 q), flat_drop, List.drop_eq_getElem_cons (by omega), List.flatMap_cons, List.take_left' (G.four_length _)]
    exact val_four _ (hr _ (List.getElem_mem _))
  · rw [List.getElem?_eq_none (by rw [rootsOf_length]; omega), List.getElem?_eq_none (by omega)]

/-- What a block says at a place: the error's number, Seq, the others. -/
def readE (p : Int) (b : List UInt8) : Nat :=
  if p < 0 ∨ 1 < p then 1 else if openE p.toNat b ≠ 0 then openE p.toNat b
  else if openK p.toNat b ≠ 1 ∨ (openB p.toNat b).length ≠ 116 then 2 else if seqOf (openB p.toNat b) % 2 ≠ p.toNat then 2 else 0
def none27 : List Nat := List.replicate 27 0
def readQ (p : Int) (b : List UInt8) : Nat := if readE p b = 0 then seqOf (openB p.toNat b) else 0
def readR (p : Int) (b : List UInt8) : List Nat := if readE p b = 0 then rootsOf (openB p.toNat b) else none27
theorem readR_length (p : Int) (b : List UInt8) : (readR p b).length = 27 := by
  unfold readR
  split
  · exact rootsOf_length _
  · rfl
theorem readR_lt (p : Int) (b : List UInt8) : ∀ x ∈ readR p b, x < 4294967296 := by
  unfold readR
  split
  · exact rootsOf_lt _
  · intro x hx
    have := (List.mem_replicate.1 hx).2
    omega
theorem readQ_lt (p : Int) (b : List UInt8) : readQ p b < 18446744073709551616 := by
  unfold readQ
  split
  · exact seqOf_lt _
  · omega
theorem readE_zero (p : Nat) (b : List UInt8) (hp : p < 2) : readE p b = 0 ↔ openE p b = 0 ∧ openK p b = 1 ∧ (openB p b).length = 116 ∧ seqOf (openB p b) % 2 = p := by
  unfold readE
  rw [if_neg (by omega), Int.toNat_natCast]
  constructor
  · intro h
    split at h
    · omega
    · split at h
      · omega
      · split at h
        · omega
        · rename_i h1 h2 h3
          simp only [ne_eq, Decidable.not_not, not_or] at h1 h2 h3
          exact ⟨h1, h2.1, h2.2, h3⟩
  · rintro ⟨h1, h2, h3, h4⟩
    rw [if_neg (by simpa using h1), if_neg (by simp [h2, h3]), if_neg (by simpa using h4)]
theorem readQ_mod (p : Nat) (b : List UInt8) (hp : p < 2) (h : readE p b = 0) : readQ p b % 2 = p := by
  unfold readQ
  rw [if_pos h, Int.toNat_natCast]
  exact ((readE_zero p b hp).1 h).2.2.2
/-- A super's page. -/
def wr (q : Nat) (r : List Nat) : List UInt8 := page (q % 2) 1 (body q r)
theorem wr_length (q : Nat) (r : List Nat) (h : r.length = 27) : (wr q r).length = 512 := G.page_length _ _ _ (by rw [body_length q r h]; omega)
theorem read_own (q : Nat) (r : List Nat) (h : r.length = 27) (hq : q < 18446744073709551616) (hr : ∀ x ∈ r, x < 4294967296) (p : Nat) (hp : p = q % 2) :
    readE p (wr q r) = 0 ∧ readQ p (wr q r) = q ∧ readR p (wr q r) = r := by
  subst hp
  have hl : (body q r).length ≤ 500 := by rw [body_length q r h]; omega
  have h1 := G.page_open_self (q % 2) 1 (body q r) hl
  obtain ⟨h2, h3⟩ := G.page_back (q % 2) 1 (body q r) hl
  have e : readE ((q % 2 : Nat) : Int) (wr q r) = 0 := (readE_zero (q % 2) _ (by omega)).2 ⟨h1, h2, by unfold wr; rw [h3]; exact body_length q r h, by unfold wr; rw [h3, seqOf_body q r hq]⟩
  refine ⟨e, ?_, ?_⟩
  · unfold readQ
    rw [if_pos e, Int.toNat_natCast]
    unfold wr
    rw [h3]
    exact seqOf_body q r hq
  · unfold readR
    rw [if_pos e, Int.toNat_natCast]
    unfold wr
    rw [h3]
    exact rootsOf_body q r h hr
theorem read_other (q : Nat) (r : List Nat) (h : r.length = 27) (p : Nat) (hp : p < 2) (hne : p ≠ q % 2) : readE p (wr q r) = 4 ∧ readQ p (wr q r) = 0 ∧ readR p (wr q r) = none27 := by
  have hl : (body q r).length ≤ 500 := by rw [body_length q r h]; omega
  have h1 := G.page_open (q % 2) p 1 (body q r) hl (by omega) (by omega)
  rw [if_neg (fun e => hne e.symm)] at h1
  have e : readE p (wr q r) = 4 := by
    unfold readE wr
    rw [if_neg (by omega), Int.toNat_natCast, h1]
    rfl
  refine ⟨e, ?_, ?_⟩
  · unfold readQ
    rw [e]
    rfl
  · unfold readR
    rw [e]
    rfl
/-- The newest of two blocks: whether it is the first one; the error's number, Seq, the others. -/
def fst (a b : List UInt8) : Bool := readE 0 a == 0 && (readE 1 b != 0 || decide (readQ 1 b < readQ 0 a))
def newE (a b : List UInt8) : Nat := if readE 0 a ≠ 0 ∧ readE 1 b ≠ 0 then 5 else 0
def newQ (a b : List UInt8) : Nat := if fst a b then readQ 0 a else readQ 1 b
def newR (a b : List UInt8) : List Nat := if fst a b then readR 0 a else readR 1 b
theorem newR_length (a b : List UInt8) : (newR a b).length = 27 := by
  unfold newR
  split <;> exact readR_length _ _
theorem newR_lt (a b : List UInt8) : ∀ x ∈ newR a b, x < 4294967296 := by
  unfold newR
  split <;> exact readR_lt _ _
theorem newQ_lt (a b : List UInt8) : newQ a b < 18446744073709551616 := by
  unfold newQ
  split <;> exact readQ_lt _ _
theorem new_cases (a b : List UInt8) :
    (readE 0 a ≠ 0 ∧ readE 1 b ≠ 0 ∧ newE a b = 5 ∧ newQ a b = 0 ∧ newR a b = none27) ∨ (readE 0 a = 0 ∧ (readE 1 b ≠ 0 ∨ (readE 1 b = 0 ∧ readQ 1 b < readQ 0 a)) ∧ newE a b = 0 ∧ newQ a b = readQ 0 a ∧ newR a b = readR 0 a) ∨
    (readE 1 b = 0 ∧ (readE 0 a ≠ 0 ∨ (readE 0 a = 0 ∧ ¬ readQ 1 b < readQ 0 a)) ∧ newE a b = 0 ∧ newQ a b = readQ 1 b ∧ newR a b = readR 1 b) := by
  by_cases h0 : readE 0 a = 0
  · by_cases h1 : readE 1 b = 0
    · by_cases h2 : readQ 1 b < readQ 0 a
      · have f : fst a b = true := by simp [fst, h0, h2]
        exact .inr (.inl ⟨h0, .inr ⟨h1, h2⟩, if_neg (by simp [h0]), if_pos f, if_pos f⟩)
      · have f : ¬ fst a b = true := by simp [fst, h0, h1, h2]
        exact .inr (.inr ⟨h1, .inr ⟨h0, h2⟩, if_neg (by simp [h0]), if_neg f, if_neg f⟩)
    · have f : fst a b = true := by simp [fst, h0, h1]
      exact .inr (.inl ⟨h0, .inl h1, if_neg (by simp [h0]), if_pos f, if_pos f⟩)
  · have f : ¬ fst a b = true := by simp [fst, h0]
    by_cases h1 : readE 1 b = 0
    · exact .inr (.inr ⟨h1, .inl h0, if_neg (by simp [h1]), if_neg f, if_neg f⟩)
    · refine .inl ⟨h0, h1, if_pos ⟨h0, h1⟩, ?_, ?_⟩
      · rw [newQ, if_neg f, readQ, if_neg h1]
      · rw [newR, if_neg f, readR, if_neg h1]
theorem new_first (a b : List UInt8) (h0 : readE 0 a = 0) (h : readE 1 b ≠ 0 ∨ readQ 1 b < readQ 0 a) : newE a b = 0 ∧ newQ a b = readQ 0 a ∧ newR a b = readR 0 a := by
  have f : fst a b = true := by
    rcases h with h | h <;> simp [fst, h0, h]
  exact ⟨if_neg (by simp [h0]), if_pos f, if_pos f⟩
theorem new_second (a b : List UInt8) (h1 : readE 1 b = 0) (h : readE 0 a ≠ 0 ∨ ¬ readQ 1 b < readQ 0 a) : newE a b = 0 ∧ newQ a b = readQ 1 b ∧ newR a b = readR 1 b := by
  have f : ¬ fst a b = true := by
    rcases h with h | h <;> simp [fst, h1, h]
  exact ⟨if_neg (by simp [h1]), if_neg f, if_neg f⟩
theorem turn_new (q m : Nat) (r r2 : List Nat) (hl : r.length = 27) (hl2 : r2.length = 27) (hr : ∀ x ∈ r, x < 4294967296) (hr2 : ∀ x ∈ r2, x < 4294967296) (hm : m = q + 1) (hq : m < 18446744073709551616) :
    (m % 2 = 0 → newE (wr m r2) (wr q r) = 0 ∧ newQ (wr m r2) (wr q r) = m ∧ newR (wr m r2) (wr q r) = r2) ∧ (m % 2 = 1 → newE (wr q r) (wr m r2) = 0 ∧ newQ (wr q r) (wr m r2) = m ∧ newR (wr q r) (wr m r2) = r2) := by
  constructor
  · intro h
    obtain ⟨a1, a2, a3⟩ := read_own m r2 hl2 hq hr2 0 (by omega)
    obtain ⟨b1, b2, b3⟩ := read_own q r hl (by omega) hr 1 (by omega)
    obtain ⟨c1, c2, c3⟩ := new_first (wr m r2) (wr q r) a1 (.inr (by rw [show readQ 1 (wr q r) = q from b2, show readQ 0 (wr m r2) = m from a2]; omega))
    exact ⟨c1, c2.trans a2, c3.trans a3⟩
  · intro h
    obtain ⟨a1, a2, a3⟩ := read_own m r2 hl2 hq hr2 1 (by omega)
    obtain ⟨b1, b2, b3⟩ := read_own q r hl (by omega) hr 0 (by omega)
    obtain ⟨c1, c2, c3⟩ := new_second (wr q r) (wr m r2) a1 (.inr (by rw [show readQ 0 (wr q r) = q from b2, show readQ 1 (wr m r2) = m from a2]; omega))
    exact ⟨c1, c2.trans a2, c3.trans a3⟩
theorem turn_old (q : Nat) (r : List Nat) (t : List UInt8) (hl : r.length = 27) (hr : ∀ x ∈ r, x < 4294967296) (hq : q < 18446744073709551616) :
    (q % 2 = 1 → readE 0 t ≠ 0 → newE t (wr q r) = 0 ∧ newQ t (wr q r) = q ∧ newR t (wr q r) = r) ∧ (q % 2 = 0 → readE 1 t ≠ 0 → newE (wr q r) t = 0 ∧ newQ (wr q r) t = q ∧ newR (wr q r) t = r) := by
  constructor
  · intro h ht
    obtain ⟨b1, b2, b3⟩ := read_own q r hl hq hr 1 (by omega)
    obtain ⟨c1, c2, c3⟩ := new_second t (wr q r) b1 (.inl ht)
    exact ⟨c1, c2.trans b2, c3.trans b3⟩
  · intro h ht
    obtain ⟨b1, b2, b3⟩ := read_own q r hl hq hr 0 (by omega)
    obtain ⟨c1, c2, c3⟩ := new_first (wr q r) t b1 (.inl ht)
    exact ⟨c1, c2.trans b2, c3.trans b3⟩
end U
end Go.Proofs.YtbffpgndjbpifaaDoor
