/- A free list's bodies, as plain mathematics: laid, parsed, there and back. -/
import Derived.Test.YtnnegglhndllfaaGm
namespace Go.Proofs.Ytnnegglhndllfaa
namespace L
open G (four two)

/-- Rising, and above a. -/
def ris : Int → List Int → Bool
  | _, [] => true
  | a, x :: r => decide (a < x) && ris x r
/-- All may be pages. -/
def onD (p : List Int) : Bool := p.all (fun x => decide (2 ≤ x))
def bodyL (nx : Int) (part : List Int) : List UInt8 := four nx.toNat ++ (two part.length ++ part.flatMap (fun x => four x.toNat))
def part (l : List Int) (i : Nat) : List Int := (l.drop (123 * i)).take 123
def nextOf (p : List Int) (i : Nat) : Int := p.getD (i + 1) 0
def bodyAt (l p : List Int) (i : Nat) : List UInt8 := bodyL (nextOf p i) (part l i)
def bodiesE (l p : List Int) : Nat := if ris 1 l = true ∧ onD p = true ∧ l.length ≤ 123 * p.length then 0 else 1
def bodiesL (l p : List Int) : List (List UInt8) := if bodiesE l p = 0 then (List.range p.length).map (bodyAt l p) else []
/-- What is read of four bytes, of two. -/
def numAt (b : List UInt8) (k : Nat) : Nat := (b.getD k 0).toNat * 16777216 + (b.getD (k + 1) 0).toNat * 65536 + (b.getD (k + 2) 0).toNat * 256 + (b.getD (k + 3) 0).toNat
def cnt (b : List UInt8) : Nat := (b.getD 4 0).toNat * 256 + (b.getD 5 0).toNat
def nums (b : List UInt8) (n : Nat) : List Int := (List.range n).map fun i => ((numAt b (6 + 4 * i) : Nat) : Int)
def parseE (b : List UInt8) : Nat := if b.length < 6 then 2 else if numAt b 0 = 1 ∨ 123 < cnt b ∨ b.length ≠ 6 + 4 * cnt b then 2 else if ris 1 (nums b (cnt b)) = true then 0 else 2
def parseN (b : List UInt8) : Int := if parseE b = 0 then ((numAt b 0 : Nat) : Int) else 0
def parseL (b : List UInt8) : List Int := if parseE b = 0 then nums b (cnt b) else []
/-- How many pages a list takes. -/
def needZ (z : Int) : Int := if z < 1 then 0 else (z - 1) / 124 + 1

theorem ris_ge {a : Int} : ∀ {l : List Int}, ris a l = true → ∀ x ∈ l, a < x
  | [], _, x, hx => by simp at hx
  | y :: r, h, x, hx => by
    simp only [ris, Bool.and_eq_true, decide_eq_true_eq] at h
    rcases List.mem_cons.1 hx with rfl | hx
    · exact h.1
    · have := ris_ge h.2 x hx
      omega
theorem ris_weak {a b : Int} (hab : b ≤ a) : ∀ {l : List Int}, ris a l = true → ris b l = true
  | [], _ => rfl
  | y :: r, h => by
    simp only [ris, Bool.and_eq_true, decide_eq_true_eq] at h ⊢
    exact ⟨by omega, h.2⟩
theorem ris_drop {a : Int} : ∀ (n : Nat) {l : List Int}, ris a l = true → ris a (l.drop n) = true
  | 0, _, h => h
  | _ + 1, [], _ => rfl
  | n + 1, y :: r, h => by
    simp only [ris, Bool.and_eq_true, decide_eq_true_eq] at h
    exact ris_drop n (ris_weak (Int.le_of_lt h.1) h.2)
theorem ris_take {a : Int} : ∀ (n : Nat) {l : List Int}, ris a l = true → ris a (l.take n) = true
  | 0, _, _ => rfl
  | _ + 1, [], _ => rfl
  | n + 1, y :: r, h => by
    simp only [ris, Bool.and_eq_true, decide_eq_true_eq] at h
    simp only [List.take_succ_cons, ris, Bool.and_eq_true, decide_eq_true_eq]
    exact ⟨h.1, ris_take n h.2⟩
theorem ris_part {l : List Int} (h : ris 1 l = true) (i : Nat) : ris 1 (part l i) = true := ris_take 123 (ris_drop _ h)
/-- Seen from the left: so many rise, then one that doesn't. -/
theorem ris_append (a : Int) : ∀ (l m : List Int), ris a (l ++ m) = (ris a l && ris ((a :: l).getLast (by simp)) m)
  | [], m => by simp [ris]
  | y :: r, m => by
    simp only [List.cons_append, ris]
    rw [ris_append y r m, Bool.and_assoc]
    congr 2

theorem numAt_lt (b : List UInt8) (k : Nat) : numAt b k < 4294967296 := by
  unfold numAt
  have h0 := (b.getD k 0).toNat_lt
  have h1 := (b.getD (k + 1) 0).toNat_lt
  have h2 := (b.getD (k + 2) 0).toNat_lt
  have h3 := (b.getD (k + 3) 0).toNat_lt
  omega
theorem four_numAt (b : List UInt8) (k : Nat) : four (numAt b k) = [b.getD k 0, b.getD (k + 1) 0, b.getD (k + 2) 0, b.getD (k + 3) 0] := by
  unfold numAt
  generalize b.getD k 0 = x0
  generalize b.getD (k + 1) 0 = x1
  generalize b.getD (k + 2) 0 = x2
  generalize b.getD (k + 3) 0 = x3
  have h0 := x0.toNat_lt
  have h1 := x1.toNat_lt
  have h2 := x2.toNat_lt
  have h3 := x3.toNat_lt
  unfold four
  have e : ∀ (n : Nat) (x : UInt8), n % 256 = x.toNat → UInt8.ofNat n = x := fun n x h => by
    apply UInt8.toNat_inj.1
    simpa using h
  rw [e _ x0 (by omega), e _ x1 (by omega), e _ x2 (by omega), e _ x3 (by omega)]
theorem cnt_lt (b : List UInt8) : cnt b < 65536 := by
  unfold cnt
  have h0 := (b.getD 4 0).toNat_lt
  have h1 := (b.getD 5 0).toNat_lt
  omega
theorem two_cnt (b : List UInt8) : two (cnt b) = [b.getD 4 0, b.getD 5 0] := G.two_of _ _
theorem nums_length (b : List UInt8) (n : Nat) : (nums b n).length = n := by simp [nums]
theorem nums_get (b : List UInt8) (n i : Nat) (h : i < n) : (nums b n)[i]! = ((numAt b (6 + 4 * i) : Nat) : Int) := by simp [nums, h]
theorem nums_succ (b : List UInt8) (n : Nat) : nums b (n + 1) = nums b n ++ [((numAt b (6 + 4 * n) : Nat) : Int)] := by simp [nums, List.range_succ]
theorem nums_rng (b : List UInt8) (n : Nat) : ∀ x ∈ nums b n, 0 ≤ x ∧ x < 4294967296 := by
  intro x hx
  obtain ⟨i, _, rfl⟩ := List.mem_map.1 hx
  have := numAt_lt b (6 + 4 * i)
  omega

/-- The four bytes that stand at a place among others. -/
theorem numAt_mid (u r : List UInt8) (n : Nat) (hn : n < 4294967296) : numAt (u ++ (four n ++ r)) u.length = n := by
  unfold numAt
  have e : ∀ j, j < 4 → (u ++ (four n ++ r)).getD (u.length + j) 0 = (four n).getD j 0 := fun j hj => by
    rw [List.getD_eq_getElem?_getD, List.getD_eq_getElem?_getD, List.getElem?_append_right (by omega), Nat.add_sub_cancel_left, List.getElem?_append_left (by rw [G.four_length]; omega)]
  have e0 := e 0 (by omega)
  rw [Nat.add_zero] at e0
  rw [e0, e 1 (by omega), e 2 (by omega), e 3 (by omega)]
  simp only [four, List.getD_cons_zero, List.getD_cons_succ, UInt8.toNat_ofNat']
  omega
theorem flat_length (l : List Int) : (l.flatMap (fun x => four x.toNat)).length = 4 * l.length := by
  induction l with
  | nil => rfl
  | cons x r ih => simp only [List.flatMap_cons, List.length_append, ih, G.four_length, List.length_cons]; omega
theorem bodyL_length (nx : Int) (q : List Int) : (bodyL nx q).length = 6 + 4 * q.length := by
  simp only [bodyL, List.length_append, G.four_length, G.two_length, flat_length]
  omega
theorem bodyL_num0 (nx : Int) (q : List Int) (h : nx.toNat < 4294967296) : numAt (bodyL nx q) 0 = nx.toNat := numAt_mid [] _ _ h
theorem bodyL_cnt (nx : Int) (q : List Int) (h : q.length < 65536) : cnt (bodyL nx q) = q.length := G.of_two q.length h
theorem flat_at (q : List Int) (i : Nat) (h : i < q.length) : q.flatMap (fun x => four x.toNat) = (q.take i).flatMap (fun x => four x.toNat) ++ (four (q[i]!).toNat ++ (q.drop (i + 1)).flatMap (fun x => four x.toNat)) := by
  have e : q = q.take i ++ (q[i]! :: q.drop (i + 1)) := by
    rw [getElem!_pos q i h, ← List.drop_eq_getElem_cons h, List.take_append_drop]
  conv => lhs; rw [e]
  rw [List.flatMap_append, List.flatMap_cons]
theorem bodyL_at (nx : Int) (q : List Int) (i : Nat) (h : i < q.length) (hq : (q[i]!).toNat < 4294967296) : numAt (bodyL nx q) (6 + 4 * i) = (q[i]!).toNat := by
  have e : bodyL nx q = (four nx.toNat ++ (two q.length ++ (q.take i).flatMap (fun x => four x.toNat))) ++ (four (q[i]!).toNat ++ (q.drop (i + 1)).flatMap (fun x => four x.toNat)) := by
    unfold bodyL
    rw [flat_at q i h]
    simp only [List.append_assoc]
  have el : (four nx.toNat ++ (two q.length ++ (q.take i).flatMap (fun x => four x.toNat))).length = 6 + 4 * i := by
    simp only [List.length_append, G.four_length, G.two_length, flat_length, List.length_take]
    omega
  rw [e, ← el]
  exact numAt_mid _ _ _ hq
theorem bodyL_nums (nx : Int) (q : List Int) (hq : ∀ x ∈ q, 0 ≤ x ∧ x < 4294967296) : nums (bodyL nx q) q.length = q := by
  apply List.ext_getElem (nums_length _ _)
  intro i h1 h2
  have e := nums_get (bodyL nx q) q.length i h2
  rw [getElem!_pos _ i h1] at e
  have hx := hq q[i] (List.getElem_mem h2)
  rw [e, bodyL_at nx q i h2 (by rw [getElem!_pos q i h2]; omega), getElem!_pos q i h2]
  omega
/-- Laid, and parsed. -/
theorem parse_body (nx : Int) (q : List Int) (hn0 : 0 ≤ nx) (hn : nx < 4294967296) (h1 : nx ≠ 1) (hq : ∀ x ∈ q, 0 ≤ x ∧ x < 4294967296) (hr : ris 1 q = true) (hl : q.length ≤ 123) :
    parseE (bodyL nx q) = 0 ∧ parseN (bodyL nx q) = nx ∧ parseL (bodyL nx q) = q := by
  have e0 := bodyL_num0 nx q (by omega)
  have ec := bodyL_cnt nx q (by omega)
  have el := bodyL_length nx q
  have en := bodyL_nums nx q hq
  have h : parseE (bodyL nx q) = 0 := by
    unfold parseE
    rw [if_neg (by omega), e0, ec, el, en, if_neg (by omega), if_pos hr]
  refine ⟨h, ?_, ?_⟩
  · unfold parseN
    rw [if_pos h, e0]
    omega
  · unfold parseL
    rw [if_pos h, ec, en]
theorem flat_nums (b : List UInt8) : ∀ n, 6 + 4 * n ≤ b.length → (nums b n).flatMap (fun x => four x.toNat) = (b.drop 6).take (4 * n)
  | 0, _ => rfl
  | n + 1, h => by
    rw [nums_succ, List.flatMap_append, flat_nums b n (by omega)]
    simp only [List.flatMap_cons, List.flatMap_nil, List.append_nil, Int.toNat_natCast]
    rw [four_numAt]
    have e : ∀ j, j < b.length → b.getD j 0 = b[j]! := fun j hj => by simp [List.getD, hj]
    have s : ∀ m, 6 + m < b.length → (b.drop 6).take (m + 1) = (b.drop 6).take m ++ [b.getD (6 + m) 0] := fun m hm => by
      rw [List.take_succ_eq_append_getElem (by simp; omega)]
      simp [List.getD, hm]
    rw [show 4 * (n + 1) = 4 * n + 1 + 1 + 1 + 1 by omega, s _ (by omega), s _ (by omega), s _ (by omega), s _ (by omega)]
    simp only [List.append_assoc, List.cons_append, List.nil_append]
    rfl
theorem six : ∀ (b : List UInt8), 6 ≤ b.length → ∃ x0 x1 x2 x3 x4 x5 t, b = x0 :: x1 :: x2 :: x3 :: x4 :: x5 :: t
  | x0 :: x1 :: x2 :: x3 :: x4 :: x5 :: t, _ => ⟨x0, x1, x2, x3, x4, x5, t, rfl⟩
  | [], h => by simp at h
  | [_], h => by simp at h
  | [_, _], h => by simp at h
  | [_, _, _], h => by simp at h
  | [_, _, _, _], h => by simp at h
  | [_, _, _, _, _], h => by simp at h
/-- What is parsed has that one body. -/
theorem body_parse (b : List UInt8) (h : parseE b = 0) : bodyL (parseN b) (parseL b) = b ∧ ris 1 (parseL b) = true ∧ (parseL b).length ≤ 123 ∧ parseN b ≠ 1 ∧ 0 ≤ parseN b ∧ parseN b < 4294967296 := by
  have hN : parseN b = ((numAt b 0 : Nat) : Int) := by unfold parseN; rw [if_pos h]
  have hL : parseL b = nums b (cnt b) := by unfold parseL; rw [if_pos h]
  rw [hN, hL]
  have hlt := numAt_lt b 0
  unfold parseE at h
  split at h
  · omega
  · split at h
    · omega
    · split at h
      · rename_i h6 hx hr
        refine ⟨?_, hr, by rw [nums_length]; omega, by omega, by omega, by omega⟩
        have hb : b.length = 6 + 4 * cnt b := by omega
        unfold bodyL
        rw [nums_length, Int.toNat_natCast, four_numAt, two_cnt, flat_nums b (cnt b) (by omega)]
        rw [List.take_of_length_le (by simp; omega)]
        obtain ⟨x0, x1, x2, x3, x4, x5, t, ht⟩ := six b (by omega)
        rw [ht]
        rfl
      · omega

theorem part_length (l : List Int) (i : Nat) : (part l i).length = min 123 (l.length - 123 * i) := by simp [part]
theorem part_le (l : List Int) (i : Nat) : (part l i).length ≤ 123 := by rw [part_length]; omega
theorem part_mem {l : List Int} {i : Nat} {x : Int} (h : x ∈ part l i) : x ∈ l := List.mem_of_mem_drop (List.mem_of_mem_take h)
theorem part_take (l : List Int) (i : Nat) : l.take (123 * i) ++ part l i = l.take (123 * (i + 1)) := by
  rw [show 123 * (i + 1) = 123 * i + 123 by omega, List.take_add]
  rfl
theorem bodiesE_cases (l p : List Int) : bodiesE l p = 0 ∨ bodiesE l p = 1 := by unfold bodiesE; split <;> simp
theorem bodiesE_zero {l p : List Int} (h : bodiesE l p = 0) : ris 1 l = true ∧ onD p = true ∧ l.length ≤ 123 * p.length := by
  unfold bodiesE at h
  split at h
  · assumption
  · omega
theorem bodiesL_ok {l p : List Int} (h : bodiesE l p = 0) : bodiesL l p = (List.range p.length).map (bodyAt l p) := by unfold bodiesL; rw [if_pos h]
theorem bodiesL_no {l p : List Int} (h : ¬ bodiesE l p = 0) : bodiesL l p = [] := by unfold bodiesL; rw [if_neg h]
theorem onD_ge {p : List Int} (h : onD p = true) {x : Int} (hx : x ∈ p) : 2 ≤ x := by
  have := List.all_eq_true.1 h x hx
  simpa using this
theorem nextOf_rng {p : List Int} (hp : ∀ x ∈ p, 0 ≤ x ∧ x < 4294967296) (i : Nat) : 0 ≤ nextOf p i ∧ nextOf p i < 4294967296 := by
  unfold nextOf
  by_cases h : i + 1 < p.length
  · rw [List.getD_eq_getElem?_getD, List.getElem?_eq_getElem h]
    exact hp _ (List.getElem_mem h)
  · rw [List.getD_eq_getElem?_getD, List.getElem?_eq_none (by omega)]
    simp
theorem nextOf_ge {p : List Int} (h : onD p = true) {i : Nat} (hi : i + 1 < p.length) : 2 ≤ nextOf p i := by
  unfold nextOf
  rw [List.getD_eq_getElem?_getD, List.getElem?_eq_getElem hi]
  exact onD_ge h (List.getElem_mem hi)
theorem nextOf_last {p : List Int} {i : Nat} (hi : ¬ i + 1 < p.length) : nextOf p i = 0 := by
  unfold nextOf
  rw [List.getD_eq_getElem?_getD, List.getElem?_eq_none (by omega)]
  rfl
/-- Page by page. -/
theorem back {l p : List Int} (h : bodiesE l p = 0) (hl : ∀ x ∈ l, 0 ≤ x ∧ x < 4294967296) (hp : ∀ x ∈ p, 0 ≤ x ∧ x < 4294967296) (i : Nat) :
    parseE (bodyAt l p i) = 0 ∧ parseN (bodyAt l p i) = nextOf p i ∧ parseL (bodyAt l p i) = part l i := by
  obtain ⟨h1, h2, h3⟩ := bodiesE_zero h
  have hr := nextOf_rng hp i
  refine parse_body _ _ hr.1 hr.2 ?_ (fun x hx => hl x (part_mem hx)) (ris_part h1 i) (part_le l i)
  by_cases hi : i + 1 < p.length
  · have := nextOf_ge h2 hi
    omega
  · rw [nextOf_last hi]
    omega
/-- What is parsed, laid again, alone or ahead of the next page. -/
theorem again {b : List UInt8} (h : parseE b = 0) (p : List Int) (hp : p = if parseN b = 0 then [5] else [5, parseN b]) :
    bodiesE (parseL b) p = 0 ∧ bodyAt (parseL b) p 0 = b ∧ p.length ≤ 2 ∧ 1 ≤ p.length := by
  obtain ⟨h1, h2, h3, h4, h5, h6⟩ := body_parse b h
  have hpart : part (parseL b) 0 = parseL b := by
    unfold part
    rw [Nat.mul_zero, List.drop_zero, List.take_of_length_le h3]
  by_cases hn : parseN b = 0
  · rw [if_pos hn] at hp
    subst hp
    refine ⟨?_, ?_, by simp, by simp⟩
    · unfold bodiesE
      rw [if_pos ⟨h2, by decide, by simp; omega⟩]
    · unfold bodyAt
      rw [hpart, show nextOf [5] 0 = 0 from rfl, ← hn]
      exact h1
  · rw [if_neg hn] at hp
    subst hp
    refine ⟨?_, ?_, by simp, by simp⟩
    · unfold bodiesE
      rw [if_pos ⟨h2, by simp [onD]; omega, by simp; omega⟩]
    · unfold bodyAt
      rw [hpart, show nextOf [5, parseN b] 0 = parseN b from rfl]
      exact h1

/-- Need, as the law asks. -/
theorem need_law (z : Int) (h : z ≤ 100000) : (z < 1 ∧ needZ z = 0) ∨ (1 ≤ z ∧ 1 ≤ needZ z ∧ needZ z ≤ 1000 ∧ 123 * needZ z ≥ z - needZ z ∧ 123 * (needZ z - 1) < z - (needZ z - 1)) := by
  unfold needZ
  split
  · exact .inl ⟨by assumption, rfl⟩
  · exact .inr (by omega)
end L
end Go.Proofs.Ytnnegglhndllfaa
