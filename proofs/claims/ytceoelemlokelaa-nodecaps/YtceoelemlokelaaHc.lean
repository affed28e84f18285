/- Nodes as plain mathematics: how rows stand, caps, which nodes are right, their bodies, reading them again, where a key stands. -/
import Derived.Test.YtceoelemlokelaaHa
import Derived.Test.YtceoelemlokelaaHb
namespace Go.Proofs.Ytceoelemlokelaa
namespace N
open G (four two)
open Lib (compareBytes)

/-! How rows stand. -/
theorem cmp_flip : ∀ (a b : List UInt8), compareBytes b a = - compareBytes a b
  | [], [] => rfl
  | [], _ :: _ => rfl
  | _ :: _, [] => rfl
  | x :: a, y :: b => by
    unfold compareBytes
    by_cases h : x < y
    · have h2 : ¬ y < x := fun c => by
        have := UInt8.lt_iff_toNat_lt.1 h
        have := UInt8.lt_iff_toNat_lt.1 c
        omega
      rw [if_neg h2, if_pos h, if_pos h]
      rfl
    · by_cases h2 : y < x
      · rw [if_pos h2, if_neg h, if_pos h2]
      · rw [if_neg h2, if_neg h, if_neg h, if_neg h2, cmp_flip a b]
theorem cmp_self (a : List UInt8) : compareBytes a a = 0 := by
  have := cmp_flip a a
  omega
theorem cmp_zero : ∀ {a b : List UInt8}, compareBytes a b = 0 → a = b
  | [], [], _ => rfl
  | [], _ :: _, h => by simp [compareBytes] at h
  | _ :: _, [], h => by simp [compareBytes] at h
  | x :: a, y :: b, h => by
    unfold compareBytes at h
    by_cases h1 : x < y
    · rw [if_pos h1] at h; omega
    · by_cases h2 : y < x
      · rw [if_neg h1, if_pos h2] at h; omega
      · rw [if_neg h1, if_neg h2] at h
        have e : x = y := UInt8.toNat_inj.1 (by
          have a1 : ¬ x.toNat < y.toNat := fun c => h1 (UInt8.lt_iff_toNat_lt.2 c)
          have a2 : ¬ y.toNat < x.toNat := fun c => h2 (UInt8.lt_iff_toNat_lt.2 c)
          omega)
        rw [e, cmp_zero h]
theorem cmp_trans : ∀ {a b c : List UInt8}, compareBytes a b < 0 → compareBytes b c < 0 → compareBytes a c < 0
  | [], [], _, h, _ => by simp [compareBytes] at h
  | _ :: _, [], _, h, _ => by simp [compareBytes] at h
  | [], _ :: _, [], _, h => by simp [compareBytes] at h
  | [], _ :: _, _ :: _, _, _ => by simp [compareBytes]
  | _ :: _, _ :: _, [], _, h => by simp [compareBytes] at h
  | x :: a, y :: b, z :: c, h, k => by
    unfold compareBytes at h k ⊢
    have e1 : (x < y) ↔ x.toNat < y.toNat := UInt8.lt_iff_toNat_lt
    have e2 : (y < x) ↔ y.toNat < x.toNat := UInt8.lt_iff_toNat_lt
    have e3 : (y < z) ↔ y.toNat < z.toNat := UInt8.lt_iff_toNat_lt
    have e4 : (z < y) ↔ z.toNat < y.toNat := UInt8.lt_iff_toNat_lt
    have e5 : (x < z) ↔ x.toNat < z.toNat := UInt8.lt_iff_toNat_lt
    have e6 : (z < x) ↔ z.toNat < x.toNat := UInt8.lt_iff_toNat_lt
    simp only [e1, e2, e3, e4, e5, e6] at h k ⊢
    clear e1 e2 e3 e4 e5 e6
    generalize x.toNat = p at *
    generalize y.toNat = q at *
    generalize z.toNat = r at *
    by_cases h1 : p < q
    · by_cases k1 : q < r
      · rw [if_pos (by omega)]; omega
      · by_cases k2 : r < q
        · rw [if_neg k1, if_pos k2] at k; omega
        · rw [if_pos (by omega)]; omega
    · by_cases h2 : q < p
      · rw [if_neg h1, if_pos h2] at h; omega
      · rw [if_neg h1, if_neg h2] at h
        by_cases k1 : q < r
        · rw [if_pos (by omega)]; omega
        · by_cases k2 : r < q
          · rw [if_neg k1, if_pos k2] at k; omega
          · rw [if_neg k1, if_neg k2] at k
            rw [if_neg (by omega), if_neg (by omega)]
            exact cmp_trans h k
theorem cmp_rng : ∀ (a b : List UInt8), -1 ≤ compareBytes a b ∧ compareBytes a b ≤ 1
  | [], [] => by simp [compareBytes]
  | [], _ :: _ => by simp [compareBytes]
  | _ :: _, [] => by simp [compareBytes]
  | x :: a, y :: b => by
    unfold compareBytes
    have := cmp_rng a b
    by_cases h : x < y
    · rw [if_pos h]; omega
    · by_cases h2 : y < x
      · rw [if_neg h, if_pos h2]; omega
      · rw [if_neg h, if_neg h2]; exact this

/-! Nodes. -/
structure Nd where
  leaf : Bool
  ks : List (List UInt8)
  vs : List (List UInt8)
  ps : List Int
def zero : Nd := ⟨false, [], [], []⟩
def capA (k v : Int) : Int := if 1 ≤ k ∧ k ≤ 24 ∧ 0 ≤ v ∧ v ≤ 108 then 498 / (k + v) else 0
def capB (k v : Int) : Int := if 1 ≤ k ∧ k ≤ 24 ∧ 0 ≤ v ∧ v ≤ 108 then (498 + k) / (4 + k) else 0
def rises (ks : List (List UInt8)) : Bool := (List.range (ks.length - 1)).all fun i => decide (compareBytes (ks.getD i []) (ks.getD (i + 1) []) < 0)
def allLen (ls : List (List UInt8)) (k : Int) : Bool := ls.all fun b => decide ((b.length : Int) = k)
def onD (ps : List Int) : Bool := ps.all fun x => decide (2 ≤ x)
def may (kd : Nat) (c : Nat) (k v : Int) : Bool := if kd = 3 then decide (1 ≤ c ∧ (c : Int) ≤ capA k v) else if kd = 4 then decide (2 ≤ c ∧ (c : Int) ≤ capB k v) else false
def right (n : Nd) (k v : Int) : Bool := rises n.ks && (allLen n.ks k && (allLen n.vs v && (onD n.ps &&
  (if n.leaf then may 3 n.ks.length k v && (decide (n.vs.length = n.ks.length) && decide (n.ps.length = 0))
   else may 4 n.ps.length k v && (decide (n.ks.length + 1 = n.ps.length) && decide (n.vs.length = 0))))))
def leafTo (ks vs : List (List UInt8)) (i : Nat) : List UInt8 := two ks.length ++ (List.range i).flatMap fun j => ks.getD j [] ++ vs.getD j []
def innerTo (ks : List (List UInt8)) (ps : List Int) (i j : Nat) : List UInt8 := two ps.length ++ ((ps.take i).flatMap (fun x => four x.toNat) ++ (ks.take j).flatten)
def body (n : Nd) : List UInt8 := if n.leaf then leafTo n.ks n.vs n.ks.length else innerTo n.ks n.ps n.ps.length n.ks.length
def kindOf (n : Nd) : Nat := if n.leaf then 3 else 4
def wE (n : Nd) (k v : Int) : Nat := if right n k v then 0 else 1
def wK (n : Nd) (k v : Int) : Nat := if right n k v then kindOf n else 0
def wB (n : Nd) (k v : Int) : List UInt8 := if right n k v then body n else []
def sizeN (leaf : Bool) (c k v : Nat) : Nat := if leaf then 2 + c * (k + v) else 2 + c * 4 + (c - 1) * k
def keysL (l : List UInt8) (c k v : Nat) : List (List UInt8) := (List.range c).map fun i => (l.drop (2 + i * (k + v))).take k
def valsL (l : List UInt8) (c k v : Nat) : List (List UInt8) := (List.range c).map fun i => (l.drop (2 + i * (k + v) + k)).take v
def kidsI (l : List UInt8) (c : Nat) : List Int := (List.range c).map fun i => ((valL ((l.drop (2 + i * 4)).take 4) : Nat) : Int)
def keysI (l : List UInt8) (at_ c k : Nat) : List (List UInt8) := (List.range c).map fun i => (l.drop (at_ + i * k)).take k
def parse (leaf : Bool) (l : List UInt8) (c k v : Nat) : Nd := if leaf then ⟨true, keysL l c k v, valsL l c k v, []⟩ else ⟨false, keysI l (2 + c * 4) (c - 1) k, [], kidsI l c⟩
def count (l : List UInt8) : Nat := valL (l.take 2)
def readOK (kd : Nat) (l : List UInt8) (k v : Int) : Bool := decide (2 ≤ l.length) && (may kd (count l) k v && (decide (l.length = sizeN (decide (kd = 3)) (count l) k.toNat v.toNat) && right (parse (decide (kd = 3)) l (count l) k.toNat v.toNat) k v))
def readN (kd : Nat) (l : List UInt8) (k v : Int) : Nd := if readOK kd l k v then parse (decide (kd = 3)) l (count l) k.toNat v.toNat else zero
def readE (kd : Nat) (l : List UInt8) (k v : Int) : Nat := if readOK kd l k v then 0 else 2

theorem cap_no {k v : Int} (h : ¬ (1 ≤ k ∧ k ≤ 24 ∧ 0 ≤ v ∧ v ≤ 108)) : capA k v = 0 ∧ capB k v = 0 := ⟨if_neg h, if_neg h⟩
theorem cap_yes {k v : Int} (h : 1 ≤ k ∧ k ≤ 24 ∧ 0 ≤ v ∧ v ≤ 108) : capA k v = 498 / (k + v) ∧ capB k v = (498 + k) / (4 + k) := ⟨if_pos h, if_pos h⟩
theorem cap_law (k v : Int) (h : 1 ≤ k ∧ k ≤ 24 ∧ 0 ≤ v ∧ v ≤ 108) : ∃ a b : Nat, capA k v = a ∧ capB k v = b ∧ 3 ≤ a ∧ 18 ≤ b ∧ a ≤ 498 ∧ b ≤ 100 ∧ (a : Int) * (k + v) ≤ 498 ∧ 498 < ((a : Int) + 1) * (k + v) ∧ (b : Int) * (4 + k) ≤ 498 + k ∧ 498 + k < ((b : Int) + 1) * (4 + k) := by
  obtain ⟨e1, e2⟩ := cap_yes h
  have p1 : 0 < k + v := by omega
  have p2 : 0 < 4 + k := by omega
  have a1 := Int.ediv_mul_le 498 (show k + v ≠ 0 by omega)
  have a2 := Int.lt_ediv_add_one_mul_self 498 p1
  have b1 := Int.ediv_mul_le (498 + k) (show 4 + k ≠ 0 by omega)
  have b2 := Int.lt_ediv_add_one_mul_self (498 + k) p2
  have a3 : 3 ≤ 498 / (k + v) := Int.le_ediv_of_mul_le p1 (by omega)
  have b3 : 18 ≤ (498 + k) / (4 + k) := Int.le_ediv_of_mul_le p2 (by omega)
  have a4 : 498 / (k + v) ≤ 498 := Int.ediv_le_self _ (by omega)
  have b4 : (498 + k) / (4 + k) < 101 := Int.ediv_lt_of_lt_mul p2 (by omega)
  refine ⟨(498 / (k + v)).toNat, ((498 + k) / (4 + k)).toNat, by omega, by omega, by omega, by omega, by omega, by omega, ?_, ?_, ?_, ?_⟩
  · rw [Int.toNat_of_nonneg (by omega)]; exact a1
  · rw [Int.toNat_of_nonneg (by omega)]; exact a2
  · rw [Int.toNat_of_nonneg (by omega)]; exact b1
  · rw [Int.toNat_of_nonneg (by omega)]; exact b2
theorem may_fits {kd c : Nat} {k v : Int} (h : may kd c k v = true) : 1 ≤ k ∧ k ≤ 24 ∧ 0 ≤ v ∧ v ≤ 108 := by
  by_cases f : 1 ≤ k ∧ k ≤ 24 ∧ 0 ≤ v ∧ v ≤ 108
  · exact f
  · obtain ⟨e1, e2⟩ := cap_no f
    unfold may at h
    rw [e1, e2] at h
    split at h
    · simp at h; omega
    · split at h
      · simp at h; omega
      · simp at h
theorem may_leaf {c : Nat} {k v : Int} (h : may 3 c k v = true) : 1 ≤ c ∧ c ≤ 498 ∧ c * (k.toNat + v.toNat) ≤ 498 := by
  have f := may_fits h
  obtain ⟨a, b, ea, eb, a3, b3, a4, b4, a1, a2, b1, b2⟩ := cap_law k v f
  have h2 : 1 ≤ c ∧ (c : Int) ≤ capA k v := by simpa [may] using h
  rw [ea] at h2
  have hc : c ≤ a := by omega
  refine ⟨h2.1, by omega, ?_⟩
  have e : k.toNat + v.toNat = (k + v).toNat := by omega
  rw [e]
  have p : (a : Int) * (k + v) = ((a * (k + v).toNat : Nat) : Int) := by rw [Int.natCast_mul, Int.toNat_of_nonneg (by omega)]
  rw [p] at a1
  exact Nat.le_trans (Nat.mul_le_mul_right _ hc) (by omega)
theorem may_inner {c : Nat} {k v : Int} (h : may 4 c k v = true) : 2 ≤ c ∧ c ≤ 100 ∧ c * 4 + (c - 1) * k.toNat ≤ 498 := by
  have f := may_fits h
  obtain ⟨a, b, ea, eb, a3, b3, a4, b4, a1, a2, b1, b2⟩ := cap_law k v f
  have h2 : 2 ≤ c ∧ (c : Int) ≤ capB k v := by simpa [may] using h
  rw [eb] at h2
  have hc : c ≤ b := by omega
  refine ⟨h2.1, by omega, ?_⟩
  obtain ⟨q, rfl⟩ : ∃ q : Nat, k = q := ⟨k.toNat, by omega⟩
  have p : (b : Int) * (4 + (q : Int)) = ((b * (4 + q) : Nat) : Int) := by rw [Int.natCast_mul, Int.natCast_add]; rfl
  rw [p] at b1
  have m : c * (4 + q) ≤ b * (4 + q) := Nat.mul_le_mul_right _ hc
  have m2 : c * (4 + q) ≤ 498 + q := by omega
  obtain ⟨d, rfl⟩ : ∃ d, c = d + 1 := ⟨c - 1, by omega⟩
  rw [Int.toNat_natCast, Nat.add_sub_cancel]
  have e1 : (d + 1) * (4 + q) = (d + 1) * 4 + (d * q + q) := by rw [Nat.mul_add, Nat.add_mul d 1 q, Nat.one_mul]
  omega
theorem right_parts {n : Nd} {k v : Int} (h : right n k v = true) : rises n.ks = true ∧ (∀ b ∈ n.ks, b.length = k.toNat) ∧ (∀ b ∈ n.vs, b.length = v.toNat) ∧ (∀ x ∈ n.ps, 2 ≤ x) ∧
    ((n.leaf = true ∧ may 3 n.ks.length k v = true ∧ n.vs.length = n.ks.length ∧ n.ps = []) ∨ (n.leaf = false ∧ may 4 n.ps.length k v = true ∧ n.ks.length + 1 = n.ps.length ∧ n.vs = [])) := by
  unfold right at h
  simp only [Bool.and_eq_true, allLen, onD, List.all_eq_true, decide_eq_true_eq] at h
  obtain ⟨h1, h2, h3, h4, h5⟩ := h
  refine ⟨h1, fun b hb => by have := h2 b hb; omega, fun b hb => by have := h3 b hb; omega, h4, ?_⟩
  cases hl : n.leaf with
  | true =>
    rw [hl] at h5
    simp only [if_true, Bool.and_eq_true, decide_eq_true_eq] at h5
    exact .inl ⟨rfl, h5.1, h5.2.1, List.eq_nil_of_length_eq_zero h5.2.2⟩
  | false =>
    rw [hl] at h5
    simp only [Bool.false_eq_true, if_false, Bool.and_eq_true, decide_eq_true_eq] at h5
    exact .inr ⟨rfl, h5.1, h5.2.1, List.eq_nil_of_length_eq_zero h5.2.2⟩
theorem flat_rows : ∀ (i : Nat) (f : Nat → List UInt8) (s : Nat), (∀ j, j < i → (f j).length = s) → ((List.range i).flatMap f).length = i * s
  | 0, _, _, _ => by simp
  | i + 1, f, s, h => by
    rw [List.range_succ, List.flatMap_append, List.length_append, flat_rows i f s (fun j hj => h j (by omega))]
    simp only [List.flatMap_cons, List.flatMap_nil, List.append_nil]
    rw [h i (by omega), Nat.add_mul, Nat.one_mul]
theorem flat_at : ∀ (i : Nat) (f : Nat → List UInt8) (s : Nat) (r : List UInt8), (∀ j, j < i → (f j).length = s) → ∀ j, j < i → (((List.range i).flatMap f ++ r).drop (j * s)).take s = f j
  | 0, _, _, _, _, j, hj => by omega
  | i + 1, f, s, r, h, j, hj => by
    rw [List.range_succ, List.flatMap_append]
    simp only [List.flatMap_cons, List.flatMap_nil, List.append_nil, List.append_assoc]
    by_cases e : j < i
    · exact flat_at i f s (f i ++ r) (fun j hj => h j (by omega)) j e
    · obtain rfl : j = i := by omega
      have hl := flat_rows j f s (fun t ht => h t (by omega))
      rw [List.drop_append, List.drop_of_length_le (by omega), hl, Nat.sub_self, List.drop_zero, List.nil_append, List.take_append, List.take_of_length_le (by rw [h j hj]; exact Nat.le_refl _), h j hj, Nat.sub_self, List.take_zero, List.append_nil]
theorem flat_congr : ∀ (i : Nat) (f g : Nat → List UInt8), (∀ j, j < i → f j = g j) → (List.range i).flatMap f = (List.range i).flatMap g
  | 0, _, _, _ => rfl
  | i + 1, f, g, h => by
    rw [List.range_succ, List.flatMap_append, List.flatMap_append, flat_congr i f g (fun j hj => h j (by omega))]
    simp only [List.flatMap_cons, List.flatMap_nil, List.append_nil]
    rw [h i (by omega)]
/-- A row is what its parts of one length are, one behind the other. -/
theorem cut_rows (s : Nat) : ∀ (i : Nat) (l : List UInt8), l.length = i * s → (List.range i).flatMap (fun j => (l.drop (j * s)).take s) = l
  | 0, l, h => by
    rw [List.eq_nil_of_length_eq_zero (l := l) (by omega)]
    rfl
  | i + 1, l, h => by
    have hs : l.length = i * s + s := by rw [h, Nat.add_mul, Nat.one_mul]
    have ih := cut_rows s i (l.take (i * s)) (by simp; omega)
    rw [List.range_succ, List.flatMap_append]
    simp only [List.flatMap_cons, List.flatMap_nil, List.append_nil]
    have e : (List.range i).flatMap (fun j => (l.drop (j * s)).take s) = (List.range i).flatMap (fun j => ((l.take (i * s)).drop (j * s)).take s) := by
      refine flat_congr i _ _ (fun j hj => ?_)
      rw [List.drop_take, List.take_take]
      congr 1
      have : (j + 1) * s ≤ i * s := Nat.mul_le_mul_right _ hj
      rw [Nat.add_mul, Nat.one_mul] at this
      omega
    rw [e, ih, List.take_of_length_le (i := s) (by simp; omega), List.take_append_drop]

theorem getD_mem {α : Type} {d : α} {ls : List α} {j : Nat} (h : j < ls.length) : ls.getD j d ∈ ls := by
  rw [show ls.getD j d = ls[j] by simp [List.getD, h]]
  exact List.getElem_mem h
theorem tab {α : Type} (ls : List α) (d : α) : (List.range ls.length).map (fun j => ls.getD j d) = ls := by
  apply List.ext_getElem
  · simp
  · intro i h1 h2
    simp [List.getD, h2]
theorem flat_tab {α : Type} (ls : List α) (d : α) (f : α → List UInt8) : ls.flatMap f = (List.range ls.length).flatMap fun j => f (ls.getD j d) := by
  conv => lhs; rw [← tab ls d]
  rw [List.flatMap_map]
theorem flatten_tab (ks : List (List UInt8)) : ks.flatten = (List.range ks.length).flatMap fun j => ks.getD j [] := by
  rw [← flat_tab ks [] (fun x => x)]
  simp [List.flatMap]
theorem two_val (c : Nat) (h : c < 65536) : valL (two c) = c := by
  unfold two
  rw [valL_two]
  exact G.of_two c h
theorem of_val2 (l : List UInt8) (h : l.length = 2) : two (valL l) = l := by
  match l, h with
  | [a, b], _ => rw [valL_two]; exact G.two_of a b
theorem four_val (n : Nat) (h : n < 4294967296) : valL (four n) = n := by
  unfold four
  rw [valL_four]
  simp only [UInt8.toNat_ofNat']
  omega
theorem of_val4 (l : List UInt8) (h : l.length = 4) : four (valL l) = l := by
  match l, h with
  | [a, b, c, d], _ =>
    rw [valL_four]
    have ha := a.toNat_lt
    have hb := b.toNat_lt
    have hc := c.toNat_lt
    have hd := d.toNat_lt
    unfold four
    have e1 : UInt8.ofNat ((a.toNat * 16777216 + b.toNat * 65536 + c.toNat * 256 + d.toNat) / 16777216) = a := UInt8.toNat_inj.1 (by rw [UInt8.toNat_ofNat']; omega)
    have e2 : UInt8.ofNat ((a.toNat * 16777216 + b.toNat * 65536 + c.toNat * 256 + d.toNat) / 65536) = b := UInt8.toNat_inj.1 (by rw [UInt8.toNat_ofNat']; omega)
    have e3 : UInt8.ofNat ((a.toNat * 16777216 + b.toNat * 65536 + c.toNat * 256 + d.toNat) / 256) = c := UInt8.toNat_inj.1 (by rw [UInt8.toNat_ofNat']; omega)
    have e4 : UInt8.ofNat (a.toNat * 16777216 + b.toNat * 65536 + c.toNat * 256 + d.toNat) = d := UInt8.toNat_inj.1 (by rw [UInt8.toNat_ofNat']; omega)
    rw [e1, e2, e3, e4]
/-- How many there are, of a right node. -/
def cnt (n : Nd) : Nat := if n.leaf then n.ks.length else n.ps.length
theorem leaf_len {ks vs : List (List UInt8)} {k v : Nat} (hk : ∀ b ∈ ks, b.length = k) (hv : ∀ b ∈ vs, b.length = v) (h : vs.length = ks.length) : (leafTo ks vs ks.length).length = 2 + ks.length * (k + v) := by
  unfold leafTo
  rw [List.length_append, G.two_length, flat_rows ks.length _ (k + v)]
  intro j hj
  rw [List.length_append, hk _ (getD_mem hj), hv _ (getD_mem (by omega))]
theorem flat4_len (ps : List Int) : (ps.flatMap (fun x => four x.toNat)).length = ps.length * 4 := by
  rw [flat_tab ps 0, flat_rows _ _ 4 (fun j _ => G.four_length _)]
theorem flatten_len {ks : List (List UInt8)} {k : Nat} (hk : ∀ b ∈ ks, b.length = k) : ks.flatten.length = ks.length * k := by
  rw [flatten_tab, flat_rows _ _ k (fun j hj => hk _ (getD_mem hj))]
theorem inner_eq (ks : List (List UInt8)) (ps : List Int) : innerTo ks ps ps.length ks.length = two ps.length ++ (ps.flatMap (fun x => four x.toNat) ++ ks.flatten) := by
  unfold innerTo
  rw [List.take_length, List.take_length]
theorem body_len {n : Nd} {k v : Int} (h : right n k v = true) : (body n).length = sizeN n.leaf (cnt n) k.toNat v.toNat ∧ (body n).length ≤ 500 ∧ may (kindOf n) (cnt n) k v = true := by
  obtain ⟨h1, h2, h3, h4, h5⟩ := right_parts h
  rcases h5 with ⟨hl, hm, hv, hp⟩ | ⟨hl, hm, hk, hv⟩
  · have := may_leaf hm
    have e : (body n).length = 2 + n.ks.length * (k.toNat + v.toNat) := by
      unfold body
      rw [hl, if_pos rfl]
      exact leaf_len h2 h3 hv
    refine ⟨by rw [e]; unfold sizeN cnt; rw [hl]; rfl, by omega, by unfold kindOf cnt; rw [hl]; exact hm⟩
  · have := may_inner hm
    have e : (body n).length = 2 + n.ps.length * 4 + (n.ps.length - 1) * k.toNat := by
      unfold body
      rw [hl, if_neg (by simp), inner_eq, List.length_append, List.length_append, G.two_length, flat4_len, flatten_len h2, ← hk, Nat.add_sub_cancel]
      omega
    refine ⟨by rw [e]; unfold sizeN cnt; rw [hl]; rfl, by omega, by unfold kindOf cnt; rw [hl]; exact hm⟩
theorem count_body {n : Nd} {k v : Int} (h : right n k v = true) : count (body n) = cnt n ∧ cnt n ≤ 498 := by
  obtain ⟨h1, h2, h3, h4, h5⟩ := right_parts h
  rcases h5 with ⟨hl, hm, hv, hp⟩ | ⟨hl, hm, hk, hv⟩
  · have := may_leaf hm
    unfold count body cnt
    rw [hl, if_pos rfl, if_pos rfl]
    refine ⟨?_, this.2.1⟩
    unfold leafTo
    rw [List.take_append_of_le_length (by rw [G.two_length]; exact Nat.le_refl _), List.take_of_length_le (by rw [G.two_length]; exact Nat.le_refl _)]
    exact two_val _ (by omega)
  · have := may_inner hm
    unfold count body cnt
    rw [hl, if_neg (by simp), if_neg (by simp)]
    refine ⟨?_, by omega⟩
    unfold innerTo
    rw [List.take_append_of_le_length (by rw [G.two_length]; exact Nat.le_refl _), List.take_of_length_le (by rw [G.two_length]; exact Nat.le_refl _)]
    exact two_val _ (by omega)
theorem drop_two (c s : Nat) (r : List UInt8) : (two c ++ r).drop (2 + s) = r.drop s := by
  rw [List.drop_append, G.two_length, List.drop_of_length_le (by rw [G.two_length]; omega), List.nil_append]
  congr 1
  omega
theorem parse_leaf {ks vs : List (List UInt8)} {k v : Nat} (hk : ∀ b ∈ ks, b.length = k) (hv : ∀ b ∈ vs, b.length = v) (h : vs.length = ks.length) :
    keysL (leafTo ks vs ks.length) ks.length k v = ks ∧ valsL (leafTo ks vs ks.length) ks.length k v = vs := by
  have key : ∀ j, j < ks.length → (((List.range ks.length).flatMap (fun j => ks.getD j [] ++ vs.getD j [])).drop (j * (k + v))).take (k + v) = ks.getD j [] ++ vs.getD j [] := by
    intro j hj
    have := flat_at ks.length (fun j => ks.getD j [] ++ vs.getD j []) (k + v) [] (fun i hi => by rw [List.length_append, hk _ (getD_mem hi), hv _ (getD_mem (by omega))]) j hj
    rwa [List.append_nil] at this
  generalize hF : (List.range ks.length).flatMap (fun j => ks.getD j [] ++ vs.getD j []) = F at key
  have hL : leafTo ks vs ks.length = two ks.length ++ F := by unfold leafTo; rw [hF]
  rw [hL]
  constructor
  · conv => rhs; rw [← tab ks []]
    unfold keysL
    refine List.map_congr_left (fun j hj => ?_)
    have hj := List.mem_range.1 hj
    rw [drop_two]
    have e := key j hj
    have l1 : (ks.getD j []).length = k := hk _ (getD_mem hj)
    calc (F.drop (j * (k + v))).take k = ((F.drop (j * (k + v))).take (k + v)).take k := by rw [List.take_take, Nat.min_eq_left (by omega)]
      _ = ks.getD j [] := by rw [e, List.take_append_of_le_length (by omega), List.take_of_length_le (by omega)]
  · conv => rhs; rw [← tab vs []]
    unfold valsL
    rw [h]
    refine List.map_congr_left (fun j hj => ?_)
    have hj := List.mem_range.1 hj
    rw [Nat.add_assoc, drop_two]
    have e := key j hj
    have l1 : (ks.getD j []).length = k := hk _ (getD_mem hj)
    have l2 : (vs.getD j []).length = v := hv _ (getD_mem (by omega))
    calc (F.drop (j * (k + v) + k)).take v = ((F.drop (j * (k + v))).take (k + v)).drop k := by rw [List.drop_take, List.drop_drop, Nat.add_sub_cancel_left]
      _ = vs.getD j [] := by rw [e, List.drop_append, List.drop_of_length_le (by omega), l1, Nat.sub_self, List.nil_append, List.drop_zero]
theorem parse_inner {ks : List (List UInt8)} {ps : List Int} {k : Nat} (hk : ∀ b ∈ ks, b.length = k) (hr : Rg ps) :
    kidsI (innerTo ks ps ps.length ks.length) ps.length = ps ∧ keysI (innerTo ks ps ps.length ks.length) (2 + ps.length * 4) ks.length k = ks := by
  rw [inner_eq]
  have l4 := flat4_len ps
  constructor
  · conv => rhs; rw [← tab ps 0]
    unfold kidsI
    refine List.map_congr_left (fun j hj => ?_)
    have hj := List.mem_range.1 hj
    rw [drop_two, flat_tab ps 0, flat_at ps.length (fun j => four (ps.getD j 0).toNat) 4 _ (fun i _ => G.four_length _) j hj]
    have := hr _ (getD_mem (d := 0) hj)
    rw [four_val _ (by omega)]
    omega
  · conv => rhs; rw [← tab ks []]
    unfold keysI
    refine List.map_congr_left (fun j hj => ?_)
    have hj := List.mem_range.1 hj
    rw [Nat.add_assoc, drop_two, List.drop_append, List.drop_of_length_le (by omega), l4, Nat.add_sub_cancel_left, List.nil_append, flatten_tab]
    have := flat_at ks.length (fun j => ks.getD j []) k [] (fun i hi => hk _ (getD_mem hi)) j hj
    rwa [List.append_nil] at this
theorem parse_body {n : Nd} {k v : Int} (h : right n k v = true) (hr : Rg n.ps) : parse n.leaf (body n) (cnt n) k.toNat v.toNat = n := by
  obtain ⟨h1, h2, h3, h4, h5⟩ := right_parts h
  obtain ⟨lf, ks, vs, ps⟩ := n
  rcases h5 with ⟨hl, hm, hv, hp⟩ | ⟨hl, hm, hk, hv⟩
  · simp only at hl hm hv hp h2 h3
    subst hl hp
    obtain ⟨e1, e2⟩ := parse_leaf h2 h3 hv
    simp only [parse, body, cnt, if_true]
    rw [e1, e2]
  · simp only at hl hm hv hk h2 h3 hr
    subst hl hv
    obtain ⟨e1, e2⟩ := parse_inner h2 hr
    simp only [parse, body, cnt, Bool.false_eq_true, if_false]
    rw [e1, ← hk, Nat.add_sub_cancel, hk, e2]
theorem kind_leaf (n : Nd) : decide (kindOf n = 3) = n.leaf := by
  unfold kindOf
  cases n.leaf <;> rfl
/-- A right node's body is read as that node. -/
theorem back {n : Nd} {k v : Int} (h : right n k v = true) (hr : Rg n.ps) : readOK (kindOf n) (body n) k v = true ∧ readN (kindOf n) (body n) k v = n := by
  obtain ⟨l1, l2, l3⟩ := body_len h
  obtain ⟨c1, c2⟩ := count_body h
  have pb := parse_body h hr
  have ok : readOK (kindOf n) (body n) k v = true := by
    unfold readOK
    rw [c1, kind_leaf, pb, h, l3, l1]
    have : 2 ≤ sizeN n.leaf (cnt n) k.toNat v.toNat := by unfold sizeN; split <;> omega
    simp [this]
  refine ⟨ok, ?_⟩
  unfold readN
  rw [if_pos ok, kind_leaf, c1, pb]
theorem len_keysL (l : List UInt8) (c k v : Nat) : (keysL l c k v).length = c := by simp [keysL]
theorem len_valsL (l : List UInt8) (c k v : Nat) : (valsL l c k v).length = c := by simp [valsL]
theorem len_kidsI (l : List UInt8) (c : Nat) : (kidsI l c).length = c := by simp [kidsI]
theorem len_keysI (l : List UInt8) (a c k : Nat) : (keysI l a c k).length = c := by simp [keysI]
theorem get_keysL (l : List UInt8) (c k v j : Nat) (h : j < c) : (keysL l c k v).getD j [] = (l.drop (2 + j * (k + v))).take k := by simp [keysL, List.getD, h]
theorem get_valsL (l : List UInt8) (c k v j : Nat) (h : j < c) : (valsL l c k v).getD j [] = (l.drop (2 + j * (k + v) + k)).take v := by simp [valsL, List.getD, h]
theorem get_kidsI (l : List UInt8) (c j : Nat) (h : j < c) : (kidsI l c).getD j 0 = ((valL ((l.drop (2 + j * 4)).take 4) : Nat) : Int) := by simp [kidsI, List.getD, h]
theorem get_keysI (l : List UInt8) (a c k j : Nat) (h : j < c) : (keysI l a c k).getD j [] = (l.drop (a + j * k)).take k := by simp [keysI, List.getD, h]
theorem rg_kidsI (l : List UInt8) (c : Nat) : Rg (kidsI l c) := by
  intro x hx
  obtain ⟨i, _, rfl⟩ := List.mem_map.1 hx
  have h1 := valL_lt ((l.drop (2 + i * 4)).take 4)
  have h2 : ((l.drop (2 + i * 4)).take 4).length ≤ 4 := by simp; omega
  have h3 : (256 : Nat) ^ ((l.drop (2 + i * 4)).take 4).length ≤ 256 ^ 4 := Nat.pow_le_pow_right (by omega) h2
  omega
theorem count_two (l : List UInt8) (h : 2 ≤ l.length) : two (count l) = l.take 2 := of_val2 _ (by simp; omega)
/-- What is read is what was there. -/
theorem again {leaf : Bool} {l : List UInt8} {k v : Nat} (h2 : 2 ≤ l.length) (hl : l.length = sizeN leaf (count l) k v) (hc : leaf = false → 1 ≤ count l) : body (parse leaf l (count l) k v) = l := by
  have e0 := count_two l h2
  cases leaf with
  | true =>
    have hl2 : l.length = 2 + count l * (k + v) := hl
    simp only [parse, body, if_true]
    unfold leafTo
    rw [len_keysL, e0]
    conv => rhs; rw [← List.take_append_drop 2 l]
    congr 1
    rw [← cut_rows (k + v) (count l) (l.drop 2) (by rw [List.length_drop]; omega)]
    refine flat_congr _ _ _ (fun j hj => ?_)
    rw [get_keysL _ _ _ _ _ hj, get_valsL _ _ _ _ _ hj, List.take_add, List.drop_drop, List.drop_drop]
  | false =>
    have hl2 : l.length = 2 + count l * 4 + (count l - 1) * k := hl
    simp only [parse, body, Bool.false_eq_true, if_false]
    rw [inner_eq, len_kidsI, e0, flat_tab _ 0, len_kidsI, flatten_tab, len_keysI]
    conv => rhs; rw [← List.take_append_drop 2 l]
    congr 1
    have e1 : (List.range (count l)).flatMap (fun j => four ((kidsI l (count l)).getD j 0).toNat) = (l.drop 2).take (count l * 4) := by
      rw [← cut_rows 4 (count l) ((l.drop 2).take (count l * 4)) (by simp; omega)]
      refine flat_congr _ _ _ (fun j hj => ?_)
      have hm : j * 4 + 4 ≤ count l * 4 := by omega
      rw [get_kidsI _ _ _ hj, Int.toNat_natCast, of_val4 _ (by simp; omega), List.drop_take, List.drop_drop, List.take_take]
      congr 1
      omega
    have e2 : (List.range (count l - 1)).flatMap (fun j => (keysI l (2 + count l * 4) (count l - 1) k).getD j []) = (l.drop 2).drop (count l * 4) := by
      rw [← cut_rows k (count l - 1) ((l.drop 2).drop (count l * 4)) (by rw [List.drop_drop, List.length_drop]; omega)]
      refine flat_congr _ _ _ (fun j hj => ?_)
      rw [get_keysI _ _ _ _ _ hj, List.drop_drop, List.drop_drop, Nat.add_assoc]
    rw [e1, e2, List.take_append_drop]
end N
end Go.Proofs.Ytceoelemlokelaa
