/- Contracts that the claim reaches (Fm Fa Fb Fc Fd Fe Vp Ff Vr). -/
import Derived.Test.YtlcnefeikejcaaaGreatDoorPl05
import Derived.RangeFuncNested
import Derived.RangeFuncBound
import Derived.RangeFuncCalls
import Derived.RangeFuncLeaves
import Derived.Shelf.Abstract
import Derived.Shelf.RegionOpen
import Derived.OwnWalkIn
import Derived.TacticsInMore
import Derived.LoopNIn
import Derived.LoopIn
import Derived.RangeFuncBox
import Derived.Maps.RangeWalk
namespace Go.Proofs.YtlcnefeikejcaaaGreatDoor
namespace L
open G (four two)
def ris : Int → List Int → Bool
  | _, [] => true
  | a, x :: r => decide (a < x) && ris x r
def onD (p : List Int) : Bool := p.all (fun x => decide (2 ≤ x))
def bodyL (nx : Int) (part : List Int) : List UInt8 := four nx.toNat ++ (two part.length ++ part.flatMap (fun x => four x.toNat))
def part (l : List Int) (i : Nat) : List Int := (l.drop (123 * i)).take 123
def nextOf (p : List Int) (i : Nat) : Int := p.getD (i + 1) 0
def bodyAt (l p : List Int) (i : Nat) : List UInt8 := bodyL (nextOf p i) (part l i)
def bodiesE (l p : List Int) : Nat := if ris 1 l = true ∧ onD p = true ∧ l.length ≤ 123 * p.length then 0 else 1
def bodiesL (l p : List Int) : List (List UInt8) := if bodiesE l p = 0 then (List.range p.length).map (bodyAt l p) else []
def numAt (b : List UInt8) (k : Nat) : Nat := (b.getD k 0).toNat * 16777216 + (b.getD (k + 1) 0).toNat * 65536 + (b.getD (k + 2) 0).toNat * 256 + (b.getD (k + 3) 0).toNat
def cnt (b : List UInt8) : Nat := (b.getD 4 0).toNat * 256 + (b.getD 5 0).toNat
def nums (b : List UInt8) (n : Nat) : List Int := (List.range n).map fun i => ((numAt b (6 + 4 * i) : Nat) : Int)
def parseE (b : List UInt8) : Nat := if b.length < 6 then 2 else if numAt b 0 = 1 ∨ 123 < cnt b ∨ b.length ≠ 6 + 4 * cnt b then 2 else if ris 1 (nums b (cnt b)) = true then 0 else 2
def parseN (b : List UInt8) : Int := if parseE b = 0 then ((numAt b 0 : Nat) : Int) else 0
def parseL (b : List UInt8) : List Int := if parseE b = 0 then nums b (cnt b) else []
def needZ (z : Int) : Int := if z < 1 then 0 else (z - 1) / 124 + 1
theorem ris_weak {a b : Int} (hab : b ≤ a) : ∀ {l : List Int}, ris a l = true → ris b l = true
  | [], _ => rfl
  | y :: r, h => by
    simp only [ris, Bool.and_eq_true, decide_eq_true_eq] at h ⊢
    exact ⟨by omega, h.2⟩
theorem ris_drop {a : Int} : ∀ (n : Nat) {l : List Int}, ris a l = true → ris a (l.drop n) = true
  | 0, _, h => h
  | _ + 1, [], _ => rfl
  | n + 1, y :: r, h => by
    simp only [ris, Bool.and_eq_true, decide_eq_true_eq] at h
    exact ris_drop n (ris_weak (Int.le_of_lt h.1) h.2)
theorem ris_take {a : Int} : ∀ (n : Nat) {l : List Int}, ris a l = true → ris a (l.take n) = true
  | 0, _, _ => rfl
  | _ + 1, [], _ => rfl
  | n + 1, y :: r, h => by
    simp only [ris, Bool.and_eq_true, decide_eq_true_eq] at h
    simp only [List.take_succ_cons, ris, Bool.and_eq_true, decide_eq_true_eq]
    exact ⟨h.1, ris_take n h.2⟩
theorem ris_part {l : List Int} (h : ris 1 l = true) (i : Nat) : ris 1 (part l i) = true := ris_take 123 (ris_drop _ h)
theorem numAt_lt (b : List UInt8) (k : Nat) : numAt b k < 4294967296 := by
  unfold numAt
  have h0 := (b.getD k 0).toNat_lt
  have h1 := (b.getD (k + 1) 0).toNat_lt
  have h2 := (b.getD (k + 2) 0).toNat_lt
  have h3 := (b.getD (k + 3) 0).toNat_lt
  omega
theorem four_numAt (b : List UInt8) (k : Nat) : four (numAt b k) = [b.getD k 0, b.getD (k + 1) 0, b.getD (k + 2) 0, b.getD (k + 3) 0] := by
  unfold numAt
  generalize b.getD k 0 = x0
  generalize b.getD (k + 1) 0 = x1
  generalize b.getD (k + 2) 0 = x2
  generalize b.getD (k + 3) 0 = x3
  have h0 := x0.toNat_lt
  have h1 := x1.toNat_lt
  have h2 := x2.toNat_lt
  have h3 := x3.toNat_lt
  unfold four
  have e : ∀ (n : Nat) (x : UInt8), n % 256 = x.toNat → UInt8.ofNat n = x := fun n x h => by
    apply UInt8.toNat_inj.1
    simpa using h
  rw [e _ x0 (by omega), e _ x1 (by omega), e _ x2 (by omega), e _ x3 (by omega)]
theorem two_cnt (b : List UInt8) : two (cnt b) = [b.getD 4 0, b.getD 5 0] := G.two_of _ _
theorem nums_length (b : List UInt8) (n : Nat) : (nums b n).length = n := by simp [nums]
theorem nums_get (b : List UInt8) (n i : Nat) (h : i < n) : (nums b n)[i]! = ((numAt b (6 + 4 * i) : Nat) : Int) := by simp [nums, h]
theorem nums_succ (b : List UInt8) (n : Nat) : nums b (n + 1) = nums b n ++ [((numAt b (6 + 4 * n) : Nat) : Int)] := by simp [nums, List.range_succ]
theorem numAt_mid (u r : List UInt8) (n : Nat) (hn : n < 4294967296) : numAt (u ++ (four n ++ r)) u.length = n := by
  unfold numAt
  have e : ∀ j, j < 4 → (u ++ (four n ++ r)).getD (u.length + j) 0 = (four n).getD j 0 := fun j hj => by
    rw [List.getD_eq_getElem?_getD, List.getD_eq_getElem?_getD, List.getElem?_append_right (by omega), Nat.add_sub_cancel_left, List.getElem?_append_left (by rw [G.four_length]; omega)]
  have e0 := e 0 (by omega)
  rw [Nat.add_zero] at e0
  rw [e0, e 1 (by omega), e 2 (by omega), e 3 (by omega)]
  simp only [four, List.getD_cons_zero, List.getD_cons_succ, UInt8.toNat_ofNat']
  omega
theorem flat_length (l : List Int) : (l.flatMap (fun x => four x.toNat)).length = 4 * l.length := by
  induction l with
  | nil => rfl
  | cons x r ih => simp only [List.flatMap_cons, List.length_append, ih, G.four_length, List.length_cons]; omega
theorem bodyL_length (nx : Int) (q : List Int) : (bodyL nx q).length = 6 + 4 * q.length := by
  simp only [bodyL, List.length_append, G.four_length, G.two_length, flat_length]
  omega
theorem bodyL_num0 (nx : Int) (q : List Int) (h : nx.toNat < 4294967296) : numAt (bodyL nx q) 0 = nx.toNat := numAt_mid [] _ _ h
theorem bodyL_cnt (nx : Int) (q : List Int) (h : q.length < 65536) : cnt (bodyL nx q) = q.length := G.of_two q.length h
theorem flat_at (q : List Int) (i : Nat) (h : i < q.length) : q.flatMap (fun x => four x.toNat) = (q.take i).flatMap (fun x => four x.toNat) ++ (four (q[i]!).toNat ++ (q.drop (i + 1)).flatMap (fun x => four x.toNat)) := by
  have e : q = q.take i ++ (q[i]! :: q.drop (i + 1)) := by
    rw [getElem!_pos q i h, ← List.drop_eq_getElem_cons h, List.take_append_drop]
  conv => lhs; rw [e]
  rw [List.flatMap_append, List.flatMap_cons]
theorem bodyL_at (nx : Int) (q : List Int) (i : Nat) (h : i < q.length) (hq : (q[i]!).toNat < 4294967296) : numAt (bodyL nx q) (6 + 4 * i) = (q[i]!).toNat := by
  have e : bodyL nx q = (four nx.toNat ++ (two q.length ++ (q.take i).flatMap (fun x => four x.toNat))) ++ (four (q[i]!).toNat ++ (q.drop (i + 1)).flatMap (fun x => four x.toNat)) := by
    unfold bodyL
    rw [flat_at q i h]
    simp only [List.append_assoc]
  have el : (four nx.toNat ++ (two q.length ++ (q.take i).flatMap (fun x => four x.toNat))).length = 6 + 4 * i := by
    simp only [List.length_append, G.four_length, G.two_length, flat_length, List.length_take]
    omega
  rw [e, ← el]
  exact numAt_mid _ _ _ hq
theorem bodyL_nums (nx : Int) (q : List Int) (hq : ∀ x ∈ q, 0 ≤ x ∧ x < 4294967296) : nums (bodyL nx q) q.length = q := by
  apply List.ext_getElem (nums_length _ _)
  intro i h1 h2
  have e := nums_get (bodyL nx q) q.length i h2
  rw [getElem!_pos _ i h1] at e
  have hx := hq q[i] (List.getElem_mem h2)
  rw [e, bodyL_at nx q i h2 (by rw [getElem!_pos q i h2]; omega), getElem!_pos q i h2]
  omega
theorem parse_body (nx : Int) (q : List Int) (hn0 : 0 ≤ nx) (hn : nx < 4294967296) (h1 : nx ≠ 1) (hq : ∀ x ∈ q, 0 ≤ x ∧ x < 4294967296) (hr : ris 1 q = true) (hl : q.length ≤ 123) :
    parseE (bodyL nx q) = 0 ∧ parseN (bodyL nx q) = nx ∧ parseL (bodyL nx q) = q := by
  have e0 := bodyL_num0 nx q (by omega)
  have ec := bodyL_cnt nx q (by omega)
  have el := bodyL_length nx q
  have en := bodyL_nums nx q hq
  have h : parseE (bodyL nx q) = 0 := by
    unfold parseE
    rw [if_neg (by omega), e0, ec, el, en, if_neg (by omega), if_pos hr]
  refine ⟨h, ?_, ?_⟩
  · unfold parseN
    rw [if_pos h, e0]
    omega
  · unfold parseL
    rw [if_pos h, ec, en]
theorem flat_nums (b : List UInt8) : ∀ n, 6 + 4 * n ≤ b.length → (nums b n).flatMap (fun x => four x.toNat) = (b.drop 6).take (4 * n)
  | 0, _ => rfl
  | n + 1, h => by
    rw [nums_succ, List.flatMap_append, flat_nums b n (by omega)]
    simp only [List.flatMap_cons, List.flatMap_nil, List.append_nil, Int.toNat_natCast]
    rw [four_numAt]
    have e : ∀ j, j < b.length → b.getD j 0 = b[j]! := fun j hj => by simp [List.getD, hj]
    have s : ∀ m, 6 + m < b.length → (b.drop 6).take (m + 1) = (b.drop 6).take m ++ [b.getD (6 + m) 0] := fun m hm => by
      rw [List.take_succ_eq_append_getElem (by simp; omega)]
      simp [List.getD, hm]
    rw [show 4 * (n + 1) = 4 * n + 1 + 1 + 1 + 1 by omega, s _ (by omega), s _ (by omega), s _ (by omega), s _ (by omega)]
    simp only [List.append_assoc, List.cons_append, List.nil_append]
    rfl
theorem six : ∀ (b : List UInt8), 6 ≤ b.length → ∃ x0 x1 x2 x3 x4 x5 t, b = x0 :: x1 :: x2 :: x3 :: x4 :: x5 :: t
  | x0 :: x1 :: x2 :: x3 :: x4 :: x5 :: t, _ => ⟨x0, x1, x2, x3, x4, x5, t, rfl⟩
  | [], h => by simp at h
  | [_], h => by simp at h
  | [_, _], h => by simp at h
  | [_, _, _], h => by simp at h
  | [_, _, _, _], h => by simp at h
  | [_, _, _, _, _], h => by simp at h
theorem body_parse (b : List UInt8) (h : parseE b = 0) : bodyL (parseN b) (parseL b) = b ∧ ris 1 (parseL b) = true ∧ (parseL b).length ≤ 123 ∧ parseN b ≠ 1 ∧ 0 ≤ parseN b ∧ parseN b < 4294967296 := by
  have hN : parseN b = ((numAt b 0 : Nat) : Int) := by unfold parseN; rw [if_pos h]
  have hL : parseL b = nums b (cnt b) := by unfold parseL; rw [if_pos h]
  rw [hN, hL]
  have hlt := numAt_lt b 0
  unfold parseE at h
  split at h
  · omega
  · split at h
    · omega
    · split at h
      · rename_i h6 hx hr
        refine ⟨?_, hr, by rw [nums_length]; omega, by omega, by omega, by omega⟩
        have hb : b.length = 6 + 4 * cnt b := by omega
        unfold bodyL
        rw [nums_length, Int.toNat_natCast, four_numAt, two_cnt, flat_nums b (cnt b) (by omega)]
        rw [List.take_of_length_le (by simp; omega)]
        obtain ⟨x0, x1, x2, x3, x4, x5, t, ht⟩ := six b (by omega)
        rw [ht]
        rfl
      · omega
theorem part_length (l : List Int) (i : Nat) : (part l i).length = min 123 (l.length - 123 * i) := by simp [part]
theorem part_le (l : List Int) (i : Nat) : (part l i).length ≤ 123 := by rw [part_length]; omega
theorem part_mem {l : List Int} {i : Nat} {x : Int} (h : x ∈ part l i) : x ∈ l := List.mem_of_mem_drop (List.mem_of_mem_take h)
theorem part_take (l : List Int) (i : Nat) : l.take (123 * i) ++ part l i = l.take (123 * (i + 1)) := by
  rw [show 123 * (i + 1) = 123 * i + 123 by omega, List.take_add]
  rfl
theorem bodiesE_cases (l p : List Int) : bodiesE l p = 0 ∨ bodiesE l p = 1 := by unfold bodiesE; split <;> simp
theorem bodiesE_zero {l p : List Int} (h : bodiesE l p = 0) : ris 1 l = true ∧ onD p = true ∧ l.length ≤ 123 * p.length := by
  unfold bodiesE at h
  split at h
  · assumption
  · omega
theorem bodiesL_ok {l p : List Int} (h : bodiesE l p = 0) : bodiesL l p = (List.range p.length).map (bodyAt l p) := by unfold bodiesL; rw [if_pos h]
theorem bodiesL_no {l p : List Int} (h : ¬ bodiesE l p = 0) : bodiesL l p = [] := by unfold bodiesL; rw [if_neg h]
theorem onD_ge {p : List Int} (h : onD p = true) {x : Int} (hx : x ∈ p) : 2 ≤ x := by
  have := List.all_eq_true.1 h x hx
  simpa using this
theorem nextOf_rng {p : List Int} (hp : ∀ x ∈ p, 0 ≤ x ∧ x < 4294967296) (i : Nat) : 0 ≤ nextOf p i ∧ nextOf p i < 4294967296 := by
  unfold nextOf
  by_cases h : i + 1 < p.length
  · rw [List.getD_eq_getElem?_getD, List.getElem?_eq_getElem h]
    exact hp _ (List.getElem_mem h)
  · rw [List.getD_eq_getElem?_getD, List.getElem?_eq_none (by omega)]
    simp
theorem nextOf_ge {p : List Int} (h : onD p = true) {i : Nat} (hi : i + 1 < p.length) : 2 ≤ nextOf p i := by
  unfold nextOf
  rw [List.getD_eq_getElem?_getD, List.getElem?_eq_getElem hi]
  exact onD_ge h (List.getElem_mem hi)
theorem nextOf_last {p : List Int} {i : Nat} (hi : ¬ i + 1 < p.length) : nextOf p i = 0 := by
  unfold nextOf
  rw [List.getD_eq_getElem?_getD, List.getElem?_eq_none (by omega)]
  rfl
theorem back {l p : List Int} (h : bodiesE l p = 0) (hl : ∀ x ∈ l, 0 ≤ x ∧ x < 4294967296) (hp : ∀ x ∈ p, 0 ≤ x ∧ x < 4294967296) (i : Nat) :
    parseE (bodyAt l p i) = 0 ∧ parseN (bodyAt l p i) = nextOf p i ∧ parseL (bodyAt l p i) = part l i := by
  obtain ⟨h1, h2, h3⟩ := bodiesE_zero h
  have hr := nextOf_rng hp i
  refine parse_body _ _ hr.1 hr.2 ?_ (fun x hx => hl x (part_mem hx)) (ris_part h1 i) (part_le l i)
  by_cases hi : i + 1 < p.length
  · have := nextOf_ge h2 hi
    omega
  · rw [nextOf_last hi]
    omega
theorem again {b : List UInt8} (h : parseE b = 0) (p : List Int) (hp : p = if parseN b = 0 then [5] else [5, parseN b]) :
    bodiesE (parseL b) p = 0 ∧ bodyAt (parseL b) p 0 = b ∧ p.length ≤ 2 ∧ 1 ≤ p.length := by
  obtain ⟨h1, h2, h3, h4, h5, h6⟩ := body_parse b h
  have hpart : part (parseL b) 0 = parseL b := by
    unfold part
    rw [Nat.mul_zero, List.drop_zero, List.take_of_length_le h3]
  by_cases hn : parseN b = 0
  · rw [if_pos hn] at hp
    subst hp
    refine ⟨?_, ?_, by simp, by simp⟩
    · unfold bodiesE
      rw [if_pos ⟨h2, by decide, by simp; omega⟩]
    · unfold bodyAt
      rw [hpart, show nextOf [5] 0 = 0 from rfl, ← hn]
      exact h1
  · rw [if_neg hn] at hp
    subst hp
    refine ⟨?_, ?_, by simp, by simp⟩
    · unfold bodiesE
      rw [if_pos ⟨h2, by simp [onD]; omega, by simp; omega⟩]
    · unfold bodyAt
      rw [hpart, show nextOf [5, parseN b] 0 = parseN b from rfl]
      exact h1
theorem need_law (z : Int) (h : z ≤ 100000) : (z < 1 ∧ needZ z = 0) ∨ (1 ≤ z ∧ 1 ≤ needZ z ∧ needZ z ≤ 1000 ∧ 123 * needZ z ≥ z - needZ z ∧ 123 * (needZ z - 1) < z - (needZ z - 1)) := by
  unfold needZ
  split
  · exact .inl ⟨by assumption, rfl⟩
  · exact .inr (by omega)
end L
end Go.Proofs.YtlcnefeikejcaaaGreatDoor
namespace Go.Proofs.YtlcnefeikejcaaaGreatDoor
open Go.RowKit
theorem need_any (z : Int) (h : z ≤ 100000) (w : World) : Calls Tryz.prog 150 #[.int .i64 z] w fun e w' => e = .returned (.int .i64 (L.needZ z)) ∧ w = w' := by
  by_cases hz : z < 1
  · have e : L.needZ z = 0 := by unfold L.needZ; rw [if_pos hz]
    rw [e]
    go_enter Tryz.func150, Tryz.ntmps150
    go_wp2
    go_ret
    exact ⟨rfl, rfl⟩
  · obtain ⟨q, hq⟩ : ∃ q, q = (z - 1) / 124 := ⟨_, rfl⟩
    have e : L.needZ z = q + 1 := by unfold L.needZ; rw [if_neg hz, hq]
    have hq2 : (z - 1).tdiv 124 = q := by rw [Int.tdiv_eq_ediv_of_nonneg (by omega), hq]
    have hq0 : 0 ≤ q ∧ q ≤ 1000 := by omega
    rw [e]
    clear e hq
    go_enter Tryz.func150, Tryz.ntmps150
    go_wp2
    go_ret
    exact ⟨rfl, rfl⟩
theorem ris_step {l : List Int} {i : Nat} (hi : i < l.length) (a : Int) : L.ris a (l.drop i) = (decide (a < l[i]!) && L.ris l[i]! (l.drop (i + 1))) := by
  rw [List.drop_eq_getElem_cons hi, getElem!_pos l i hi]
  rfl
set_option maxHeartbeats 1600000 in
theorem rising_core (w : World) (A : Option Addr) (n c : Nat) (l : List Int) (R : Bool) (hn : n ≤ 9223372036854775807) (hl : l.length = n) (HR : Hid (L.ris 1 l = R))
    (H : Hid (0 < n → ∃ b off, A = some ⟨b, off, none⟩ ∧ ∀ j, j < n → w.cell? ⟨b, off + j, none⟩ = some (.int .u32 l[j]!))) :
    Calls Tryz.prog 160 #[.slice A n c] w fun e w' => e = .returned (.bool R) ∧ w = w' := by
  have HL := Lib.hid hl
  clear hl
  go_enter Tryz.func160, Tryz.ntmps160
  go_wp2
  go_loopg [3, 8] n (fun k s3 s8 wr => ∃ (i : Nat) (a : Int), s3 = .int .u32 a ∧ s8 = .int .i64 i ∧ i ≤ n ∧ n - i ≤ k ∧ w = wr ∧ Hid (L.ris a (l.drop i) = R))
  case atStart => exact ⟨0, 1, rfl, rfl, by omega, by omega, rfl, HR⟩
  case round =>
    obtain ⟨i, a, rfl, rfl, h1, h2, rfl, HI⟩ := hrel
    by_cases hi : i < n
    · have hz : (i : Int) < (n : Int) := by omega
      obtain ⟨b, off, rfl, hcell⟩ := H.out (by omega)
      have c0 := hcell i hi
      have HS := Lib.hid (ris_step (l := l) (i := i) (by rw [HL.out]; exact hi) a)
      generalize l[i]! = y at *
      clear hcell
      by_cases hxy : a < y
      · have hz3 : ¬ y ≤ a := by omega
        go_wp2
        go_roundg (n - (i + 1))
        case measure => omega
        case rel =>
          refine ⟨i + 1, y, rfl, by simp, by omega, by omega, rfl, ?_⟩
          have := HI.out
          rw [HS.out] at this
          refine Lib.hid ?_
          simpa [hxy] using this
      · have hz3 : y ≤ a := by omega
        have HD := Lib.hid (decide_eq_false hxy)
        clear hxy
        go_wp2
        go_ret
        refine ⟨?_, rfl⟩
        have := HI.out
        rw [HS.out, HD.out] at this
        rw [← this]
        rfl
    · have hz : ¬ (i : Int) < (n : Int) := by omega
      go_wp2
      go_ret
      refine ⟨?_, rfl⟩
      have := HI.out
      rw [List.drop_eq_nil_of_le (by rw [HL.out]; omega)] at this
      rw [← this]
      rfl
theorem rising_any (w : World) (v : Value) (l : List Int) (h : Nums w v l) : Calls Tryz.prog 160 #[v] w fun e w' => e = .returned (.bool (L.ris 1 l)) ∧ w = w' := by
  obtain ⟨A, c, rfl, hc, hm, h⟩ := h
  unfold maxLen at hm
  exact rising_core w A l.length c l _ (by omega) rfl (Lib.hid rfl) (Lib.hid h)
theorem ond_step {l : List Int} {i : Nat} (hi : i < l.length) : L.onD (l.drop i) = (decide (2 ≤ l[i]!) && L.onD (l.drop (i + 1))) := by
  rw [List.drop_eq_getElem_cons hi, getElem!_pos l i hi]
  rfl
set_option maxHeartbeats 1600000 in
theorem ondisk_core (w : World) (A : Option Addr) (n c : Nat) (l : List Int) (R : Bool) (hn : n ≤ 9223372036854775807) (hl : l.length = n) (HR : Hid (L.onD l = R))
    (H : Hid (0 < n → ∃ b off, A = some ⟨b, off, none⟩ ∧ ∀ j, j < n → w.cell? ⟨b, off + j, none⟩ = some (.int .u32 l[j]!))) :
    Calls Tryz.prog 175 #[.slice A n c] w fun e w' => e = .returned (.bool R) ∧ w = w' := by
  have HL := Lib.hid hl
  clear hl
  go_enter Tryz.func175, Tryz.ntmps175
  go_wp2
  go_loopg [7] n (fun k s8 wr => ∃ (i : Nat), s8 = .int .i64 i ∧ i ≤ n ∧ n - i ≤ k ∧ w = wr ∧ Hid (L.onD (l.drop i) = R))
  case atStart => exact ⟨0, rfl, by omega, by omega, rfl, HR⟩
  case round =>
    obtain ⟨i, rfl, h1, h2, rfl, HI⟩ := hrel
    by_cases hi : i < n
    · have hz : (i : Int) < (n : Int) := by omega
      obtain ⟨b, off, rfl, hcell⟩ := H.out (by omega)
      have c0 := hcell i hi
      have HS := Lib.hid (ond_step (l := l) (i := i) (by rw [HL.out]; exact hi))
      generalize l[i]! = y at *
      clear hcell
      by_cases hxy : 2 ≤ y
      · have hz3 : ¬ y < 2 := by omega
        go_wp2
        go_roundg (n - (i + 1))
        case measure => omega
        case rel =>
          refine ⟨i + 1, by simp, by omega, by omega, rfl, ?_⟩
          have := HI.out
          rw [HS.out] at this
          refine Lib.hid ?_
          simpa [hxy] using this
      · have hz3 : y < 2 := by omega
        have HD := Lib.hid (decide_eq_false hxy)
        clear hxy
        go_wp2
        go_ret
        refine ⟨?_, rfl⟩
        have := HI.out
        rw [HS.out, HD.out] at this
        rw [← this]
        rfl
    · have hz : ¬ (i : Int) < (n : Int) := by omega
      go_wp2
      go_ret
      refine ⟨?_, rfl⟩
      have := HI.out
      rw [List.drop_eq_nil_of_le (by rw [HL.out]; omega)] at this
      rw [← this]
      rfl
theorem ondisk_any (w : World) (v : Value) (l : List Int) (h : Nums w v l) : Calls Tryz.prog 175 #[v] w fun e w' => e = .returned (.bool (L.onD l)) ∧ w = w' := by
  obtain ⟨A, c, rfl, hc, hm, h⟩ := h
  unfold maxLen at hm
  exact ondisk_core w A l.length c l _ (by omega) rfl (Lib.hid rfl) (Lib.hid h)
theorem getD_get! (l : List Int) (i : Nat) (h : i < l.length) : l.getD i 0 = l[i]! := by
  rw [getElem!_pos l i h]
  simp [List.getD, h]
theorem behind_any (w : World) (v : Value) (p : List Int) (i : Nat) (h : Nums w v p) (hi : i < p.length) : Calls Tryz.prog 178 #[v, .int .i64 (i : Int)] w fun e w' => e = .returned (.int .u32 (L.nextOf p i)) ∧ w = w' := by
  obtain ⟨A, c, rfl, hc, hm, h⟩ := h
  unfold maxLen at hm
  by_cases hl : i + 1 = p.length
  · have e : L.nextOf p i = 0 := L.nextOf_last (by omega)
    have hz : ((i : Int) + 1 == (p.length : Int)) = true := by rw [beq_iff_eq]; omega
    have hw : (i : Int) + 1 ≤ 9223372036854775807 := by omega
    rw [e]
    generalize p.length = n at *
    go_enter Tryz.func178, Tryz.ntmps178
    go_wp2
    go_ret
    exact ⟨rfl, rfl⟩
  · obtain ⟨b, off, rfl, hcell⟩ := h (by omega)
    have c0 := hcell (i + 1) (by omega)
    have e : L.nextOf p i = p[i + 1]! := getD_get! p (i + 1) (by omega)
    rw [e]
    have hz : ((i : Int) + 1 == (p.length : Int)) = false := by rw [beq_eq_false_iff_ne]; omega
    have hw : (i : Int) + 1 ≤ 9223372036854775807 := by omega
    have hlt : (i : Int) + 1 < (p.length : Int) := by omega
    generalize p[i + 1]! = y at *
    clear hcell
    generalize p.length = n at *
    go_enter Tryz.func178, Tryz.ntmps178
    go_wp2
    go_ret
    exact ⟨rfl, rfl⟩
end Go.Proofs.YtlcnefeikejcaaaGreatDoor
namespace Go.Proofs.YtlcnefeikejcaaaGreatDoor
open Go.RowKit
def valL (l : List UInt8) : Nat := l.foldl (fun a c => a * 256 + c.toNat) 0
theorem ofInt_u32 (x : Nat) (hx : x < 4294967296) : (BitVec.ofInt 32 (x : Int)).toNat = x := by
  rw [BitVec.toNat_ofInt]
  omega
theorem or_u32 (k x y : Nat) (hy : y < 2 ^ k) (hx : 2 ^ k * x + y < 4294967296) : bits .or .u32 ((2 ^ k * x : Nat) : Int) (y : Int) = ((2 ^ k * x + y : Nat) : Int) := by
  have e : 2 ^ k * x ||| y = 2 ^ k * x + y := (Nat.two_pow_add_eq_or_of_lt hy x).symm
  show IntKind.u32.wrap ((BitVec.ofInt 32 ((2 ^ k * x : Nat) : Int) ||| BitVec.ofInt 32 ((y : Nat) : Int)).toNat : Int) = _
  have a1 : 2 ^ k * x < 4294967296 := Nat.lt_of_le_of_lt (Nat.le_add_right _ _) hx
  have a2 : y < 4294967296 := Nat.lt_of_le_of_lt (Nat.le_add_left _ _) hx
  rw [BitVec.toNat_or, ofInt_u32 _ a1, ofInt_u32 y a2, e]
  generalize 2 ^ k * x + y = z at *
  simp [IntKind.wrap, IntKind.bits, IntKind.signed]
  omega
theorem or_parts (x0 x1 x2 x3 : Nat) (h0 : x0 < 256) (h1 : x1 < 256) (h2 : x2 < 256) (h3 : x3 < 256) : ∃ y1 y2 y3 : Nat, bits .or .u32 ((x0 : Int) * 16777216) ((x1 : Int) * 65536) = (y1 : Int) ∧ bits .or .u32 (y1 : Int) ((x2 : Int) * 256) = (y2 : Int) ∧ bits .or .u32 (y2 : Int) (x3 : Int) = (y3 : Int) ∧
    y3 = x0 * 16777216 + x1 * 65536 + x2 * 256 + x3 := by
  refine ⟨x0 * 16777216 + x1 * 65536, x0 * 16777216 + x1 * 65536 + x2 * 256, x0 * 16777216 + x1 * 65536 + x2 * 256 + x3, ?_, ?_, ?_, rfl⟩
  · have := or_u32 24 x0 (x1 * 65536) (by omega) (by omega)
    have e1 : ((2 ^ 24 * x0 : Nat) : Int) = (x0 : Int) * 16777216 := by omega
    have e2 : ((x1 * 65536 : Nat) : Int) = (x1 : Int) * 65536 := by omega
    rw [e1, e2] at this
    rw [this]
    omega
  · have := or_u32 16 (x0 * 256 + x1) (x2 * 256) (by omega) (by omega)
    have e1 : ((2 ^ 16 * (x0 * 256 + x1) : Nat) : Int) = ((x0 * 16777216 + x1 * 65536 : Nat) : Int) := by omega
    have e2 : ((x2 * 256 : Nat) : Int) = (x2 : Int) * 256 := by omega
    rw [e1, e2] at this
    rw [this]
    omega
  · have := or_u32 8 (x0 * 65536 + x1 * 256 + x2) x3 (by omega) (by omega)
    have e1 : ((2 ^ 8 * (x0 * 65536 + x1 * 256 + x2) : Nat) : Int) = ((x0 * 16777216 + x1 * 65536 + x2 * 256 : Nat) : Int) := by omega
    rw [e1] at this
    rw [this]
    omega
theorem numAt_drop (b : List UInt8) (k : Nat) : L.numAt (b.drop k) 0 = L.numAt b k := by
  unfold L.numAt
  simp [List.getD]
theorem readfour_any (v : Value) (l : List UInt8) (w : World) (h : Byts w v l) (hl : 4 ≤ l.length) :
    Calls Tryz.prog 159 #[v] w fun e w' => e = .returned (.int .u32 ((L.numAt l 0 : Nat) : Int)) ∧ Below w.heap.size w w' := by
  obtain ⟨A, c, rfl, hc, h⟩ := h
  obtain ⟨b, off, rfl, hcell⟩ := h (by omega)
  have cell : ∀ j, j < 4 → w.cell? ⟨b, off + j, none⟩ = some (.int .u8 (((l.getD j 0).toNat : Nat) : Int)) := fun j hj => by
    rw [hcell j (by omega)]
    simp [List.getD, show j < l.length by omega]
  have c0 := cell 0 (by omega)
  rw [Nat.add_zero] at c0
  have c1 := cell 1 (by omega)
  have c2 := cell 2 (by omega)
  have c3 := cell 3 (by omega)
  have e : L.numAt l 0 = (l.getD 0 0).toNat * 16777216 + (l.getD 1 0).toNat * 65536 + (l.getD 2 0).toNat * 256 + (l.getD 3 0).toNat := rfl
  clear cell hcell h
  rw [e]
  have h0 := C.u8_lt (l.getD 0 0)
  have h1 := C.u8_lt (l.getD 1 0)
  have h2 := C.u8_lt (l.getD 2 0)
  have h3 := C.u8_lt (l.getD 3 0)
  generalize (l.getD 0 0).toNat = x0 at *
  generalize (l.getD 1 0).toNat = x1 at *
  generalize (l.getD 2 0).toNat = x2 at *
  generalize (l.getD 3 0).toNat = x3 at *
  obtain ⟨y1, y2, y3, o1, o2, o3, ey⟩ := or_parts x0 x1 x2 x3 h0 h1 h2 h3
  rw [← ey]
  clear ey e
  have l1 : (1 : Int) < (l.length : Int) := by omega
  have l2 : (2 : Int) < (l.length : Int) := by omega
  have l3 : (3 : Int) < (l.length : Int) := by omega
  have l0 : (0 : Int) < (l.length : Int) := by omega
  have k0 : 0 < l.length := by omega
  have k1 : 1 < l.length := by omega
  have k2 : 2 < l.length := by omega
  have k3 : 3 < l.length := by omega
  generalize l.length = n at *
  go_enter Tryz.func159, Tryz.ntmps159
  go_wp2
  go_quiet (fail)
  go_wp2
  go_ret
  exact ⟨rfl, bdn (Below.refl _ _) _⟩
end Go.Proofs.YtlcnefeikejcaaaGreatDoor
namespace Go.Proofs.YtlcnefeikejcaaaGreatDoor
open Go.RowKit
open G (four two)
def Bk (w : World) (g : Nat) (l : List UInt8) : Prop := w.heap[g]? = some (.cells (bvs l).toArray 5 (0, 0)) ∧ l.length ≤ 1000000
theorem Bk.lt {w : World} {g : Nat} {l : List UInt8} (h : Bk w g l) : g < w.heap.size := (Array.getElem?_eq_some_iff.1 h.1).1
theorem Bk.below {w w1 : World} {g : Nat} {l : List UInt8} (h : Bk w g l) (hb : Below w.heap.size w w1) : Bk w1 g l := ⟨(hb.block g h.lt).trans h.1, h.2⟩
theorem Bk.own {w : World} {g : Nat} {l : List UInt8} (h : Bk w g l) (base : Nat) (hb : base ≤ g) : w.ownsRow base 5 1 (.slice (some ⟨g, 0, none⟩) l.length l.length) l.length (bvs l) :=
  own_of h.1 hb (bvs_length l) (by have := h.2; unfold maxLen; omega)
theorem Bk.of_own {w : World} {base g n : Nat} {l : List UInt8} (hl : l.length = n) (hm : n ≤ 1000000) (h : w.ownsRow base 5 1 (.slice (some ⟨g, 0, none⟩) n n) n (bvs l)) : Bk w g l := ⟨own_heap h, by omega⟩
theorem Bk.cell {w : World} {g : Nat} {l : List UInt8} (h : Bk w g l) (j : Nat) (hj : j < l.length) : w.cell? ⟨g, j, none⟩ = some (.int .u8 (((l.getD j 0).toNat : Nat) : Int)) := by
  rw [(h.own 0 (Nat.zero_le _)).cellAt j (by omega), bvs_get l j hj]
  simp [List.getD, hj]
theorem Bk.frozen {w : World} {g : Nat} {l : List UInt8} (h : Bk w g l) (j : Nat) : w.frozen? ⟨g, j, none⟩ = false := (h.own 0 (Nat.zero_le _)).frozenAt j
theorem Bk.set {w : World} {g : Nat} {l : List UInt8} (h : Bk w g l) (p : Nat) (x : UInt8) : Bk (w.setCell ⟨g, p, none⟩ (.int .u8 ((x.toNat : Nat) : Int))) g (l.set p x) := by
  have q := ((h.own 0 (Nat.zero_le _)).stored p (.int .u8 ((x.toNat : Nat) : Int))).1
  rw [← bvs_set] at q
  exact Bk.of_own (by simp) h.2 q
theorem Bk.byts {w : World} {g : Nat} {l : List UInt8} (h : Bk w g l) : Byts w (.slice (some ⟨g, 0, none⟩) l.length l.length) l := Byts.own (h.own 0 (Nat.zero_le _))
def lay4 (l : List UInt8) (f n : Nat) : List UInt8 := (((l.set f (UInt8.ofNat (n / 16777216))).set (f + 1) (UInt8.ofNat (n / 65536))).set (f + 2) (UInt8.ofNat (n / 256))).set (f + 3) (UInt8.ofNat n)
theorem lay4_length (l : List UInt8) (f n : Nat) : (lay4 l f n).length = l.length := by simp [lay4]
theorem lay4_mid (u r : List UInt8) (a b c d : UInt8) (n : Nat) : lay4 (u ++ (a :: b :: c :: d :: r)) u.length n = u ++ (four n ++ r) := by
  unfold lay4
  have e : ∀ (j : Nat) (t : List UInt8) (x : UInt8), (u ++ t).set (u.length + j) x = u ++ t.set j x := fun j t x => by
    rw [List.set_append_right _ _ (by omega), Nat.add_sub_cancel_left]
  have e0 := fun t x => e 0 t x
  simp only [Nat.add_zero] at e0
  rw [e0, e, e, e]
  rfl
theorem u8_val (n k : Nat) : (n : Int) / (k : Int) % 256 = (((UInt8.ofNat (n / k)).toNat : Nat) : Int) := by
  rw [UInt8.toNat_ofNat']
  omega
set_option maxHeartbeats 1600000 in
theorem layfour_any (w : World) (g f n : Nat) (l : List UInt8) (hn : n < 4294967296) (hf : f + 4 ≤ l.length) (h : Bk w g l) :
    Calls Tryz.prog 182 #[.slice (some ⟨g, f, none⟩) (l.length - f) (l.length - f), .int .u32 (n : Int)] w fun e w' => e = .returned (.tuple #[]) ∧ Bk w' g (lay4 l f n) ∧ ∀ B, B ≤ g → Below B w w' := by
  have HB := Lib.hid h
  have a0 := h.cell f (by omega)
  have a1 := h.cell (f + 1) (by omega)
  have a2 := h.cell (f + 2) (by omega)
  have a3 := h.cell (f + 3) (by omega)
  have f0 := h.frozen f
  have f1 := h.frozen (f + 1)
  have f2 := h.frozen (f + 2)
  have f3 := h.frozen (f + 3)
  have q0 := u8_val n 16777216
  have q1 := u8_val n 65536
  have q2 := u8_val n 256
  have q3 := u8_val n 1
  have k0 : 0 < l.length - f := by omega
  have k1 : 1 < l.length - f := by omega
  have k2 : 2 < l.length - f := by omega
  have k3 : 3 < l.length - f := by omega
  clear h
  generalize l.length - f = m at *
  generalize (l.getD f 0).toNat = y0 at *
  generalize (l.getD (f + 1) 0).toNat = y1 at *
  generalize (l.getD (f + 2) 0).toNat = y2 at *
  generalize (l.getD (f + 3) 0).toNat = y3 at *
  go_enter Tryz.func182, Tryz.ntmps182
  go_wp2
  go_end0
  have e0 : (n : Int) / 16777216 = (((UInt8.ofNat (n / 16777216)).toNat : Nat) : Int) := by rw [UInt8.toNat_ofNat']; omega
  have e1 : (n : Int) / 65536 % 256 = (((UInt8.ofNat (n / 65536)).toNat : Nat) : Int) := by rw [UInt8.toNat_ofNat']; omega
  have e2 : (n : Int) / 256 % 256 = (((UInt8.ofNat (n / 256)).toNat : Nat) : Int) := by rw [UInt8.toNat_ofNat']; omega
  have e3 : (n : Int) % 256 = (((UInt8.ofNat n).toNat : Nat) : Int) := by rw [UInt8.toNat_ofNat']; omega
  rw [e0, e1, e2, e3]
  exact ⟨rfl, (((HB.out.set _ _).set _ _).set _ _).set _ _, fun B hB => ((((Below.refl B w).setCell hB _).setCell hB _).setCell hB _).setCell hB _⟩
def bodyTo (nx : Int) (q : List Int) (i : Nat) : List UInt8 := (four nx.toNat ++ (two q.length ++ (q.take i).flatMap (fun x => four x.toNat))) ++ List.replicate (4 * (q.length - i)) 0
theorem bodyTo_length (nx : Int) (q : List Int) (i : Nat) (h : i ≤ q.length) : (bodyTo nx q i).length = 6 + 4 * q.length := by
  simp only [bodyTo, List.length_append, G.four_length, G.two_length, L.flat_length, List.length_replicate, List.length_take]
  omega
theorem bodyTo_all (nx : Int) (q : List Int) : bodyTo nx q q.length = L.bodyL nx q := by
  unfold bodyTo L.bodyL
  rw [List.take_length, Nat.sub_self]
  simp
theorem bodyTo_next (nx : Int) (q : List Int) (i : Nat) (h : i < q.length) : lay4 (bodyTo nx q i) (6 + 4 * i) (q[i]!).toNat = bodyTo nx q (i + 1) := by
  have el : (four nx.toNat ++ (two q.length ++ (q.take i).flatMap (fun x => four x.toNat))).length = 6 + 4 * i := by
    simp only [List.length_append, G.four_length, G.two_length, L.flat_length, List.length_take]
    omega
  have ez : List.replicate (4 * (q.length - i)) (0 : UInt8) = 0 :: 0 :: 0 :: 0 :: List.replicate (4 * (q.length - (i + 1))) 0 := by
    rw [show 4 * (q.length - i) = 4 * (q.length - (i + 1)) + 1 + 1 + 1 + 1 by omega]
    rfl
  unfold bodyTo
  rw [ez, ← el, lay4_mid]
  have et : q.take (i + 1) = q.take i ++ [q[i]!] := by rw [List.take_succ_eq_append_getElem h, getElem!_pos q i h]
  rw [et, List.flatMap_append]
  simp
theorem bodyTo_zero (nx : Int) (q : List Int) : ((lay4 (List.replicate (6 + 4 * q.length) 0) 0 nx.toNat).set 4 (UInt8.ofNat (q.length / 256))).set 5 (UInt8.ofNat q.length) = bodyTo nx q 0 := by
  have ez : List.replicate (6 + 4 * q.length) (0 : UInt8) = 0 :: 0 :: 0 :: 0 :: 0 :: 0 :: List.replicate (4 * q.length) 0 := by
    rw [show 6 + 4 * q.length = 4 * q.length + 1 + 1 + 1 + 1 + 1 + 1 by omega]
    rfl
  have e := lay4_mid [] (0 :: 0 :: List.replicate (4 * q.length) 0) 0 0 0 0 nx.toNat
  simp only [List.nil_append, List.length_nil] at e
  rw [ez, e]
  unfold bodyTo
  simp [four, two]
set_option maxRecDepth 100000 in
theorem run_from8 (g N f : Nat) (z : Int) (hz : z = (f : Int)) (hf : f < N) (W : World) : (Instr.slice 48 (.slice (some ⟨g, 0, none⟩) N N) (some (.int .i64 z)) none none).run Tryz.prog W = .ok (.slice (some ⟨g, f, none⟩) (N - f) (N - f)) W := by
  subst hz
  rw [run_slice_l (w := W) 48 (some ⟨g, 0, none⟩) N N Tryz.underlying48 .i64 (f : Int) (by omega) (by omega)]
  have e : (sizeOf (Tryz.prog.elem 48)).run Tryz.prog W = .ok 1 W := by kernel_rfl
  rw [e]
  simp only [Result.andThen, sliced, Int.toNat_natCast, Nat.mul_one]
  rw [if_neg (by omega)]
  simp [Addr.add]
  omega
theorem layfour_at (w : World) (g f n m : Nat) (l : List UInt8) (hn : n < 4294967296) (hm : l.length - f = m) (hf : 4 ≤ m) (h : Bk w g l) :
    Calls Tryz.prog 182 #[.slice (some ⟨g, f, none⟩) m m, .int .u32 (n : Int)] w fun e w' => e = .returned (.tuple #[]) ∧ Bk w' g (lay4 l f n) ∧ ∀ B, B ≤ g → Below B w w' := by
  subst hm
  exact layfour_any w g f n l hn (by omega) h
set_option maxHeartbeats 1600000 in
theorem bodyof_core (w : World) (nx n c : Nat) (A : Option Addr) (q : List Int) (hn : nx < 4294967296) (hm : n ≤ 200000) (HL : Hid (q.length = n))
    (H : Hid (0 < n → ∃ b off, A = some ⟨b, off, none⟩ ∧ ∀ j, j < n → ∃ x : Nat, x < 4294967296 ∧ q[j]! = (x : Int) ∧ w.cell? ⟨b, off + j, none⟩ = some (.int .u32 (x : Int)))) :
    Calls Tryz.prog 177 #[.int .u32 (nx : Int), .slice A n c] w fun e w' => e = .returned (.slice (some ⟨w.heap.size, 0, none⟩) (6 + 4 * n) (6 + 4 * n)) ∧ Bk w' w.heap.size (L.bodyL (nx : Int) q) ∧ Below w.heap.size w w' := by
  obtain ⟨i0, hi0, hz0, hz1, hz2⟩ := info_parts Tryz.info5
  go_enter Tryz.func177, Tryz.ntmps177
  go_wp2_with (first
    | (refine wpList_make_full _ rfl _ _ 48 rfl w.heap.size 5 i0 _ 1 Tryz.underlying48 hi0 hz0 hz1 _ _ _ _ (6 + 4 * n) rfl rfl ?l1 ?l2 ?l3 ?l4 ?l5 ?_)
    | go_in)
  case l1 => go_num
  case l2 => go_num
  case l3 => rw [hz2]; omega
  case l4 => unfold maxLen; omega
  case l5 => exact Nat.le_refl _
  intro w1 hown hgrow
  rw [made_zeros] at hown
  have hb1 : Hid (Bk w1 w.heap.size (List.replicate (6 + 4 * n) 0)) := Bk.of_own (by simp) (by omega) hown
  have hB1 : Hid (Below w.heap.size w w1) := (Below.refl _ _).grown hgrow (Nat.le_refl _) (by intro g hg; cases hg)
  clear hown hgrow i0 hi0 hz0 hz1 hz2
  go_wp2_with fail
  refine (layfour_at w1 w.heap.size 0 nx (6 + 4 * n) _ hn (by simp) (by omega) hb1.out).mono ?_
  rintro e w2 ⟨rfl, hb2, hB2⟩
  have HB2 := Lib.hid hb2
  have B2 : Hid (Below w.heap.size w w2) := hB1.out.trans (hB2 _ (Nat.le_refl _))
  have a4 := hb2.cell 4 (by simp [lay4_length]; omega)
  have a5 := hb2.cell 5 (by simp [lay4_length]; omega)
  have f4 := hb2.frozen 4
  have f5 := hb2.frozen 5
  clear hb1 hB1 hb2 hB2
  generalize ((lay4 (List.replicate (6 + 4 * n) 0) 0 nx).getD 4 0).toNat = y4 at a4
  generalize ((lay4 (List.replicate (6 + 4 * n) 0) 0 nx).getD 5 0).toNat = y5 at a5
  have k4 : 4 < 6 + 4 * n := by omega
  have k5 : 5 < 6 + 4 * n := by omega
  go_wp2_with fail
  have HC : Hid (Bk ((w2.setCell ⟨w.heap.size, 4, none⟩ (.int .u8 ((n : Int) / 256 % 256))).setCell ⟨w.heap.size, 5, none⟩ (.int .u8 ((n : Int) % 256))) w.heap.size (bodyTo (nx : Int) q 0)) := by
    have q1 : (n : Int) / 256 % 256 = (((UInt8.ofNat (n / 256)).toNat : Nat) : Int) := by rw [UInt8.toNat_ofNat']; omega
    have q2 : (n : Int) % 256 = (((UInt8.ofNat n).toNat : Nat) : Int) := by rw [UInt8.toNat_ofNat']; omega
    have e := bodyTo_zero (nx : Int) q
    rw [HL.out, Int.toNat_natCast] at e
    rw [← e, q1, q2]
    exact (HB2.out.set _ _).set _ _
  have HD : Hid (Below w.heap.size w ((w2.setCell ⟨w.heap.size, 4, none⟩ (.int .u8 ((n : Int) / 256 % 256))).setCell ⟨w.heap.size, 5, none⟩ (.int .u8 ((n : Int) % 256)))) := (B2.out.setCell (p := ⟨w.heap.size, 4, none⟩) (Nat.le_refl _) _).setCell (p := ⟨w.heap.size, 5, none⟩) (Nat.le_refl _) _
  clear HB2 B2 a4 a5 f4 f5 k4 k5
  generalize (w2.setCell ⟨w.heap.size, 4, none⟩ (.int .u8 ((n : Int) / 256 % 256))).setCell ⟨w.heap.size, 5, none⟩ (.int .u8 ((n : Int) % 256)) = w3 at *
  go_loopg [30] n (fun k s wr => ∃ (i : Nat), s = .int .i64 i ∧ i ≤ n ∧ n - i ≤ k ∧ Hid (Below w.heap.size w wr) ∧ Hid (Bk wr w.heap.size (bodyTo (nx : Int) q i)))
  case atStart => exact ⟨0, rfl, by omega, by omega, HD, HC⟩
  case round =>
    obtain ⟨i, rfl, h1, h2, HB, HK⟩ := hrel
    by_cases hi : i < n
    · have hz : (i : Int) < (n : Int) := by omega
      obtain ⟨b, off, rfl, hcell⟩ := H.out (by omega)
      obtain ⟨x, hx, ex, c0⟩ := hcell i hi
      replace c0 := kept c0 HB.out
      have hcut := run_from8 w.heap.size (6 + 4 * n) (6 + 4 * i) (6 + 4 * (i : Int)) (by omega) (by omega)
      have el : 6 + 4 * n - (6 + 4 * i) = 4 * (n - i) := by omega
      rw [el] at hcut
      have HX := Lib.hid ex
      clear hcell el ex
      go_wp2_with fail
      refine (layfour_at wr w.heap.size (6 + 4 * i) x (4 * (n - i)) _ hx (by rw [bodyTo_length _ _ _ (by rw [HL.out]; exact h1), HL.out]; omega) (by omega) HK.out).mono ?_
      rintro e w4 ⟨rfl, hb4, hB4⟩
      have HK4 : Hid (Bk w4 w.heap.size (bodyTo (nx : Int) q (i + 1))) := by
        have := bodyTo_next (nx : Int) q i (by rw [HL.out]; exact hi)
        rw [HX.out, Int.toNat_natCast] at this
        rw [← this]
        exact hb4
      have HB4 : Hid (Below w.heap.size w w4) := HB.out.trans (hB4 _ (Nat.le_refl _))
      clear hb4 hB4
      go_wp2
      go_roundg (n - (i + 1))
      case measure => omega
      case rel => exact ⟨i + 1, by simp, by omega, by omega, HB4, HK4⟩
    · have hz : ¬ (i : Int) < (n : Int) := by omega
      obtain rfl : i = n := by omega
      go_wp2
      go_ret
      have := HK.out
      have e := bodyTo_all (nx : Int) q
      rw [HL.out] at e
      rw [e] at this
      exact ⟨rfl, this, HB.out⟩
def Rg (l : List Int) : Prop := ∀ x ∈ l, 0 ≤ x ∧ x < 4294967296
theorem Rg.at {l : List Int} (h : Rg l) (j : Nat) (hj : j < l.length) : ∃ x : Nat, x < 4294967296 ∧ l[j]! = (x : Int) := by
  have := h l[j] (List.getElem_mem hj)
  rw [← getElem!_pos l j hj] at this
  exact ⟨l[j]!.toNat, by omega, by omega⟩
theorem bodyof_any (w : World) (v : Value) (nx : Int) (q : List Int) (h : Nums w v q) (hq : Rg q) (hn0 : 0 ≤ nx) (hn : nx < 4294967296) (hm : q.length ≤ 200000) :
    Calls Tryz.prog 177 #[.int .u32 nx, v] w fun e w' => e = .returned (.slice (some ⟨w.heap.size, 0, none⟩) (6 + 4 * q.length) (6 + 4 * q.length)) ∧ Bk w' w.heap.size (L.bodyL nx q) ∧ Below w.heap.size w w' := by
  obtain ⟨A, c, rfl, hc, hcm, h⟩ := h
  obtain ⟨n, rfl⟩ := Int.eq_ofNat_of_zero_le hn0
  refine bodyof_core w n q.length c A q (by omega) hm rfl (Lib.hid fun h0 => ?_)
  obtain ⟨b, off, rfl, hcell⟩ := h h0
  refine ⟨b, off, rfl, fun j hj => ?_⟩
  obtain ⟨x, hx, ex⟩ := hq.at j hj
  exact ⟨x, hx, ex, by rw [hcell j hj, ex]⟩
end Go.Proofs.YtlcnefeikejcaaaGreatDoor
namespace Go.Proofs.YtlcnefeikejcaaaGreatDoor
open Go.RowKit
attribute [local go_sem] Oper.semAt_some
theorem rows_wide {n : Nat} {P : Program} {row : String} {args : Array Value} {w : World} {R : Value → World → Prop} (h : Rows P row args w R) : RowsIn Fence.wide n P row args w R :=
  fun c cs _ => let ⟨v, w', r, s⟩ := h c cs; ⟨v, w', r, stepsIn_wide.2 s⟩
theorem wpOp_round {P : Program} {ops : Array Oper} {Q : Exit → Act → World → Prop} {K : Act → World → Prop} {i l n : Nat} {a : Act} {w : World} (hd : ∀ o, ops[i]? = some o → ∀ c, o.op ≠ .defer c) (hq : ¬ LetsOut Q)
    (h : wpOp P ops Q i K a w) : wpOpIn (Fence.wide.inRound l) n P ops Q i K a w := by
  unfold wpOp at h
  unfold wpOpIn
  split
  · rename_i ho
    simpa [ho] using h
  · rename_i o ho
    simp only [ho] at h
    split
    · rename_i hw
      simp only [hw, if_true] at h
      rcases h with h | ⟨_, h⟩
      · refine ⟨fun _ _ => trivial, ?_⟩
        rw [Oper.semAt_plain _ _ _ (hd o ho)]
        unfold Oper.wp at h
        generalize (execOp a.eval o).run P w = r at *
        cases r with
        | ok x w' =>
          cases x <;> simp only [Oper.upon, Oper.uponIn] at h ⊢
          case value => exact h
          case skip => exact h
          case defer => exact h
          case enter f args => exact ⟨(fun q => absurd q (by simp [Fence.wide])), CallsIn.inRound l (callsIn_wide.2 h)⟩
          case row row args => exact ⟨(fun q => absurd q (by simp [Fence.wide])), rows_wide h⟩
        | halt x w' =>
          cases x <;> simp only [Oper.upon, Oper.uponIn] at h ⊢
          case panic => exact h
      · exact absurd h hq
    · rename_i hw
      simp only [hw] at h
      exact ⟨fun _ _ => trivial, by simpa using h⟩
theorem wpAny_round {P : Program} {md : Region.Mode} {ops : Array Oper} {Q : Exit → Act → World → Prop} {l n : Nat} (hd : ∀ (i : Nat) (o : Oper), ops[i]? = some o → ∀ c, o.op ≠ .defer c) (hq : ¬ LetsOut Q) :
    ∀ (fuel : Nat) (listed : Array Bool) (a : Act) (w : World), wpAny P md ops Q fuel listed a w → wpAnyIn (Fence.wide.inRound l) n P md ops Q fuel listed a w
  | 0, _, _, _, h => h
  | fuel + 1, _, _, _, h => ⟨h.1, fun i hi => wpOp_round (hd i) hq (wpOp_mono (fun a' w' h' => wpAny_round hd hq fuel _ a' w' h') (h.2 i hi))⟩
def noDefer (ops : Array Oper) : Bool := ops.all fun o => match o.op with | .defer _ => false | _ => true
theorem noDefer_spec {ops : Array Oper} (h : noDefer ops = true) (i : Nat) (o : Oper) (ho : ops[i]? = some o) (c : Call) : o.op ≠ .defer c := by
  intro e
  have hm : o ∈ ops := Array.mem_of_getElem? ho
  have := Array.all_eq_true'.1 h o hm
  rw [e] at this
  cases this
theorem region_round {P : Program} {id l n : Nat} {ops : Array Oper} {Q : Exit → Act → World → Prop} {a : Act} {w : World} (hm : P.follows .mixedOrders = true) (hd : noDefer ops = true) (hq : ¬ LetsOut Q)
    (h : wpAny P .any ops Q ops.size (Array.replicate ops.size false) a w.drew) : (Code.region id ops true).wpIn (Fence.wide.inRound l) n P Q a w :=
  wpIn_region_any hm (wpAny_round (noDefer_spec hd) hq _ _ _ _ h)
theorem Nums.form {w : World} {v : Value} {l : List Int} (h : Nums w v l) : ∃ A c, v = .slice A l.length c ∧ l.length ≤ c ∧ c ≤ maxLen := by
  obtain ⟨A, c, rfl, hc, hm, _⟩ := h
  exact ⟨A, c, rfl, hc, hm⟩
theorem Nums.len {w : World} {A : Option Addr} {k c : Nat} {l : List Int} (h : Nums w (.slice A k c) l) : l.length = k ∧ k ≤ c ∧ c ≤ maxLen := by
  obtain ⟨A', c', e, hc, hm, _⟩ := h
  cases e
  exact ⟨rfl, hc, hm⟩
theorem Nums.cut {w : World} {A : Option Addr} {k c : Nat} {l : List Int} (h : Nums w (.slice A k c) l) (n : Nat) (hn : n ≤ k) : Nums w (.slice A n c) (l.take n) := by
  obtain ⟨A', c', e, hc, hm, q⟩ := h
  cases e
  have hl : (l.take n).length = n := by simp; omega
  refine ⟨A, c, by rw [hl], by rw [hl]; omega, hm, fun hp => ?_⟩
  rw [hl] at hp
  obtain ⟨b, off, e, r⟩ := q (by omega)
  refine ⟨b, off, e, fun j hj => ?_⟩
  rw [hl] at hj
  rw [r j (by omega), getElem!_pos l j (by omega), getElem!_pos (l.take n) j (by omega)]
  simp
set_option maxRecDepth 100000 in
theorem run_cut32 (A : Option Addr) (k c n : Nat) (hn : n ≤ c) (W : World) : (Instr.slice 37 (.slice A k c) none (some (.int .i64 (n : Int))) none).run Tryz.prog W = .ok (.slice A n c) W := by
  rw [run_slice_h (w := W) 37 A k c Tryz.underlying37 .i64 (n : Int) (by omega) (by omega)]
  have e : (sizeOf (Tryz.prog.elem 37)).run Tryz.prog W = .ok 1 W := by kernel_rfl
  rw [e]
  simp only [Result.andThen, sliced, Nat.zero_mul, Int.toNat_natCast, Nat.sub_zero]
  congr 2
  split
  · rfl
  · cases A with
    | none => rfl
    | some a => simp [Addr.add]
set_option maxRecDepth 100000 in
theorem Nums.rest {w : World} {A : Option Addr} {k c : Nat} {l : List Int} (h : Nums w (.slice A k c) l) (n : Nat) (hn : n ≤ k) :
    ∃ A', (∀ W, (Instr.slice 37 (.slice A k c) (some (.int .i64 (n : Int))) none none).run Tryz.prog W = .ok (.slice A' (k - n) (c - n)) W) ∧ Nums w (.slice A' (k - n) (c - n)) (l.drop n) := by
  obtain ⟨A', c', e, hc, hm, q⟩ := h
  cases e
  have hl : (l.drop n).length = l.length - n := by simp
  refine ⟨if c = n then A else A.map (·.add n), fun W => ?_, _, _, by rw [hl], by rw [hl]; omega, by omega, fun hp => ?_⟩
  · rw [run_slice_l (w := W) 37 A l.length c Tryz.underlying37 .i64 (n : Int) (by omega) (by omega)]
    have e : (sizeOf (Tryz.prog.elem 37)).run Tryz.prog W = .ok 1 W := by kernel_rfl
    rw [e]
    simp [Result.andThen, sliced]
  · rw [hl] at hp
    obtain ⟨b, off, e, r⟩ := q (by omega)
    subst e
    refine ⟨b, off + n, by rw [if_neg (by omega)]; simp [Addr.add], fun j hj => ?_⟩
    rw [hl] at hj
    rw [Nat.add_assoc, r (n + j) (by omega), getElem!_pos l (n + j) (by omega), getElem!_pos (l.drop n) j (by omega)]
    simp
def Part (w0 : World) (l : List Int) (k : Nat) : Type := { x : Nat × Value // x.1 < k ∧ Nums w0 x.2 (L.part l x.1) }
def Part.at {w0 : World} {l : List Int} {k : Nat} (x : Part w0 l k) : Nat := x.1.1
def Part.encs {w0 : World} {l : List Int} {k : Nat} (x : Part w0 l k) : Array Value := #[.int .i64 ((x.1.1 : Nat) : Int), x.1.2]
theorem parts_any (w : World) (A : Option Addr) (n c : Nat) (k : Int) : Calls Tryz.prog 176 #[.slice A n c, .int .i64 k] w fun e w' =>
    e = .returned (.func (.func 181) #[] #[.pointer (some ⟨w.heap.size, 0, none⟩), .pointer (some ⟨w.heap.size + 1, 0, none⟩)]) ∧ w' = (w.alloc (.cells #[.slice A n c] 37)).alloc (.cells #[.int .i64 k] 3) := by
  go_enter Tryz.func176, Tryz.ntmps176
  go_wp2
  go_ret
  exact ⟨rfl, rfl⟩
theorem run_min123 (m : Nat) (ts : Array TypeId) (ty : TypeId) (W : World) : (Builtin.min_ ts ty #[.int .i64 (m : Int), .int .i64 123]).run Tryz.prog W = .ok (.int .i64 ((min m 123 : Nat) : Int)) W := by
  rw [run_min_int2]
  congr 2
  split <;> omega
set_option maxRecDepth 100000 in
set_option maxHeartbeats 2000000 in
theorem parts_stops (w0 w : World) (A : Option Addr) (c k b1 b2 n : Nat) (l : List Int) (hk : k ≤ 1000000000) (hn : 1 ≤ n) (hN : Nums w0 (.slice A l.length c) l) (h1 : w.cell? ⟨b1, 0, none⟩ = some (.slice A l.length c)) (h2 : w.cell? ⟨b2, 0, none⟩ = some (.int .i64 (k : Int))) :
    SeqStopsK Fence.wide n Tryz.prog 181 #[.pointer (some ⟨b1, 0, none⟩), .pointer (some ⟨b2, 0, none⟩)] (Part.encs (w0 := w0) (l := l) (k := k)) (fun _ _ => True) (fun xs => xs.map Part.at = List.range k) (fun _ => True) k w := fun g J Jx W hW _ _ hY h0 => by
  have c1 := kept h1 hW
  have c2 := kept h2 hW
  obtain ⟨_, hlc, hcm⟩ := hN.len
  unfold maxLen at hcm
  obtain ⟨Ln, hL⟩ : ∃ Ln, Ln = l.length := ⟨_, rfl⟩
  rw [← hL] at c1 hN hlc
  have HN := Lib.hid hN
  have HL := Lib.hid hL
  have HY := Lib.hid hY
  clear hN hL hY h1 h2 hW
  refine callsIn_of_wp Tryz.func181 rfl trivial ?_ rfl
  simp only [Tryz.ntmps181, List.size_toArray, List.length_cons, List.length_nil, Nat.reduceAdd, Nat.reduceSub, Array.replicate_succ, Array.replicate_zero, List.push_toArray, List.append_toArray, List.nil_append, List.cons_append]
  gi_wp2
  gi_loopw [4, 9] (fun s4 s9 wr => ∃ (i m c' : Nat) (A' : Option Addr) (pre : List (Part w0 l k)), s9 = .int .i64 (i : Int) ∧ s4 = .slice A' m c' ∧ i ≤ k ∧ m ≤ c' ∧ c' ≤ c ∧ Hid (Nums w0 (.slice A' m c') (l.drop (123 * i))) ∧ Hid (pre.map Part.at = List.range i) ∧ J pre wr)
    (fun _ s9 _ => k - (intOf s9).toNat)
  case atStart => exact ⟨0, Ln, c, A, [], rfl, rfl, Nat.zero_le _, hlc, Nat.le_refl _, HN, rfl, h0⟩
  case round =>
    obtain ⟨i, m, c', A', pre, rfl, rfl, hi, hmc, hcc, HM, HP, hJ⟩ := hrel
    by_cases hlt : i < k
    · obtain ⟨x, hx⟩ : ∃ x : Part w0 l k, x = ⟨(i, .slice A' (min m 123) c'), hlt, by
        have e : L.part l i = (l.drop (123 * i)).take (min m 123) := by
          have := HM.out.len.1
          unfold L.part
          rw [← this]
          by_cases q : (l.drop (123 * i)).length ≤ 123
          · rw [Nat.min_eq_left q, List.take_length, List.take_of_length_le q]
          · rw [Nat.min_eq_right (by omega)]
        rw [e]
        exact HM.out.cut _ (Nat.min_le_left _ _)⟩ := ⟨_, rfl⟩
      have hpl : pre.length = i := by
        have := congrArg List.length HP.out
        simpa using this
      obtain ⟨fn, tmps, assign, body, hy, hR⟩ := HY.out pre x wr hJ (by rw [hpl]; exact hlt)
      have hP2 : Hid ((pre ++ [x]).map Part.at = List.range (i + 1)) := by
        show (pre ++ [x]).map Part.at = _
        rw [List.map_append, HP.out, List.range_succ, hx]
        rfl
      have hyx : Part.encs x = #[.int .i64 (i : Int), .slice A' (min m 123) c'] := by rw [hx]; rfl
      rw [hyx] at hy
      have hmin := run_min123 m
      obtain ⟨A2, hrest, hN2⟩ := HM.out.rest (min m 123) (Nat.min_le_left _ _)
      have HN2 : Hid (Nums w0 (.slice A2 (m - min m 123) (c' - min m 123)) (l.drop (123 * (i + 1)))) := by
        have e : (l.drop (123 * i)).drop (min m 123) = l.drop (123 * (i + 1)) := by
          have := HM.out.len.1
          rw [List.length_drop] at this
          rw [List.drop_drop]
          by_cases q : m ≤ 123
          · rw [Nat.min_eq_left q, List.drop_eq_nil_of_le (by omega), List.drop_eq_nil_of_le (by omega)]
          · rw [Nat.min_eq_right (by omega)]
            congr 1
        rw [← e]
        exact hN2
      clear hN2 hyx hx hpl
      have hmm : min m 123 ≤ m := Nat.min_le_left _ _
      generalize min m 123 = r at *
      have hcut := run_cut32 A' m c' r (by omega)
      gi_wp2
      refine hR.mono ?_
      rintro e W3 (⟨rfl, hJ3, _⟩ | ⟨rfl, hJx3⟩)
      · gi_wp2
        go_roundw
        case rel => exact ⟨i + 1, m - r, c' - r, A2, pre ++ [x], by simp, rfl, by omega, by omega, by omega, HN2, hP2, hJ3⟩
        case measure => simp [intOf]; omega
      · gi_wp2
        refine bodyPost_ret (results_none rfl _ _ _) rfl ?_
        exact ⟨⟨_, rfl⟩, .inr ⟨pre ++ [x], trivial, hJx3⟩⟩
    · obtain rfl : i = k := by omega
      gi_wp2
      go_end0
      exact ⟨⟨_, rfl⟩, .inl ⟨pre, HP.out, hJ⟩⟩
end Go.Proofs.YtlcnefeikejcaaaGreatDoor
namespace Go.Proofs.YtlcnefeikejcaaaGreatDoor
open Go.RowKit
theorem Tryz.info48 : (Tryz.prog.info? 48).map (fun i => (i.zero, i.size, i.bytes)) = some (some (.slice none 0 0), 1, 24) := by kernel_rfl
def Inb (W : World) (base : Nat) (vs : List Value) (bs : List (List UInt8)) : Prop :=
  ∀ i (h : i < bs.length), ∃ g, vs[i]? = some (.slice (some ⟨g, 0, none⟩) bs[i].length bs[i].length) ∧ base ≤ g ∧ Bk W g bs[i]
def Bods (W : World) (base : Nat) (v : Value) (bs : List (List UInt8)) : Prop := ∃ vs, W.ownsRow base 48 1 v bs.length vs ∧ Inb W base vs bs
theorem Bods.nil (W : World) (base : Nat) : Bods W base (.slice none 0 0) [] := ⟨[], World.ownsRow_nil _ _ _ _, fun i h => by simp at h⟩
def Lets (W W' : World) : Prop := ∀ (b : Nat) (cur : Array Value) (e : TypeId), (e = 48 ∨ e = 5) → W.heap[b]? = some (.cells cur e (0, 0)) → W'.heap[b]? = some (.cells cur e (0, 0))
theorem Bods.lets {W W' : World} {base : Nat} {v : Value} {bs : List (List UInt8)} (h : Bods W base v bs) (k : Lets W W') : Bods W' base v bs := by
  obtain ⟨vs, hr, hi⟩ := h
  refine ⟨vs, ⟨hr.1, ?_⟩, fun i hb => ?_⟩
  · rcases hr.2 with q | ⟨g, cap, cur, e, hb, hg, r⟩
    · exact .inl q
    · exact .inr ⟨g, cap, cur, e, hb, k _ _ _ (.inl rfl) hg, r⟩
  · obtain ⟨g, e, hb2, hk⟩ := hi i hb
    exact ⟨g, e, hb2, k _ _ _ (.inr rfl) hk.1, hk.2⟩
theorem Lets.below {W W' : World} (k : Below W.heap.size W W') : Lets W W' := fun b _ _ _ hb => (k.block b (Array.getElem?_eq_some_iff.1 hb).1).trans hb
theorem Lets.box {W W' : World} {F : Nat → Prop} (k : Keep F W W') (hF : ∀ b o, F b → W.heap[b]? = some o → ∀ cur, o ≠ .cells cur 48 (0, 0) ∧ o ≠ .cells cur 5 (0, 0)) : Lets W W' := fun b cur e he hb => by
  refine (k.block b (Array.getElem?_eq_some_iff.1 hb).1 (fun q => ?_)).trans hb
  have := hF b _ q hb cur
  rcases he with rfl | rfl
  · exact this.1 rfl
  · exact this.2 rfl
theorem own_block {W : World} {base n : Nat} {e : TypeId} {v : Value} {xs : List Value} (h : W.ownsRow base e 1 v n xs) {b : Nat} (hb : v.ownBlock = some b) : ∃ cur, W.heap[b]? = some (.cells cur e (0, 0)) ∧ base ≤ b := by
  rcases h.2 with ⟨rfl, _⟩ | ⟨g, cap, cur, rfl, hbg, hg, _⟩
  · simp [Value.ownBlock] at hb
  · obtain rfl : g = b := by simpa [Value.ownBlock] using hb
    exact ⟨cur, hg, hbg⟩
theorem keep_others {W W' : World} {F : Nat → Prop} (k : Keep F W W') (hF : ∀ b o, F b → W.heap[b]? = some o → o.isCells = true) : KeepsOthers W W' :=
  ⟨k.size, fun b o hb ho => (k.block b (Array.getElem?_eq_some_iff.1 hb).1 (fun q => by rw [hF b o q hb] at ho; cases ho)).trans hb⟩
theorem boxed_keep {W W' : World} {F : Nat → Prop} {B : Nat} {t : TypeId} {v : Value} (h : Boxed W B t v) (k : Keep F W W') (hF : ¬ F B) : Boxed W' B t v := (k.block B h.lt hF).trans h
theorem wp_append_base {P : Program} {w : World} {o : Oper} {a : Act} {K : Act → World → Prop} {Q : Exit → Act → World → Prop} (s x : Operand) (t : TypeId)
    (ho : o.op = .call { callee := .builtin .append, args := #[s, x], argTypes := #[t, t] }) (base : Nat) (e : TypeId) (i : TypeInfo) (z : Value) (size bytes : Nat) (ht : P.underlying t = some (.slice e)) (hi : P.info? e = some i) (hz : i.zero = some z)
    (hsize : i.size = size) (hby : i.bytes = bytes) (hzs : z.cells.size = size) (hsz : 0 < size)
    (v : Value) (n : Nat) (xs : List Value) (hs : a.eval s = v) (hown : w.ownsRow base e size v n xs)
    (ad : Addr) (m c : Nat) (news : List Value) (hx : a.eval x = .slice (some ad) m c) (hl : news.length = m * size) (hnews : ∀ j u, news[j]? = some u → w.cell? (ad.add j) = some u) (h1 : ∀ u ∈ news, u.oneCell' = true)
    (h63 : n + m ≤ maxLen) (hbytes : (n + m) * bytes ≤ 140737488355328) (hb : base ≤ w.heap.size)
    (h : ∀ v' w', w'.ownsRow base e size v' (n + m) (xs ++ news) → w.grownBy w' v.ownBlock → K (a.put o.dst v') w') : o.wp P a w K Q := by
  obtain ⟨v', w', hr, h2, h3, _⟩ := run_append_own (P := P) w base t o.type e i z size bytes ht hi hz hsize hby hzs hsz v n xs hown ad m c news hl hnews h1 h63 hbytes hb
  unfold Oper.wp execOp
  simp only [ho, resolve, invoke, builtin, Sem.run_bind, Sem.run_pure, Result.andThen_ok, List.map_toArray, List.map_cons, List.map_nil, hs, hx, hr]
  exact h v' w' h2 h3
theorem lz_round {P : Program} {id l n m z : Nat} {ops : Array Oper} {Q : Exit → Act → World → Prop} {a : Act} {w : World} (S : World → Prop) (hn : ops.size = m) (hm : P.follows .mixedOrders = true) (hd : noDefer ops = true) (hq : ¬ LetsOut Q)
    (h : Lz P ops Q z S m (Array.replicate m false) a w.drew) : (Code.region id ops true).wpIn (Fence.wide.inRound l) n P Q a w := by
  subst hn
  exact region_round hm hd hq (Lz.any _ _ _ _ h)
theorem Bods.snoc {W W' : World} {base g : Nat} {v' : Value} {bs : List (List UInt8)} {vs : List Value} {b : List UInt8} (hi : Inb W base vs bs) (hl : vs.length = bs.length) (k : ∀ (g' : Nat) (cur : Array Value), W.heap[g']? = some (Obj.cells cur 5 (0, 0)) → W'.heap[g']? = some (Obj.cells cur 5 (0, 0)))
    (hr : W'.ownsRow base 48 1 v' (bs.length + 1) (vs ++ [.slice (some ⟨g, 0, none⟩) b.length b.length])) (hb : Bk W g b) (hg : base ≤ g) : Bods W' base v' (bs ++ [b]) := by
  refine ⟨_, by rw [List.length_append]; exact hr, fun i hlt => ?_⟩
  by_cases h : i < bs.length
  · obtain ⟨g', e, hb2, hk⟩ := hi i h
    refine ⟨g', ?_, hb2, ?_⟩
    · rw [List.getElem?_append_left (by omega), e]
      simp [List.getElem_append_left h]
    · rw [List.getElem_append_left h]
      exact ⟨k _ _ hk.1, hk.2⟩
  · obtain rfl : i = bs.length := by simp at hlt; omega
    refine ⟨g, ?_, hg, ?_⟩
    · rw [List.getElem?_append_right (by omega), hl]
      simp
    · simp only [List.getElem_concat_length]
      exact ⟨k _ _ hb.1, hb.2⟩
end Go.Proofs.YtlcnefeikejcaaaGreatDoor
namespace Go.Proofs.YtlcnefeikejcaaaGreatDoor
open Go.RowKit Go.Sort Go.Maps
set_option maxRecDepth 100000
structure Came (w wr : World) (mb r : Nat) (fs : List Fr) (D : DataW Value) (left : Lit → Bool) (cnt : Nat) (v : Value) (xs : List Int) : Prop where
  rg : wr.ranges Tryz.prog 31 allE mb r fs.length D left cnt
  own : wr.ownsRow w.heap.size 31 1 v xs.length (us xs)
  low : Below w.heap.size w wr
  nm : mb < w.heap.size
  hr : w.heap.size ≤ r
  nd : xs.Nodup
  sub : ∀ x ∈ xs, x ∈ nums fs
  gone : ∀ x ∈ xs, left (.int .u32 x) = false
  come : ∀ x ∈ nums fs, left (.int .u32 x) = true ∨ x ∈ xs
  len : xs.length + cnt ≤ fs.length
theorem came_perm {w wr : World} {mb r : Nat} {fs : List Fr} {D : DataW Value} {left : Lit → Bool} {cnt : Nat} {v : Value} {xs : List Int} (h : Came w wr mb r fs D left cnt v xs) (hl : ∀ kl, left kl = false) (hn : (nums fs).Nodup) : xs.Perm (nums fs) := by
  refine (List.perm_ext_iff_of_nodup h.nd hn).2 (fun x => ⟨h.sub x, fun hx => ?_⟩)
  rcases h.come x hx with q | q
  · rw [hl] at q; cases q
  · exact q
theorem row_apart {w : World} {base n mb r m cnt : Nat} {v : Value} {xs : List Value} {D : DataW Value} {left : Lit → Bool} (h : w.ranges Tryz.prog 31 allE mb r m D left cnt) (o : w.ownsRow base 31 1 v n xs) : ¬ v.ownBlock = some r ∧ ¬ v.ownBlock = some mb := by
  obtain ⟨es, clock, since, seen, c0, hb, _, _, _, hr, _⟩ := h
  refine ⟨fun e => ?_, fun e => ?_⟩
  · obtain ⟨cur, q, _⟩ := own_block o e
    rw [hr] at q
    simp at q
  · obtain ⟨cur, q, _⟩ := own_block o e
    rw [hb] at q
    simp at q
theorem came_step {w wr w1 w2 : World} {mb r : Nat} {fs : List Fr} {D : DataW Value} {left : Lit → Bool} {cnt cnt1 : Nat} {v v2 : Value} {xs : List Int} {x : Int} (h : Came w wr mb r fs D left cnt v xs)
    (hlx : left (.int .u32 x) = true) (hhas : x ∈ nums fs) (hrg : w1.ranges Tryz.prog 31 allE mb r fs.length D (fun z => left z && !z.sameKey (.int .u32 x)) cnt1) (hlt : cnt1 < cnt)
    (o2 : w2.ownsRow w.heap.size 31 1 v2 (xs ++ [x]).length (us (xs ++ [x]))) (hB : Below w.heap.size w w2) (hg2 : w1.grownBy w2 v.ownBlock) : Came w w2 mb r fs D (fun z => left z && !z.sameKey (.int .u32 x)) cnt1 v2 (xs ++ [x]) := by
  have hsame : ∀ y : Int, (Lit.int .u32 y).sameKey (.int .u32 x) = decide (y = x) := fun y => by
    by_cases e : y = x
    · subst e; simp [Lit.sameKey]
    · simp [Lit.sameKey, e]
  obtain ⟨a1, a2⟩ := row_apart h.rg h.own
  refine ⟨hrg.kept hg2 (fun e => a2 e.symm) (fun e => a1 e.symm), o2, hB, h.nm, h.hr, ?_, ?_, ?_, ?_, ?_⟩
  · refine List.nodup_append.2 ⟨h.nd, by simp, fun a ha b hb e => ?_⟩
    obtain rfl := List.mem_singleton.1 hb
    subst e
    have := h.gone a ha
    rw [hlx] at this
    cases this
  · intro y hy
    rcases List.mem_append.1 hy with hy | hy
    · exact h.sub y hy
    · rw [List.mem_singleton.1 hy]; exact hhas
  · intro y hy
    rcases List.mem_append.1 hy with hy | hy
    · simp [h.gone y hy]
    · rw [List.mem_singleton.1 hy]; simp [hsame]
  · intro y hy
    rcases h.come y hy with q | q
    · by_cases e : y = x
      · right; simp [e]
      · left; simp [q, hsame, e]
    · right; simp [q]
  · have := h.len
    rw [List.length_append, List.length_singleton]
    omega
theorem nums_one (w : World) (x : Int) : Nums (w.alloc (.cells #[.int .u32 x] 31)) (.slice (some ⟨w.heap.size, 0, none⟩) 1 1) [x] :=
  ⟨_, 1, rfl, Nat.le_refl _, by unfold maxLen; omega, fun _ => ⟨w.heap.size, 0, rfl, fun j hj => by
    obtain rfl : j = 0 := by simp at hj; omega
    rw [World.cell?_alloc_at _ _ _ _ rfl]
    rfl⟩⟩
set_option maxHeartbeats 1600000 in
theorem fresh_any (w : World) (col : Nat → Nat) (p : Nat) (dv : Value) (s : Pm) (h : Pgr w col p dv s) :
    Calls Tryz.prog 22 #[.pointer (some ⟨p, 0, none⟩)] w fun e w' => ∃ v', e = .returned v' ∧ w'.ownsRow w.heap.size 31 1 v' (nums s.x.fresh).length (us (nums s.x.fresh)) ∧ Below w.heap.size w w' := by
  obtain ⟨ok, cp, lv, pf0, pd0, m0, pf, pd, mb, C, S0, S, N, R, Lc⟩ := h
  obtain ⟨D, M⟩ := S.map
  have c83 : w.cell? ⟨p, 83, none⟩ = some (.map (some mb)) := scs_map C.rn ok.rtl
  have C83 := Lib.hid c83
  have HM := Lib.hid M
  have HRI := Lib.hid ok.fresh
  have HFL : Hid (s.x.fresh.length ≤ 4096) := Lib.hid (by have := ok.frl; simpa [nums] using this)
  clear S0 S N R Lc C ok M
  generalize s.x.fresh = fs at *
  obtain ⟨i0, hi0, hz0, hz1, hz2⟩ := info_parts Tryz.info31
  have hsz := HM.out.size
  go_enter Tryz.func22, Tryz.ntmps22
  go_wp2_with (first
    | (at_len; refine wpList_len_own _ rfl _ 125 rfl 31 140 Tryz.underlying125 allE mb fs.length D rfl HM.out.own ?_)
    | (refine wpList_make_own _ rfl _ _ 37 rfl w.heap.size 31 i0 _ 1 Tryz.underlying37 hi0 hz0 hz1 .i64 .i64 _ fs.length rfl rfl (by rw [hsz]) ?b2 ?b3 (Nat.le_refl _) ?_))
  case b2 => rw [hz2]; have := HFL.out; omega
  case b3 => unfold maxLen; have := HFL.out; omega
  intro w1 ho1 hg1
  have HB1 : Hid (Below w.heap.size w w1) := (Below.refl _ _).grown hg1 (Nat.le_refl _) (by intro k hk; cases hk)
  have HM1 : Hid (Mc w1 col mb fs D) := HM.out.keep (F := fun _ => False) (Keep.of_below HB1.out) (fun h => h) (fun _ _ h => h)
  have HO1 := Lib.hid ho1
  have c83 := kept C83.out HB1.out
  clear ho1 hg1 hi0 hz0 hz1 hz2
  go_wp2_with (at_range; refine wpList_range_own _ rfl _ 125 rfl 31 140 klaw Tryz.underlying125 allE mb fs.length D rfl HM1.out.own ?_; intro w2 hrg2 hg2 hs2)
  go_frame
  have HML : Hid (mb < w.heap.size) := HM.out.lt
  have HB2 : Hid (Below w.heap.size w w2) := HB1.out.grown hg2 HB1.out.size (by intro k hk; cases hk)
  have HCA : Hid (Came w w2 mb w1.heap.size fs D (Maps.has D) (Maps.size D) (.slice (some ⟨w.heap.size, 0, none⟩) 0 fs.length) []) :=
    ⟨hrg2, HO1.out.kept hg2 (.inr (by simp [Value.ownBlock])), HB2.out, HML.out, HB1.out.size, List.nodup_nil, fun x hx => by simp at hx, fun x hx => by simp at hx, fun x hx => .inl (by
      obtain ⟨x0, x1⟩ := HRI.out.rng x hx
      rw [HM.out.has x x0 x1]
      simpa using hx), by rw [hsz]; simp⟩
  clear hrg2 hg2 hs2 HO1 HM1 c83
  generalize w1.heap.size = r at *
  go_loopg [3] fs.length (fun k s wr => ∃ xs left cnt, cnt ≤ k ∧ Hid (Came w wr mb r fs D left cnt s xs))
  case atStart => exact ⟨[], _, _, by rw [hsz]; exact Nat.le_refl _, HCA⟩
  case round =>
    clear HCA HB1 HB2
    obtain ⟨xs, left, cnt, hck, HC⟩ := hrel
    obtain ⟨A, cc, e3⟩ := own_form HC.out.own
    subst e3
    go_wp2_with (at_next; refine wpList_next_ranges _ rfl (.tmp 17) rfl 31 klaw allE (Value.int .u32) (fun v => v) (fun key kl hk => ?_) (fun v y hv => ⟨v, rfl⟩) mb r fs.length D left cnt rfl HC.out.rg ?_ ?_)
    · obtain ⟨x, e, _⟩ := Maps.keyOf_int_inv Tryz.underlying31 hk
      exact ⟨x, e⟩
    · intro hc0 hl0
      have HPM := Lib.hid (came_perm HC.out hl0 (HRI.out.up.imp (fun h => by omega)))
      have HOW := Lib.hid HC.out.own
      have HLO := Lib.hid HC.out.low
      have hln : xs.length < 65536 := by have := HC.out.len; have := HFL.out; omega
      have SS := Lib.hid (nsort_any HOW.out hln HPM.out HRI.out)
      clear HC hc0 hl0 hln
      go_wp2_with (go_at_call 66; refine SS.out.mono ?_; rintro e w8 ⟨rfl, o8, k8⟩)
      go_ret
      exact ⟨_, rfl, o8, HLO.out.trans (k8.below HLO.out.size (fun b hb => (HOW.out.lt b hb).1))⟩
    · intro x c kl y1 y2 w3 cnt3 hkey hlk hv hat hrg hlt hgr hs3 hen
      obtain ⟨x', ex, rfl, hwx⟩ := Maps.keyOf_int_inv Tryz.underlying31 hkey
      cases ex
      have hh : Maps.has D (.int .u32 x) = true := Maps.has_true_of_atKey hat
      have hx01 : 0 ≤ x ∧ x < 4294967296 := by
        have h1 : 0 ≤ x ∧ x ≤ 4294967295 := by simpa [Lit.wf, IntKind.min, IntKind.max, IntKind.signed, IntKind.bits] using hwx
        omega
      have hxin : x ∈ nums fs := by
        rw [HM.out.has x hx01.1 hx01.2] at hh
        simpa using hh
      obtain ⟨ra, rb⟩ := row_apart HC.out.rg HC.out.own
      have HOW : Hid (w3.ownsRow w.heap.size 31 1 (.slice A xs.length cc) xs.length (us xs)) := HC.out.own.kept hgr (.inr ra)
      have HLW : Hid (Below w.heap.size w w3) := HC.out.low.grown hgr HC.out.low.size (by intro k hk; simp at hk; subst hk; exact HC.out.hr)
      have HLK := Lib.hid hlk
      have HRG := Lib.hid hrg
      have HLT := Lib.hid hlt
      have HXI := Lib.hid hxin
      have hln : xs.length + [x].length ≤ 1000000 := by have := HC.out.len; have := HFL.out; simp; omega
      have hbs : w.heap.size ≤ (w3.alloc (.cells #[.int .u32 x] 31)).heap.size := by have := HLW.out.size; simp; omega
      clear hkey hlk hv hat hrg hlt hgr hs3 hh hxin hx01 hwx ra rb
      go_wp2_with (first
        | (at_builtin; refine wpList_append_nums rfl _ _ 37 rfl Tryz.underlying37 w.heap.size _ xs rfl (HOW.out.alloc _) _ [x] rfl (nums_one w3 x) (Real.some _ _ _) hln hbs ?_)
        | go_in)
      intro v5 w5 o5 g5
      have hga : w3.grownBy w5 (Value.slice A xs.length cc).ownBlock := (World.grownBy_alloc w3 (.cells #[.int .u32 x] 31) _).andThen g5 (fun j hj => .inr hj)
      have HB5 : Hid (Below w.heap.size w w5) := HLW.out.grown hga HLW.out.size (fun k hk => (HOW.out.lt k hk).1)
      have HC5 := Lib.hid (came_step HC.out HLK.out HXI.out HRG.out HLT.out (by rw [List.length_append]; exact o5) HB5.out hga)
      clear g5 o5 hga HC HOW
      go_wp2
      go_roundg cnt3
      case measure => have := HLT.out; omega
      case rel => exact ⟨_, _, _, Nat.le_refl _, HC5⟩
end Go.Proofs.YtlcnefeikejcaaaGreatDoor
namespace Go.Proofs.YtlcnefeikejcaaaGreatDoor
open Go.RowKit
attribute [local go_sem] Oper.semAt_some
set_option maxHeartbeats 1600000 in
theorem bodies_bad (w : World) (A A2 : Option Addr) (n c m c2 : Nat) (r1 r2 : Bool) (h : r1 = false ∨ (r1 = true ∧ r2 = false) ∨ (r1 = true ∧ r2 = true ∧ 123 * m < n)) (hm : m ≤ 70368744177664)
    (H1 : Hid (∀ W : World, Below w.heap.size w W → Calls Tryz.prog 160 #[.slice A n c] W fun e w' => e = .returned (.bool r1) ∧ W = w'))
    (H2 : Hid (∀ W : World, Below w.heap.size w W → Calls Tryz.prog 175 #[.slice A2 m c2] W fun e w' => e = .returned (.bool r2) ∧ W = w')) :
    Calls Tryz.prog 170 #[.slice A n c, .slice A2 m c2] w fun e w' => e = .returned (.tuple #[.slice none 0 0, .int .i64 1]) ∧ Below w.heap.size w w' := by
  rcases h with rfl | ⟨rfl, rfl⟩ | ⟨rfl, rfl, h⟩
  · go_enter Tryz.func170, Tryz.ntmps170
    go_wp2_with fail
    refine (H1.out _ (alb _)).mono ?_
    rintro e w1 ⟨rfl, rfl⟩
    go_wp2
    go_ret2
    exact ⟨rfl, alb _⟩
  · go_enter Tryz.func170, Tryz.ntmps170
    go_wp2_with fail
    refine (H1.out _ (alb _)).mono ?_
    rintro e w1 ⟨rfl, rfl⟩
    go_wp2_with fail
    refine (H2.out _ (alb _)).mono ?_
    rintro e w1 ⟨rfl, rfl⟩
    go_wp2
    go_ret2
    exact ⟨rfl, alb _⟩
  · have h1 : 123 * (m : Int) < (n : Int) := by omega
    go_enter Tryz.func170, Tryz.ntmps170
    go_wp2_with fail
    refine (H1.out _ (alb _)).mono ?_
    rintro e w1 ⟨rfl, rfl⟩
    go_wp2_with fail
    refine (H2.out _ (alb _)).mono ?_
    rintro e w1 ⟨rfl, rfl⟩
    go_wp2
    go_ret2
    exact ⟨rfl, alb _⟩
def Inv (w : World) (l p : List Int) (k : Nat) (pv : Value) (pre : List (Part w l k)) (W : World) : Prop :=
  (∃ v, Boxed W (w.heap.size + 1) 249 v ∧ Bods W w.heap.size v (pre.map fun x => L.bodyAt l p x.at)) ∧ Boxed W w.heap.size 37 pv ∧ Below w.heap.size w W
theorem inv_own {w W0 : World} (l p : List Int) (k : Nat) (pv : Value) (h0 : w.heap.size ≤ W0.heap.size) : OwnFrom W0.heap.size (Inv w l p k pv) := by
  rintro s X Y row ⟨⟨v, hv, hb⟩, hp, hB⟩ hg hr
  have ne : ∀ {b : Nat} {cur : Array Value} {e : TypeId}, X.heap[b]? = some (Obj.cells cur e (0, 0)) → some b ≠ row := fun {b} {cur} {e} hx q => by
    obtain ⟨_, o, ho, hc⟩ := hr b q.symm
    rw [hx] at ho
    cases ho
    cases hc
  refine ⟨⟨v, hv.kept hg (ne hv), hb.lets (fun b cur e _ hx => (hg.block b (Array.getElem?_eq_some_iff.1 hx).1 (ne hx)).trans hx)⟩, hp.kept hg (ne hp), ?_⟩
  exact hB.grown hg hB.size (fun b q => by have := (hr b q).1; omega)
set_option maxRecDepth 100000 in
set_option maxHeartbeats 1000000 in
theorem bodies_ok (w : World) (A A2 : Option Addr) (n k c c2 : Nat) (l p : List Int) (hle : n ≤ 123 * k) (hm : k ≤ 1000000) (HL : Hid (l.length = n)) (HK : Hid (p.length = k))
    (HN : Hid (Nums w (.slice A n c) l)) (HP : Hid (Nums w (.slice A2 k c2) p)) (RL : Hid (Rg l)) (RP : Hid (Rg p))
    (H1 : Hid (∀ W : World, Below w.heap.size w W → Calls Tryz.prog 160 #[.slice A n c] W fun e w' => e = .returned (.bool true) ∧ W = w'))
    (H2 : Hid (∀ W : World, Below w.heap.size w W → Calls Tryz.prog 175 #[.slice A2 k c2] W fun e w' => e = .returned (.bool true) ∧ W = w')) :
    Calls Tryz.prog 170 #[.slice A n c, .slice A2 k c2] w fun e w' => ∃ v, e = .returned (.tuple #[v, .int .i64 0]) ∧ Bods w' w.heap.size v ((List.range k).map (L.bodyAt l p)) ∧ Below w.heap.size w w' := by
  have hle2 : decide (123 * (k : Int) < (n : Int)) = false := by simp; omega
  obtain ⟨i0, hi0, hz0, hz1, hz2⟩ := info_parts Tryz.info48
  refine (callsIn_wide (n := 6)).1 ?_
  refine callsIn_of_wp_marks Tryz.func170 rfl trivial ?_ rfl
  simp only [Tryz.ntmps170, List.size_toArray, List.length_cons, List.length_nil, Nat.reduceAdd, Nat.reduceSub, Array.replicate_succ, Array.replicate_zero, List.push_toArray, List.append_toArray, List.nil_append, List.cons_append]
  gi_wp2_with fail
  refine ⟨trivial, ?_⟩
  refine (callsIn_wide.2 (H1.out _ (alb _))).mono ?_
  rintro e w1 ⟨rfl, rfl⟩
  gi_wp2_with fail
  refine ⟨trivial, ?_⟩
  refine (callsIn_wide.2 (H2.out _ (alb _))).mono ?_
  rintro e w1 ⟨rfl, rfl⟩
  gi_wp2_with fail
  refine ⟨trivial, ?_⟩
  refine (callsIn_wide.2 (parts_any _ _ _ _ _)).mono ?_
  rintro e w1 ⟨rfl, rfl⟩
  gi_wp2_with fail
  obtain ⟨W0, hW0⟩ : ∃ W0, ((((w.alloc (.cells #[.slice A2 k c2] 37)).alloc (.cells #[.slice none 0 0] 249)).alloc (.cells #[.slice A n c] 37)).alloc (.cells #[.int .i64 (k : Int)] 3)) = W0 := ⟨_, rfl⟩
  have hp0 : Boxed W0 w.heap.size 37 (.slice A2 k c2) := by
    rw [← hW0]
    exact (((Boxed.new w _ _).alloc _).alloc _).alloc _
  have hv0 : Boxed W0 (w.heap.size + 1) 249 (.slice none 0 0) := by
    rw [← hW0]
    have := Boxed.new (w.alloc (.cells #[.slice A2 k c2] 37)) 249 (.slice none 0 0)
    rw [World.size_alloc] at this
    exact (this.alloc _).alloc _
  have hn0 : W0.cell? ⟨w.heap.size + 1 + 1, 0, none⟩ = some (.slice A n c) := by
    rw [← hW0]
    have := Boxed.new ((w.alloc (.cells #[.slice A2 k c2] 37)).alloc (.cells #[.slice none 0 0] 249)) 37 (.slice A n c)
    rw [World.size_alloc, World.size_alloc] at this
    exact (this.alloc _).cell
  have hk0 : W0.cell? ⟨w.heap.size + 1 + 1 + 1, 0, none⟩ = some (.int .i64 (k : Int)) := by
    rw [← hW0]
    have := Boxed.new (((w.alloc (.cells #[.slice A2 k c2] 37)).alloc (.cells #[.slice none 0 0] 249)).alloc (.cells #[.slice A n c] 37)) 3 (.int .i64 (k : Int))
    rw [World.size_alloc, World.size_alloc, World.size_alloc] at this
    exact this.cell
  have hB0 : Below w.heap.size w W0 := by
    rw [← hW0]
    exact bal (bal (bal (alb _) _) _) _
  rw [hW0]
  clear hW0
  have hst := parts_stops w W0 A c k (w.heap.size + 1 + 1) (w.heap.size + 1 + 1 + 1) 5 l (by omega) (by omega) (by rw [HL.out]; exact HN.out) (by rw [HL.out]; exact hn0) hk0
  clear hn0 hk0
  refine wpIn_rangeFunc_ownF rfl (by omega) (gf := 181) (lb := #[.pointer (some ⟨w.heap.size + 1 + 1, 0, none⟩), .pointer (some ⟨w.heap.size + 1 + 1 + 1, 0, none⟩)]) rfl trivial (enters_of Tryz.func181 (by kernel_rfl) rfl)
    hst (fun _ _ => trivial) (fun _ _ _ _ _ _ _ _ => trivial) (Below.refl _ _) (fun _ => rfl)
    (Inv w l p k (.slice A2 k c2)) (fun _ _ _ => False) (inv_own l p k _ hB0.size) (fun _ _ _ _ _ hs _ _ => hs)
    ⟨⟨_, hv0, Bods.nil _ _⟩, hp0, hB0⟩
    (fun x => { tmps := #[.slice A n c, .slice A2 k c2, undef, .pointer (some ⟨w.heap.size, 0, none⟩), .slice none 0 0, .int .i64 0, .pointer (some ⟨w.heap.size + 1, 0, none⟩), .int .i64 ((x.1.1 : Nat) : Int), x.1.2, .slice A n c, .bool true, .bool false, .bool false, .slice A2 k c2, .bool true, .bool false, .bool false, .bool false, .slice A n c, .int .i64 (n : Int), .slice A2 k c2, .int .i64 (k : Int), .int .i64 (123 * (k : Int)), .bool false, .bool false, .slice A n c, .slice A2 k c2, .int .i64 (k : Int), .func (.func 181) #[] #[.pointer (some ⟨w.heap.size + 1 + 1, 0, none⟩), .pointer (some ⟨w.heap.size + 1 + 1 + 1, 0, none⟩)], .int .i64 ((x.1.1 : Nat) : Int), x.1.2, undef, undef, undef, undef, undef, undef, undef, undef, undef], defers := [] }) ?assign ?body ?done ?stop
  case assign =>
    rintro g ⟨⟨i, xv⟩, hi, hx⟩ W K hK
    obtain ⟨A', c', e, _⟩ := hx.form
    dsimp only at e hK ⊢
    subst e
    simp only [Part.encs]
    gi_wp2
    exact hK
  case stop =>
    rintro D c pre W _ _ h _
    exact h.elim
  case done =>
    rintro D xs W hD hS ⟨⟨v, hv, hb⟩, hp, hB⟩ hK
    have hc6 := hv.cell
    gi_wp2
    refine ⟨by simp, .inl ⟨_, _, rfl, run_takeDeferred hK, ?_⟩⟩
    refine ⟨_, results_tmp2 rfl _ _ _, v, rfl, ?_, ?_⟩
    · have e : (xs.map fun x => L.bodyAt l p x.at) = (List.range k).map (L.bodyAt l p) := by
        rw [← hS, List.map_map]
        rfl
      rw [e] at hb
      refine hb.lets (fun b cur e _ hx => ?_)
      exact ((grownBy_putObj' W D (.deferred none)).block b (Array.getElem?_eq_some_iff.1 hx).1 (fun q => by
        cases q
        rw [hK] at hx
        cases hx)).trans hx
    · exact hB.trans (belowK_b (w := w) (Nat.le_refl _) W D _ _ (Nat.le_trans hB0.size hD) hK rfl rfl)
  case body =>
    rintro g pre x W ⟨⟨v, hv, hb⟩, hp, hB⟩ hlt
    have hi := x.2.1
    have hx := x.2.2
    obtain ⟨i, hxi⟩ : ∃ i, i = x.1.1 := ⟨_, rfl⟩
    obtain ⟨xv, hxv⟩ : ∃ xv, xv = x.1.2 := ⟨_, rfl⟩
    dsimp only
    rw [← hxi] at hi hx ⊢
    rw [← hxv] at hx ⊢
    obtain ⟨A', c', e, hcc, hcm⟩ := hx.form
    obtain ⟨q, hq⟩ : ∃ q, q = L.part l i := ⟨_, rfl⟩
    obtain ⟨m, hmq⟩ : ∃ m, m = (L.part l i).length := ⟨_, rfl⟩
    have hqm : Hid (q.length = m) := by show q.length = m; rw [hq, hmq]
    have hm123 : m ≤ 123 := by rw [hmq]; exact L.part_le l i
    rw [← hmq] at e hcc
    rw [e] at hx ⊢
    rw [← hq] at hx
    have hrq : Hid (Rg q) := fun y hy => RL.out y (L.part_mem (by rw [← hq]; exact hy))
    have HQ := Lib.hid hq
    have HXI : Hid (i = Part.at x) := hxi
    clear hq hmq e hxv hxi
    obtain ⟨vs, hrow, hin⟩ := hb
    have hvl : vs.length = pre.length := by
      have := hrow.1
      simpa using this
    have C6 := Lib.hid hv.cell
    have C3 := Lib.hid hp.cell
    have HV := Lib.hid hv
    have HPG := Lib.hid hp
    have HB := Lib.hid hB
    have HX := Lib.hid (hx.below hB)
    have HR := Lib.hid hrow
    have HIN := Lib.hid hin
    have N6 : Hid (¬ v.ownBlock = some (w.heap.size + 1)) := fun e => hv.not_row (by decide) hrow e.symm
    have N3 : Hid (¬ v.ownBlock = some w.heap.size) := fun e => hp.not_row (by decide) hrow e.symm
    have hpl : pre.length < k := hlt
    clear hv hp hB hx hrow hin hlt hcm
    gi_wp2_with fail
    have hS : Hid (Keep (fun b => v.ownBlock = some b) W W.drew) := (Keep.refl _ _).drew
    refine lz_round (z := 8) (m := 9) (fun W' => Keep (fun b => v.ownBlock = some b) W W') rfl (by kernel_rfl) (by kernel_rfl) (by rintro ⟨a, w, h⟩; exact h) ?_
    refine lz_take 0 31 (v := ?_) rfl rfl (by kernel_rfl) (by kernel_rfl) (by kernel_rfl) (by kernel_rfl) (fun _ _ _ _ _ h => h) (by rfl) hS.out (fun W' hW => ?_) ?_
    rotate_left
    · have z := hW.cell C6.out N6.out; go_simp; try rfl
    try simp only [Act.put, List.setIfInBounds_toArray, List.set_cons_zero, List.set_cons_succ]
    refine lz_take 1 32 (v := ?_) rfl rfl (by kernel_rfl) (by kernel_rfl) (by kernel_rfl) (by kernel_rfl) (fun _ _ _ _ _ h => h) (by rfl) hS.out (fun W' hW => ?_) ?_
    rotate_left
    · have z := hW.cell C3.out N3.out; go_simp; try rfl
    try simp only [Act.put, List.setIfInBounds_toArray, List.set_cons_zero, List.set_cons_succ]
    refine lz_take 2 33 (v := ?_) rfl rfl (by kernel_rfl) (by kernel_rfl) (by kernel_rfl) (by kernel_rfl) (fun _ _ _ _ _ h => h) (by rfl) hS.out (fun W' hW => ?_) ?_
    rotate_left
    · go_simp; try rfl
    try simp only [Act.put, List.setIfInBounds_toArray, List.set_cons_zero, List.set_cons_succ]
    refine lz_take 4 35 (v := ?_) rfl rfl (by kernel_rfl) (by kernel_rfl) (by kernel_rfl) (by kernel_rfl) (fun _ _ _ _ _ h => h) (by rfl) hS.out (fun W' hW => ?_) ?_
    rotate_left
    · go_simp; try rfl
    try simp only [Act.put, List.setIfInBounds_toArray, List.set_cons_zero, List.set_cons_succ]
    have hBd : Hid (Below w.heap.size w W.drew) := HB.out.drew
    have hWd : Hid (Below W.heap.size W W.drew) := (Below.refl _ _).drew
    clear hS
    generalize W.drew = u at *
    refine lz_op 3 rfl rfl (by kernel_rfl) (fun K hK => ?_)
    go_simp
    refine (behind_any u _ p i (HP.out.below hBd.out) (by rw [HK.out]; exact hi)).mono ?_
    rintro e u1 ⟨rfl, rfl⟩
    refine hK.out _ _ (Keep.of_below hWd.out) ?_
    clear hK K
    try simp only [Act.put, List.setIfInBounds_toArray, List.set_cons_zero, List.set_cons_succ]
    refine lz_op 5 rfl rfl (by kernel_rfl) (fun K hK => ?_)
    go_simp
    have hnr := L.nextOf_rng RP.out i
    have hbo := bodyof_any u (.slice A' m c') (L.nextOf p i) q (HX.out.below hWd.out) hrq.out hnr.1 hnr.2 (by rw [hqm.out]; omega)
    rw [hqm.out] at hbo
    refine hbo.mono ?_
    rintro e w2 ⟨rfl, hbk, hb2⟩
    clear hbo hnr
    obtain ⟨nx, hnx⟩ : ∃ nx, nx = L.nextOf p i := ⟨_, rfl⟩
    have HNX := Lib.hid hnx
    rw [← hnx] at hbk ⊢
    clear hnx
    have hW2 : Hid (Below W.heap.size W w2) := btr hWd.out hb2
    have hB2 : Hid (Below w.heap.size w w2) := btr hBd.out hb2
    have hg2 : Hid (w.heap.size ≤ u.heap.size) := hBd.out.size
    have HBK := Lib.hid hbk
    clear hbk hb2
    generalize u.heap.size = g2 at *
    refine hK.out _ _ (Keep.of_below hW2.out) ?_
    clear hK K hWd hBd
    try simp only [Act.put, List.setIfInBounds_toArray, List.set_cons_zero, List.set_cons_succ]
    refine lz_op 6 rfl rfl (by kernel_rfl) (fun K hK => ?_)
    go_simp
    have hW3 : Hid (Below W.heap.size W (w2.alloc (.cells #[.slice (some ⟨g2, 0, none⟩) (6 + 4 * m) (6 + 4 * m)] 48))) := bal hW2.out _
    have hB3 : Hid (Below w.heap.size w (w2.alloc (.cells #[.slice (some ⟨g2, 0, none⟩) (6 + 4 * m) (6 + 4 * m)] 48))) := bal hB2.out _
    have HBK3 : Hid (Bk (w2.alloc (.cells #[.slice (some ⟨g2, 0, none⟩) (6 + 4 * m) (6 + 4 * m)] 48)) g2 (L.bodyL nx q)) := HBK.out.below (alb _)
    have hcell : Hid ((w2.alloc (.cells #[.slice (some ⟨g2, 0, none⟩) (6 + 4 * m) (6 + 4 * m)] 48)).cell? ⟨w2.heap.size, 0, none⟩ = some (.slice (some ⟨g2, 0, none⟩) (6 + 4 * m) (6 + 4 * m))) := (Boxed.new _ _ _).cell
    clear hW2 hB2 HBK
    generalize hw3 : w2.alloc (.cells #[.slice (some ⟨g2, 0, none⟩) (6 + 4 * m) (6 + 4 * m)] 48) = w3 at *
    clear hw3
    generalize w2.heap.size = a2 at *
    refine hK.out _ _ (Keep.of_below hW3.out) ?_
    clear hK K
    try simp only [Act.put, List.setIfInBounds_toArray, List.set_cons_zero, List.set_cons_succ]
    refine lz_op 7 rfl rfl (by kernel_rfl) (fun K hK => ?_)
    have hrow3 : w3.ownsRow w.heap.size 48 1 v pre.length vs := by
      have := HR.out
      rw [List.length_map] at this
      exact own_keep this (Keep.of_below (F := fun _ => False) hW3.out) (fun _ _ q => q)
    have HR3 := Lib.hid hrow3
    clear hrow3
    refine wp_append_base _ _ 249 rfl w.heap.size 48 i0 _ 1 24 Tryz.underlying249 hi0 hz0 hz1 hz2 rfl (by decide) v pre.length vs rfl HR3.out ⟨a2, 0, none⟩ 1 1 [.slice (some ⟨g2, 0, none⟩) (6 + 4 * m) (6 + 4 * m)] rfl rfl ?c2 ?c3 ?c4 ?c5 ?c6 ?_
    case c2 =>
      intro j y hj
      have hj0 : j = 0 := by
        have := (List.getElem?_eq_some_iff.1 hj).1
        simp at this
        omega
      subst hj0
      simp at hj
      rw [← hj]
      exact hcell.out
    case c3 =>
      intro y hy
      rw [List.mem_singleton.1 hy]
      rfl
    case c4 => unfold maxLen; omega
    case c5 => omega
    case c6 => exact hB3.out.size
    intro v2 w4 hown hgrow
    obtain ⟨g4, cap4, rfl⟩ := ownsRow_succ hown
    have hk4 : Hid (Keep (fun b => v.ownBlock = some b) W w4) := Keep.grown (Keep.of_below hW3.out) hgrow (fun k hk => .inl hk)
    have HO4 := Lib.hid hown
    have HG4 := Lib.hid hgrow
    refine hK.out _ _ hk4.out ?_
    clear hK K hown hgrow
    show Lz _ _ _ _ _ _ _ (Act.put _ (some 38) _) _
    try simp only [Act.put, List.setIfInBounds_toArray, List.set_cons_zero, List.set_cons_succ]
    have q4 := hk4.out.cell C6.out N6.out
    have f4 := (hk4.out.frozen C6.out N6.out).trans HV.out.frozen
    refine lz_end rfl rfl (by kernel_rfl) (by kernel_rfl) (fun K hK => ?_)
    go_simp
    refine hK.out _ _ ?_
    clear hK K q4 f4
    have hbx := boxed_keep HV.out hk4.out N6.out
    have hpx := boxed_keep HPG.out hk4.out N3.out
    obtain ⟨cur4, hc4, hg4⟩ := own_block HO4.out (b := g4) rfl
    have hne4 : g4 ≠ w.heap.size + 1 := fun e => by
      rw [e] at hc4
      have := (show w4.heap[w.heap.size + 1]? = _ from hbx).symm.trans hc4
      simp at this
    have hvb : ∀ b, v.ownBlock = some b → ∃ cur, w3.heap[b]? = some (.cells cur 48 (0, 0)) ∧ w.heap.size ≤ b := fun b hb => own_block HR3.out hb
    refine ⟨(keep_others hk4.out (fun b o hb ho => ?_)).trans (KeepsOthers.setCell _ _ _), trivial, ⟨_, hbx.set _, ?_⟩, hpx.kept (grownBy_setCell' _ _ _) (fun e => by simp at e), ?_⟩
    · obtain ⟨cur, hc, _⟩ := own_block HR.out hb
      rw [hc] at ho
      cases ho
      rfl
    · have eb : (pre ++ [x]).map (fun x => L.bodyAt l p x.at) = pre.map (fun x => L.bodyAt l p x.at) ++ [L.bodyL nx q] := by
        rw [List.map_append, HNX.out, HQ.out, HXI.out]
        rfl
      rw [eb]
      have el : (L.bodyL nx q).length = 6 + 4 * m := by rw [L.bodyL_length, hqm.out]
      refine Bods.snoc (W := w3) (g := g2) (vs := vs) (fun i' hi' => ?_) (by rw [List.length_map]; exact hvl) (fun g' cur hx => ?_) ?_ HBK3.out hg2.out
      · obtain ⟨g', e, hb', hk'⟩ := HIN.out i' hi'
        exact ⟨g', e, hb', hk'.below hW3.out⟩
      · have h4 : w4.heap[g']? = some (.cells cur 5 (0, 0)) := (HG4.out.block g' (Array.getElem?_eq_some_iff.1 hx).1 (fun e => by
          obtain ⟨cur', hc', _⟩ := hvb g' e.symm
          rw [hx] at hc'
          simp at hc')).trans hx
        refine (Below.heap_setCell _ _ _ g' (fun e => ?_)).trans h4
        have e' : g' = w.heap.size + 1 := e
        rw [e'] at h4
        have := (show w4.heap[w.heap.size + 1]? = _ from hbx).symm.trans h4
        simp at this
      · rw [el, List.length_map]
        exact own_keep HO4.out (Keep.setCell (F := fun b => b = w.heap.size + 1) (Keep.refl _ w4) (p := ⟨w.heap.size + 1, 0, none⟩) (.inl rfl) _) (fun b hb e => by
          have : g4 = b := by simpa [Value.ownBlock] using hb
          omega)
    · refine (hB3.out.grown HG4.out hB3.out.size (fun b hb => (hvb b hb).choose_spec.2)).setCell (p := ⟨w.heap.size + 1, 0, none⟩) ?_ _
      show w.heap.size ≤ w.heap.size + 1
      omega
theorem bodies_any (w : World) (v v2 : Value) (l p : List Int) (h : Nums w v l) (h2 : Nums w v2 p) (rl : Rg l) (rp : Rg p) (hm : p.length ≤ 1000000) :
    Calls Tryz.prog 170 #[v, v2] w fun e w' => ∃ u, e = .returned (.tuple #[u, .int .i64 ((L.bodiesE l p : Nat) : Int)]) ∧ Bods w' w.heap.size u (L.bodiesL l p) ∧ Below w.heap.size w w' := by
  obtain ⟨A, c, e, _, _⟩ := h.form
  obtain ⟨A2, c2, e2, _, _⟩ := h2.form
  subst e e2
  have H1 : Hid (∀ W : World, Below w.heap.size w W → Calls Tryz.prog 160 #[.slice A l.length c] W fun e w' => e = .returned (.bool (L.ris 1 l)) ∧ W = w') := fun W hW => rising_any W _ l (h.below hW)
  have H2 : Hid (∀ W : World, Below w.heap.size w W → Calls Tryz.prog 175 #[.slice A2 p.length c2] W fun e w' => e = .returned (.bool (L.onD p)) ∧ W = w') := fun W hW => ondisk_any W _ p (h2.below hW)
  by_cases q : L.bodiesE l p = 0
  · obtain ⟨q1, q2, q3⟩ := L.bodiesE_zero q
    rw [q1] at H1
    rw [q2] at H2
    rw [L.bodiesL_ok q, q]
    exact bodies_ok w A A2 l.length p.length c c2 l p q3 hm rfl rfl h h2 rl rp H1 H2
  · have q1 : L.bodiesE l p = 1 := (L.bodiesE_cases l p).resolve_left q
    rw [L.bodiesL_no q, q1]
    refine (bodies_bad w A A2 l.length c p.length c2 _ _ ?_ (by omega) H1 H2).mono ?_
    · unfold L.bodiesE at q
      by_cases a1 : L.ris 1 l = true
      · by_cases a2 : L.onD p = true
        · refine .inr (.inr ⟨a1, a2, ?_⟩)
          have : ¬ l.length ≤ 123 * p.length := fun a3 => q (if_pos ⟨a1, a2, a3⟩)
          omega
        · exact .inr (.inl ⟨a1, by simpa using a2⟩)
      · exact .inl (by simpa using a1)
    · rintro e w' ⟨rfl, hB⟩
      exact ⟨_, rfl, Bods.nil _ _, hB⟩
end Go.Proofs.YtlcnefeikejcaaaGreatDoor
namespace Go.Proofs.YtlcnefeikejcaaaGreatDoor
open Go.RowKit Go.Sort Go.Maps
open D (St)
set_option maxRecDepth 100000
def wrL : St → List (Nat × List UInt8) → St × Int
  | d, [] => (d, 0)
  | d, x :: r => if D.writeE d (x.1 : Int) x.2 = 0 then wrL (D.write d (x.1 : Int) x.2) r else (D.write d (x.1 : Int) x.2, D.writeE d (x.1 : Int) x.2)
theorem wrL_ok : ∀ (A B : List (Nat × List UInt8)) (d : St), (wrL d A).2 = 0 → wrL d (A ++ B) = wrL (wrL d A).1 B
  | [], _, _, _ => rfl
  | x :: r, B, d, h => by
    simp only [List.cons_append, wrL] at h ⊢
    split at h
    · rename_i h1
      rw [if_pos h1, if_pos h1]
      exact wrL_ok r B _ h
    · rename_i h1
      exact absurd h h1
theorem wrL_bad : ∀ (A B : List (Nat × List UInt8)) (d : St), (wrL d A).2 ≠ 0 → wrL d (A ++ B) = wrL d A
  | [], _, _, h => absurd rfl h
  | x :: r, B, d, h => by
    simp only [List.cons_append, wrL] at h ⊢
    split at h
    · rename_i h1
      rw [if_pos h1, if_pos h1]
      exact wrL_bad r B _ h
    · rename_i h1
      rw [if_neg h1, if_neg h1]
theorem wrL_one (d : St) (x : Nat × List UInt8) : wrL d [x] = (D.write d (x.1 : Int) x.2, D.writeE d (x.1 : Int) x.2) := by
  simp only [wrL]
  split
  · rename_i h; rw [h]
  · rfl
theorem wrL_next (d : St) (J : List (Nat × List UInt8)) (i : Nat) (hi : i < J.length) (h : (wrL d (J.take i)).2 = 0) : wrL d (J.take (i + 1)) = (D.write (wrL d (J.take i)).1 (J[i].1 : Int) J[i].2, D.writeE (wrL d (J.take i)).1 (J[i].1 : Int) J[i].2) := by
  rw [List.take_succ_eq_append_getElem hi, wrL_ok _ _ _ h, wrL_one]
theorem wrL_stop (d : St) (J : List (Nat × List UInt8)) (i : Nat) (h : (wrL d (J.take i)).2 ≠ 0) : wrL d J = wrL d (J.take i) := by
  conv => lhs; rw [← List.take_append_drop i J]
  exact wrL_bad _ _ _ h
theorem write_len (d : St) (n : Int) (b : List UInt8) : (D.write d n b).waits.length ≤ d.waits.length + 1 ∧ (D.write d n b).writes ≤ d.writes + 1 := by
  unfold D.write
  split
  · rw [D.act_waits, D.act_writes]
    simp [D.put]
  · exact ⟨by omega, by omega⟩
theorem wrL_len : ∀ (J : List (Nat × List UInt8)) (d : St), (wrL d J).1.waits.length ≤ d.waits.length + J.length ∧ (wrL d J).1.writes ≤ d.writes + J.length
  | [], d => ⟨Nat.le_refl _, Nat.le_refl _⟩
  | x :: r, d => by
    obtain ⟨h1, h2⟩ := write_len d (x.1 : Int) x.2
    simp only [wrL, List.length_cons]
    split
    · obtain ⟨h3, h4⟩ := wrL_len r (D.write d (x.1 : Int) x.2)
      exact ⟨by omega, by omega⟩
    · exact ⟨by simp only; omega, by simp only; omega⟩
def jobsF (fs : List Fr) : List (Nat × List UInt8) := fs.map fun f => (f.n.toNat, G.sealL f.n.toNat f.k f.b)
def jobsL (pages : List Int) (bs : List (List UInt8)) : List (Nat × List UInt8) := (List.range bs.length).map fun i => ((pages.getD i 0).toNat, G.sealL (pages.getD i 0).toNat 2 (bs.getD i []))
theorem wpList_look1 {w : World} {ops : Array Oper} {rest : List Oper} {o : Oper} {a : Act} {Q : Exit → Act → World → Prop} (hg : o.guard = none) (m x : Operand) (hop : o.op = Op.lookup 125 m x false)
    (col : Nat → Nat) (mb : Nat) (fs : List Fr) (D : DataW Value) (M : Mc w col mb fs D) (f : Fr) (hf : f ∈ fs) (n : Int) (hn : f.n = n) (v : Value) (hv : ∀ zd, D.atKey (.int .u32 f.n) zd = .held (cva f.k v)) (hm : a.eval m = .map (some mb)) (hx : a.eval x = .int .u32 n)
    (h : wpList Tryz.prog ops Q rest (a.put o.dst (cva f.k v)) w) : wpList Tryz.prog ops Q (o :: rest) a w := by
  subst hn
  obtain ⟨n0, n1⟩ := M.ris.rng f.n (List.mem_map.2 ⟨f, hf, rfl⟩)
  refine wpList_plain hg fun K hK => ?_
  obtain ⟨v', ps, hrun, hv'⟩ := M.own.lookup klaw Tryz.underlying125 (zero_cont w) (zd := .held (.agg zcont)) (zp := []) rfl (key_u32 n0 n1)
  have e := allE_inv hv'
  rw [hv] at e
  simp only [DataW.held.injEq] at e
  subst e
  unfold Oper.wp execOp
  simp only [hop, hm, hx, Sem.run_bind, hrun, Result.andThen_ok]
  exact hK _ _ h
theorem DTurned.of {w w1 w2 : World} {p g : Nat} {wv wv' : Value} {s2 : St} (k : Keep (dfp p g wv) w w1) (f : ∀ b, wv'.ownBlock = some b → wv.ownBlock = some b ∨ w.heap.size ≤ b) (h : DTurned w1 w2 p g wv' s2) : DTurned w w2 p g wv s2 := by
  obtain ⟨wv2, d2, k2, f2⟩ := h
  refine ⟨wv2, d2, k.trans k2 (fun i hi => ?_), fun b hb => ?_⟩
  · rcases hi with q | q | q
    · exact .inl (.inl q)
    · exact .inl (.inr (.inl q))
    · exact (f i q).imp (fun q => .inr (.inr q)) id
  · rcases f2 b hb with q | q
    · exact f b q
    · exact .inr (Nat.le_trans k.size q)
theorem Bods.keepK {F : Nat → Prop} {W W' : World} {base : Nat} {v : Value} {bs : List (List UInt8)} (h : Bods W base v bs) (k : Keep F W W') (hF : ∀ b, base ≤ b → ¬ F b) : Bods W' base v bs := by
  obtain ⟨vs, hr, hi⟩ := h
  refine ⟨vs, own_keep hr k (fun b hb => hF b (hr.lt b hb).1), fun i hb => ?_⟩
  obtain ⟨g, e, hb2, hk⟩ := hi i hb
  exact ⟨g, e, hb2, (k.block g (Array.getElem?_eq_some_iff.1 hk.1).1 (hF g hb2)).trans hk.1, hk.2⟩
theorem Tab.keep {F : Nat → Prop} {w w' : World} (h : Tab w) (k : Keep F w w') (h0 : ¬ F 0) : Tab w' := fun i hi => k.cell (h i hi) h0
set_option maxHeartbeats 3200000 in
theorem writepages_any (w : World) (col : Nat → Nat) (p dp g : Nat) (wv : Value) (d : St) (s : Pm) (hP : Pgr w col p (.pointer (some ⟨dp, 0, none⟩)) s) (hd : Dsk w dp g wv d) (hcol : ∀ b, dfp dp g wv b → col b = 30) (hT : Tab w) (h99 : col 0 = 99) (A1 A2 : Option Addr) (c1 c2 : Nat) (pages names : List Int)
    (hN1 : Nums w (.slice A1 pages.length c1) pages) (hN2 : Nums w (.slice A2 names.length c2) names) (hB1 : ∀ b, (Value.slice A1 pages.length c1).ownBlock = some b → col b ≠ 30) (hB2 : ∀ b, (Value.slice A2 names.length c2).ownBlock = some b → col b ≠ 30) (hg1 : Pgn 4096 pages) (hg2 : Pgn 4096 names) (hl : pages.length ≤ 4096) (h1 : d.waits.length ≤ 900000) (h2 : d.writes ≤ 900000) :
    Calls Tryz.prog 151 #[.pointer (some ⟨p, 0, none⟩), .agg #[.slice A1 pages.length c1, .slice A2 names.length c2]] w fun e w' => e = .returned (.int .i64 (wrL d (jobsF s.x.fresh ++ jobsL pages (L.bodiesL names pages))).2) ∧
      DTurned w w' dp g wv (wrL d (jobsF s.x.fresh ++ jobsL pages (L.bodiesL names pages))).1 := by
  have hfl : s.x.fresh.length ≤ 4096 := by have := hP.ok.frl; simpa [nums] using this
  have HB : Hid (Below w.heap.size w (w.alloc (.cells #[.slice A1 pages.length c1, .slice A2 names.length c2] 121))) := alb _
  have HL : Hid ((w.alloc (.cells #[.slice A1 pages.length c1, .slice A2 names.length c2] 121)).rangeAt w.heap.size 0 [.slice A1 pages.length c1, .slice A2 names.length c2]) := two_new w _ _
  have HF := Lib.hid (fresh_any _ col p _ s (hP.below HB.out))
  have HP := Lib.hid (hP.below HB.out)
  have HD := Lib.hid (hd.below HB.out)
  have HDL := Lib.hid hd.lt
  have HCO := Lib.hid hcol
  have HTT := Lib.hid (hT.below HB.out)
  have HN1 := Lib.hid (hN1.below HB.out)
  have HN2 := Lib.hid (hN2.below HB.out)
  have hsz : Hid ((w.alloc (.cells #[.slice A1 pages.length c1, .slice A2 names.length c2] 121)).heap.size = w.heap.size + 1) := by
    show _ = _
    simp
  clear hP hd hcol hT hN1 hN2
  generalize hJ1 : jobsF s.x.fresh = J1
  have HJ1 := Lib.hid hJ1
  go_enter Tryz.func151, Tryz.ntmps151
  go_wp2_with (go_at_call 22; refine HF.out.mono ?_; rintro e w1 ⟨v1, rfl, o1, b1⟩; obtain ⟨A0, cc0, e0⟩ := own_form o1; subst e0)
  have HB1 := Lib.hid (btr HB.out b1)
  have HP1 := Lib.hid (HP.out.below b1)
  have HD1 := Lib.hid (HD.out.below b1)
  have HT1 := Lib.hid (HTT.out.below b1)
  have HL1 := Lib.hid (range_keep (F := fun _ => False) HL.out (Keep.of_below b1) (fun h => h))
  have HO1 := Lib.hid o1
  have HX0 : Hid (∀ b, (Value.slice A0 (nums s.x.fresh).length cc0).ownBlock = some b → ¬ dfp dp g wv b) := fun b hb q => by
    have h1 := (o1.lt b hb).1
    have h2 := HDL.out b q
    have h3 := hsz.out
    omega
  have HN1' := Lib.hid (HN1.out.below b1)
  have HN2' := Lib.hid (HN2.out.below b1)
  have HXL : Hid (¬ dfp dp g wv w.heap.size) := fun q => by have := HDL.out _ q; omega
  have hlen : (nums s.x.fresh).length = J1.length := by rw [← hJ1]; simp [nums, jobsF]
  have HLN := Lib.hid hlen
  have HPK : Hid (∀ W, Keep (dfp dp g wv) w1 W → Pgr W col p (.pointer (some ⟨dp, 0, none⟩)) s) := fun W kW => HP1.out.keep kW (fun b hb q => by have := HCO.out b q; have := hb.2; omega)
  have HTK : Hid (∀ W, Keep (dfp dp g wv) w1 W → Tab W) := fun W kW => HT1.out.keep kW (fun q => by have := HCO.out 0 q; omega)
  clear o1 b1 HB HP HD HTT HL HF HN1 HN2 hJ1 hlen
  go_loopg [16] J1.length (fun k sx wr => ∃ i : Nat, sx = .int .i64 i ∧ i ≤ J1.length ∧ J1.length - i ≤ k ∧ Hid (DTurned w1 wr dp g wv (wrL d (J1.take i)).1 ∧ (wrL d (J1.take i)).2 = 0))
  case atStart => exact ⟨0, rfl, by omega, by omega, Lib.hid ⟨by rw [List.take_zero]; exact DTurned.refl HD1.out, by rw [List.take_zero]; rfl⟩⟩
  case round =>
    obtain ⟨i, rfl, hi1, hi2, HR⟩ := hrel
    obtain ⟨wv', D', K', f'⟩ := HR.out.1
    have PW := HPK.out wr K'
    obtain ⟨ok, cp, lv, pf0, pd0, m0, pf, pd, mb, C, S0, S, _⟩ := PW
    obtain ⟨DM, M⟩ := S.map
    by_cases hi : i < J1.length
    · have hi3 : i < s.x.fresh.length := by have := HLN.out; simp only [nums, List.length_map] at this; omega
      have hi4 : i < (nums s.x.fresh).length := by have := HLN.out; omega
      have hn0 : (nums s.x.fresh)[i]! = s.x.fresh[i].n := by rw [getElem!_pos _ i hi4]; simp [nums]
      have hj : J1[i] = (s.x.fresh[i].n.toNat, G.sealL s.x.fresh[i].n.toNat s.x.fresh[i].k s.x.fresh[i].b) := by
        have h1 := HJ1.out
        subst h1
        simp [jobsF]
      have ORW := own_keep HO1.out K' (fun b hb => HX0.out b hb)
      obtain ⟨f, hf⟩ : ∃ f, f = s.x.fresh[i] := ⟨_, rfl⟩
      have hfm : f ∈ s.x.fresh := by rw [hf]; exact List.getElem_mem _
      rw [← hf] at hj hn0
      obtain ⟨n0, n1⟩ := M.ris.rng f.n (List.mem_map.2 ⟨f, hfm, rfl⟩)
      obtain ⟨m, hm⟩ := Int.eq_ofNat_of_zero_le n0
      obtain ⟨v, hv, hb, _⟩ := M.at_ f hfm
      obtain ⟨l1, l2⟩ := wrL_len (J1.take i) d
      rw [List.length_take] at l1 l2
      have HJL : J1.length ≤ 4096 := by have := HLN.out; simp only [nums, List.length_map] at this; omega
      have CW := Lib.hid (writepage_any wr p dp g wv' _ D' C.cd m (by omega) f.k v f.b hb (HTK.out wr K') (by omega) (by omega))
      have HNX := Lib.hid (wrL_next d J1 i hi HR.out.2)
      rw [hj, hm] at HNX
      simp only [Int.toNat_natCast] at HNX
      have NR : Nums wr (.slice A0 (nums s.x.fresh).length cc0) (nums s.x.fresh) := Nums.own (Go.Joins.ownsRow_le ORW (Nat.zero_le _))
      obtain ⟨A', c', e1, _, _, q⟩ := NR
      simp only [Value.slice.injEq] at e1
      obtain ⟨rfl, _, rfl⟩ := e1
      obtain ⟨bb, off, rfl, hcell⟩ := q (by omega)
      have cx := hcell i hi4
      rw [hn0, hm] at cx
      have c83 : wr.cell? ⟨p, 83, none⟩ = some (.map (some mb)) := scs_map C.rn ok.rtl
      have hlt : (i : Int) < ((nums s.x.fresh).length : Int) := by omega
      have HMM := Lib.hid M
      have HVV := Lib.hid hv
      have HFM := Lib.hid hfm
      have HMN := Lib.hid hm
      have HTR : Hid (DTurned w1 wr dp g wv (wrL d (J1.take i)).1) := HR.out.1
      have HK' := Lib.hid K'
      clear hcell q hv M C S0 S ORW n0 n1 hb hfm hf hn0 hj l1 l2 hm K'
      generalize G.sealL m f.k f.b = SL at *
      by_cases hE : D.writeE (wrL d (J1.take i)).1 (m : Int) SL = 0
      · rw [hE] at CW HNX
        go_wp2_with (first
          | (at_lookup; refine wpList_look1 rfl (.tmp 26) (.tmp 27) rfl col mb s.x.fresh DM HMM.out f HFM.out (m : Int) HMN.out v HVV.out rfl rfl ?_)
          | (go_at_call 169; refine CW.out.mono ?_; rintro e w5 ⟨rfl, t5⟩))
        have HT5 : Hid (DTurned w1 w5 dp g wv (wrL d (J1.take (i + 1))).1) := Lib.hid (by
          rw [HNX.out]
          exact DTurned.of HK'.out f' t5)
        have HZ5 : Hid ((wrL d (J1.take (i + 1))).2 = 0) := Lib.hid (by rw [HNX.out])
        clear t5
        go_roundg (J1.length - (i + 1))
        case measure => omega
        case rel => exact ⟨i + 1, by simp, by omega, by omega, Lib.hid ⟨HT5.out, HZ5.out⟩⟩
      · have q1 : (D.writeE (wrL d (J1.take i)).1 (m : Int) SL == 0) = false := by simpa using hE
        have q2 : (D.writeE (wrL d (J1.take i)).1 (m : Int) SL != 0) = true := by simpa using hE
        have HEE := Lib.hid hE
        have HRES : Hid (wrL d (J1 ++ jobsL pages (L.bodiesL names pages)) = (D.write (wrL d (J1.take i)).1 (m : Int) SL, D.writeE (wrL d (J1.take i)).1 (m : Int) SL)) := Lib.hid (by
          have h1 := HNX.out
          have h2 := wrL_stop d J1 (i + 1) (by rw [h1]; exact HEE.out)
          rw [wrL_bad _ _ _ (by rw [h2, h1]; exact HEE.out), h2, h1])
        clear hE
        generalize D.writeE (wrL d (J1.take i)).1 (m : Int) SL = WE at *
        go_wp2_with (first
          | (at_lookup; refine wpList_look1 rfl (.tmp 26) (.tmp 27) rfl col mb s.x.fresh DM HMM.out f HFM.out (m : Int) HMN.out v HVV.out rfl rfl ?_)
          | (go_at_call 169; refine CW.out.mono ?_; rintro e w5 ⟨rfl, t5⟩))
        go_ret
        rw [HRES.out]
        exact ⟨rfl, DTurned.pre HB1.out (DTurned.of HK'.out f' t5)⟩
    · obtain rfl : i = J1.length := by omega
      have hz : ¬ (J1.length : Int) < ((nums s.x.fresh).length : Int) := by have := HLN.out; omega
      have HT8 : Hid (DTurned w1 wr dp g wv (wrL d J1).1) := Lib.hid (by have h1 := HR.out.1; rwa [List.take_length] at h1)
      have HZ8 : Hid ((wrL d J1).2 = 0) := Lib.hid (by have h1 := HR.out.2; rwa [List.take_length] at h1)
      have HL8 := Lib.hid (range_keep HL1.out K' HXL.out)
      have HA8 : Hid (Nums wr (.slice A1 pages.length c1) pages) := nkeep HN1'.out K' (fun h0 b hb q => hB1 b hb (HCO.out b q))
      have HB8 : Hid (Nums wr (.slice A2 names.length c2) names) := nkeep HN2'.out K' (fun h0 b hb q => hB2 b hb (HCO.out b q))
      have rp : Rg pages := fun x hx => by have := hg1 x hx; omega
      have rn : Rg names := fun x hx => by have := hg2 x hx; omega
      have CB := Lib.hid (bodies_any wr _ _ names pages HB8.out HA8.out rn rp (by omega))
      have q0 := HL8.out 0 _ rfl
      have q1 := HL8.out 1 _ rfl
      have HK' := Lib.hid K'
      have HD8 : Hid (Dsk wr dp g wv' (wrL d J1).1) := Lib.hid (by rw [List.take_length] at D'; exact D')
      have HF8 := Lib.hid f'
      clear HR K' D' f' C S0 S M rn rp hi
      generalize hbs : L.bodiesL names pages = bs at *
      have HBS := Lib.hid hbs
      go_wp2_with (go_at_call 170; refine CB.out.mono ?_; rintro e w9 ⟨u, rfl, hbo, b9⟩; obtain ⟨vs, hr9, hi9⟩ := id hbo; obtain ⟨A9, c9, e9⟩ := own_form hr9; subst e9)
      have HBO := Lib.hid hbo
      have HB9 := Lib.hid b9
      have q09 := kept q0 b9
      clear hbo b9 hr9 hi9 vs CB q1 q0 hbs
      obtain ⟨w8, hw8⟩ : ∃ x, x = wr := ⟨_, rfl⟩
      subst hw8
      have HD9 := Lib.hid (HD8.out.below HB9.out)
      have HLT9 : Hid (∀ b, w8.heap.size ≤ b → ¬ dfp dp g wv' b) := fun b hb q => by have := HD8.out.lt b q; omega
      have HBL : Hid (bs.length ≤ pages.length) := Lib.hid (by
        rw [← HBS.out]
        unfold L.bodiesL
        split <;> simp)
      have hJ2 : (jobsL pages bs).length = bs.length := by simp [jobsL]
      have HJ2 := Lib.hid hJ2
      clear hJ2
      go_loopg [44] bs.length (fun k sx wr => ∃ i : Nat, sx = .int .i64 i ∧ i ≤ bs.length ∧ bs.length - i ≤ k ∧ Hid (DTurned w9 wr dp g wv' (wrL (wrL d J1).1 ((jobsL pages bs).take i)).1 ∧ (wrL (wrL d J1).1 ((jobsL pages bs).take i)).2 = 0))
      case atStart => exact ⟨0, rfl, by omega, by omega, Lib.hid ⟨by rw [List.take_zero]; exact DTurned.refl HD9.out, by rw [List.take_zero]; rfl⟩⟩
      case round =>
        clear q09
        obtain ⟨i, rfl, hi1, hi2, HR⟩ := hrel
        obtain ⟨wv2, D2, K2, f2⟩ := HR.out.1
        have K12 : Keep (dfp dp g wv) w1 wr := (HK'.out.step HB9.out).trans K2 (fun j hj => by
          rcases hj with q | q | q
          · exact .inl (.inl q)
          · exact .inl (.inr (.inl q))
          · exact (HF8.out j q).imp (fun q => .inr (.inr q)) id)
        have HTOT : Hid (DTurned w1 wr dp g wv (wrL (wrL d J1).1 ((jobsL pages bs).take i)).1) := DTurned.of (HK'.out.step HB9.out) (fun b hb => HF8.out b hb) HR.out.1
        by_cases hi : i < bs.length
        · have PW := HPK.out wr K12
          obtain ⟨_, _, _, _, _, _, _, C⟩ := PW.cells
          have hi3 : i < pages.length := by have := HBL.out; omega
          have BW := HBO.out.keepK K2 HLT9.out
          obtain ⟨vs, hr, hin⟩ := BW
          obtain ⟨gb, e1, _, hk⟩ := hin i hi
          obtain ⟨g9, rfl⟩ : ∃ g9, A9 = some ⟨g9, 0, none⟩ := by
            rcases hr.2 with ⟨q, h0⟩ | ⟨g9, cap, cur, q, _⟩
            · omega
            · simp only [Value.slice.injEq] at q
              exact ⟨g9, q.1⟩
          have cb := hr.cellAt i (by omega)
          rw [e1] at cb
          have NP : Nums wr (.slice A1 pages.length c1) pages := nkeep HN1'.out K12 (fun h0 b hb q => hB1 b hb (HCO.out b q))
          obtain ⟨A', c', e2, _, _, q⟩ := NP
          simp only [Value.slice.injEq] at e2
          obtain ⟨rfl, _, rfl⟩ := e2
          obtain ⟨bb1, off1, rfl, hcell⟩ := q (by omega)
          have cx := hcell i hi3
          obtain ⟨m, hm⟩ := Int.eq_ofNat_of_zero_le (show 0 ≤ pages[i]! by
            have := hg1 pages[i] (List.getElem_mem _)
            rw [getElem!_pos pages i hi3]
            omega)
          have hm2 : m < 4294967296 := by
            have := hg1 pages[i] (List.getElem_mem _)
            rw [getElem!_pos pages i hi3] at hm
            omega
          rw [hm] at cx
          have ql := range_keep HL1.out K12 HXL.out 0 _ rfl
          obtain ⟨l1, l2⟩ := wrL_len ((jobsL pages bs).take i) (wrL d J1).1
          obtain ⟨l3, l4⟩ := wrL_len J1 d
          rw [List.length_take] at l1 l2
          have HJL : J1.length ≤ 4096 := by have := HLN.out; simp only [nums, List.length_map] at this; omega
          have HJ2' := HJ2.out
          have CW := Lib.hid (writepage_any wr p dp g wv2 _ D2 C.cd m hm2 2 _ bs[i] hk.byts (HTK.out wr K12) (by omega) (by omega))
          have hj : (jobsL pages bs)[i]'(by omega) = (m, G.sealL m 2 bs[i]) := by
            have h1 : pages.getD i 0 = (m : Int) := by
              rw [← hm, getElem!_pos pages i hi3]
              simp [List.getD, hi3]
            simp [jobsL, List.getD, hi] at h1 ⊢
            rw [h1]
            simp
          have HNX := Lib.hid (wrL_next (wrL d J1).1 (jobsL pages bs) i (by omega) HR.out.2)
          rw [hj] at HNX
          have hbc : ∀ W : World, (Instr.build 140 #[(0, .int .u8 2), (1, .slice (some ⟨gb, 0, none⟩) bs[i].length bs[i].length)]).run Tryz.prog W = .ok (.agg #[.int .u8 2, .slice (some ⟨gb, 0, none⟩) bs[i].length bs[i].length]) W := fun W => run_build_cont2 2 (some ⟨gb, 0, none⟩) bs[i].length bs[i].length W
          have hlt : (i : Int) < (bs.length : Int) := by omega
          have hlt2 : (i : Int) < (pages.length : Int) := by omega
          have HK2 := Lib.hid K2
          simp only [cva, show (((2 : UInt8).toNat : Nat) : Int) = 2 from rfl] at CW
          clear hcell q hr hin e1 hk C PW l1 l2 l3 l4 hj hm K2 K12 vs
          generalize G.sealL m 2 bs[i] = SL at *
          generalize hbl : bs[i].length = BL at *
          clear hbl
          by_cases hE : D.writeE (wrL (wrL d J1).1 ((jobsL pages bs).take i)).1 (m : Int) SL = 0
          · rw [hE] at CW HNX
            go_wp2_with (first
              | (go_at_call 169; refine CW.out.mono ?_; rintro e w5 ⟨rfl, t5⟩))
            have HT5 : Hid (DTurned w9 w5 dp g wv' (wrL (wrL d J1).1 ((jobsL pages bs).take (i + 1))).1) := Lib.hid (by
              rw [HNX.out]
              exact DTurned.of HK2.out f2 t5)
            have HZ5 : Hid ((wrL (wrL d J1).1 ((jobsL pages bs).take (i + 1))).2 = 0) := Lib.hid (by rw [HNX.out])
            clear t5
            go_roundg (bs.length - (i + 1))
            case measure => omega
            case rel => exact ⟨i + 1, by simp, by omega, by omega, Lib.hid ⟨HT5.out, HZ5.out⟩⟩
          · have q1 : (D.writeE (wrL (wrL d J1).1 ((jobsL pages bs).take i)).1 (m : Int) SL == 0) = false := by simpa using hE
            have q2 : (D.writeE (wrL (wrL d J1).1 ((jobsL pages bs).take i)).1 (m : Int) SL != 0) = true := by simpa using hE
            have HRES : Hid (wrL d (J1 ++ jobsL pages bs) = (D.write (wrL (wrL d J1).1 ((jobsL pages bs).take i)).1 (m : Int) SL, D.writeE (wrL (wrL d J1).1 ((jobsL pages bs).take i)).1 (m : Int) SL)) := Lib.hid (by
              have h1 := HNX.out
              rw [wrL_ok _ _ _ HZ8.out, wrL_stop _ _ (i + 1) (by rw [h1]; exact hE), h1])
            clear hE
            generalize D.writeE (wrL (wrL d J1).1 ((jobsL pages bs).take i)).1 (m : Int) SL = WE at *
            go_wp2_with (first
              | (go_at_call 169; refine CW.out.mono ?_; rintro e w5 ⟨rfl, t5⟩))
            go_ret
            have hbs9 := HBS.out
            subst hbs9
            rw [HRES.out]
            exact ⟨rfl, DTurned.pre HB1.out (DTurned.of (HK'.out.step HB9.out) (fun b hb => HF8.out b hb) (DTurned.of HK2.out f2 t5))⟩
        · obtain rfl : i = bs.length := by omega
          have HRES : Hid (wrL d (J1 ++ jobsL pages bs) = wrL (wrL d J1).1 ((jobsL pages bs).take bs.length)) := Lib.hid (by
            rw [wrL_ok _ _ _ HZ8.out, List.take_of_length_le (by have := HJ2.out; omega)])
          have HZ9 : Hid ((wrL (wrL d J1).1 ((jobsL pages bs).take bs.length)).2 = 0) := Lib.hid HR.out.2
          have hz9 : ¬ (bs.length : Int) < (bs.length : Int) := by omega
          go_wp2
          go_ret
          have hbs9 := HBS.out
          subst hbs9
          rw [HRES.out, HZ9.out]
          exact ⟨rfl, DTurned.pre HB1.out HTOT.out⟩
end Go.Proofs.YtlcnefeikejcaaaGreatDoor
