/- The document's own Read, as mathematics. -/
import Derived.Test.YtceoelemlokelaaHu
namespace Go.Proofs.Ytceoelemlokelaa
namespace N

theorem readOK_iff (kd : Nat) (l : List UInt8) (k v : Int) : readOK kd l k v = true ↔ 2 ≤ l.length ∧ may kd (count l) k v = true ∧ l.length = sizeN (decide (kd = 3)) (count l) k.toNat v.toNat ∧ right (parse (decide (kd = 3)) l (count l) k.toNat v.toNat) k v = true := by
  unfold readOK
  simp only [Bool.and_eq_true, decide_eq_true_eq]
theorem readOK_len {kd : Nat} {l : List UInt8} {k v : Int} (h : readOK kd l k v = true) : l.length ≤ 500 ∧ (kd = 3 ∨ kd = 4) ∧ (1 ≤ k ∧ k ≤ 24 ∧ 0 ≤ v ∧ v ≤ 108) := by
  obtain ⟨h2, hm, hl, hr⟩ := (readOK_iff kd l k v).1 h
  have hk := may_kd hm
  refine ⟨?_, hk.1, may_fits hm⟩
  rcases hk.1 with rfl | rfl
  · have := may_leaf hm
    rw [hl]
    show 2 + _ ≤ _
    omega
  · have := may_inner hm
    rw [hl]
    show 2 + _ * 4 + _ ≤ _
    omega
/-- What the document's own reading ends with: a node of so many parts, which has that body or not. -/
def took (n : Nd) (l : List UInt8) (k v : Int) : Bool := decide (wE n k v = 0) && decide (wB n k v = l)
theorem took_iff (n : Nd) (l : List UInt8) (k v : Int) : took n l k v = true ↔ right n k v = true ∧ body n = l := by
  unfold took wE wB
  rw [Bool.and_eq_true, decide_eq_true_eq, decide_eq_true_eq]
  by_cases h : right n k v = true
  · rw [if_pos h, if_pos h]
    exact ⟨fun q => ⟨h, q.2⟩, fun q => ⟨rfl, q.2⟩⟩
  · rw [if_neg h, if_neg h]
    exact ⟨fun q => absurd q.1 (by omega), fun q => absurd q.1 h⟩
theorem ref_leaf (l : List UInt8) (m k v : Nat) (h2 : 2 ≤ l.length) (hm : m ≤ count l) (hx : ¬ (m < count l ∧ 2 + m * (k + v) + k + v ≤ l.length)) :
    (took ⟨true, keysL l m k v, valsL l m k v, []⟩ l k v = readOK 3 l k v) ∧ (readOK 3 l k v = true → (⟨true, keysL l m k v, valsL l m k v, []⟩ : Nd) = parse true l (count l) k v) := by
  have key : readOK 3 l k v = true → m = count l := fun h => by
    obtain ⟨_, _, hl, _⟩ := (readOK_iff _ _ _ _).1 h
    have hl2 : l.length = 2 + count l * (k + v) := hl
    rcases Nat.lt_or_ge m (count l) with q | q
    · have a1 : (m + 1) * (k + v) ≤ count l * (k + v) := Nat.mul_le_mul_right _ q
      have a2 : (m + 1) * (k + v) = m * (k + v) + (k + v) := by rw [Nat.add_mul, Nat.one_mul]
      exact absurd ⟨q, by omega⟩ hx
    · omega
  have pe : m = count l → (⟨true, keysL l m k v, valsL l m k v, []⟩ : Nd) = parse true l (count l) k v := fun e => by rw [e]; rfl
  refine ⟨?_, fun h => pe (key h)⟩
  rw [Bool.eq_iff_iff, took_iff]
  constructor
  · rintro ⟨hr, hb⟩
    have hc := count_body hr
    have hlen := body_len hr
    rw [hb] at hc hlen
    have e : cnt (⟨true, keysL l m k v, valsL l m k v, []⟩ : Nd) = m := by simp [cnt, keysL]
    rw [e] at hc hlen
    rw [readOK_iff, hc.1]
    have p2 := pe hc.1.symm
    rw [hc.1] at p2
    exact ⟨h2, hlen.2.2, hlen.1, by
      show right (parse true l m k v) k v = true
      rw [← p2]
      exact hr⟩
  · intro h
    have e := key h
    obtain ⟨_, _, hl, hr⟩ := (readOK_iff _ _ _ _).1 h
    rw [pe e]
    exact ⟨hr, again h2 hl (fun q => by simp at q)⟩
theorem ref_inner (l : List UInt8) (i j k v : Nat) (h2 : 2 ≤ l.length) (hi : i ≤ count l) (hx : ¬ (i < count l ∧ 2 + i * 4 + 4 ≤ l.length)) (hj : j ≤ count l - 1) (hy : ¬ (j + 1 < count l ∧ 2 + i * 4 + j * k + k ≤ l.length)) :
    (took ⟨false, keysI l (2 + i * 4) j k, [], kidsI l i⟩ l k v = readOK 4 l k v) ∧ (readOK 4 l k v = true → (⟨false, keysI l (2 + i * 4) j k, [], kidsI l i⟩ : Nd) = parse false l (count l) k v) := by
  have key : readOK 4 l k v = true → i = count l ∧ j = count l - 1 := fun h => by
    obtain ⟨_, hm, hl, _⟩ := (readOK_iff _ _ _ _).1 h
    have := may_inner hm
    have hl2 : l.length = 2 + count l * 4 + (count l - 1) * k := hl
    have e1 : i = count l := by
      rcases Nat.lt_or_ge i (count l) with q | q
      · exact absurd ⟨q, by omega⟩ hx
      · omega
    refine ⟨e1, ?_⟩
    rcases Nat.lt_or_ge (j + 1) (count l) with q | q
    · have a1 : (j + 1) * k ≤ (count l - 1) * k := Nat.mul_le_mul_right _ (by omega)
      have a2 : (j + 1) * k = j * k + k := by rw [Nat.add_mul, Nat.one_mul]
      exact absurd ⟨q, by omega⟩ hy
    · omega
  have pe : i = count l → j = count l - 1 → (⟨false, keysI l (2 + i * 4) j k, [], kidsI l i⟩ : Nd) = parse false l (count l) k v := fun e f => by rw [e, f]; rfl
  refine ⟨?_, fun h => pe (key h).1 (key h).2⟩
  rw [Bool.eq_iff_iff, took_iff]
  constructor
  · rintro ⟨hr, hb⟩
    have hc := count_body hr
    have hlen := body_len hr
    obtain ⟨_, _, _, _, h5⟩ := right_parts hr
    rw [hb] at hc hlen
    have e : cnt (⟨false, keysI l (2 + i * 4) j k, [], kidsI l i⟩ : Nd) = i := by simp [cnt, kidsI]
    rw [e] at hc hlen
    have hji : j + 1 = i := by
      rcases h5 with ⟨q, _⟩ | ⟨_, _, q, _⟩
      · simp at q
      · simpa [keysI, kidsI] using q
    have p2 := pe hc.1.symm (by rw [hc.1]; omega)
    rw [hc.1] at p2
    rw [readOK_iff, hc.1]
    exact ⟨h2, hlen.2.2, hlen.1, by
      show right (parse false l i k v) k v = true
      rw [← p2]
      exact hr⟩
  · intro h
    have e := key h
    obtain ⟨_, hm, hl, hr⟩ := (readOK_iff _ _ _ _).1 h
    have := may_inner hm
    rw [pe e.1 e.2]
    exact ⟨hr, again h2 hl (fun _ => by omega)⟩
end N
end Go.Proofs.Ytceoelemlokelaa
