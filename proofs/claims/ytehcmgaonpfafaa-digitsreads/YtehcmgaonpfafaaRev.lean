/- slices.Reverse at bytes of the caller's own: the library's own text is walked. -/
import Derived.Test.YtehcmgaonpfafaaNext
import Derived.Laws.OwnMore
namespace Go.Proofs.Ytehcmgaonpfafaa
open Go.RowKit

/-- Bytes as values. -/
def bvs (l : List UInt8) : List Value := l.map fun c => .int .u8 ((c.toNat : Nat) : Int)
theorem bvs_length (l : List UInt8) : (bvs l).length = l.length := by simp [bvs]
theorem bvs_append (l m : List UInt8) : bvs (l ++ m) = bvs l ++ bvs m := by simp [bvs]
theorem bvs_get (l : List UInt8) (j : Nat) (h : j < l.length) : (bvs l)[j]? = some (.int .u8 ((l[j].toNat : Nat) : Int)) := by simp [bvs, h]
/-- Behind k exchanges. -/
def revF (l : List UInt8) (k j : Nat) : UInt8 := if j < k ∨ l.length ≤ j + k then l.getD (l.length - 1 - j) 0 else l.getD j 0
def revTo (l : List UInt8) (k : Nat) : List UInt8 := (List.range l.length).map (revF l k)
theorem revTo_length (l : List UInt8) (k : Nat) : (revTo l k).length = l.length := by simp [revTo]
theorem revTo_get (l : List UInt8) (k j : Nat) (h : j < l.length) : (revTo l k)[j]? = some (revF l k j) := by simp [revTo, h]
theorem revTo_zero (l : List UInt8) : revTo l 0 = l := by
  apply List.ext_getElem?
  intro j
  by_cases h : j < l.length
  · rw [revTo_get l 0 j h]
    unfold revF
    rw [if_neg (by omega)]
    simp [h]
  · rw [List.getElem?_eq_none (by rw [revTo_length]; omega), List.getElem?_eq_none (by omega)]
theorem revTo_end (l : List UInt8) (k : Nat) (hk : l.length ≤ 2 * k + 1) : revTo l k = l.reverse := by
  apply List.ext_getElem?
  intro j
  by_cases h : j < l.length
  · rw [revTo_get l k j h, List.getElem?_reverse h]
    unfold revF
    by_cases h2 : j < k ∨ l.length ≤ j + k
    · rw [if_pos h2]
      have : l.length - 1 - j < l.length := by omega
      simp [this]
    · rw [if_neg h2]
      have e : l.length - 1 - j = j := by omega
      rw [e]
      simp [h]
  · rw [List.getElem?_eq_none (by rw [revTo_length]; omega), List.getElem?_eq_none (by simp; omega)]
theorem revTo_step (l : List UInt8) (k : Nat) (hk : 2 * k + 1 < l.length) :
    ((bvs (revTo l k)).set k (.int .u8 (((revF l k (l.length - 1 - k)).toNat : Nat) : Int))).set (l.length - 1 - k) (.int .u8 (((revF l k k).toNat : Nat) : Int)) = bvs (revTo l (k + 1)) := by
  apply List.ext_getElem?
  intro j
  by_cases h : j < l.length
  · have e0 : (bvs (revTo l k))[j]? = some (.int .u8 (((revF l k j).toNat : Nat) : Int)) := by unfold bvs; rw [List.getElem?_map, revTo_get l k j h]; rfl
    have e1 : (bvs (revTo l (k + 1)))[j]? = some (.int .u8 (((revF l (k + 1) j).toNat : Nat) : Int)) := by unfold bvs; rw [List.getElem?_map, revTo_get l (k + 1) j h]; rfl
    rw [e1, List.getElem?_set, List.getElem?_set]
    simp only [List.length_set, bvs_length, revTo_length]
    by_cases h1 : l.length - 1 - k = j
    · rw [if_pos h1, if_pos (by omega)]
      unfold revF
      rw [if_neg (by omega), if_pos (by omega)]
      have : l.length - 1 - j = k := by omega
      rw [this]
    · rw [if_neg h1]
      by_cases h2 : k = j
      · rw [if_pos h2, if_pos (by omega)]
        unfold revF
        rw [if_neg (by omega), if_pos (by omega)]
        subst h2
        rfl
      · rw [if_neg h2, e0]
        unfold revF
        by_cases h3 : j < k ∨ l.length ≤ j + k
        · rw [if_pos h3, if_pos (by omega)]
        · rw [if_neg h3, if_neg (by omega)]
  · rw [List.getElem?_eq_none (by simp [bvs_length, revTo_length]; omega), List.getElem?_eq_none (by simp [bvs_length, revTo_length]; omega)]

set_option maxHeartbeats 400000 in
theorem reverse_any (base g cap : Nat) (l : List UInt8) (w : World) (hl : l.length ≤ 1000000) (h : w.ownsRow base 5 1 (.slice (some ⟨g, 0, none⟩) l.length cap) l.length (bvs l)) (hg : base ≤ g) :
    Calls Try.prog 18 #[.slice (some ⟨g, 0, none⟩) l.length cap] w fun e w' =>
      e = .returned (.tuple #[]) ∧ w'.ownsRow base 5 1 (.slice (some ⟨g, 0, none⟩) l.length cap) l.length (bvs l.reverse) ∧ Below base w w' := by
  have H := Lib.hid h; clear h
  go_enter Try.func18, Try.ntmps18
  go_wp2
  go_loopw [2, 3] (fun i j wr => ∃ k : Nat, 2 * k ≤ l.length + 1 ∧ i = .int .i64 (k : Int) ∧ j = .int .i64 ((l.length : Int) - 1 - (k : Int)) ∧ wr.ownsRow base 5 1 (.slice (some ⟨g, 0, none⟩) l.length cap) l.length (bvs (revTo l k)) ∧ Below base w wr)
    (fun i _ _ => l.length + 1 - (intOf i).toNat)
  case atStart => exact ⟨0, by omega, rfl, by simp, by rw [revTo_zero]; exact H.out, Below.refl _ _⟩
  case round =>
    obtain ⟨k, hk, rfl, rfl, hown, hB⟩ := hrel
    by_cases hlt : 2 * k + 1 < l.length
    · have ci := hown.cellAt k (by omega)
      have cj := hown.cellAt (l.length - 1 - k) (by omega)
      have fi := hown.frozenAt k
      have fj := hown.frozenAt (l.length - 1 - k)
      rw [show bvs (revTo l k) = (revTo l k).map fun c => Value.int .u8 ((c.toNat : Nat) : Int) from rfl, List.getElem?_map, revTo_get l k _ (by omega)] at ci cj
      simp only [Option.map_some] at ci cj
      have HS := Lib.hid (revTo_step l k hlt)
      have HO := Lib.hid hown; clear hown
      obtain ⟨j, hj⟩ : ∃ j, j = l.length - 1 - k := ⟨_, rfl⟩
      have ej : (l.length : Int) - 1 - (k : Int) = (j : Int) := by omega
      rw [← hj] at cj fj HS
      rw [ej]
      have hjb : j < l.length := by omega
      have hkj : k < j := by omega
      have HJ := Lib.hid hj; clear hj ej
      generalize revF l k k = x at *
      generalize revF l k j = y at *
      go_wp2
      go_region
      go_wp2
      refine ⟨⟨k + 1, by omega, by go_num, by have := HJ.out; go_num, ?_, ((hB.setCell hg _).setCell hg _).drew⟩, by simp [intOf]; omega⟩
      rw [← HS.out]
      exact ((HO.out.stored k _).1.stored j _).1.drew
    · have HR := Lib.hid (revTo_end l k (by omega))
      have hn : ¬ (k : Int) < (l.length : Int) - 1 - (k : Int) := by omega
      have HO := Lib.hid hown; clear hown
      go_wp2
      go_end0
      exact ⟨rfl, by rw [← HR.out]; exact HO.out, hB⟩
end Go.Proofs.Ytehcmgaonpfafaa
