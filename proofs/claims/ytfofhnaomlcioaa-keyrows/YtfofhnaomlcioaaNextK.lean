/- key.Next: the first row of as many bytes behind. -/
import Derived.Test.YtfofhnaomlcioaaRowb
namespace Go.Proofs.Ytfofhnaomlcioaa
open Go.RowKit
open W (hi lo dig MM M cmpN)

theorem carry_set (p : List UInt8) (x : UInt8) (q : List UInt8) (y : UInt8) :
    (bvs (p ++ [x] ++ List.replicate q.length 0)).set p.length (.int .u8 ((y.toNat : Nat) : Int)) = bvs (p ++ y :: List.replicate q.length 0) := by
  rw [← bvs_set]
  congr 1
  simp
theorem all_snoc {q : List UInt8} (h : ∀ c ∈ q, c = 255) : ∀ c ∈ (255 : UInt8) :: q, c = 255 := by
  intro c hc
  rcases List.mem_cons.1 hc with rfl | hc
  · rfl
  · exact h c hc

set_option maxHeartbeats 400000 in
theorem keynext_any (v : Value) (l : List UInt8) (w : World) (h : Byts w v l) (hl : l.length ≤ 1000000) :
    Calls Try.prog 8 #[v] w fun e w' => ∃ v', e = .returned (.tuple #[v', .bool (nx l).isSome]) ∧ Byts w' v' ((nx l).getD []) ∧ Below w.heap.size w w' := by
  have HC := Lib.hid (clone_any v l w h hl)
  clear h
  go_enter Try.func8, Try.ntmps8
  go_wp2_with fail
  refine HC.out.mono ?_
  rintro e w1 ⟨v1, rfl, hown1, hB1⟩
  clear HC
  obtain ⟨A, cap, rfl, hA⟩ : ∃ A cap, v1 = .slice A l.length cap ∧ (0 < l.length → ∃ g, w.heap.size ≤ g ∧ A = some ⟨g, 0, none⟩) := by
    rcases hown1.2 with ⟨e, h0⟩ | ⟨g, cap, cur, e, hg, _⟩
    · exact ⟨none, 0, by rw [h0]; exact e, fun h => by omega⟩
    · exact ⟨_, cap, e, fun _ => ⟨g, hg, rfl⟩⟩
  have HA := Lib.hid hA
  have HO := Lib.hid hown1
  have HB := Lib.hid hB1
  clear hA hown1 hB1
  go_wp2
  go_loopw [5] (fun i wr => ∃ p q : List UInt8, l = p ++ q ∧ (∀ c ∈ q, c = 255) ∧ i = .int .i64 ((p.length : Int) - 1) ∧ wr.ownsRow w.heap.size 5 1 (.slice A l.length cap) l.length (bvs (p ++ List.replicate q.length 0)) ∧ Below w.heap.size w wr)
    (fun i _ => (intOf i + 1).toNat)
  case atStart => exact ⟨l, [], by simp, by simp, rfl, by simpa using HO.out, HB.out⟩
  case round =>
    obtain ⟨p, q, hpq, hq, rfl, hown, hB⟩ := hrel
    rcases List.eq_nil_or_concat p with rfl | ⟨p, x, rfl⟩
    · have HE := Lib.hid (show nx l = none by rw [hpq]; exact nx_ff _ (by simpa using hq))
      clear hq hown hpq
      go_wp2
      go_ret2
      exact ⟨_, by rw [HE.out]; rfl, by rw [HE.out]; exact Byts.none _, hB⟩
    · have hlp : p.length < l.length := by rw [hpq]; simp
      obtain ⟨g, hg, rfl⟩ := HA.out (by omega)
      have c0 := hown.cellAt p.length (by omega)
      have f0 := hown.frozenAt p.length
      rw [bvs_get _ _ (by simp)] at c0
      simp only [List.concat_eq_append, List.append_assoc, List.getElem_append_right (Nat.le_refl _), Nat.sub_self, List.singleton_append, List.getElem_cons_zero] at c0
      have HS := Lib.hid (carry_set p x q)
      have HW := Lib.hid hown; clear hown
      have HP := Lib.hid hpq; clear hpq
      have HQ := Lib.hid hq; clear hq
      have hx := u8_le x
      have ep : (((p.concat x).length : Nat) : Int) - 1 = (p.length : Int) := by simp
      rw [ep]
      by_cases h255 : x = 255
      · subst h255
        have e255 : ((((255 : UInt8).toNat : Nat) : Int)) = 255 := rfl
        rw [e255] at c0
        go_wp2
        go_roundw
        case rel =>
          refine ⟨p, 255 :: q, by rw [HP.out]; simp, all_snoc HQ.out, by go_num, ?_, hB.setCell hg _⟩
          have k := (HW.out.stored p.length (.int .u8 0)).1
          have k2 := HS.out 0
          simp only [List.concat_eq_append] at k
          rw [show ((((0 : UInt8).toNat : Nat) : Int)) = 0 from rfl] at k2
          rw [k2] at k
          simpa [List.replicate_succ] using k
        case measure => simp [intOf]
      · have HN := Lib.hid (show nx l = some (p ++ (x + 1) :: List.replicate q.length 0) by rw [HP.out]; simpa using nx_at p x q HQ.out h255)
        have HX := Lib.hid (succ_nat x h255)
        have hx2 : x.toNat ≤ 254 := by
          have : x.toNat ≠ 255 := fun e => h255 (UInt8.toNat_inj.1 e)
          omega
        have HK := Lib.hid (show ((x.toNat : Nat) : Int) + 1 = (((x + 1).toNat : Nat) : Int) by rw [HX.out]; omega)
        clear h255
        generalize x.toNat = y at *
        go_wp2
        go_ret2
        refine ⟨_, by rw [HN.out]; rfl, ?_, hB.setCell hg _⟩
        have k := (HW.out.stored p.length (.int .u8 ((y : Int) + 1))).1
        have k2 := HS.out (x + 1)
        simp only [List.concat_eq_append] at k
        rw [← HK.out] at k2
        rw [k2] at k
        have e : l.length = (p ++ (x + 1) :: List.replicate q.length 0).length := by rw [HP.out]; simp
        rw [HN.out, Option.getD_some, e]
        rw [e] at k
        exact Byts.own k
end Go.Proofs.Ytfofhnaomlcioaa
