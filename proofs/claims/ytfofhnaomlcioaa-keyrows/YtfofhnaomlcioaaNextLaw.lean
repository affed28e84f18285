/- The walk of the law KeyNext. -/
import Derived.Test.YtfofhnaomlcioaaFixedK
namespace Go.Proofs.Ytfofhnaomlcioaa
open Go.RowKit
open W (hi lo dig MM M cmpN)

theorem Byts.form {w : World} {v : Value} {l : List UInt8} (h : Byts w v l) : ∃ A c, v = .slice A l.length c := by
  obtain ⟨A, c, e, _⟩ := h
  exact ⟨A, c, e⟩
theorem cmpN_le {a b : Nat} (h : a ≤ b) : cmpN a b ≤ 0 := by
  unfold W.cmpN
  by_cases c : a < b
  · rw [if_pos c]; omega
  · rw [if_neg c, if_neg (by omega)]; omega
theorem cmpN_pos {a b : Nat} (h : b < a) : cmpN a b = 1 := W.cmpN_gt h
theorem next_none (a b : List UInt8) (hl : b.length = a.length) (h : nx a = none) : Lib.compareBytes b a ≤ 0 := by
  have h1 := nx_none a h
  have h2 := nb_lt b
  rw [hl] at h2
  rw [cmp_nb b a hl]
  exact cmpN_le (by omega)
theorem next_some (a b m : List UInt8) (hl : b.length = a.length) (h : nx a = some m) :
    m.length = a.length ∧ Lib.compareBytes a m < 0 ∧ (Lib.compareBytes b a ≤ 0 ∨ (0 < Lib.compareBytes b a ∧ Lib.compareBytes m b ≤ 0)) := by
  obtain ⟨h1, h2⟩ := nx_some a m h
  refine ⟨h1, ?_, ?_⟩
  · rw [cmp_nb a m h1.symm, W.cmpN_lt (by omega)]
    decide
  · rw [cmp_nb b a hl, cmp_nb m b (by omega)]
    by_cases c : nb b ≤ nb a
    · exact .inl (cmpN_le c)
    · exact .inr ⟨by rw [W.cmpN_gt (by omega)]; decide, cmpN_le (by omega)⟩

set_option maxHeartbeats 800000 in
theorem nextlaw_any (v1 v2 : Value) (l1 l2 : List UInt8) (w : World) (b1 : Byts w v1 l1) (b2 : Byts w v2 l2) :
    Calls Try.prog 6 #[v1, v2] w fun e w' => e = .returned (.bool true) ∧ Below w.heap.size w w' := by
  by_cases h30 : l1.length ≤ 30
  · by_cases hl : l2.length = l1.length
    · have HN := Lib.hid (keynext_any v1 l1 w b1 (by omega))
      have HC := Lib.hid (fun W (hB : Below w.heap.size w W) => keycmp_any v2 v1 l2 l1 W (b2.below hB) (b1.below hB))
      cases hx : nx l1 with
      | none =>
        rw [hx] at HN
        have hle := next_none l1 l2 hl hx
        clear hx
        obtain ⟨A1, c1, rfl⟩ := b1.form
        clear b1
        obtain ⟨A2, c2, rfl⟩ := b2.form
        clear b2
        rw [hl] at *
        generalize Lib.compareBytes l2 l1 = x at *
        generalize l1.length = n at *
        go_enter Try.func6, Try.ntmps6
        go_wp2_with fail
        refine HN.out.mono ?_
        rintro e w1 ⟨v3, rfl, b3, h1⟩
        have hB := h1
        simp only [Option.isSome_none]
        clear h1 b3 HN
        go_wp2_with fail
        refine (fixed_any _).mono ?_
        rintro e w2 ⟨rfl, h2⟩
        replace hB := btr hB h2
        clear h2
        go_wp2_with fail
        refine (HC.out _ hB).mono ?_
        rintro e w3 ⟨rfl, h3⟩
        replace hB := btr hB h3
        clear h3
        go_wp2
        go_ret
        exact ⟨rfl, hB⟩
      | some m =>
        rw [hx] at HN
        obtain ⟨hm, hlt, hor⟩ := next_some l1 l2 m hl hx
        clear hx
        have HD := Lib.hid (fun W v3 (hB : Below w.heap.size w W) (b3 : Byts W v3 m) => keycmp_any v1 v3 l1 m W (b1.below hB) b3)
        have HE := Lib.hid (fun W v3 (hB : Below w.heap.size w W) (b3 : Byts W v3 m) => keycmp_any v3 v2 m l2 W b3 (b2.below hB))
        obtain ⟨A1, c1, rfl⟩ := b1.form
        clear b1
        obtain ⟨A2, c2, rfl⟩ := b2.form
        clear b2
        rw [hl] at *
        have HM := Lib.hid hm
        clear hm
        simp only [Option.isSome_some, Option.getD_some] at HN
        generalize Lib.compareBytes l2 l1 = x at *
        generalize Lib.compareBytes l1 m = y at *
        generalize Lib.compareBytes m l2 = z at *
        generalize l1.length = n at *
        rcases hor with ho | ⟨ho, hz⟩
        all_goals
          go_enter Try.func6, Try.ntmps6
          go_wp2_with fail
          refine HN.out.mono ?_
          rintro e w1 ⟨v3, rfl, b3, h1⟩
          have hB := h1
          clear h1 HN
          go_wp2_with fail
          refine (fixed_any _).mono ?_
          rintro e w2 ⟨rfl, h2⟩
          replace hB := btr hB h2
          replace b3 := b3.below h2
          clear h2
          have HB := Lib.hid b3
          obtain ⟨A3, c3, rfl⟩ := b3.form
          clear b3
          rw [HM.out] at *
          go_wp2_with fail
          refine (HD.out _ _ hB HB.out).mono ?_
          rintro e w3 ⟨rfl, h3⟩
          replace hB := btr hB h3
          have HB2 := Lib.hid (HB.out.below h3)
          clear h3 HB
          go_wp2_with fail
          refine (HC.out _ hB).mono ?_
          rintro e w4 ⟨rfl, h4⟩
          replace hB := btr hB h4
          have HB3 := Lib.hid (HB2.out.below h4)
          clear h4 HB2
          go_wp2_with fail
          first
            | (refine (HE.out _ _ hB HB3.out).mono ?_
               rintro e w5 ⟨rfl, h5⟩
               replace hB := btr hB h5
               go_wp2
               go_ret
               exact ⟨rfl, hB⟩)
            | (go_ret
               exact ⟨rfl, hB⟩)
    · obtain ⟨A1, c1, rfl⟩ := b1.form
      clear b1
      obtain ⟨A2, c2, rfl⟩ := b2.form
      clear b2
      have hne : ((l2.length : Int) != (l1.length : Int)) = true := by rw [bne_iff_ne]; omega
      go_enter Try.func6, Try.ntmps6
      go_wp2_with fail
      refine (fixed_any _).mono ?_
      rintro e w2 ⟨rfl, h2⟩
      go_wp2
      go_ret
      exact ⟨rfl, h2⟩
  · obtain ⟨A1, c1, rfl⟩ := b1.form
    clear b1
    obtain ⟨A2, c2, rfl⟩ := b2.form
    clear b2
    go_enter Try.func6, Try.ntmps6
    go_wp2_with fail
    refine (fixed_any _).mono ?_
    rintro e w2 ⟨rfl, h2⟩
    go_wp2
    go_ret
    exact ⟨rfl, h2⟩
end Go.Proofs.Ytfofhnaomlcioaa
