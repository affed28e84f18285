/- The walk of the law WideLeast. -/
import Derived.Test.YtapomicakmbcdaaLeast
namespace Go.Proofs.Ytapomicakmbcdaa
open Go.RowKit
open W (hi lo addN addB subN subB cmpN dig MM leastTo hasTo)

theorem refcmp_fine (a b : Nat) (ha : a < MM) (hb : b < MM) (h : b ≤ a) : ∃ c : Int, 0 ≤ c ∧ ∀ w : World, Calls Try.prog 15 #[.agg #[.int .u64 (hi a : Nat), .int .u64 (lo a : Nat)], .agg #[.int .u64 (hi b : Nat), .int .u64 (lo b : Nat)]] w fun e w' => e = .returned (.int .i64 c) ∧ Below w.heap.size w w' :=
  ⟨cmpN a b, by unfold W.cmpN; rw [if_neg (by omega)]; split <;> omega, refcmp_any a b ha hb⟩

theorem least_big (A : Option Addr) (n c : Nat) (hn : 200 < n) (w : World) :
    Calls Try.prog 6 #[.slice A n c] w fun e w' => e = .returned (.bool true) ∧ Below w.heap.size w w' := by
  go_enter Try.func6, Try.ntmps6
  go_wp2_with fail
  refine (fixed_any _).mono ?_
  rintro e w4 ⟨rfl, h4⟩
  go_wp2
  go_ret
  exact ⟨rfl, h4⟩

set_option maxHeartbeats 800000 in
theorem least_nil (A : Option Addr) (c : Nat) (w : World) :
    Calls Try.prog 6 #[.slice A 0 c] w fun e w' => e = .returned (.bool true) ∧ Below w.heap.size w w' := by
  have hw : Hid (Wides w A []) := ⟨fun k hk => by simp at hk, fun hl => by simp at hl⟩
  have HL := Lib.hid (least_any A c [] (by simp))
  simp only [List.length_nil] at HL
  go_enter Try.func6, Try.ntmps6
  go_wp2_with fail
  refine (HL.out _ hw.out).mono ?_
  rintro e w1 ⟨rfl, h1⟩
  rw [show leastTo [] 0 = W.topN from rfl, W.topN_hi, W.topN_lo]
  go_wp2
  have m0 : (w1.alloc (.cells #[.int .u64 18446744073709551615, .int .u64 18446744073709551615] 24)).cell? ⟨w1.heap.size, 0, none⟩ = some (.int .u64 18446744073709551615) := by simp [go_sem]
  have m1 : (w1.alloc (.cells #[.int .u64 18446744073709551615, .int .u64 18446744073709551615] 24)).cell? ⟨w1.heap.size, 1, none⟩ = some (.int .u64 18446744073709551615) := by simp [go_sem]
  have hB := bal h1 (.cells #[.int .u64 18446744073709551615, .int .u64 18446744073709551615] 24)
  generalize w1.alloc (.cells #[.int .u64 18446744073709551615, .int .u64 18446744073709551615] 24) = v at *
  generalize w1.heap.size = q at *
  replace m0 := cell_regrown m0
  replace m1 := cell_regrown m1
  refine wp_region_quiet_below (by kernel_rfl) (by kernel_rfl) ?_
  repeat (go_big_quiet_step (first | (go_at_call 12; with_reducible exact Calls.regrown_of (fixed_any _)) | (go_at_call 18; with_reducible exact Calls.regrown_of (reftop_any _))))
  refine wpQuiet_nil ?_
  rintro _ ⟨⟨dq, osq⟩, rfl⟩
  go_wp2
  go_ret
  exact ⟨rfl, btr hB (below_regrown v dq osq)⟩

set_option maxHeartbeats 800000 in
theorem least_small (A : Option Addr) (c : Nat) (ns : List Nat) (hp : 0 < ns.length) (hn : ns.length ≤ 200) (w : World) (hw : Wides w A ns) :
    Calls Try.prog 6 #[.slice A ns.length c] w fun e w' => e = .returned (.bool true) ∧ Below w.heap.size w w' := by
  have hne : ((ns.length : Int) == 0) = false := beq_eq_false_iff_ne.2 (by omega)
  have HT : Hid (hasTo ns (leastTo ns ns.length) ns.length = true) := by
    obtain ⟨j, hj, e⟩ := W.leastTo_mem ns hw.1 ns.length hp (Nat.le_refl _)
    exact W.hasTo_mem ns _ _ j hj e
  have HM := Lib.hid (W.leastTo_lt ns ns.length)
  have HE := Lib.hid (W.leastTo_le ns ns.length)
  have HW := Lib.hid hw; clear hw
  go_enter Try.func6, Try.ntmps6
  go_wp2_with fail
  refine (least_any A c ns hn _ HW.out).mono ?_
  rintro e w1 ⟨rfl, h1⟩
  generalize leastTo ns ns.length = L at *
  go_wp2
  go_loopw [4, 24] (fun t i wr => ∃ k : Nat, k ≤ ns.length ∧ i = .int .i64 (k : Int) ∧ t = .bool (hasTo ns L k) ∧ wr.cell? ⟨w1.heap.size, 0, none⟩ = some (.int .u64 (hi L : Nat)) ∧ wr.cell? ⟨w1.heap.size, 1, none⟩ = some (.int .u64 (lo L : Nat)) ∧ Below w.heap.size w wr)
    (fun _ i _ => ns.length - (intOf i).toNat)
  case atStart => exact ⟨0, by omega, rfl, rfl, by simp [go_sem], by simp [go_sem], bal h1 _⟩
  case round =>
    clear h1
    obtain ⟨k, hk, rfl, rfl, c0, c1, hB⟩ := hrel
    by_cases hkn : k < ns.length
    · obtain ⟨b, off, rfl, x0, x1⟩ := (HW.out.below hB).at_ hkn
      have c0' := alc c0
      have c1' := alc c1
      obtain ⟨cc, hc0, hc⟩ := refcmp_fine (ns.getD k 0) L (HW.out.1 k hkn) HM.out (HE.out k hkn)
      have HC := Lib.hid hc; clear hc
      have HS : Hid (hasTo ns L (k + 1) = (hasTo ns L k || (ns.getD k 0 == L))) := rfl
      generalize hasTo ns L k = bt at *
      generalize ns.getD k 0 = m at *
      cases bt
      · by_cases hm : m = L
        · subst hm
          go_wp2_with fail
          refine (HC.out _).mono ?_
          rintro e w2 ⟨rfl, h2⟩
          have hA := btr (alb (w := wr) _) h2
          replace c0 := kept c0 hA
          replace c1 := kept c1 hA
          replace hB := btr hB hA
          go_wp2
          go_roundw
          case rel => exact ⟨k + 1, by omega, by go_num, by rw [HS.out]; simp, c0, c1, hB⟩
          case measure => simp [intOf]; omega
        · have HD : Hid ((m == L) = false) := beq_eq_false_iff_ne.2 hm
          by_cases hh : hi m = hi L
          · have e1 : (((hi m : Nat) : Int) == ((hi L : Nat) : Int)) = true := beq_iff_eq.2 (by omega)
            have e2 : (((lo m : Nat) : Int) == ((lo L : Nat) : Int)) = false := beq_eq_false_iff_ne.2 (fun h => hm (W.ext m L hh (by omega)))
            clear hh hm
            go_wp2_with fail
            refine (HC.out _).mono ?_
            rintro e w2 ⟨rfl, h2⟩
            have hA := btr (alb (w := wr) _) h2
            replace c0 := kept c0 hA
            replace c1 := kept c1 hA
            replace hB := btr hB hA
            go_wp2
            go_roundw
            case rel => exact ⟨k + 1, by omega, by go_num, by rw [HS.out, HD.out]; rfl, c0, c1, hB⟩
            case measure => simp [intOf]; omega
          · have e1 : (((hi m : Nat) : Int) == ((hi L : Nat) : Int)) = false := beq_eq_false_iff_ne.2 (by omega)
            clear hh hm
            go_wp2_with fail
            refine (HC.out _).mono ?_
            rintro e w2 ⟨rfl, h2⟩
            have hA := btr (alb (w := wr) _) h2
            replace c0 := kept c0 hA
            replace c1 := kept c1 hA
            replace hB := btr hB hA
            go_wp2
            go_roundw
            case rel => exact ⟨k + 1, by omega, by go_num, by rw [HS.out, HD.out]; rfl, c0, c1, hB⟩
            case measure => simp [intOf]; omega
      · go_wp2_with fail
        refine (HC.out _).mono ?_
        rintro e w2 ⟨rfl, h2⟩
        have hA := btr (alb (w := wr) _) h2
        replace c0 := kept c0 hA
        replace c1 := kept c1 hA
        replace hB := btr hB hA
        go_wp2
        go_roundw
        case rel => exact ⟨k + 1, by omega, by go_num, by rw [HS.out]; rfl, c0, c1, hB⟩
        case measure => simp [intOf]; omega
    · have hk2 : k = ns.length := by omega
      subst hk2
      rw [HT.out]
      go_wp2_with fail
      refine (fixed_any _).mono ?_
      rintro e w2 ⟨rfl, h2⟩
      go_wp2
      go_ret
      exact ⟨rfl, btr hB h2⟩

theorem leastlaw_any (A : Option Addr) (n c : Nat) (ns : List Nat) (hl : ns.length = n) (w : World) (hw : Wides w A ns) :
    Calls Try.prog 6 #[.slice A n c] w fun e w' => e = .returned (.bool true) ∧ Below w.heap.size w w' := by
  subst hl
  by_cases hn : ns.length ≤ 200
  · by_cases h0 : 0 < ns.length
    · exact least_small A c ns h0 hn w hw
    · have e : ns.length = 0 := by omega
      rw [e]
      exact least_nil A c w
  · exact least_big A ns.length c (by omega) w
end Go.Proofs.Ytapomicakmbcdaa
