/- The contracts of the document's own answers (package cashbookref01), second part: sums, differences, order, the greatest number. -/
import Derived.Test.YtfofhnaomlcioaaRef
namespace Go.Proofs.Ytfofhnaomlcioaa
open Go.RowKit
open W (hi lo addN addB subN subB cmpN dig MM rowTo rowOf carry addRow)

set_option maxHeartbeats 800000 in
theorem refcmp_any (a b : Nat) (ha : a < MM) (hb : b < MM) (w : World) :
    Calls Try.prog 26 #[.agg #[.int .u64 (hi a : Nat), .int .u64 (lo a : Nat)], .agg #[.int .u64 (hi b : Nat), .int .u64 (lo b : Nat)]] w fun e w' =>
      e = .returned (.int .i64 (cmpN a b)) ∧ Below w.heap.size w w' := by
  go_enter Try.func26, Try.ntmps26
  go_wp2
  go_region_held3 (fun w' => w'.cell? ⟨w.heap.size, 0, none⟩ = some (.int .u64 (hi a : Nat)) ∧ w'.cell? ⟨w.heap.size, 1, none⟩ = some (.int .u64 (lo a : Nat)) ∧ w'.cell? ⟨w.heap.size + 1, 0, none⟩ = some (.int .u64 (hi b : Nat)) ∧ w'.cell? ⟨w.heap.size + 1, 1, none⟩ = some (.int .u64 (lo b : Nat)))
    (first | (simp [go_sem]; done) | ((try dsimp only at *); go_split_ands; exact ⟨kept (by assumption) hb1, kept (by assumption) hb1, kept (by assumption) hb1, kept (by assumption) hb1⟩))
    (first | (go_at_call 34; refine (digits_any _ (by assumption) _).mono ?_; rintro e w1 ⟨rfl, hr1, hb1⟩))
  rename_i v1 hr0 hb0 hS
  have R1 : Row w1 (w.heap.size + 1 + 1 + 1) (rowOf a) := by have := hr0.below hb1; simpa using this
  have hB : Below w.heap.size w w1 := by
    refine btr (btr ?_ hb0) hb1
    repeat (first | exact Below.refl _ _ | apply bal | apply Below.drew)
  have hz : w.heap.size + 1 + 1 + 1 < v1.heap.size := by have := hr0.lt; simpa using this
  clear hS hb0 hr0 hb1
  have hz2 : w.heap.size + 1 + 1 + 1 < v1.heap.size + 1 := by omega
  clear hz
  generalize v1.heap.size + 1 = c at *
  clear v1
  go_wp2
  go_loopw [7] (fun i wr => ∃ k : Nat, k ≤ 16 ∧ i = .int .i64 (k : Int) ∧ Hid (W.eqTo a b k) ∧ Row wr (w.heap.size + 1 + 1 + 1) (rowOf a) ∧ Row wr c (rowOf b) ∧ Below w.heap.size w wr)
    (fun i _ => 16 - (intOf i).toNat)
  case atStart => exact ⟨0, by omega, rfl, W.eqTo_zero a b ha hb, R1, hr1, hB⟩
  case round =>
    clear R1 hr1 hB
    obtain ⟨k, hk, rfl, heq, hx, hy, hB⟩ := hrel
    by_cases hlt : k < 16
    · have c1 := (hx k (by omega)).1
      have c2 := (hy k (by omega)).1
      have HX := Lib.hid hx
      have HY := Lib.hid hy
      clear hx hy
      rcases Int.lt_trichotomy (rowOf a k) (rowOf b k) with h | h | h
      · have hcmp := Lib.hid (W.cmpN_lt (W.eqTo_lt a b k hlt heq.out h))
        generalize rowOf a k = p at *
        generalize rowOf b k = q at *
        go_wp2
        go_region
        go_wp2
        go_ret
        exact ⟨by rw [hcmp.out]; rfl, hB.drew⟩
      · have hnext := Lib.hid (W.eqTo_step a b k hlt heq.out h)
        have h1 : ¬ rowOf a k < rowOf b k := by omega
        have h2 : ¬ rowOf b k < rowOf a k := by omega
        clear h heq
        generalize rowOf a k = p at *
        generalize rowOf b k = q at *
        go_wp2
        go_region
        go_wp2
        go_region
        go_wp2
        go_roundw
        case rel => exact ⟨k + 1, by omega, by go_num, hnext.out, HX.out.drew.drew, HY.out.drew.drew, hB.drew.drew⟩
        case measure => simp [intOf]; omega
      · have hcmp := Lib.hid (W.cmpN_gt (W.eqTo_lt b a k hlt (W.eqTo_comm heq.out) h))
        have h1 : ¬ rowOf a k < rowOf b k := by omega
        generalize rowOf a k = p at *
        generalize rowOf b k = q at *
        go_wp2
        go_region
        go_wp2
        go_region
        go_wp2
        go_ret
        exact ⟨by rw [hcmp.out]; rfl, hB.drew.drew⟩
    · have hk8 : k = 16 := by omega
      have hcmp := Lib.hid (W.cmpN_eq (W.eqTo_end a b (by rw [← hk8]; exact heq.out)))
      clear hk8 heq hx hy
      go_wp2
      go_ret
      exact ⟨by rw [hcmp.out]; rfl, hB⟩

end Go.Proofs.Ytfofhnaomlcioaa
