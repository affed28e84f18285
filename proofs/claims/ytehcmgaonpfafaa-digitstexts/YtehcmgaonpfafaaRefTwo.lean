/- The contracts of the document's own answers (package cashbookref01), second part: sums, differences, order, the greatest number. -/
import Derived.Test.YtehcmgaonpfafaaRef
namespace Go.Proofs.Ytehcmgaonpfafaa
open Go.RowKit
open W (hi lo addN addB subN subB cmpN dig MM rowTo rowOf carry addRow)

set_option maxHeartbeats 800000 in
theorem refadd_any (a b : Nat) (ha : a < MM) (hb : b < MM) (w : World) :
    Calls Try.prog 26 #[.agg #[.int .u64 (hi a : Nat), .int .u64 (lo a : Nat)], .agg #[.int .u64 (hi b : Nat), .int .u64 (lo b : Nat)]] w fun e w' =>
      e = .returned (.tuple #[.agg #[.int .u64 (hi (addN a b) : Nat), .int .u64 (lo (addN a b) : Nat)], .bool (addB a b)]) ∧ Below w.heap.size w w' := by
  go_enter Try.func26, Try.ntmps26
  go_wp2
  go_region_held3 (fun w' => w'.cell? ⟨w.heap.size, 0, none⟩ = some (.int .u64 (hi a : Nat)) ∧ w'.cell? ⟨w.heap.size, 1, none⟩ = some (.int .u64 (lo a : Nat)) ∧ w'.cell? ⟨w.heap.size + 1, 0, none⟩ = some (.int .u64 (hi b : Nat)) ∧ w'.cell? ⟨w.heap.size + 1, 1, none⟩ = some (.int .u64 (lo b : Nat)))
    (first | (simp [go_sem]; done) | ((try dsimp only at *); go_split_ands; exact ⟨kept (by assumption) hb1, kept (by assumption) hb1, kept (by assumption) hb1, kept (by assumption) hb1⟩))
    (first | (go_at_call 23; refine (digits_any _ (by assumption) _).mono ?_; rintro e w1 ⟨rfl, hr1, hb1⟩))
  rename_i v1 hr0 hb0 hS
  have R1 : Row w1 (w.heap.size + 1 + 1 + 1 + 1) (rowOf a) := by have := hr0.below hb1; simpa using this
  have hB : Below w.heap.size w w1 := by
    refine btr (btr ?_ hb0) hb1
    repeat (first | exact Below.refl _ _ | apply bal | apply Below.drew)
  have hz : w.heap.size + 1 + 1 + 1 + 1 < v1.heap.size := by have := hr0.lt; simpa using this
  have hc := oldc (btr hb0 hb1)
  have hf := oldf (btr hb0 hb1)
  have d0 : w1.cell? ⟨w.heap.size + 1 + 1, 0, none⟩ = some (.int .u64 0) := by rw [hc _ _ (by simp)]; simp [go_sem]
  have d1 : w1.cell? ⟨w.heap.size + 1 + 1, 1, none⟩ = some (.int .u64 0) := by rw [hc _ _ (by simp)]; simp [go_sem]
  have g0 : w1.frozen? ⟨w.heap.size + 1 + 1, 0, none⟩ = false := by rw [hf _ _ (by simp)]; simp [go_sem]
  have g1 : w1.frozen? ⟨w.heap.size + 1 + 1, 1, none⟩ = false := by rw [hf _ _ (by simp)]; simp [go_sem]
  clear hc hf hS hb0 hr0 hb1
  have hz2 : w.heap.size + 1 + 1 + 1 + 1 < v1.heap.size + 1 := by omega
  clear hz
  generalize v1.heap.size + 1 = c at *
  clear v1
  go_wp2
  go_loopw [8, 9] (fun t i wr => ∃ k : Nat, k ≤ 16 ∧ t = .int .i64 ((carry a b k : Nat) : Int) ∧ i = .int .i64 (15 - (k : Int)) ∧ Row wr (w.heap.size + 1 + 1 + 1 + 1) (addRow a b k) ∧ Row wr c (rowOf b) ∧
      wr.cell? ⟨w.heap.size + 1 + 1, 0, none⟩ = some (.int .u64 0) ∧ wr.cell? ⟨w.heap.size + 1 + 1, 1, none⟩ = some (.int .u64 0) ∧ wr.frozen? ⟨w.heap.size + 1 + 1, 0, none⟩ = false ∧ wr.frozen? ⟨w.heap.size + 1 + 1, 1, none⟩ = false ∧ Below w.heap.size w wr)
    (fun _ i _ => (intOf i + 1).toNat)
  case atStart => exact ⟨0, by omega, by rw [W.carry_zero]; rfl, rfl, R1.congr (W.addRow_zero a b), hr1, d0, d1, g0, g1, hB⟩
  case round =>
    clear R1 hr1 hB d0 d1 g0 g1
    obtain ⟨k, hk, rfl, rfl, hx, hy, d0, d1, g0, g1, hB⟩ := hrel
    by_cases hlt : k < 16
    · have c1 := (hx (15 - k) (by omega)).1
      have f1 := (hx (15 - k) (by omega)).2
      have c2 := (hy (15 - k) (by omega)).1
      rw [W.addRow_at a b k hlt] at c1
      rw [W.rowOf_at b k hlt] at c2
      have hrow' := Lib.hid ((hx.set (15 - k) ((((dig a k : Nat) : Int) + ((dig b k : Nat) : Int) + ((carry a b k : Nat) : Int)) % 256)).congr fun j _ => W.addRow_step a b k j hlt)
      have hyy := Lib.hid hy
      clear hx hy
      have q1 := W.dig_lt a k
      have q2 := W.dig_lt b k
      have q3 := W.carry_le a b k
      have E := Lib.hid (W.add_carry a b k)
      generalize dig a k = p at *
      generalize dig b k = q at *
      generalize carry a b k = r at *
      go_wp2
      go_region
      go_wp2
      go_roundw
      case rel =>
        refine ⟨k + 1, by omega, ?_, by go_num, ?_, ?_, ?_, ?_, ?_, ?_, ?_⟩
        · rw [← E.out]; go_num
        · exact hrow'.out.drew
        · exact (hyy.out.far _ (by omega) _ _).drew
        · exact cfar (by omega) d0
        · exact cfar (by omega) d1
        · simp [g0]
        · simp [g1]
        · exact (hB.setCell (by simp; omega) _).drew
      case measure => simp [intOf]; omega
    · have hk8 : k = 16 := by omega
      subst hk8
      rcases W.carry_end a b ha hb with ⟨hc, hs⟩ | ⟨hc, hs⟩
      · have hn : addN a b = a + b := by unfold W.addN; rw [if_pos hs]
        have ha' := W.addB_true hs
        have hR : Hid (Row wr (w.heap.size + 1 + 1 + 1 + 1) (rowOf (a + b))) := hx.congr fun j _ => W.addRow_all a b j
        have HN := Lib.hid hn
        have HA := Lib.hid ha'
        rw [hc]
        clear hx hy hn ha' hc
        go_wp2_with fail
        refine (number_any (a + b) hs _ _ hR.out).mono ?_
        rintro e w2 ⟨rfl, hb2⟩
        have d0' := kept d0 hb2
        have d1' := kept d1 hb2
        have g0' := keptf d0 g0 hb2
        have g1' := keptf d1 g1 hb2
        go_wp2
        exact bodyPost_ret (v := .tuple #[.agg #[.int .u64 (hi (a + b) : Nat), .int .u64 (lo (a + b) : Nat)], .bool true]) (by simp [results, Try.results26, go_sem, d0', d1']) rfl ⟨by rw [HN.out, HA.out], by
          repeat (first | exact btr hB hb2 | apply bal | (refine Below.setCell ?_ (by simp; omega) _))⟩
      · have hn : addN a b = 0 := by unfold W.addN; rw [if_neg hs]
        have ha' := W.addB_false hs
        have HN := Lib.hid hn
        have HA := Lib.hid ha'
        rw [hc]
        clear hx hy hn ha' hc
        go_wp2
        exact bodyPost_ret (v := .tuple #[.agg #[.int .u64 0, .int .u64 0], .bool false]) (by simp [results, Try.results26, go_sem, d0, d1]) rfl ⟨by rw [HN.out, HA.out]; rfl, by
          repeat (first | exact hB | apply bal | (refine Below.setCell ?_ (by simp; omega) _))⟩

set_option maxHeartbeats 800000 in
theorem refcmp_any (a b : Nat) (ha : a < MM) (hb : b < MM) (w : World) :
    Calls Try.prog 16 #[.agg #[.int .u64 (hi a : Nat), .int .u64 (lo a : Nat)], .agg #[.int .u64 (hi b : Nat), .int .u64 (lo b : Nat)]] w fun e w' =>
      e = .returned (.int .i64 (cmpN a b)) ∧ Below w.heap.size w w' := by
  go_enter Try.func16, Try.ntmps16
  go_wp2
  go_region_held3 (fun w' => w'.cell? ⟨w.heap.size, 0, none⟩ = some (.int .u64 (hi a : Nat)) ∧ w'.cell? ⟨w.heap.size, 1, none⟩ = some (.int .u64 (lo a : Nat)) ∧ w'.cell? ⟨w.heap.size + 1, 0, none⟩ = some (.int .u64 (hi b : Nat)) ∧ w'.cell? ⟨w.heap.size + 1, 1, none⟩ = some (.int .u64 (lo b : Nat)))
    (first | (simp [go_sem]; done) | ((try dsimp only at *); go_split_ands; exact ⟨kept (by assumption) hb1, kept (by assumption) hb1, kept (by assumption) hb1, kept (by assumption) hb1⟩))
    (first | (go_at_call 23; refine (digits_any _ (by assumption) _).mono ?_; rintro e w1 ⟨rfl, hr1, hb1⟩))
  rename_i v1 hr0 hb0 hS
  have R1 : Row w1 (w.heap.size + 1 + 1 + 1) (rowOf a) := by have := hr0.below hb1; simpa using this
  have hB : Below w.heap.size w w1 := by
    refine btr (btr ?_ hb0) hb1
    repeat (first | exact Below.refl _ _ | apply bal | apply Below.drew)
  have hz : w.heap.size + 1 + 1 + 1 < v1.heap.size := by have := hr0.lt; simpa using this
  clear hS hb0 hr0 hb1
  have hz2 : w.heap.size + 1 + 1 + 1 < v1.heap.size + 1 := by omega
  clear hz
  generalize v1.heap.size + 1 = c at *
  clear v1
  go_wp2
  go_loopw [7] (fun i wr => ∃ k : Nat, k ≤ 16 ∧ i = .int .i64 (k : Int) ∧ Hid (W.eqTo a b k) ∧ Row wr (w.heap.size + 1 + 1 + 1) (rowOf a) ∧ Row wr c (rowOf b) ∧ Below w.heap.size w wr)
    (fun i _ => 16 - (intOf i).toNat)
  case atStart => exact ⟨0, by omega, rfl, W.eqTo_zero a b ha hb, R1, hr1, hB⟩
  case round =>
    clear R1 hr1 hB
    obtain ⟨k, hk, rfl, heq, hx, hy, hB⟩ := hrel
    by_cases hlt : k < 16
    · have c1 := (hx k (by omega)).1
      have c2 := (hy k (by omega)).1
      have HX := Lib.hid hx
      have HY := Lib.hid hy
      clear hx hy
      rcases Int.lt_trichotomy (rowOf a k) (rowOf b k) with h | h | h
      · have hcmp := Lib.hid (W.cmpN_lt (W.eqTo_lt a b k hlt heq.out h))
        generalize rowOf a k = p at *
        generalize rowOf b k = q at *
        go_wp2
        go_region
        go_wp2
        go_ret
        exact ⟨by rw [hcmp.out]; rfl, hB.drew⟩
      · have hnext := Lib.hid (W.eqTo_step a b k hlt heq.out h)
        have h1 : ¬ rowOf a k < rowOf b k := by omega
        have h2 : ¬ rowOf b k < rowOf a k := by omega
        clear h heq
        generalize rowOf a k = p at *
        generalize rowOf b k = q at *
        go_wp2
        go_region
        go_wp2
        go_region
        go_wp2
        go_roundw
        case rel => exact ⟨k + 1, by omega, by go_num, hnext.out, HX.out.drew.drew, HY.out.drew.drew, hB.drew.drew⟩
        case measure => simp [intOf]; omega
      · have hcmp := Lib.hid (W.cmpN_gt (W.eqTo_lt b a k hlt (W.eqTo_comm heq.out) h))
        have h1 : ¬ rowOf a k < rowOf b k := by omega
        generalize rowOf a k = p at *
        generalize rowOf b k = q at *
        go_wp2
        go_region
        go_wp2
        go_region
        go_wp2
        go_ret
        exact ⟨by rw [hcmp.out]; rfl, hB.drew.drew⟩
    · have hk8 : k = 16 := by omega
      have hcmp := Lib.hid (W.cmpN_eq (W.eqTo_end a b (by rw [← hk8]; exact heq.out)))
      clear hk8 heq hx hy
      go_wp2
      go_ret
      exact ⟨by rw [hcmp.out]; rfl, hB⟩

set_option maxHeartbeats 800000 in
theorem reftop_any (w : World) :
    Calls Try.prog 22 #[] w fun e w' => e = .returned (.agg #[.int .u64 18446744073709551615, .int .u64 18446744073709551615]) ∧ Below w.heap.size w w' := by
  have hmk := run_make16
  go_enter Try.func22, Try.ntmps22
  go_wp2
  go_loopw [2] (fun i wr => ∃ k : Nat, k ≤ 16 ∧ i = .int .i64 (k : Int) ∧ Row wr (w.heap.size + 1) (W.topTo k) ∧
      wr.cell? ⟨w.heap.size, 0, none⟩ = some (.int .u64 0) ∧ wr.cell? ⟨w.heap.size, 1, none⟩ = some (.int .u64 0) ∧ wr.frozen? ⟨w.heap.size, 0, none⟩ = false ∧ wr.frozen? ⟨w.heap.size, 1, none⟩ = false ∧ Below w.heap.size w wr)
    (fun i _ => 16 - (intOf i).toNat)
  case atStart =>
    refine ⟨0, by omega, rfl, ?_, ?_, ?_, ?_, ?_, ?_⟩
    · have h := Row.made (w.alloc (.cells #[.int .u64 0, .int .u64 0] 24))
      simp only [World.size_alloc] at h
      exact h.congr fun j _ => W.topTo_zero j
    · simp [go_sem]
    · simp [go_sem]
    · simp [go_sem]
    · simp [go_sem]
    · repeat (first | exact Below.refl _ _ | apply bal | apply Below.drew)
  case round =>
    obtain ⟨k, hk, rfl, hx, d0, d1, g0, g1, hB⟩ := hrel
    by_cases hlt : k < 16
    · have c1 := (hx k (by omega)).1
      have f1 := (hx k (by omega)).2
      have hrow' := Lib.hid ((hx.set k 255).congr fun j _ => W.topTo_step k j)
      clear hx
      go_wp2
      go_roundw
      case rel => exact ⟨k + 1, by omega, by go_num, hrow'.out, cfar (by omega) d0, cfar (by omega) d1, by simp [g0], by simp [g1], hB.setCell (by simp) _⟩
      case measure => simp [intOf]; omega
    · have hk8 : k = 16 := by omega
      subst hk8
      have hR : Hid (Row wr (w.heap.size + 1) (rowOf W.topN)) := hx.congr W.topTo_all
      clear hx
      go_wp2_with fail
      refine (number_any W.topN W.topN_lt _ _ hR.out).mono ?_
      rintro e w2 ⟨rfl, hb2⟩
      rw [W.topN_hi, W.topN_lo]
      have d0' := kept d0 hb2
      have d1' := kept d1 hb2
      have g0' := keptf d0 g0 hb2
      have g1' := keptf d1 g1 hb2
      go_wp2
      exact bodyPost_ret (v := .agg #[.int .u64 18446744073709551615, .int .u64 18446744073709551615]) (by simp [results, Try.results22, go_sem, d0', d1']) rfl ⟨rfl, by
          repeat (first | exact btr hB hb2 | apply bal | (refine Below.setCell ?_ (by simp) _))⟩
end Go.Proofs.Ytehcmgaonpfafaa
