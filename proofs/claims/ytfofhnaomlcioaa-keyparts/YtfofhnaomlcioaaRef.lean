/- The contracts of the document's own answers (package cashbookref01). -/
import Derived.Test.YtfofhnaomlcioaaWide
namespace Go.Proofs.Ytfofhnaomlcioaa
open Go.RowKit
open W (hi lo addN addB subN subB cmpN dig MM rowTo rowOf)

def DigitsPost (n : Nat) (w : World) (e : Ending) (w' : World) : Prop :=
  e = .returned (.slice (some ⟨w.heap.size + 1, 0, none⟩) 16 16) ∧ Row w' (w.heap.size + 1) (rowOf n) ∧ Below w.heap.size w w'

set_option maxHeartbeats 400000 in
theorem digits_any (n : Nat) (hn : n < MM) (w : World) :
    Calls Try.prog 34 #[.agg #[.int .u64 (hi n : Nat), .int .u64 (lo n : Nat)]] w (DigitsPost n w) := by
  have hmk := run_make16
  have b1 := W.hi_le n hn
  have b2 := W.lo_le n
  go_enter Try.func34, Try.ntmps34
  go_wp2
  go_region
  go_wp2
  go_loopw [4, 5, 6] (fun h l i wr => ∃ k : Nat, k ≤ 8 ∧ h = .int .u64 ((hi n / 256 ^ k : Nat) : Int) ∧ l = .int .u64 ((lo n / 256 ^ k : Nat) : Int) ∧ i = .int .i64 (7 - (k : Int)) ∧ Row wr (w.heap.size + 1) (rowTo n k) ∧ Below w.heap.size w wr)
    (fun _ _ i _ => (intOf i + 1).toNat)
  case atStart =>
    refine ⟨0, by omega, by simp, by simp, rfl, ?_, ?_⟩
    · have h := Row.made (w.alloc (.cells #[.int .u64 (hi n : Nat), .int .u64 (lo n : Nat)] 35))
      simp only [World.size_alloc] at h
      exact (h.congr (W.rowTo_zero n)).drew
    · repeat (first | exact Below.refl _ _ | apply bal | apply Below.drew)
  case round =>
    obtain ⟨k, hk, rfl, rfl, rfl, hrow, hbel⟩ := hrel
    by_cases hlt : k < 8
    · have hx := W.div_pow_le (hi n) k
      have hy := W.div_pow_le (lo n) k
      have c1 := (hrow (7 - k) (by omega)).1
      have c2 := (hrow (8 + (7 - k)) (by omega)).1
      have f1 := (hrow (7 - k) (by omega)).2
      have f2 := (hrow (8 + (7 - k)) (by omega)).2
      have hrow' := Lib.hid (((hrow.set (7 - k) (((hi n / 256 ^ k : Nat) : Int) % 256)).set (8 + (7 - k)) (((lo n / 256 ^ k : Nat) : Int) % 256)).congr fun j hj => W.rowTo_step n k j hlt hj)
      clear hrow
      have e1 := Lib.hid (W.div_pow_succ (hi n) k)
      have e2 := Lib.hid (W.div_pow_succ (lo n) k)
      generalize hi n / 256 ^ k = x at *
      generalize lo n / 256 ^ k = y at *
      go_wp2
      go_roundw
      case rel => exact ⟨k + 1, by omega, by rw [← e1.out]; go_num, by rw [← e2.out]; go_num, by go_num, hrow'.out, (hbel.setCell (by simp) _).setCell (by simp) _⟩
      case measure => simp [intOf]; omega
    · have hk8 : k = 8 := by omega
      have hr := Lib.hid (show Row wr (w.heap.size + 1) (rowOf n) from (by subst hk8; exact hrow.congr (W.rowTo_all n)))
      clear hk8 hrow
      go_wp2
      go_ret
      exact ⟨rfl, hr.out, hbel⟩

set_option maxHeartbeats 800000 in
theorem number_any (n : Nat) (hn : n < MM) (b : Nat) (w : World) (hrow : Row w b (rowOf n)) :
    Calls Try.prog 40 #[.slice (some ⟨b, 0, none⟩) 16 16] w fun e w' => e = .returned (.agg #[.int .u64 (hi n : Nat), .int .u64 (lo n : Nat)]) ∧ Below w.heap.size w w' := by
  have b1 := W.hi_le n hn
  have b2 := W.lo_le n
  have hbl := hrow.lt
  go_enter Try.func40, Try.ntmps40
  go_wp2
  go_loopw [4] (fun i wr => ∃ k : Nat, k ≤ 8 ∧ i = .int .i64 (k : Int) ∧ wr.cell? ⟨w.heap.size + 1, 0, none⟩ = some (.int .u64 ((hi n / 256 ^ (8 - k) : Nat) : Int)) ∧ wr.cell? ⟨w.heap.size + 1, 1, none⟩ = some (.int .u64 ((lo n / 256 ^ (8 - k) : Nat) : Int)) ∧
      wr.frozen? ⟨w.heap.size + 1, 0, none⟩ = false ∧ wr.frozen? ⟨w.heap.size + 1, 1, none⟩ = false ∧ wr.cell? ⟨w.heap.size, 0, none⟩ = some (.int .u64 0) ∧ wr.cell? ⟨w.heap.size, 1, none⟩ = some (.int .u64 0) ∧
      wr.frozen? ⟨w.heap.size, 0, none⟩ = false ∧ wr.frozen? ⟨w.heap.size, 1, none⟩ = false ∧ Row wr b (rowOf n) ∧ Below w.heap.size w wr)
    (fun i _ => 8 - (intOf i).toNat)
  case atStart =>
    refine ⟨0, by omega, rfl, ?_, ?_, ?_, ?_, ?_, ?_, ?_, ?_, ?_, ?_⟩
    · rw [W.hi_start n hn]; simp
    · rw [W.lo_start n]; simp
    · simp
    · simp
    · simp
    · simp
    · simp
    · simp
    · exact (hrow.alloc _).alloc _
    · repeat (first | exact Below.refl _ _ | apply bal | apply Below.drew)
  case round =>
    obtain ⟨k, hk, rfl, c0, c1, f0, f1, d0, d1, g0, g1, hr, hbel⟩ := hrel
    clear hrow
    by_cases hlt : k < 8
    · have hx := W.div_pow_le (hi n) (8 - (k + 1))
      have hy := W.div_pow_le (lo n) (8 - (k + 1))
      have r1 := (hr k (by omega)).1
      have r2 := (hr (8 + k) (by omega)).1
      have e1 := W.hi_step n k hlt
      have e2 := W.lo_step n k hlt
      have q1 := W.rowOf_bd n k
      have q2 := W.rowOf_bd n (8 + k)
      have HR := Lib.hid hr; clear hr
      generalize hi n / 256 ^ (8 - k) = x at *
      generalize lo n / 256 ^ (8 - k) = y at *
      generalize rowOf n k = p at *
      generalize rowOf n (8 + k) = q at *
      have l1 : (x : Int) * 256 + p ≤ 18446744073709551615 := by omega
      have l2 : (y : Int) * 256 + q ≤ 18446744073709551615 := by omega
      have E1 := Lib.hid e1; clear e1
      have E2 := Lib.hid e2; clear e2
      clear hx hy
      go_wp2
      go_region
      go_wp2
      go_region
      go_wp2
      go_roundw
      case rel =>
        refine ⟨k + 1, by omega, by go_num, ?_, ?_, ?_, ?_, ?_, ?_, ?_, ?_, ?_, ?_⟩
        · rw [← E1.out]; simp [World.cell?_setCell_same _ _ _ c0, World.cell?_setCell_other]
        · rw [← E2.out]; simp [World.cell?_setCell_same _ _ _ (show (wr.setCell ⟨w.heap.size + 1, 0, none⟩ (.int .u64 ((x : Int) * 256 + p))).cell? ⟨w.heap.size + 1, 1, none⟩ = _ from (World.cell?_setCell_other _ _ _ _ (by simp)).trans c1)]
        · simp [f0]
        · simp [f1]
        · simp [World.cell?_setCell_far, d0]
        · simp [World.cell?_setCell_far, d1]
        · simp [g0]
        · simp [g1]
        · exact ((HR.out.far _ (by omega) _ _).drew.far _ (by omega) _ _).drew
        · exact ((hbel.setCell (by simp) _).drew.setCell (by simp) _).drew
      case measure => simp [intOf]; omega
    · have hk8 : k = 8 := by omega
      have z1 : wr.cell? ⟨w.heap.size + 1, 0, none⟩ = some (.int .u64 ((hi n : Nat) : Int)) := by rw [c0, hk8]; simp
      have z2 : wr.cell? ⟨w.heap.size + 1, 1, none⟩ = some (.int .u64 ((lo n : Nat) : Int)) := by rw [c1, hk8]; simp
      clear c0 c1 hk8 hr
      go_wp2
      exact bodyPost_ret (v := .agg #[.int .u64 (hi n : Nat), .int .u64 (lo n : Nat)]) (by simp [results, Try.results40, go_sem, d0, d1]) rfl ⟨rfl, by
        repeat (first | exact hbel | apply bal | apply Below.drew | (refine Below.setCell ?_ (by simp) _))⟩
end Go.Proofs.Ytfofhnaomlcioaa
