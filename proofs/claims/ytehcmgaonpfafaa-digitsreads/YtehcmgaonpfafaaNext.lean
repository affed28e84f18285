/- digits: the closure that divides digits off. -/
import Derived.Test.YtehcmgaonpfafaaBits
namespace Go.Proofs.Ytehcmgaonpfafaa
open Go.RowKit
open W (hi lo addN addB dig MM M)

theorem hi_ten (m : Nat) : hi (m / 10) = hi m / 10 := by unfold W.hi; rw [Nat.div_div_eq_div_mul, Nat.div_div_eq_div_mul, Nat.mul_comm]
theorem ten_halves (m : Nat) : (hi m % 10 * 18446744073709551616 + lo m) / 10 = lo (m / 10) ∧ (hi m % 10 * 18446744073709551616 + lo m) % 10 = m % 10 := by
  have h1 := W.hi_lo m
  have h2 := W.lo_le m
  have h3 := W.hi_lo (m / 10)
  have h4 := W.lo_le (m / 10)
  rw [hi_ten] at h3
  generalize hi m = a at *
  generalize lo m = b at *
  generalize lo (m / 10) = c at *
  omega
theorem halves_zero (m : Nat) : (((hi m : Nat) : Int) != 0 || ((lo m : Nat) : Int) != 0) = decide (m ≠ 0) := by
  have h := W.hi_lo m
  rw [Bool.eq_iff_iff]
  simp only [Bool.or_eq_true, bne_iff_ne, decide_eq_true_eq]
  constructor
  · rintro h1 rfl
    revert h1
    simp [W.hi, W.lo]
  · intro h1
    generalize hi m = a at *
    generalize lo m = b at *
    omega

/-- What the closure makes of the world: what is left (q) stands in its own variable; the digit is d. -/
def NextPost (b q d : Nat) (w : World) (e : Ending) (w' : World) : Prop :=
  ∃ u n, Below w.heap.size w u ∧ w' = ((u.setCell ⟨b, 0, none⟩ (.int .u64 (hi q : Nat))).setCell ⟨b, 1, none⟩ (.int .u64 (lo q : Nat))).drewN n ∧
    e = .returned (.tuple #[.int .u8 ((48 + d : Nat) : Int), .bool (decide (q ≠ 0))])
theorem nextPost_mk {b q d : Nat} {w u w' : World} {x : Int} {t : Bool} (hB : Below w.heap.size w u) (n : Nat) (hw : w' = ((u.setCell ⟨b, 0, none⟩ (.int .u64 (hi q : Nat))).setCell ⟨b, 1, none⟩ (.int .u64 (lo q : Nat))).drewN n)
    (hx : x = 48 + (d : Int)) (ht : t = decide (q ≠ 0)) : NextPost b q d w (.returned (.tuple #[.int .u8 x, .bool t])) w' := ⟨u, n, hB, hw, by rw [hx, ht]; rfl⟩

theorem div10_m (m : Nat) (w : World) : Calls Try.prog 28 #[.int .u64 (((hi m : Nat) : Int) % 10), .int .u64 (lo m : Nat), .int .u64 10] w fun e w' =>
    e = .returned (.tuple #[.int .u64 ((lo (m / 10) : Nat) : Int), .int .u64 ((m % 10 : Nat) : Int)]) ∧ Below w.heap.size w w' := by
  have h := div10 (hi m % 10) (lo m) (by omega) (by have := W.lo_le m; omega) w
  rw [(ten_halves m).1, (ten_halves m).2, Int.natCast_emod] at h
  exact h
theorem zero_halves {m : Nat} (h : m = 0) : (((hi m : Nat) : Int) == 0) = true ∧ (((lo m : Nat) : Int) == 0) = true := by subst h; decide
theorem some_halves {m : Nat} (h : m ≠ 0) : (((hi m : Nat) : Int) == 0) = false ∨ ((((hi m : Nat) : Int) == 0) = true ∧ (((lo m : Nat) : Int) == 0) = false) := by
  have h1 := W.hi_lo m
  by_cases h2 : hi m = 0
  · exact Or.inr ⟨by rw [h2]; rfl, beq_eq_false_iff_ne.2 (by omega)⟩
  · exact Or.inl (beq_eq_false_iff_ne.2 (by omega))

set_option maxHeartbeats 400000 in
theorem next_aux (b m q d : Nat) (hm : m < MM) (hq : q = m / 10) (hd : d = m % 10) (w : World) (c0 : w.cell? ⟨b, 0, none⟩ = some (.int .u64 (hi m : Nat))) (c1 : w.cell? ⟨b, 1, none⟩ = some (.int .u64 (lo m : Nat)))
    (f0 : w.frozen? ⟨b, 0, none⟩ = false) (f1 : w.frozen? ⟨b, 1, none⟩ = false) :
    Calls Try.prog 27 #[.pointer (some ⟨b, 0, none⟩)] w (NextPost b q d w) := by
  have b1 := W.hi_le m hm
  have b2 := W.lo_le m
  have e1 : ((hi m : Nat) : Int) / 10 = ((hi q : Nat) : Int) := by rw [hq, hi_ten]; omega
  have b3 : d ≤ 9 := by omega
  have HD : Hid (∀ w : World, Calls Try.prog 28 #[.int .u64 (((hi m : Nat) : Int) % 10), .int .u64 (lo m : Nat), .int .u64 10] w fun e w' =>
    e = .returned (.tuple #[.int .u64 ((lo q : Nat) : Int), .int .u64 (d : Int)]) ∧ Below w.heap.size w w') := by rw [hq, hd]; exact div10_m m
  have k1 := W.hi_le q (by omega)
  have k2 := W.lo_le q
  clear hq hd hm
  go_enter Try.func27, Try.ntmps27
  go_wp2
  go_quiet (fail)
  go_wp2_with fail
  refine (HD.out _).mono ?_
  rintro e w1 ⟨rfl, hb1⟩
  have hB : Below w.heap.size w w1 := btr (bdn (Below.refl _ w) _) hb1
  have c0' := kept c0 hB
  have c1' := kept c1 hB
  have f0' := keptf c0 f0 hB
  have f1' := keptf c1 f1 hB
  clear c0 c1 f0 f1 hb1 e1 HD
  go_wp2
  obtain ⟨s0, s1⟩ := two_set (x0 := .int .u64 (hi q : Nat)) (x1 := .int .u64 (lo q : Nat)) c0' c1'
  generalize hw2 : (w1.setCell ⟨b, 0, none⟩ (.int .u64 (hi q : Nat))).setCell ⟨b, 1, none⟩ (.int .u64 (lo q : Nat)) = w2 at *
  have HW := Lib.hid hw2; clear hw2
  by_cases hz : q = 0
  · obtain ⟨z0, z1⟩ := zero_halves hz
    have HZ := Lib.hid (show false = decide (q ≠ 0) by simp [hz]); clear hz
    go_quiet (fail)
    go_wp2
    go_ret2
    exact nextPost_mk hB _ (by rw [HW.out]) (by omega) HZ.out
  · have HZ := Lib.hid (show true = decide (q ≠ 0) by simp [hz])
    rcases some_halves hz with z0 | ⟨z0, z1⟩
    · clear hz
      go_quiet (fail)
      go_wp2
      go_ret2
      exact nextPost_mk hB _ (by rw [HW.out]) (by omega) HZ.out
    · clear hz
      go_quiet (fail)
      go_wp2
      go_ret2
      exact nextPost_mk hB _ (by rw [HW.out]) (by omega) HZ.out
theorem next_any (b m : Nat) (hm : m < MM) (w : World) (c0 : w.cell? ⟨b, 0, none⟩ = some (.int .u64 (hi m : Nat))) (c1 : w.cell? ⟨b, 1, none⟩ = some (.int .u64 (lo m : Nat)))
    (f0 : w.frozen? ⟨b, 0, none⟩ = false) (f1 : w.frozen? ⟨b, 1, none⟩ = false) :
    Calls Try.prog 27 #[.pointer (some ⟨b, 0, none⟩)] w (NextPost b (m / 10) (m % 10) w) := next_aux b m _ _ hm rfl rfl w c0 c1 f0 f1

theorem run_makeFunc (fn : Fn) (first cap : Array Value) (w : World) : (Instr.makeFunc fn first cap).run Try.prog w = .ok (.func fn first cap) w := rfl
theorem digitsOf_any (m : Nat) (w : World) : Calls Try.prog 17 #[.agg #[.int .u64 (hi m : Nat), .int .u64 (lo m : Nat)]] w fun e w' =>
    e = .returned (.func (.func 27) #[] #[.pointer (some ⟨w.heap.size, 0, none⟩)]) ∧ w.alloc (.cells #[.int .u64 (hi m : Nat), .int .u64 (lo m : Nat)] 24) = w' := by
  have hmf := run_makeFunc
  go_enter Try.func17, Try.ntmps17
  go_wp2
  go_ret
  exact ⟨rfl, rfl⟩
end Go.Proofs.Ytehcmgaonpfafaa
