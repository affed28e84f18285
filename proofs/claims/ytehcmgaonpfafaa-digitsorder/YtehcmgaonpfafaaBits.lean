/- math/bits' Len64, LeadingZeros64, Div64 and Mul64 at ten: the library's own text is walked. -/
import Derived.Test.YtehcmgaonpfafaaDec
import Derived.Laws.Bits64b
namespace Go.Proofs.Ytehcmgaonpfafaa
open Go.RowKit
open W (hi lo addN addB dig MM M)

theorem mask_lo (a : Nat) (ha : a < 18446744073709551616) : bits .and .u64 (a : Int) 4294967295 = ((a % 4294967296 : Nat) : Int) :=
  (bits_and_u64_nat a 4294967295 ha (by omega)).trans (congrArg (fun n : Nat => (n : Int)) (Nat.and_two_pow_sub_one_eq_mod a 32))

theorem ret_two {a b c d : Int} (h1 : a = c) (h2 : b = d) : Ending.returned (.tuple #[.int .u64 a, .int .u64 b]) = .returned (.tuple #[.int .u64 c, .int .u64 d]) := by rw [h1, h2]
theorem mask_ten : bits .and .u64 10 4294967295 = 10 := mask_lo 10 (by omega)

set_option maxHeartbeats 400000 in
set_option maxRecDepth 100000 in
theorem len10 (w : World) : Calls Try.prog 34 #[.int .u64 10] w fun e w' => e = .returned (.int .i64 4) ∧ w = w' := by
  go_enter Try.func34, Try.ntmps34
  go_wp2
  go_ret
  exact ⟨by kernel_rfl, rfl⟩

theorem lz10 (w : World) : Calls Try.prog 32 #[.int .u64 10] w fun e w' => e = .returned (.int .i64 60) ∧ w = w' := by
  go_enter Try.func32, Try.ntmps32
  go_wp2_with fail
  refine (len10 _).mono ?_
  rintro e w1 ⟨rfl, rfl⟩
  go_wp2
  go_ret
  exact ⟨rfl, rfl⟩

set_option maxHeartbeats 400000 in
theorem mul10 (x : Nat) (hx : x < 18446744073709551616) (w : World) : Calls Try.prog 29 #[.int .u64 x, .int .u64 10] w fun e w' =>
    e = .returned (.tuple #[.int .u64 ((x * 10 / 18446744073709551616 : Nat) : Int), .int .u64 ((x * 10 % 18446744073709551616 : Nat) : Int)]) ∧ w = w' := by
  have hm := mask_lo x hx
  have hm2 := mask_ten
  have hm3 := mask_lo (x / 4294967296 * 10 + x % 4294967296 * 10 / 4294967296) (by omega)
  have e3 : ((x / 4294967296 * 10 + x % 4294967296 * 10 / 4294967296 : Nat) : Int) = (x : Int) / 4294967296 * 10 + (x : Int) % 4294967296 * 10 / 4294967296 := by omega
  rw [e3] at hm3
  clear e3
  go_enter Try.func29, Try.ntmps29
  go_wp2
  go_ret2
  exact ⟨ret_two (by omega) (by rw [IntKind.wrap_u64]; omega), rfl⟩

/-- The numbers that the division by ten goes through, of h * 2^64 + l. -/
theorem or_part (h l : Nat) (hh : h < 10) (hl : l < 18446744073709551616) : bits .or .u64 ((h : Int) * 1152921504606846976) ((l : Int) / 16) = ((h * 1152921504606846976 + l / 16 : Nat) : Int) := by
  have h1 := u64_or_nat (h * 1152921504606846976) (l / 16) (by omega) (by omega)
  have e : h * 1152921504606846976 ||| l / 16 = h * 1152921504606846976 + l / 16 := by
    have := Nat.two_pow_add_eq_or_of_lt (i := 60) (b := l / 16) (by omega) h
    rw [Nat.mul_comm h 1152921504606846976]
    exact this.symm
  rw [e] at h1
  rw [← h1]
  congr 1
theorem low_part (v : Nat) (hv : v < 16) : bits .and .u64 ((v * 1152921504606846976 : Nat) : Int) 4294967295 = 0 := by
  rw [mask_lo _ (by omega)]
  omega

theorem sixteen (l : Nat) : IntKind.u64.wrap ((l : Int) * 1152921504606846976) = ((l % 16 * 1152921504606846976 : Nat) : Int) := by rw [IntKind.wrap_u64]; omega
theorem by32 (x : Nat) : ((x * 1152921504606846976 : Nat) : Int) / 4294967296 = ((x * 268435456 : Nat) : Int) := by
  rw [Int.natCast_mul, Int.natCast_mul]
  omega
theorem un21 (u q r v1 t : Nat) (hr : (u : Int) - (q : Int) * 2684354560 = (r : Int)) (ht : t = r * 4294967296 + v1) (hb : t < 18446744073709551616) :
    IntKind.u64.wrap (IntKind.u64.wrap (IntKind.u64.wrap ((u : Int) * 4294967296) + (v1 : Int)) - IntKind.u64.wrap ((q : Int) * 11529215046068469760)) = (t : Int) := by
  have e : (u : Int) * 4294967296 + (v1 : Int) - (q : Int) * 11529215046068469760 = (t : Int) := by omega
  simp only [IntKind.wrap_u64, Int.emod_add_emod, ← Int.sub_emod]
  rw [e]
  omega
theorem wrap_two (a b : Int) : IntKind.u64.wrap (IntKind.u64.wrap (IntKind.u64.wrap a) - b) = IntKind.u64.wrap (IntKind.u64.wrap a - b) := by
  simp only [IntKind.wrap_u64, Int.emod_emod]
theorem last_part (t q0 r0 : Nat) (h : (t : Int) - (q0 : Int) * 2684354560 = (r0 : Int)) (hb : r0 < 2684354560) :
    IntKind.u64.wrap (IntKind.u64.wrap ((t : Int) * 4294967296) - IntKind.u64.wrap ((q0 : Int) * 11529215046068469760)) = (r0 : Int) * 4294967296 := by
  have e : (t : Int) * 4294967296 - (q0 : Int) * 11529215046068469760 = (r0 : Int) * 4294967296 := by omega
  simp only [IntKind.wrap_u64, ← Int.sub_emod]
  rw [e]
  omega
theorem ten_parts (h l : Nat) (hh : h < 10) (hl : l < 18446744073709551616) : ∃ u v v1 q r t q0 r0 : Nat,
    bits .or .u64 ((h : Int) * 1152921504606846976) ((l : Int) / 16) = (u : Int) ∧ IntKind.u64.wrap ((l : Int) * 1152921504606846976) = (v : Int) ∧ bits .and .u64 (v : Int) 4294967295 = 0 ∧
    (v : Int) / 4294967296 = (v1 : Int) ∧ (u : Int) / 2684354560 = (q : Int) ∧ u < 11529215046068469760 ∧ v < 18446744073709551616 ∧ v1 < 4294967296 ∧ q < 4294967296 ∧
    (u : Int) - (q : Int) * 2684354560 = (r : Int) ∧ r < 2684354560 ∧ t < 11529215046068469760 ∧
    IntKind.u64.wrap (IntKind.u64.wrap (IntKind.u64.wrap ((u : Int) * 4294967296) + (v1 : Int)) - IntKind.u64.wrap ((q : Int) * 11529215046068469760)) = (t : Int) ∧
    (t : Int) / 2684354560 = (q0 : Int) ∧ (t : Int) - (q0 : Int) * 2684354560 = (r0 : Int) ∧ q0 < 4294967296 ∧ r0 < 2684354560 ∧
    IntKind.u64.wrap (IntKind.u64.wrap ((t : Int) * 4294967296) - IntKind.u64.wrap ((q0 : Int) * 11529215046068469760)) = (r0 : Int) * 4294967296 ∧
    (h * 18446744073709551616 + l) / 10 = q * 4294967296 + q0 ∧ (h * 18446744073709551616 + l) % 10 = r0 / 268435456 := by
  have k1 := or_part h l hh hl
  have k2 := sixteen l
  have k3 := low_part (l % 16) (by omega)
  have k4 := by32 (l % 16)
  have hx : l = l / 16 * 16 + l % 16 := by omega
  have hm : l % 16 < 16 := by omega
  generalize l / 16 = x at *
  generalize l % 16 = m at *
  obtain ⟨u, hu⟩ : ∃ u, u = h * 1152921504606846976 + x := ⟨_, rfl⟩
  rw [← hu] at k1
  obtain ⟨q, hq⟩ : ∃ q, q = u / 2684354560 := ⟨_, rfl⟩
  obtain ⟨r, hr⟩ : ∃ r, r = u % 2684354560 := ⟨_, rfl⟩
  obtain ⟨t, ht⟩ : ∃ t, t = r * 4294967296 + m * 268435456 := ⟨_, rfl⟩
  have h1 : (u : Int) - (q : Int) * 2684354560 = (r : Int) := by clear k1 k2 k3 k4; omega
  have h2 : t < 11529215046068469760 := by clear k1 k2 k3 k4; omega
  have h3 : (t : Int) - ((t / 2684354560 : Nat) : Int) * 2684354560 = ((t % 2684354560 : Nat) : Int) := by clear k1 k2 k3 k4; omega
  have h4 : (t % 2684354560) < 2684354560 := by omega
  refine ⟨u, m * 1152921504606846976, m * 268435456, q, r, t, t / 2684354560, t % 2684354560, k1, k2, k3, k4, ?_, ?_, ?_, ?_, ?_, h1, ?_, h2, un21 u q r (m * 268435456) t h1 ht (by omega), ?_, h3, ?_, h4, last_part t _ _ h3 h4, ?_, ?_⟩
  all_goals clear k1 k2 k3 k4
  all_goals omega

set_option maxRecDepth 100000 in
set_option maxHeartbeats 400000 in
theorem div10 (h l : Nat) (hh : h < 10) (hl : l < 18446744073709551616) (w : World) : Calls Try.prog 28 #[.int .u64 h, .int .u64 l, .int .u64 10] w fun e w' =>
    e = .returned (.tuple #[.int .u64 (((h * 18446744073709551616 + l) / 10 : Nat) : Int), .int .u64 (((h * 18446744073709551616 + l) % 10 : Nat) : Int)]) ∧ Below w.heap.size w w' := by
  by_cases h0 : h = 0
  · subst h0
    go_enter Try.func28, Try.ntmps28
    go_wp2
    go_region
    go_wp2
    go_ret2
    exact ⟨ret_two (by omega) (by omega), (Below.refl _ _).drew⟩
  · have h1 : ((h : Int) == 0) = false := beq_eq_false_iff_ne.2 (by omega)
    have h2 : decide ((10 : Int) ≤ (h : Int)) = false := by simp; omega
    obtain ⟨u, v, v1, q, r, t, q0, r0, k1, k3, k4, k5, k6, hub, hvb, hv1b, hqb, hr, hrb, htb, E1, E2, E3, hq0b, hr0b, E4, hX, hY⟩ := ten_parts h l hh hl
    have k2 : bits .and .u64 11529215046068469760 4294967295 = 0 := low_part 10 (by omega)
    have d1 : decide ((4294967296 : Int) ≤ (q : Int)) = false := by simp; omega
    have d2 : decide ((4294967296 : Int) ≤ (q0 : Int)) = false := by simp; omega
    rw [hX, hY]
    clear hX hY h0
    go_enter Try.func28, Try.ntmps28
    go_wp2_with fail
    refine (lz10 _).mono ?_
    rintro e w1 ⟨rfl, rfl⟩
    go_wp2
    go_loop [15, 16] (fun a b => a = .int .u64 (q : Int) ∧ b = .int .u64 (r : Int)) (fun _ _ => 0)
    case atStart => exact ⟨rfl, rfl⟩
    case round =>
      obtain ⟨rfl, rfl⟩ := hrel
      clear k1 k2 k3 k4 k5 k6 hub hvb hr
      go_wp2
      go_loop [18, 16] (fun a b => a = .int .u64 (q0 : Int) ∧ b = .int .u64 (r0 : Int)) (fun _ _ => 0)
      case atStart => exact ⟨rfl, rfl⟩
      case round =>
        obtain ⟨rfl, rfl⟩ := hrel
        clear E1 E2 E3 htb hv1b
        go_wp2
        go_ret2
        exact ⟨ret_two (by omega) (by rw [wrap_two, E4]; omega), Below.refl _ _⟩
end Go.Proofs.Ytehcmgaonpfafaa
