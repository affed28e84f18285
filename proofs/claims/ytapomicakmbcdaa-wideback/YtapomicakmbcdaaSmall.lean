/- Contracts of Add, Sub, Rest and Cmp at the cases that the laws part on. -/
import Derived.Test.YtapomicakmbcdaaFixed
namespace Go.Proofs.Ytapomicakmbcdaa
open Go.RowKit
open W (hi lo addN addB subN subB cmpN dig MM)

theorem sub_at {x1 x2 x3 x4 y1 y2 : Int} {ok : Bool} (a b : Nat) (ha : a < MM) (hb : b < MM) (h1 : x1 = (hi a : Nat)) (h2 : x2 = (lo a : Nat)) (h3 : x3 = (hi b : Nat)) (h4 : x4 = (lo b : Nat)) (h5 : y1 = (hi (subN a b) : Nat)) (h6 : y2 = (lo (subN a b) : Nat)) (h7 : ok = subB a b) (w : World) :
    Calls Try.prog 10 #[.agg #[.int .u64 x1, .int .u64 x2], .agg #[.int .u64 x3, .int .u64 x4]] w fun e w' => e = .returned (.tuple #[.agg #[.int .u64 y1, .int .u64 y2], .bool ok]) ∧ Below w.heap.size w w' := by
  rw [h1, h2, h3, h4, h5, h6, h7]; exact sub_any a b ha hb w
theorem addN_ok {a b : Nat} (h : a + b < MM) : addN a b = a + b := by unfold W.addN; rw [if_pos h]
theorem addN_no {a b : Nat} (h : ¬ a + b < MM) : addN a b = 0 := by unfold W.addN; rw [if_neg h]
theorem add_ok_c (a b : Nat) (h : a + b < MM) (w : World) : Calls Try.prog 8 #[.agg #[.int .u64 (hi a : Nat), .int .u64 (lo a : Nat)], .agg #[.int .u64 (hi b : Nat), .int .u64 (lo b : Nat)]] w fun e w' => e = .returned (.tuple #[.agg #[.int .u64 (hi (a + b) : Nat), .int .u64 (lo (a + b) : Nat)], .bool true]) ∧ Below w.heap.size w w' :=
  add_at a b rfl rfl rfl rfl (by rw [addN_ok h]) (by rw [addN_ok h]) (W.addB_true h).symm w
theorem add_ok_r (a b : Nat) (h : a + b < MM) (w : World) : Calls Try.prog 8 #[.agg #[.int .u64 (hi b : Nat), .int .u64 (lo b : Nat)], .agg #[.int .u64 (hi a : Nat), .int .u64 (lo a : Nat)]] w fun e w' => e = .returned (.tuple #[.agg #[.int .u64 (hi (a + b) : Nat), .int .u64 (lo (a + b) : Nat)], .bool true]) ∧ Below w.heap.size w w' := by
  have h2 : b + a < MM := by omega
  have e : a + b = b + a := Nat.add_comm a b
  exact add_at b a rfl rfl rfl rfl (by rw [addN_ok h2, e]) (by rw [addN_ok h2, e]) (W.addB_true h2).symm w
theorem add_no_c (a b : Nat) (h : ¬ a + b < MM) (w : World) : Calls Try.prog 8 #[.agg #[.int .u64 (hi a : Nat), .int .u64 (lo a : Nat)], .agg #[.int .u64 (hi b : Nat), .int .u64 (lo b : Nat)]] w fun e w' => e = .returned (.tuple #[.agg #[.int .u64 0, .int .u64 0], .bool false]) ∧ Below w.heap.size w w' :=
  add_at a b rfl rfl rfl rfl (by rw [addN_no h]; rfl) (by rw [addN_no h]; rfl) (W.addB_false h).symm w
theorem add_no_r (a b : Nat) (h : ¬ a + b < MM) (w : World) : Calls Try.prog 8 #[.agg #[.int .u64 (hi b : Nat), .int .u64 (lo b : Nat)], .agg #[.int .u64 (hi a : Nat), .int .u64 (lo a : Nat)]] w fun e w' => e = .returned (.tuple #[.agg #[.int .u64 0, .int .u64 0], .bool false]) ∧ Below w.heap.size w w' := by
  have h2 : ¬ b + a < MM := by omega
  exact add_at b a rfl rfl rfl rfl (by rw [addN_no h2]; rfl) (by rw [addN_no h2]; rfl) (W.addB_false h2).symm w
theorem sub_back (a b : Nat) (h : a + b < MM) (w : World) : Calls Try.prog 10 #[.agg #[.int .u64 (hi (a + b) : Nat), .int .u64 (lo (a + b) : Nat)], .agg #[.int .u64 (hi b : Nat), .int .u64 (lo b : Nat)]] w fun e w' => e = .returned (.tuple #[.agg #[.int .u64 (hi a : Nat), .int .u64 (lo a : Nat)], .bool true]) ∧ Below w.heap.size w w' := by
  have e : subN (a + b) b = a := by unfold W.subN; omega
  exact sub_at (a + b) b h (by omega) rfl rfl rfl rfl (by rw [e]) (by rw [e]) (by simp [W.subB]) w
theorem sub_zero (b : Nat) (h : b < MM) (w : World) : Calls Try.prog 10 #[.agg #[.int .u64 0, .int .u64 0], .agg #[.int .u64 (hi b : Nat), .int .u64 (lo b : Nat)]] w fun e w' => e = .returned (.tuple #[.agg #[.int .u64 0, .int .u64 0], .bool (subB 0 b)]) ∧ Below w.heap.size w w' := by
  have e : subN 0 b = 0 := by unfold W.subN; omega
  exact sub_at 0 b (by decide) h rfl rfl rfl rfl (by rw [e]; rfl) (by rw [e]; rfl) rfl w
theorem sub_fine (a b : Nat) (ha : a < MM) (h : b ≤ a) (w : World) : Calls Try.prog 10 #[.agg #[.int .u64 (hi a : Nat), .int .u64 (lo a : Nat)], .agg #[.int .u64 (hi b : Nat), .int .u64 (lo b : Nat)]] w fun e w' => e = .returned (.tuple #[.agg #[.int .u64 (hi (a - b) : Nat), .int .u64 (lo (a - b) : Nat)], .bool true]) ∧ Below w.heap.size w w' :=
  sub_at a b ha (by omega) rfl rfl rfl rfl rfl rfl (by simp [W.subB, h]) w
theorem sub_less (a b : Nat) (ha : a < MM) (hb : b < MM) (h : a < b) (w : World) : Calls Try.prog 10 #[.agg #[.int .u64 (hi a : Nat), .int .u64 (lo a : Nat)], .agg #[.int .u64 (hi b : Nat), .int .u64 (lo b : Nat)]] w fun e w' => e = .returned (.tuple #[.agg #[.int .u64 0, .int .u64 0], .bool false]) ∧ Below w.heap.size w w' := by
  have e : subN a b = 0 := by unfold W.subN; omega
  exact sub_at a b ha hb rfl rfl rfl rfl (by rw [e]; rfl) (by rw [e]; rfl) (by simp [W.subB, h]) w
theorem add_back (a b : Nat) (ha : a < MM) (h : b ≤ a) (w : World) : Calls Try.prog 8 #[.agg #[.int .u64 (hi (a - b) : Nat), .int .u64 (lo (a - b) : Nat)], .agg #[.int .u64 (hi b : Nat), .int .u64 (lo b : Nat)]] w fun e w' => e = .returned (.tuple #[.agg #[.int .u64 (hi a : Nat), .int .u64 (lo a : Nat)], .bool true]) ∧ Below w.heap.size w w' := by
  have e : a - b + b = a := by omega
  have h2 : a - b + b < MM := by omega
  exact add_at (a - b) b rfl rfl rfl rfl (by rw [addN_ok h2, e]) (by rw [addN_ok h2, e]) (W.addB_true h2).symm w
theorem add_zero (b : Nat) (w : World) : Calls Try.prog 8 #[.agg #[.int .u64 0, .int .u64 0], .agg #[.int .u64 (hi b : Nat), .int .u64 (lo b : Nat)]] w fun e w' => e = .returned (.tuple #[.agg #[.int .u64 (hi (addN 0 b) : Nat), .int .u64 (lo (addN 0 b) : Nat)], .bool (addB 0 b)]) ∧ Below w.heap.size w w' :=
  add_at 0 b rfl rfl rfl rfl rfl rfl rfl w
theorem cmp_fine (a b : Nat) (h : b ≤ a) : ∃ c : Int, 0 ≤ c ∧ ∀ w : World, Calls Try.prog 14 #[.agg #[.int .u64 (hi a : Nat), .int .u64 (lo a : Nat)], .agg #[.int .u64 (hi b : Nat), .int .u64 (lo b : Nat)]] w fun e w' => e = .returned (.int .i64 c) ∧ Below w.heap.size w w' :=
  ⟨cmpN a b, by unfold W.cmpN; rw [if_neg (by omega)]; split <;> omega, cmp_any a b⟩
theorem cmp_less (a b : Nat) (h : a < b) (w : World) : Calls Try.prog 14 #[.agg #[.int .u64 (hi a : Nat), .int .u64 (lo a : Nat)], .agg #[.int .u64 (hi b : Nat), .int .u64 (lo b : Nat)]] w fun e w' => e = .returned (.int .i64 (-1)) ∧ Below w.heap.size w w' := by
  rw [← W.cmpN_lt h]; exact cmp_any a b w
theorem rest_top (a : Nat) (ha : a < MM) (w : World) : Calls Try.prog 13 #[.agg #[.int .u64 18446744073709551615, .int .u64 18446744073709551615], .agg #[.int .u64 (hi a : Nat), .int .u64 (lo a : Nat)]] w fun e w' => e = .returned (.agg #[.int .u64 (hi (W.topN - a) : Nat), .int .u64 (lo (W.topN - a) : Nat)]) ∧ Below w.heap.size w w' :=
  rest_at W.topN a W.topN_lt ha (by rw [W.topN_hi]; rfl) (by rw [W.topN_lo]; rfl) rfl rfl rfl rfl w
theorem cmp_top (a b : Nat) (ha : a < MM) (h : ¬ a + b < MM) (w : World) : Calls Try.prog 14 #[.agg #[.int .u64 (hi (W.topN - a) : Nat), .int .u64 (lo (W.topN - a) : Nat)], .agg #[.int .u64 (hi b : Nat), .int .u64 (lo b : Nat)]] w fun e w' => e = .returned (.int .i64 (-1)) ∧ Below w.heap.size w w' := by
  have hl : W.topN - a < b := by have := W.topN_eq; omega
  rw [← W.cmpN_lt hl]; exact cmp_any _ b w

end Go.Proofs.Ytapomicakmbcdaa
