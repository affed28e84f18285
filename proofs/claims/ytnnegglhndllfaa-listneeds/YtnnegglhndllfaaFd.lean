/- freelist.parts: the function that is ranged over; a drawn region in a round of such a range. -/
import Derived.Test.YtnnegglhndllfaaFc
import Derived.RangeFuncNested
import Derived.RangeFuncBound
import Derived.RangeFuncCalls
import Derived.RangeFuncLeaves
import Derived.Shelf.Abstract
import Derived.Shelf.RegionOpen
import Derived.OwnWalkIn
import Derived.TacticsInMore
import Derived.LoopNIn
import Derived.LoopIn
namespace Go.Proofs.Ytnnegglhndllfaa
open Go.RowKit
attribute [local go_sem] Oper.semAt_some

/-! A drawn region, walked as anywhere, in a round at the wide fence. -/
theorem rows_wide {n : Nat} {P : Program} {row : String} {args : Array Value} {w : World} {R : Value → World → Prop} (h : Rows P row args w R) : RowsIn Fence.wide n P row args w R :=
  fun c cs _ => let ⟨v, w', r, s⟩ := h c cs; ⟨v, w', r, stepsIn_wide.2 s⟩
theorem wpOp_round {P : Program} {ops : Array Oper} {Q : Exit → Act → World → Prop} {K : Act → World → Prop} {i l n : Nat} {a : Act} {w : World} (hd : ∀ o, ops[i]? = some o → ∀ c, o.op ≠ .defer c) (hq : ¬ LetsOut Q)
    (h : wpOp P ops Q i K a w) : wpOpIn (Fence.wide.inRound l) n P ops Q i K a w := by
  unfold wpOp at h
  unfold wpOpIn
  split
  · rename_i ho
    simpa [ho] using h
  · rename_i o ho
    simp only [ho] at h
    split
    · rename_i hw
      simp only [hw, if_true] at h
      rcases h with h | ⟨_, h⟩
      · refine ⟨fun _ _ => trivial, ?_⟩
        rw [Oper.semAt_plain _ _ _ (hd o ho)]
        unfold Oper.wp at h
        generalize (execOp a.eval o).run P w = r at *
        cases r with
        | ok x w' =>
          cases x <;> simp only [Oper.upon, Oper.uponIn] at h ⊢
          case value => exact h
          case skip => exact h
          case defer => exact h
          case enter f args => exact ⟨(fun q => absurd q (by simp [Fence.wide])), CallsIn.inRound l (callsIn_wide.2 h)⟩
          case row row args => exact ⟨(fun q => absurd q (by simp [Fence.wide])), rows_wide h⟩
        | halt x w' =>
          cases x <;> simp only [Oper.upon, Oper.uponIn] at h ⊢
          case panic => exact h
      · exact absurd h hq
    · rename_i hw
      simp only [hw] at h
      exact ⟨fun _ _ => trivial, by simpa using h⟩
theorem wpAny_round {P : Program} {md : Region.Mode} {ops : Array Oper} {Q : Exit → Act → World → Prop} {l n : Nat} (hd : ∀ (i : Nat) (o : Oper), ops[i]? = some o → ∀ c, o.op ≠ .defer c) (hq : ¬ LetsOut Q) :
    ∀ (fuel : Nat) (listed : Array Bool) (a : Act) (w : World), wpAny P md ops Q fuel listed a w → wpAnyIn (Fence.wide.inRound l) n P md ops Q fuel listed a w
  | 0, _, _, _, h => h
  | fuel + 1, _, _, _, h => ⟨h.1, fun i hi => wpOp_round (hd i) hq (wpOp_mono (fun a' w' h' => wpAny_round hd hq fuel _ a' w' h') (h.2 i hi))⟩
/-- No operation is a defer statement. -/
def noDefer (ops : Array Oper) : Bool := ops.all fun o => match o.op with | .defer _ => false | _ => true
theorem noDefer_spec {ops : Array Oper} (h : noDefer ops = true) (i : Nat) (o : Oper) (ho : ops[i]? = some o) (c : Call) : o.op ≠ .defer c := by
  intro e
  have hm : o ∈ ops := Array.mem_of_getElem? ho
  have := Array.all_eq_true'.1 h o hm
  rw [e] at this
  cases this
theorem region_round {P : Program} {id l n : Nat} {ops : Array Oper} {Q : Exit → Act → World → Prop} {a : Act} {w : World} (hm : P.follows .mixedOrders = true) (hd : noDefer ops = true) (hq : ¬ LetsOut Q)
    (h : wpAny P .any ops Q ops.size (Array.replicate ops.size false) a w.drew) : (Code.region id ops true).wpIn (Fence.wide.inRound l) n P Q a w :=
  wpIn_region_any hm (wpAny_round (noDefer_spec hd) hq _ _ _ _ h)

/-! Slices of numbers, cut at both ends. -/
theorem Nums.form {w : World} {v : Value} {l : List Int} (h : Nums w v l) : ∃ A c, v = .slice A l.length c ∧ l.length ≤ c ∧ c ≤ maxLen := by
  obtain ⟨A, c, rfl, hc, hm, _⟩ := h
  exact ⟨A, c, rfl, hc, hm⟩
theorem Nums.len {w : World} {A : Option Addr} {k c : Nat} {l : List Int} (h : Nums w (.slice A k c) l) : l.length = k ∧ k ≤ c ∧ c ≤ maxLen := by
  obtain ⟨A', c', e, hc, hm, _⟩ := h
  cases e
  exact ⟨rfl, hc, hm⟩
theorem Nums.cut {w : World} {A : Option Addr} {k c : Nat} {l : List Int} (h : Nums w (.slice A k c) l) (n : Nat) (hn : n ≤ k) : Nums w (.slice A n c) (l.take n) := by
  obtain ⟨A', c', e, hc, hm, q⟩ := h
  cases e
  have hl : (l.take n).length = n := by simp; omega
  refine ⟨A, c, by rw [hl], by rw [hl]; omega, hm, fun hp => ?_⟩
  rw [hl] at hp
  obtain ⟨b, off, e, r⟩ := q (by omega)
  refine ⟨b, off, e, fun j hj => ?_⟩
  rw [hl] at hj
  rw [r j (by omega), getElem!_pos l j (by omega), getElem!_pos (l.take n) j (by omega)]
  simp
theorem run_cut32 (A : Option Addr) (k c n : Nat) (hn : n ≤ c) (W : World) : (Instr.slice 25 (.slice A k c) none (some (.int .i64 (n : Int))) none).run Try.prog W = .ok (.slice A n c) W := by
  rw [run_slice_h (w := W) 25 A k c Try.underlying25 .i64 (n : Int) (by omega) (by omega)]
  have e : (sizeOf (Try.prog.elem 25)).run Try.prog W = .ok 1 W := by kernel_rfl
  rw [e]
  simp only [Result.andThen, sliced, Nat.zero_mul, Int.toNat_natCast, Nat.sub_zero]
  congr 2
  split
  · rfl
  · cases A with
    | none => rfl
    | some a => simp [Addr.add]
theorem Nums.rest {w : World} {A : Option Addr} {k c : Nat} {l : List Int} (h : Nums w (.slice A k c) l) (n : Nat) (hn : n ≤ k) :
    ∃ A', (∀ W, (Instr.slice 25 (.slice A k c) (some (.int .i64 (n : Int))) none none).run Try.prog W = .ok (.slice A' (k - n) (c - n)) W) ∧ Nums w (.slice A' (k - n) (c - n)) (l.drop n) := by
  obtain ⟨A', c', e, hc, hm, q⟩ := h
  cases e
  have hl : (l.drop n).length = l.length - n := by simp
  refine ⟨if c = n then A else A.map (·.add n), fun W => ?_, _, _, by rw [hl], by rw [hl]; omega, by omega, fun hp => ?_⟩
  · rw [run_slice_l (w := W) 25 A l.length c Try.underlying25 .i64 (n : Int) (by omega) (by omega)]
    have e : (sizeOf (Try.prog.elem 25)).run Try.prog W = .ok 1 W := by kernel_rfl
    rw [e]
    simp [Result.andThen, sliced]
  · rw [hl] at hp
    obtain ⟨b, off, e, r⟩ := q (by omega)
    subst e
    refine ⟨b, off + n, by rw [if_neg (by omega)]; simp [Addr.add], fun j hj => ?_⟩
    rw [hl] at hj
    rw [Nat.add_assoc, r (n + j) (by omega), getElem!_pos l (n + j) (by omega), getElem!_pos (l.drop n) j (by omega)]
    simp

/-! The parts of the numbers, one for each page. -/
/-- A place among the pages, with a slice of its part of the numbers. -/
def Part (w0 : World) (l : List Int) (k : Nat) : Type := { x : Nat × Value // x.1 < k ∧ Nums w0 x.2 (L.part l x.1) }
def Part.at {w0 : World} {l : List Int} {k : Nat} (x : Part w0 l k) : Nat := x.1.1
def Part.encs {w0 : World} {l : List Int} {k : Nat} (x : Part w0 l k) : Array Value := #[.int .i64 ((x.1.1 : Nat) : Int), x.1.2]

theorem parts_any (w : World) (A : Option Addr) (n c : Nat) (k : Int) : Calls Try.prog 17 #[.slice A n c, .int .i64 k] w fun e w' =>
    e = .returned (.func (.func 25) #[] #[.pointer (some ⟨w.heap.size, 0, none⟩), .pointer (some ⟨w.heap.size + 1, 0, none⟩)]) ∧ w' = (w.alloc (.cells #[.slice A n c] 25)).alloc (.cells #[.int .i64 k] 3) := by
  go_enter Try.func17, Try.ntmps17
  go_wp2
  go_ret
  exact ⟨rfl, rfl⟩

theorem run_min123 (m : Nat) (ts : Array TypeId) (ty : TypeId) (W : World) : (Builtin.min_ ts ty #[.int .i64 (m : Int), .int .i64 123]).run Try.prog W = .ok (.int .i64 ((min m 123 : Nat) : Int)) W := by
  rw [run_min_int2]
  congr 2
  split <;> omega

set_option maxRecDepth 100000 in
set_option maxHeartbeats 2000000 in
theorem parts_stops (w0 w : World) (A : Option Addr) (c k b1 b2 n : Nat) (l : List Int) (hk : k ≤ 1000000000) (hn : 1 ≤ n) (hN : Nums w0 (.slice A l.length c) l) (h1 : w.cell? ⟨b1, 0, none⟩ = some (.slice A l.length c)) (h2 : w.cell? ⟨b2, 0, none⟩ = some (.int .i64 (k : Int))) :
    SeqStopsK Fence.wide n Try.prog 25 #[.pointer (some ⟨b1, 0, none⟩), .pointer (some ⟨b2, 0, none⟩)] (Part.encs (w0 := w0) (l := l) (k := k)) (fun _ _ => True) (fun xs => xs.map Part.at = List.range k) (fun _ => True) k w := fun g J Jx W hW _ _ hY h0 => by
  have c1 := kept h1 hW
  have c2 := kept h2 hW
  obtain ⟨_, hlc, hcm⟩ := hN.len
  unfold maxLen at hcm
  obtain ⟨Ln, hL⟩ : ∃ Ln, Ln = l.length := ⟨_, rfl⟩
  rw [← hL] at c1 hN hlc
  have HN := Lib.hid hN
  have HL := Lib.hid hL
  have HY := Lib.hid hY
  clear hN hL hY h1 h2 hW
  refine callsIn_of_wp Try.func25 rfl trivial ?_ rfl
  simp only [Try.ntmps25, List.size_toArray, List.length_cons, List.length_nil, Nat.reduceAdd, Nat.reduceSub, Array.replicate_succ, Array.replicate_zero, List.push_toArray, List.append_toArray, List.nil_append, List.cons_append]
  gi_wp2
  gi_loopw [4, 9] (fun s4 s9 wr => ∃ (i m c' : Nat) (A' : Option Addr) (pre : List (Part w0 l k)), s9 = .int .i64 (i : Int) ∧ s4 = .slice A' m c' ∧ i ≤ k ∧ m ≤ c' ∧ c' ≤ c ∧ Hid (Nums w0 (.slice A' m c') (l.drop (123 * i))) ∧ Hid (pre.map Part.at = List.range i) ∧ J pre wr)
    (fun _ s9 _ => k - (intOf s9).toNat)
  case atStart => exact ⟨0, Ln, c, A, [], rfl, rfl, Nat.zero_le _, hlc, Nat.le_refl _, HN, rfl, h0⟩
  case round =>
    obtain ⟨i, m, c', A', pre, rfl, rfl, hi, hmc, hcc, HM, HP, hJ⟩ := hrel
    by_cases hlt : i < k
    · obtain ⟨x, hx⟩ : ∃ x : Part w0 l k, x = ⟨(i, .slice A' (min m 123) c'), hlt, by
        have e : L.part l i = (l.drop (123 * i)).take (min m 123) := by
          have := HM.out.len.1
          unfold L.part
          rw [← this]
          by_cases q : (l.drop (123 * i)).length ≤ 123
          · rw [Nat.min_eq_left q, List.take_length, List.take_of_length_le q]
          · rw [Nat.min_eq_right (by omega)]
        rw [e]
        exact HM.out.cut _ (Nat.min_le_left _ _)⟩ := ⟨_, rfl⟩
      have hpl : pre.length = i := by
        have := congrArg List.length HP.out
        simpa using this
      obtain ⟨fn, tmps, assign, body, hy, hR⟩ := HY.out pre x wr hJ (by rw [hpl]; exact hlt)
      have hP2 : Hid ((pre ++ [x]).map Part.at = List.range (i + 1)) := by
        show (pre ++ [x]).map Part.at = _
        rw [List.map_append, HP.out, List.range_succ, hx]
        rfl
      have hyx : Part.encs x = #[.int .i64 (i : Int), .slice A' (min m 123) c'] := by rw [hx]; rfl
      rw [hyx] at hy
      have hmin := run_min123 m
      obtain ⟨A2, hrest, hN2⟩ := HM.out.rest (min m 123) (Nat.min_le_left _ _)
      have HN2 : Hid (Nums w0 (.slice A2 (m - min m 123) (c' - min m 123)) (l.drop (123 * (i + 1)))) := by
        have e : (l.drop (123 * i)).drop (min m 123) = l.drop (123 * (i + 1)) := by
          have := HM.out.len.1
          rw [List.length_drop] at this
          rw [List.drop_drop]
          by_cases q : m ≤ 123
          · rw [Nat.min_eq_left q, List.drop_eq_nil_of_le (by omega), List.drop_eq_nil_of_le (by omega)]
          · rw [Nat.min_eq_right (by omega)]
            congr 1
        rw [← e]
        exact hN2
      clear hN2 hyx hx hpl
      have hmm : min m 123 ≤ m := Nat.min_le_left _ _
      generalize min m 123 = r at *
      have hcut := run_cut32 A' m c' r (by omega)
      gi_wp2
      refine hR.mono ?_
      rintro e W3 (⟨rfl, hJ3, _⟩ | ⟨rfl, hJx3⟩)
      · gi_wp2
        go_roundw
        case rel => exact ⟨i + 1, m - r, c' - r, A2, pre ++ [x], by simp, rfl, by omega, by omega, by omega, HN2, hP2, hJ3⟩
        case measure => simp [intOf]; omega
      · gi_wp2
        refine bodyPost_ret (results_none rfl _ _ _) rfl ?_
        exact ⟨⟨_, rfl⟩, .inr ⟨pre ++ [x], trivial, hJx3⟩⟩
    · obtain rfl : i = k := by omega
      gi_wp2
      go_end0
      exact ⟨⟨_, rfl⟩, .inl ⟨pre, HP.out, hJ⟩⟩
end Go.Proofs.Ytnnegglhndllfaa
