/- cashbookref05's Read. -/
import Derived.Test.YtcbiagdpolhbfaaRb
namespace Go.Proofs.Ytcbiagdpolhbfaa
open Go.RowKit
open D (St)

theorem Rep.safeAt {w : World} {A : Option Addr} {c : Nat} {wv : Value} {s : St} (h : Rep w (.slice A s.safe.length c) wv s) (j : Nat) (hj : j < s.safe.length) : ∃ g, A = some ⟨g, 0, none⟩ ∧ w.cell? ⟨g, j, none⟩ = some (.string (str s.safe[j])) ∧ w.frozen? ⟨g, j, none⟩ = false := by
  obtain ⟨g, cap, e⟩ := Go.Joins.ownsRow_form h.safe (by omega)
  obtain ⟨rfl, -, rfl⟩ := (Value.slice.injEq ..).mp e
  refine ⟨g, rfl, ?_, h.safe.frozenAt j⟩
  rw [h.safe.cellAt j (by omega)]
  simp [svs, hj]
theorem Rep.waitAt {w : World} {A : Option Addr} {c : Nat} {sv : Value} {s : St} (h : Rep w sv (.slice A s.waits.length c) s) (j : Nat) (hj : j < s.waits.length) : ∃ g, A = some ⟨g, 0, none⟩ ∧ w.cell? ⟨g, j * 2, none⟩ = some (.int .i64 ((s.waits[j].1 : Nat) : Int)) ∧ w.cell? ⟨g, j * 2 + 1, none⟩ = some (.string (str s.waits[j].2)) := by
  obtain ⟨g, cap, e⟩ := Go.Joins.ownsRow_form h.waits (by omega)
  obtain ⟨rfl, -, rfl⟩ := (Value.slice.injEq ..).mp e
  refine ⟨g, rfl, ?_, ?_⟩
  · rw [h.waits.cellAt (j * 2) (by omega)]
    exact (wvs_get s.waits j hj).1
  · rw [h.waits.cellAt (j * 2 + 1) (by omega)]
    exact (wvs_get s.waits j hj).2
theorem Rep.nwaits {w : World} {sv wv : Value} {s : St} (h : Rep w sv wv s) : s.waits.length ≤ 9223372036854775807 := by
  rcases h.waits.2 with ⟨_, e⟩ | ⟨_, cap, _, _, _, _, h1, h2, _⟩
  · omega
  · simp only [maxLen] at h2
    omega
set_option maxRecDepth 100000 in
theorem refread_core {w : World} {A A2 : Option Addr} {c c2 : Nat} {s : St} {n : Nat} (H : Hid (Rep w (.slice A s.safe.length c) (.slice A2 s.waits.length c2) s)) (hn : n < s.safe.length) (z wr : Int) :
    Calls Try.prog 25 #[five (.slice A s.safe.length c) (.slice A2 s.waits.length c2) z false wr, .int .i64 (n : Int)] w fun e w' => e = .returned (.tuple #[.string (str (D.look s n)), .int .i64 0]) ∧ Below w.heap.size w w' := by
  obtain ⟨g, rfl, s0, _⟩ := H.out.safeAt n hn
  have hm := H.out.nwaits
  have s1 := alc s0 (.cells #[.slice (some ⟨g, 0, none⟩) s.safe.length c, .slice A2 s.waits.length c2, .int .i64 z, .bool false, .int .i64 wr] 31)
  have HW : Hid (∀ j (hj : j < s.waits.length), ∃ q, A2 = some ⟨q, 0, none⟩ ∧ (w.alloc (.cells #[.slice (some ⟨g, 0, none⟩) s.safe.length c, .slice A2 s.waits.length c2, .int .i64 z, .bool false, .int .i64 wr] 31)).cell? ⟨q, j * 2, none⟩ = some (.int .i64 ((s.waits[j].1 : Nat) : Int)) ∧ (w.alloc (.cells #[.slice (some ⟨g, 0, none⟩) s.safe.length c, .slice A2 s.waits.length c2, .int .i64 z, .bool false, .int .i64 wr] 31)).cell? ⟨q, j * 2 + 1, none⟩ = some (.string (str s.waits[j].2)) ∧
      D.lk n (s.safe.getD n []) (s.waits.take (j + 1)) = if s.waits[j].1 = n then s.waits[j].2 else D.lk n (s.safe.getD n []) (s.waits.take j)) := fun j hj => by
    obtain ⟨q, e, h1, h2⟩ := H.out.waitAt j hj
    exact ⟨q, e, alc h1 _, alc h2 _, D.lk_take n _ _ j hj⟩
  have HI : Hid (D.lk n (s.safe.getD n []) (s.waits.take s.waits.length) = D.look s n) := by rw [List.take_length]; rfl
  have e0 : s.safe[n] = s.safe.getD n [] := by simp [List.getD, hn]
  have HB := Lib.hid (alb (w := w) (.cells #[.slice (some ⟨g, 0, none⟩) s.safe.length c, .slice A2 s.waits.length c2, .int .i64 z, .bool false, .int .i64 wr] 31))
  have HX := Lib.hid (Box.made w (.slice (some ⟨g, 0, none⟩) s.safe.length c) (.slice A2 s.waits.length c2) z false wr 31 w.heap.size rfl)
  rw [e0] at s1
  clear e0 H s0
  have q1 : decide ((n : Int) < 0) = false := by simp
  have q2 : decide ((s.safe.length : Int) ≤ (n : Int)) = false := by simp; omega
  have hn' : ((n : Int) < (s.safe.length : Int)) := by omega
  unfold five
  generalize s.safe.getD n [] = b at *
  generalize D.look s n = L at *
  generalize hws : s.waits = ws at *
  generalize s.safe.length = K at *
  go_enter Try.func25, Try.ntmps25
  go_wp2
  go_loop [6, 7] (fun t i => ∃ k : Nat, k ≤ ws.length ∧ i = .int .i64 (k : Int) ∧ t = .string (str (D.lk n b (ws.take k)))) (fun _ i => (ws.length - intOf i).toNat)
  case atStart => exact ⟨0, Nat.zero_le _, rfl, rfl⟩
  case round =>
    obtain ⟨k, hk, rfl, rfl⟩ := hrel
    by_cases hkl : k < ws.length
    · obtain ⟨q, rfl, a1, a2, a3⟩ := HW.out k hkl
      have A3 := Lib.hid a3
      clear a3
      generalize ws[k].1 = x at *
      generalize ws[k].2 = y at *
      by_cases hx : x = n
      · have q3 : ((x : Int) == (n : Int)) = true := by simp [hx]
        have e : D.lk n b (ws.take (k + 1)) = y := by rw [A3.out, if_pos hx]
        clear hx
        go_wp2
        go_round
        case rel => exact ⟨k + 1, by omega, by go_num, by rw [e]⟩
        case measure => simp [intOf]; omega
      · have q3 : ((x : Int) == (n : Int)) = false := by simp; omega
        have e : D.lk n b (ws.take (k + 1)) = D.lk n b (ws.take k) := by rw [A3.out, if_neg hx]
        clear hx
        go_wp2
        go_round
        case rel => exact ⟨k + 1, by omega, by go_num, by rw [e]⟩
        case measure => simp [intOf]; omega
    · obtain rfl : k = ws.length := by omega
      rw [HI.out]
      go_wp2
      go_ret2
      exact ⟨rfl, HB.out⟩
theorem refread_down (A A2 : Option Addr) (m c m2 c2 : Nat) (z wr n : Int) (w : World) :
    Calls Try.prog 25 #[five (.slice A m c) (.slice A2 m2 c2) z true wr, .int .i64 n] w fun e w' => e = .returned (.tuple #[.string (str []), .int .i64 7]) ∧ Below w.heap.size w w' := by
  have HB := Lib.hid (alb (w := w) (.cells #[.slice A m c, .slice A2 m2 c2, .int .i64 z, .bool true, .int .i64 wr] 31))
  unfold five
  go_enter Try.func25, Try.ntmps25
  go_wp2
  go_ret2
  exact ⟨rfl, HB.out⟩
theorem refread_none (A A2 : Option Addr) (m c m2 c2 : Nat) (z wr n : Int) (w : World) (h : n < 0 ∨ (m : Int) ≤ n) :
    Calls Try.prog 25 #[five (.slice A m c) (.slice A2 m2 c2) z false wr, .int .i64 n] w fun e w' => e = .returned (.tuple #[.string (str []), .int .i64 4]) ∧ Below w.heap.size w w' := by
  have HB := Lib.hid (alb (w := w) (.cells #[.slice A m c, .slice A2 m2 c2, .int .i64 z, .bool false, .int .i64 wr] 31))
  have hq : (decide (n < 0) = true) ∨ (decide (n < 0) = false ∧ decide ((m : Int) ≤ n) = true) := by simp; omega
  clear h
  unfold five
  rcases hq with hq | ⟨hq, hq2⟩
  all_goals
    go_enter Try.func25, Try.ntmps25
    go_wp2
    go_ret2
    exact ⟨rfl, HB.out⟩
theorem refread_any {w : World} {sv wv : Value} {s : St} (h : Rep w sv wv s) (n : Int) :
    Calls Try.prog 25 #[rv sv wv s, .int .i64 n] w fun e w' => e = .returned (.tuple #[.string (str (readB s n)), .int .i64 (readE s n)]) ∧ Below w.heap.size w w' := by
  obtain ⟨A, c, rfl⟩ := row_form h.safe
  obtain ⟨A2, c2, rfl⟩ := row_form h.waits
  unfold rv readE readB
  cases hd : s.down with
  | true => exact refread_down A A2 _ c _ c2 s.fuse s.writes n w
  | false =>
    cases hq : hasB s n with
    | false =>
      refine refread_none A A2 _ c _ c2 s.fuse s.writes n w ?_
      simp only [hasB, Bool.and_eq_false_iff, decide_eq_false_iff_not] at hq
      omega
    | true =>
      simp only [hasB, Bool.and_eq_true, decide_eq_true_eq] at hq
      obtain ⟨m, rfl⟩ := Int.eq_ofNat_of_zero_le hq.1
      exact refread_core h (by omega) s.fuse s.writes
end Go.Proofs.Ytcbiagdpolhbfaa
