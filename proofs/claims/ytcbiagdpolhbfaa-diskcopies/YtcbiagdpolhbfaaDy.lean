/- disk.Write at every argument. -/
import Derived.Test.YtcbiagdpolhbfaaDx
namespace Go.Proofs.Ytcbiagdpolhbfaa
open Go.RowKit
open D (St)

theorem write_down {w : World} {p : Nat} {n : Int} {bv : Value} (c3 : w.cell? ⟨p, 3, none⟩ = some (.bool true)) :
    Calls Try.prog 13 #[.pointer (some ⟨p, 0, none⟩), .int .i64 n, bv] w fun e w' => e = .returned (.int .i64 7) ∧ w' = w := by
  go_enter Try.func13, Try.ntmps13
  go_wp2
  go_ret
  exact ⟨rfl, rfl⟩
theorem write_none {w : World} {p : Nat} {n : Int} {bv : Value} (c3 : w.cell? ⟨p, 3, none⟩ = some (.bool false))
    (HH : Hid (Calls Try.prog 29 #[.pointer (some ⟨p, 0, none⟩), .int .i64 n] w fun e w' => e = .returned (.bool false) ∧ w' = w)) :
    Calls Try.prog 13 #[.pointer (some ⟨p, 0, none⟩), .int .i64 n, bv] w fun e w' => e = .returned (.int .i64 4) ∧ w' = w := by
  go_enter Try.func13, Try.ntmps13
  go_wp2_with fail
  refine HH.out.mono ?_
  rintro e w1 ⟨rfl, rfl⟩
  go_wp2
  go_ret
  exact ⟨rfl, rfl⟩
theorem write_long {w : World} {p : Nat} {n : Int} {A : Option Addr} {k c : Nat} (c3 : w.cell? ⟨p, 3, none⟩ = some (.bool false)) (hk : ((k : Int) == 512) = false)
    (HH : Hid (Calls Try.prog 29 #[.pointer (some ⟨p, 0, none⟩), .int .i64 n] w fun e w' => e = .returned (.bool true) ∧ w' = w)) :
    Calls Try.prog 13 #[.pointer (some ⟨p, 0, none⟩), .int .i64 n, .slice A k c] w fun e w' => e = .returned (.int .i64 1) ∧ w' = w := by
  go_enter Try.func13, Try.ntmps13
  go_wp2_with fail
  refine HH.out.mono ?_
  rintro e w1 ⟨rfl, rfl⟩
  go_wp2
  go_ret
  exact ⟨rfl, rfl⟩
/-- What a call on a disk leaves: the disk is at s, of the rest nothing has turned; the row of writes lies where it lay, or in a new block. -/
def Turned (w w' : World) (p g : Nat) (wv : Value) (s : St) : Prop := ∃ wv', Dsk w' p g wv' s ∧ Keep (fp p g wv) w w' ∧ (∀ b, wv'.ownBlock = some b → wv.ownBlock = some b ∨ w.heap.size ≤ b)
theorem write_any {w : World} {p g : Nat} {wv : Value} {s : St} (h : Dsk w p g wv s) (n : Int) (bv : Value) (y : List UInt8) (hv : Byts w bv y) (h1 : s.waits.length ≤ 1000000) (h2 : s.writes ≤ 1000000) :
    Calls Try.prog 13 #[.pointer (some ⟨p, 0, none⟩), .int .i64 n, bv] w fun e w' => e = .returned (.int .i64 (D.writeE s n y)) ∧ Turned w w' p g wv (D.write s n y) := by
  have c3 := h.c3
  have HH := has_any h n
  have hself : ∀ k, D.bad s n y.length = k → k ≠ 0 → D.writeE s n y = k ∧ D.write s n y = s := fun k hk h0 => by
    unfold D.writeE D.write
    rw [hk, if_neg h0, if_neg h0]
    exact ⟨rfl, rfl⟩
  have stay : ∀ {e : Ending} {w' : World} {k : Int}, D.bad s n y.length = k → k ≠ 0 → e = .returned (.int .i64 k) ∧ w' = w → e = .returned (.int .i64 (D.writeE s n y)) ∧ Turned w w' p g wv (D.write s n y) := by
    rintro e w' k hk h0 ⟨rfl, rfl⟩
    obtain ⟨e1, e2⟩ := hself k hk h0
    rw [e1, e2]
    exact ⟨rfl, wv, h, Keep.refl _ _, fun b hb => .inl hb⟩
  cases hd : s.down with
  | true =>
    rw [hd] at c3
    exact (write_down c3).mono fun e w' q => stay (by simp [D.bad, hd]) (by decide) q
  | false =>
    rw [hd] at c3
    cases hq : hasB s n with
    | false =>
      rw [hq] at HH
      have hr : n < 0 ∨ (s.safe.length : Int) ≤ n := by
        simp only [hasB, Bool.and_eq_false_iff, decide_eq_false_iff_not] at hq
        omega
      exact (write_none c3 HH).mono fun e w' q => stay (by simp [D.bad, hd, hr]) (by decide) q
    | true =>
      rw [hq] at HH
      simp only [hasB, Bool.and_eq_true, decide_eq_true_eq] at hq
      have hr : ¬ (n < 0 ∨ (s.safe.length : Int) ≤ n) := by omega
      by_cases hy : y.length = 512
      · obtain ⟨m, rfl⟩ := Int.eq_ofNat_of_zero_le hq.1
        have hb : D.bad s (m : Int) y.length = 0 := by unfold D.bad; rw [hd, if_neg (by simp), if_neg hr, if_neg (by omega)]
        refine (write_core (n := m) h c3 hy hv (by omega) h1 h2 HH).mono ?_
        rintro e w' ⟨wv', rfl, hd', hk, hbk⟩
        refine ⟨by unfold D.writeE; rw [if_pos hb], wv', ?_, hk, hbk⟩
        unfold D.write
        rw [if_pos hb, Int.toNat_natCast]
        exact hd'
      · obtain ⟨A, c, rfl, _⟩ := hv
        exact (write_long c3 (by simpa using (by omega : ¬ (y.length : Int) = 512)) HH).mono fun e w' q => stay (k := 1) (by unfold D.bad; rw [hd, if_neg (by simp), if_neg hr, if_pos hy]) (by decide) q
end Go.Proofs.Ytcbiagdpolhbfaa
