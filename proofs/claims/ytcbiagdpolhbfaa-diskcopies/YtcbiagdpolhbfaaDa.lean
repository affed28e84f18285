/- The disk's small calls: act, has, Down, Waits, Writes, Blocks, Fuse, within. -/
import Derived.Test.YtcbiagdpolhbfaaDk
namespace Go.Proofs.Ytcbiagdpolhbfaa
open Go.RowKit
open D (St)

theorem Try.cells65 : Try.prog.cellsOf 65 = 5 := by kernel_rfl
/-- Whether there is such a block. -/
def hasB (s : St) (n : Int) : Bool := decide (0 ≤ n) && decide (n < (s.safe.length : Int))

theorem act_any {w : World} {p g : Nat} {wv : Value} {s : St} (h : Dsk w p g wv s) :
    Calls Try.prog 30 #[.pointer (some ⟨p, 0, none⟩)] w fun e w' => e = .returned (.int .i64 (D.ans s)) ∧ Dsk w' p g wv (D.act s) ∧ Keep (fp p g wv) w w' := by
  have H := Lib.hid h
  obtain ⟨_, _, _, c2, c3, _, fz, _⟩ := h
  have f2 := fz 2
  have f3 := fz 3
  have lo := H.out.ok.fuse
  have hi := H.out.ok.fuse2
  have K : Hid (∀ o v, Keep (fp p g wv) w (w.setCell ⟨p, o, none⟩ v)) := fun o v => Keep.setCell (p := ⟨p, o, none⟩) (Keep.refl _ _) (.inl (.inl rfl)) _
  clear fz
  by_cases h0 : s.fuse = 0
  · have e1 : D.ans s = 7 := by simp [D.ans, h0]
    have e2 : D.act s = { s with down := true } := by simp [D.act, h0]
    rw [e1, e2]
    rw [h0] at c2
    clear e1 e2 lo hi
    go_enter Try.func30, Try.ntmps30
    go_wp2
    go_ret
    exact ⟨rfl, H.out.setc3 true, K.out _ _⟩
  · by_cases h1 : 0 < s.fuse
    · have e1 : D.ans s = 0 := by simp [D.ans, h0]
      have e2 : D.act s = { s with fuse := s.fuse - 1 } := by simp [D.act, h0, h1]
      have HN := Lib.hid (H.out.setc2 (s.fuse - 1) (by omega) (by omega))
      rw [e1, e2]
      clear e1 e2 H
      generalize s.fuse = z at *
      have q1 : ((z : Int) == 0) = false := by simpa using h0
      have q2 : IntKind.i64.wrap (z - 1) = z - 1 := by rw [IntKind.wrap_i64]; omega
      go_enter Try.func30, Try.ntmps30
      go_wp2
      go_ret
      exact ⟨rfl, HN.out, K.out _ _⟩
    · have e1 : D.ans s = 0 := by simp [D.ans, h0]
      have e2 : D.act s = s := by simp [D.act, h0, h1]
      rw [e1, e2]
      clear e1 e2
      have q1 : ((s.fuse : Int) == 0) = false := by simpa using h0
      have q2 : decide (0 < s.fuse) = false := by simpa using h1
      generalize s.fuse = z at *
      go_enter Try.func30, Try.ntmps30
      go_wp2
      go_ret
      exact ⟨rfl, H.out, Keep.refl _ _⟩

theorem has_any {w : World} {p g : Nat} {wv : Value} {s : St} (h : Dsk w p g wv s) (n : Int) :
    Calls Try.prog 29 #[.pointer (some ⟨p, 0, none⟩), .int .i64 n] w fun e w' => e = .returned (.bool (hasB s n)) ∧ w' = w := by
  obtain ⟨cc, c0⟩ := h.c0
  clear h
  unfold hasB
  generalize s.safe.length = k at *
  by_cases h0 : 0 ≤ n
  · have q1 : decide (0 ≤ n) = true := by simpa using h0
    generalize hq : decide (n < (k : Int)) = q
    have hq' : decide (n < (k : Int)) = q := hq
    rw [q1]
    go_enter Try.func29, Try.ntmps29
    go_wp2
    go_ret
    simp
  · have q1 : decide (0 ≤ n) = false := by simpa using h0
    rw [q1]
    go_enter Try.func29, Try.ntmps29
    go_wp2
    go_ret
    simp

theorem down_any {w : World} {p g : Nat} {wv : Value} {s : St} (h : Dsk w p g wv s) :
    Calls Try.prog 20 #[.pointer (some ⟨p, 0, none⟩)] w fun e w' => e = .returned (.bool s.down) ∧ w' = w := by
  obtain ⟨_, _, _, _, c3, _⟩ := h
  generalize s.down = d at *
  go_enter Try.func20, Try.ntmps20
  go_wp2
  go_ret
  exact ⟨rfl, rfl⟩
theorem wv_form {w : World} {p g : Nat} {wv : Value} {s : St} (h : Dsk w p g wv s) : ∃ A cap, wv = .slice A s.waits.length cap := by
  rcases h.waits.2 with ⟨rfl, e⟩ | ⟨k, cap, cur, rfl, _⟩
  · rw [e]
    exact ⟨_, _, rfl⟩
  · exact ⟨_, _, rfl⟩
theorem waits_any {w : World} {p g : Nat} {wv : Value} {s : St} (h : Dsk w p g wv s) :
    Calls Try.prog 16 #[.pointer (some ⟨p, 0, none⟩)] w fun e w' => e = .returned (.int .i64 (s.waits.length : Int)) ∧ w' = w := by
  obtain ⟨A, cap, rfl⟩ := wv_form h
  obtain ⟨_, _, c1, _⟩ := h
  generalize s.waits.length = n at *
  go_enter Try.func16, Try.ntmps16
  go_wp2
  go_ret
  exact ⟨rfl, rfl⟩
theorem writes_any {w : World} {p g : Nat} {wv : Value} {s : St} (h : Dsk w p g wv s) :
    Calls Try.prog 36 #[.pointer (some ⟨p, 0, none⟩)] w fun e w' => e = .returned (.int .i64 (s.writes : Int)) ∧ w' = w := by
  obtain ⟨_, _, _, _, _, c4, _⟩ := h
  generalize s.writes = n at *
  go_enter Try.func36, Try.ntmps36
  go_wp2
  go_ret
  exact ⟨rfl, rfl⟩
theorem blocks_any {w : World} {p g : Nat} {wv : Value} {s : St} (h : Dsk w p g wv s) :
    Calls Try.prog 37 #[.pointer (some ⟨p, 0, none⟩)] w fun e w' => e = .returned (.int .i64 (s.safe.length : Int)) ∧ w' = w := by
  obtain ⟨cc, c0⟩ := h.c0
  clear h
  generalize s.safe.length = n at *
  go_enter Try.func37, Try.ntmps37
  go_wp2
  go_ret
  exact ⟨rfl, rfl⟩
theorem within_any (n : Int) (w : World) :
    Calls Try.prog 33 #[.int .i64 n] w fun e w' => e = .returned (.int .i64 ((D.bnd n : Nat) : Int)) ∧ w' = w := by
  have hc : (n < 0 ∧ D.bnd n = 0) ∨ (512 < n ∧ D.bnd n = 512) ∨ (0 ≤ n ∧ n ≤ 512 ∧ ((D.bnd n : Nat) : Int) = n) := by
    unfold D.bnd
    split
    · left; omega
    · split
      · right; left; omega
      · right; right; omega
  rcases hc with ⟨h1, e⟩ | ⟨h1, e⟩ | ⟨h1, h2, e⟩
  all_goals
    rw [e]
    clear e
    go_enter Try.func33, Try.ntmps33
    go_wp2
    go_ret
    try simp
    try omega
theorem fuse_any {w : World} {p g : Nat} {wv : Value} {s : St} (h : Dsk w p g wv s) (n : Int) (hn : n ≤ 9223372036854775807) :
    Calls Try.prog 22 #[.pointer (some ⟨p, 0, none⟩), .int .i64 n] w fun e w' => e = .returned (.tuple #[]) ∧ Dsk w' p g wv (D.setFuse s n) ∧ Keep (fp p g wv) w w' := by
  have H := Lib.hid h
  have K : Hid (∀ o v, Keep (fp p g wv) w (w.setCell ⟨p, o, none⟩ v)) := fun o v => Keep.setCell (p := ⟨p, o, none⟩) (Keep.refl _ _) (.inl (.inl rfl)) _
  obtain ⟨_, _, _, c2, c3, _, fz, _⟩ := h
  have f2 := fz 2
  clear fz
  cases hd : s.down with
  | true =>
    have e : D.setFuse s n = s := by simp [D.setFuse, hd]
    rw [e]
    rw [hd] at c3
    clear e hd
    go_enter Try.func22, Try.ntmps22
    go_wp2
    go_end0
    exact ⟨rfl, H.out, Keep.refl _ _⟩
  | false =>
    have e : D.setFuse s n = { s with fuse := if n < 0 then -1 else n } := by simp [D.setFuse, hd]
    rw [e]
    rw [hd] at c3
    clear e hd
    by_cases h0 : n < 0
    · rw [if_pos h0]
      have HN := Lib.hid (H.out.setc2 (-1) (by omega) (by omega))
      have h3 : n < -1 ∨ n = -1 := by omega
      clear h0 hn
      rcases h3 with h3 | rfl
      all_goals
        go_enter Try.func22, Try.ntmps22
        go_wp2
        go_end0
        exact ⟨rfl, HN.out, K.out _ _⟩
    · rw [if_neg h0]
      have HN := Lib.hid (H.out.setc2 n (by omega) (by omega))
      go_enter Try.func22, Try.ntmps22
      go_wp2
      go_end0
      exact ⟨rfl, HN.out, K.out _ _⟩
end Go.Proofs.Ytcbiagdpolhbfaa
