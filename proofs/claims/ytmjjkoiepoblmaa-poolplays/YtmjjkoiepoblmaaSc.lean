/- The library's sort at uint32: the sort by insertion. -/
import Derived.Test.YtmjjkoiepoblmaaSa
namespace Go.Proofs.Ytmjjkoiepoblmaa
open Go.RowKit Go.Sort

theorem ins_go (l m : Nat) (d : Array Int) (hj : l < m) (hl : ltInt d[m]! d[m - 1]! = true) : insInner ltInt l m d = insInner ltInt l (m - 1) (swp d m (m - 1)) := by
  obtain ⟨k, rfl⟩ : ∃ k, m = k + 1 := ⟨m - 1, by omega⟩
  rw [insInner, if_pos]
  · rfl
  · simp only [Nat.add_sub_cancel] at hl
    simp [hl]
    omega
theorem ins_stop (l m : Nat) (d : Array Int) (h : m ≤ l ∨ ltInt d[m]! d[m - 1]! = false) : insInner ltInt l m d = d := by
  rcases m with _ | k
  · rfl
  · rw [insInner, if_neg]
    rcases h with h | h
    · simp; omega
    · simp only [Nat.add_sub_cancel] at h
      simp [h]

set_option maxHeartbeats 3200000 in
set_option maxRecDepth 1000000 in
theorem insert_any (b o cap : Nat) (d : Array Int) (l h : Nat) (w : World) (hH : Holds eU w b o d) (hab : l ≤ h) (hb : h ≤ d.size) (hsz : d.size < 4611686018427387904) :
    Calls Try.prog 29 #[.slice (some ⟨b, o, none⟩) d.size cap, .int .i64 l, .int .i64 h] w fun e w' => e = .returned (.tuple #[]) ∧ Rw w b o (insertionSort ltInt d l h) w' := by
  go_enter Try.func29, Try.ntmps29
  go_wp2
  go_loopg [6] (h - l) (fun k s6 wr => ∃ (i : Nat) (dk : Array Int), s6 = .int .i64 i ∧ l < i ∧ i ≤ h + 1 ∧ h - i ≤ k ∧ dk.size = d.size ∧ Rw w b o dk wr ∧ insOuter ltInt l h i dk = insOuter ltInt l h (l + 1) d)
  case atStart => exact ⟨l + 1, d, by simp, by omega, by omega, by omega, rfl, Rw.self hH, rfl⟩
  case round =>
    obtain ⟨i, dk, rfl, h1, h2, hk, hds, R, heq⟩ := hrel
    have HO := Lib.hid heq
    clear heq
    by_cases hlt : i < h
    · have hz : (i : Int) < (h : Int) := by omega
      go_wp2
      go_loopg [7] i (fun k s7 wq => ∃ (j : Nat) (dj : Array Int), s7 = .int .i64 j ∧ l ≤ j ∧ j ≤ i ∧ j ≤ k ∧ dj.size = d.size ∧ Rw w b o dj wq ∧ insInner ltInt l j dj = insInner ltInt l i dk)
      case atStart => exact ⟨i, dk, rfl, by omega, by omega, by omega, hds, R, rfl⟩
      case round =>
        obtain ⟨j, dj, rfl, j1, j2, jk, hdj, R2, heq2⟩ := hrel
        obtain ⟨G, HG, hcw, hfw⟩ := R2.fams hdj
        have A := Lib.hid R2
        have HI := Lib.hid heq2
        clear R2 R hH heq2
        by_cases hj : l < j
        · go_wp2_with fail
          go_quiet (first | (go_at_call 35; refine Calls.quiet_of_same (less_any _ _ _)))
          go_wp2
          · have hl : ltInt (G j) (G (j - 1)) = true := by assumption
            go_region
            all_goals go_wp2
            go_roundg (j - 1)
            case measure => omega
            case rel =>
              refine ⟨j - 1, swp dj j (j - 1), by congr 1; omega, by omega, by omega, by omega, by rw [size_swp]; exact hdj, (A.out.drewN nq).swap (by omega) (by omega) (by rw [HG.out]) (by rw [HG.out]), ?_⟩
              rw [← HI.out, ins_go l j dj hj (by rw [← HG.out, ← HG.out]; exact hl)]
          · have hl : ltInt (G j) (G (j - 1)) = false := by assumption
            go_roundg (h - (i + 1))
            case measure => omega
            case rel =>
              refine ⟨i + 1, dj, by simp, by omega, by omega, Nat.le_refl _, hdj, A.out.drewN nq, ?_⟩
              rw [← HO.out, insOuter.eq_def ltInt l h i dk, if_pos hlt, ← HI.out, ins_stop l j dj (.inr (by rw [← HG.out, ← HG.out]; exact hl))]
        · have jz : decide ((l : Int) < (j : Int)) = false := decide_eq_false (by omega)
          go_wp2_with fail
          go_quiet (first | (go_at_call 35; refine Calls.quiet_of_same (less_any _ _ _)))
          go_wp2
          go_roundg (h - (i + 1))
          case measure => omega
          case rel =>
            refine ⟨i + 1, dj, by simp, by omega, by omega, Nat.le_refl _, hdj, A.out.drewN nq, ?_⟩
            rw [← HO.out, insOuter.eq_def ltInt l h i dk, if_pos hlt, ← HI.out, ins_stop l j dj (.inl (by omega))]
    · have hz : ¬ (i : Int) < (h : Int) := by omega
      go_wp2
      go_end0
      refine ⟨rfl, ?_⟩
      rw [insertionSort, ← HO.out, insOuter.eq_def ltInt l h i dk, if_neg hlt]
      exact R
end Go.Proofs.Ytmjjkoiepoblmaa
