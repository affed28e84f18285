/- The library's sort at uint32: a part turned about; the sort by insertion. -/
import Derived.Test.YtmjjkoiepoblmaaSa
namespace Go.Proofs.Ytmjjkoiepoblmaa
open Go.RowKit Go.Sort

set_option maxHeartbeats 1600000 in
set_option maxRecDepth 1000000 in
theorem reverse_any (b o cap : Nat) (d : Array Int) (l h : Nat) (w : World) (hH : Holds eU w b o d) (hab : l < h) (hb : h ≤ d.size) (hsz : d.size < 4611686018427387904) :
    Calls Try.prog 33 #[.slice (some ⟨b, o, none⟩) d.size cap, .int .i64 l, .int .i64 h] w fun e w' => e = .returned (.tuple #[]) ∧ Rw w b o (reverseRange d l h) w' := by
  go_enter Try.func33, Try.ntmps33
  go_wp2
  go_loopg [6, 7] (h - l) (fun k s6 s7 wr => ∃ (i j : Nat) (dk : Array Int), s6 = .int .i64 i ∧ s7 = .int .i64 j ∧ j < h ∧ i ≤ h ∧ j - i ≤ k ∧ dk.size = d.size ∧ Rw w b o dk wr ∧ reverseLoop i j dk = reverseLoop l (h - 1) d)
  case atStart => exact ⟨l, h - 1, d, rfl, by congr 1; omega, by omega, by omega, by omega, rfl, Rw.self hH, rfl⟩
  case round =>
    obtain ⟨i, j, dk, rfl, rfl, h1, h2, hk, hds, R, heq⟩ := hrel
    have hcw := R.cells hds
    have hfw := R.froz hds
    have A := Lib.hid R
    clear R hH
    by_cases hlt : i < j
    · have hz : (i : Int) < (j : Int) := by omega
      go_wp2_with fail
      go_region
      go_wp2
      go_roundg (j - 1 - (i + 1))
      case measure => omega
      case rel =>
        rw [reverseLoop, if_pos hlt] at heq
        exact ⟨i + 1, j - 1, swp dk i j, by simp, by congr 1; omega, by omega, by omega, Nat.le_refl _, by rw [size_swp]; exact hds, A.out.swap (by omega) (by omega) rfl rfl, heq⟩
    · have hz : ¬ (i : Int) < (j : Int) := by omega
      go_wp2
      go_end0
      refine ⟨rfl, ?_⟩
      rw [reverseLoop, if_neg hlt] at heq
      rw [reverseRange, ← heq]
      exact A.out
end Go.Proofs.Ytmjjkoiepoblmaa
