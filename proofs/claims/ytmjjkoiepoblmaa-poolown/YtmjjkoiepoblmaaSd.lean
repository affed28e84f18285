/- The library's sort at uint32: a number goes down to its place in a heap. -/
import Derived.Test.YtmjjkoiepoblmaaSa
namespace Go.Proofs.Ytmjjkoiepoblmaa
open Go.RowKit Go.Sort

set_option maxHeartbeats 3200000 in
set_option maxRecDepth 1000000 in
theorem sift_any (b o cap : Nat) (d : Array Int) (l h f : Nat) (w : World) (hH : Holds eU w b o d) (hlo : l ≤ h) (hb : f + h ≤ d.size) (hsz : d.size < 4611686018427387904) :
    Calls Try.prog 40 #[.slice (some ⟨b, o, none⟩) d.size cap, .int .i64 l, .int .i64 h, .int .i64 f] w fun e w' => e = .returned (.tuple #[]) ∧ Rw w b o (siftDown ltInt h f l d) w' := by
  go_enter Try.func40, Try.ntmps40
  go_wp2
  go_loopg [8] (h - l) (fun k s8 wr => ∃ (r : Nat) (dk : Array Int), s8 = .int .i64 r ∧ r ≤ h ∧ h - r ≤ k ∧ dk.size = d.size ∧ Rw w b o dk wr ∧ siftDown ltInt h f r dk = siftDown ltInt h f l d)
  case atStart => exact ⟨l, d, rfl, hlo, Nat.le_refl _, rfl, Rw.self hH, rfl⟩
  case round =>
    obtain ⟨r, dk, rfl, hr, hk, hds, R, heq⟩ := hrel
    obtain ⟨G, HG, hcw, hfw⟩ := R.fams hds
    have A := Lib.hid R
    have HO := Lib.hid heq
    clear R hH heq
    by_cases h0 : h ≤ 2 * r + 1
    · have h0z : (h : Int) ≤ 2 * (r : Int) + 1 := by omega
      go_wp2
      go_end0
      refine ⟨rfl, ?_⟩
      rw [← HO.out, sd_end ltInt dk h0]
      exact A.out
    · have h0z : ¬ ((h : Int) ≤ 2 * (r : Int) + 1) := by omega
      by_cases h1 : 2 * r + 2 < h
      · have h1z : 2 * (r : Int) + 1 + 1 < (h : Int) := by omega
        go_wp2_with fail
        go_big_quiet (first | (go_at_call 35; refine Calls.quiet_of_same (less_any _ _ _)))
        go_wp2_with fail
        · have hL : ltInt (G (f + 2 * r + 1)) (G (f + 2 * r + 2)) = true := by assumption
          revert nq; intro nq1
          have hcw2 : ∀ t, t < d.size → (wr.drewN nq1).cell? ⟨b, o + t, none⟩ = some (.int .u32 (G t)) := hcw
          have hfw2 : ∀ t, t < d.size → (wr.drewN nq1).frozen? ⟨b, o + t, none⟩ = false := hfw
          have A2 : Hid (Rw w b o dk (wr.drewN nq1)) := A.out.drewN nq1
          clear hcw hfw A
          generalize wr.drewN nq1 = wr2 at hcw2 hfw2 A2 ⊢
          go_big_quiet (first | (go_at_call 35; refine Calls.quiet_of_same (less_any _ _ _)))
          go_wp2_with fail
          · have hS : ltInt (G (f + r)) (G (f + 2 * r + 2)) = false := by
              have : (!ltInt (G (f + r)) (G (f + 2 * r + 2))) = true := by assumption
              simpa using this
            (try simp only [Exit.inBlock, Exit.then]); refine bodyPost_ret (results_none rfl _ _ _) rfl ?_
            refine ⟨rfl, ?_⟩
            rw [← HO.out, sd_right_stop ltInt dk h1 (by rw [← HG.out, ← HG.out]; exact hL) (by rw [← HG.out, ← HG.out]; exact hS)]
            exact A2.out.drewN nq
          · have hS : ltInt (G (f + r)) (G (f + 2 * r + 2)) = true := by
              have : (!ltInt (G (f + r)) (G (f + 2 * r + 2))) = false := by assumption
              simpa using this
            have hcw3 : ∀ t, t < d.size → (wr2.drewN nq).cell? ⟨b, o + t, none⟩ = some (.int .u32 (G t)) := hcw2
            have hfw3 : ∀ t, t < d.size → (wr2.drewN nq).frozen? ⟨b, o + t, none⟩ = false := hfw2
            have A3 : Hid (Rw w b o dk (wr2.drewN nq)) := A2.out.drewN nq
            clear hcw2 hfw2 A2
            generalize wr2.drewN nq = wr3 at hcw3 hfw3 A3 ⊢
            go_region
            go_wp2
            go_roundg (h - (2 * r + 2))
            case measure => omega
            case rel =>
              refine ⟨2 * r + 2, swp dk (f + r) (f + (2 * r + 2)), by simp <;> omega, by omega, Nat.le_refl _, by rw [size_swp]; exact hds, A3.out.swap (by omega) (by omega) (by rw [HG.out]; exact congrArg (fun z => Value.int .u32 dk[z]!) (by omega)) (by rw [HG.out]), ?_⟩
              rw [← HO.out, sd_right_go ltInt dk h1 (by rw [← HG.out, ← HG.out]; exact hL) (by rw [← HG.out, ← HG.out]; exact hS)]
        · have hL : ltInt (G (f + 2 * r + 1)) (G (f + 2 * r + 2)) = false := by assumption
          revert nq; intro nq1
          have hcw2 : ∀ t, t < d.size → (wr.drewN nq1).cell? ⟨b, o + t, none⟩ = some (.int .u32 (G t)) := hcw
          have hfw2 : ∀ t, t < d.size → (wr.drewN nq1).frozen? ⟨b, o + t, none⟩ = false := hfw
          have A2 : Hid (Rw w b o dk (wr.drewN nq1)) := A.out.drewN nq1
          clear hcw hfw A
          generalize wr.drewN nq1 = wr2 at hcw2 hfw2 A2 ⊢
          go_big_quiet (first | (go_at_call 35; refine Calls.quiet_of_same (less_any _ _ _)))
          go_wp2_with fail
          · have hS : ltInt (G (f + r)) (G (f + 2 * r + 1)) = false := by
              have : (!ltInt (G (f + r)) (G (f + 2 * r + 1))) = true := by assumption
              simpa using this
            (try simp only [Exit.inBlock, Exit.then]); refine bodyPost_ret (results_none rfl _ _ _) rfl ?_
            refine ⟨rfl, ?_⟩
            rw [← HO.out, sd_left_stop ltInt dk (by omega) (fun _ => by rw [← HG.out, ← HG.out]; exact hL) (by rw [← HG.out, ← HG.out]; exact hS)]
            exact A2.out.drewN nq
          · have hS : ltInt (G (f + r)) (G (f + 2 * r + 1)) = true := by
              have : (!ltInt (G (f + r)) (G (f + 2 * r + 1))) = false := by assumption
              simpa using this
            have hcw3 : ∀ t, t < d.size → (wr2.drewN nq).cell? ⟨b, o + t, none⟩ = some (.int .u32 (G t)) := hcw2
            have hfw3 : ∀ t, t < d.size → (wr2.drewN nq).frozen? ⟨b, o + t, none⟩ = false := hfw2
            have A3 : Hid (Rw w b o dk (wr2.drewN nq)) := A2.out.drewN nq
            clear hcw2 hfw2 A2
            generalize wr2.drewN nq = wr3 at hcw3 hfw3 A3 ⊢
            go_region
            go_wp2
            go_roundg (h - (2 * r + 1))
            case measure => omega
            case rel =>
              refine ⟨2 * r + 1, swp dk (f + r) (f + (2 * r + 1)), by simp <;> omega, by omega, Nat.le_refl _, by rw [size_swp]; exact hds, A3.out.swap (by omega) (by omega) (by rw [HG.out]; exact congrArg (fun z => Value.int .u32 dk[z]!) (by omega)) (by rw [HG.out]), ?_⟩
              rw [← HO.out, sd_left_go ltInt dk (by omega) (fun _ => by rw [← HG.out, ← HG.out]; exact hL) (by rw [← HG.out, ← HG.out]; exact hS)]
      · have h1z : decide (2 * (r : Int) + 1 + 1 < (h : Int)) = false := decide_eq_false (by omega)
        go_wp2_with fail
        go_big_quiet (first | (go_at_call 35; refine Calls.quiet_of_same (less_any _ _ _)))
        go_wp2_with fail
        · skip
          revert nq; intro nq1
          have hcw2 : ∀ t, t < d.size → (wr.drewN nq1).cell? ⟨b, o + t, none⟩ = some (.int .u32 (G t)) := hcw
          have hfw2 : ∀ t, t < d.size → (wr.drewN nq1).frozen? ⟨b, o + t, none⟩ = false := hfw
          have A2 : Hid (Rw w b o dk (wr.drewN nq1)) := A.out.drewN nq1
          clear hcw hfw A
          generalize wr.drewN nq1 = wr2 at hcw2 hfw2 A2 ⊢
          go_big_quiet (first | (go_at_call 35; refine Calls.quiet_of_same (less_any _ _ _)))
          go_wp2_with fail
          · have hS : ltInt (G (f + r)) (G (f + 2 * r + 1)) = false := by
              have : (!ltInt (G (f + r)) (G (f + 2 * r + 1))) = true := by assumption
              simpa using this
            (try simp only [Exit.inBlock, Exit.then]); refine bodyPost_ret (results_none rfl _ _ _) rfl ?_
            refine ⟨rfl, ?_⟩
            rw [← HO.out, sd_left_stop ltInt dk (by omega) (fun q => absurd q h1) (by rw [← HG.out, ← HG.out]; exact hS)]
            exact A2.out.drewN nq
          · have hS : ltInt (G (f + r)) (G (f + 2 * r + 1)) = true := by
              have : (!ltInt (G (f + r)) (G (f + 2 * r + 1))) = false := by assumption
              simpa using this
            have hcw3 : ∀ t, t < d.size → (wr2.drewN nq).cell? ⟨b, o + t, none⟩ = some (.int .u32 (G t)) := hcw2
            have hfw3 : ∀ t, t < d.size → (wr2.drewN nq).frozen? ⟨b, o + t, none⟩ = false := hfw2
            have A3 : Hid (Rw w b o dk (wr2.drewN nq)) := A2.out.drewN nq
            clear hcw2 hfw2 A2
            generalize wr2.drewN nq = wr3 at hcw3 hfw3 A3 ⊢
            go_region
            go_wp2
            go_roundg (h - (2 * r + 1))
            case measure => omega
            case rel =>
              refine ⟨2 * r + 1, swp dk (f + r) (f + (2 * r + 1)), by simp <;> omega, by omega, Nat.le_refl _, by rw [size_swp]; exact hds, A3.out.swap (by omega) (by omega) (by rw [HG.out]; exact congrArg (fun z => Value.int .u32 dk[z]!) (by omega)) (by rw [HG.out]), ?_⟩
              rw [← HO.out, sd_left_go ltInt dk (by omega) (fun q => absurd q h1) (by rw [← HG.out, ← HG.out]; exact hS)]
theorem sift_len (b o cap : Nat) (d : Array Int) (n : Nat) (hn : d.size = n) (l h f : Nat) (w : World) (hH : Holds eU w b o d) (hlo : l ≤ h) (hb : f + h ≤ n) (hsz : n < 4611686018427387904) :
    Calls Try.prog 40 #[.slice (some ⟨b, o, none⟩) n cap, .int .i64 l, .int .i64 h, .int .i64 f] w fun e w' => e = .returned (.tuple #[]) ∧ Rw w b o (siftDown ltInt h f l d) w' := by
  subst hn
  exact sift_any b o cap d l h f w hH hlo hb hsz
end Go.Proofs.Ytmjjkoiepoblmaa
