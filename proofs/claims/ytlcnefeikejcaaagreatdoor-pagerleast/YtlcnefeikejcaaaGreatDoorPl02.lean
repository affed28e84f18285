/- Contracts that the claim reaches (Sb Sc Sd Se Si Sj Sf Sg Sh Sk Sl Sm). -/
import Derived.Test.YtlcnefeikejcaaaGreatDoorPl01
import Derived.Laws.Bits64b
import Derived.Laws.MathBits
import Derived.Lib.BitFns
import Derived.Lib.Walk
import Derived.Lib.Small
namespace Go.Proofs.YtlcnefeikejcaaaGreatDoor
open Go.RowKit Go.Sort
set_option maxHeartbeats 1600000 in
set_option maxRecDepth 1000000 in
theorem reverse_any (b o cap : Nat) (d : Array Int) (l h : Nat) (w : World) (hH : Holds eU w b o d) (hab : l < h) (hb : h ≤ d.size) (hsz : d.size < 4611686018427387904) :
    Calls Tryz.prog 140 #[.slice (some ⟨b, o, none⟩) d.size cap, .int .i64 l, .int .i64 h] w fun e w' => e = .returned (.tuple #[]) ∧ Rw w b o (reverseRange d l h) w' := by
  go_enter Tryz.func140, Tryz.ntmps140
  go_wp2
  go_loopg [6, 7] (h - l) (fun k s6 s7 wr => ∃ (i j : Nat) (dk : Array Int), s6 = .int .i64 i ∧ s7 = .int .i64 j ∧ j < h ∧ i ≤ h ∧ j - i ≤ k ∧ dk.size = d.size ∧ Rw w b o dk wr ∧ reverseLoop i j dk = reverseLoop l (h - 1) d)
  case atStart => exact ⟨l, h - 1, d, rfl, by congr 1; omega, by omega, by omega, by omega, rfl, Rw.self hH, rfl⟩
  case round =>
    obtain ⟨i, j, dk, rfl, rfl, h1, h2, hk, hds, R, heq⟩ := hrel
    have hcw := R.cells hds
    have hfw := R.froz hds
    have A := Lib.hid R
    clear R hH
    by_cases hlt : i < j
    · have hz : (i : Int) < (j : Int) := by omega
      go_wp2_with fail
      go_region
      go_wp2
      go_roundg (j - 1 - (i + 1))
      case measure => omega
      case rel =>
        rw [reverseLoop, if_pos hlt] at heq
        exact ⟨i + 1, j - 1, swp dk i j, by simp, by congr 1; omega, by omega, by omega, Nat.le_refl _, by rw [size_swp]; exact hds, A.out.swap (by omega) (by omega) rfl rfl, heq⟩
    · have hz : ¬ (i : Int) < (j : Int) := by omega
      go_wp2
      go_end0
      refine ⟨rfl, ?_⟩
      rw [reverseLoop, if_neg hlt] at heq
      rw [reverseRange, ← heq]
      exact A.out
end Go.Proofs.YtlcnefeikejcaaaGreatDoor
namespace Go.Proofs.YtlcnefeikejcaaaGreatDoor
open Go.RowKit Go.Sort
theorem ins_go (l m : Nat) (d : Array Int) (hj : l < m) (hl : ltInt d[m]! d[m - 1]! = true) : insInner ltInt l m d = insInner ltInt l (m - 1) (swp d m (m - 1)) := by
  obtain ⟨k, rfl⟩ : ∃ k, m = k + 1 := ⟨m - 1, by omega⟩
  rw [insInner, if_pos]
  · rfl
  · simp only [Nat.add_sub_cancel] at hl
    simp [hl]
    omega
theorem ins_stop (l m : Nat) (d : Array Int) (h : m ≤ l ∨ ltInt d[m]! d[m - 1]! = false) : insInner ltInt l m d = d := by
  rcases m with _ | k
  · rfl
  · rw [insInner, if_neg]
    rcases h with h | h
    · simp; omega
    · simp only [Nat.add_sub_cancel] at h
      simp [h]
set_option maxHeartbeats 3200000 in
set_option maxRecDepth 1000000 in
theorem insert_any (b o cap : Nat) (d : Array Int) (l h : Nat) (w : World) (hH : Holds eU w b o d) (hab : l ≤ h) (hb : h ≤ d.size) (hsz : d.size < 4611686018427387904) :
    Calls Tryz.prog 136 #[.slice (some ⟨b, o, none⟩) d.size cap, .int .i64 l, .int .i64 h] w fun e w' => e = .returned (.tuple #[]) ∧ Rw w b o (insertionSort ltInt d l h) w' := by
  go_enter Tryz.func136, Tryz.ntmps136
  go_wp2
  go_loopg [6] (h - l) (fun k s6 wr => ∃ (i : Nat) (dk : Array Int), s6 = .int .i64 i ∧ l < i ∧ i ≤ h + 1 ∧ h - i ≤ k ∧ dk.size = d.size ∧ Rw w b o dk wr ∧ insOuter ltInt l h i dk = insOuter ltInt l h (l + 1) d)
  case atStart => exact ⟨l + 1, d, by simp, by omega, by omega, by omega, rfl, Rw.self hH, rfl⟩
  case round =>
    obtain ⟨i, dk, rfl, h1, h2, hk, hds, R, heq⟩ := hrel
    have HO := Lib.hid heq
    clear heq
    by_cases hlt : i < h
    · have hz : (i : Int) < (h : Int) := by omega
      go_wp2
      go_loopg [7] i (fun k s7 wq => ∃ (j : Nat) (dj : Array Int), s7 = .int .i64 j ∧ l ≤ j ∧ j ≤ i ∧ j ≤ k ∧ dj.size = d.size ∧ Rw w b o dj wq ∧ insInner ltInt l j dj = insInner ltInt l i dk)
      case atStart => exact ⟨i, dk, rfl, by omega, by omega, by omega, hds, R, rfl⟩
      case round =>
        obtain ⟨j, dj, rfl, j1, j2, jk, hdj, R2, heq2⟩ := hrel
        obtain ⟨G, HG, hcw, hfw⟩ := R2.fams hdj
        have A := Lib.hid R2
        have HI := Lib.hid heq2
        clear R2 R hH heq2
        by_cases hj : l < j
        · go_wp2_with fail
          go_quiet (first | (go_at_call 142; refine Calls.quiet_of_same (less_any _ _ _)))
          go_wp2
          · have hl : ltInt (G j) (G (j - 1)) = true := by assumption
            go_region
            all_goals go_wp2
            go_roundg (j - 1)
            case measure => omega
            case rel =>
              refine ⟨j - 1, swp dj j (j - 1), by congr 1; omega, by omega, by omega, by omega, by rw [size_swp]; exact hdj, (A.out.drewN nq).swap (by omega) (by omega) (by rw [HG.out]) (by rw [HG.out]), ?_⟩
              rw [← HI.out, ins_go l j dj hj (by rw [← HG.out, ← HG.out]; exact hl)]
          · have hl : ltInt (G j) (G (j - 1)) = false := by assumption
            go_roundg (h - (i + 1))
            case measure => omega
            case rel =>
              refine ⟨i + 1, dj, by simp, by omega, by omega, Nat.le_refl _, hdj, A.out.drewN nq, ?_⟩
              rw [← HO.out, insOuter.eq_def ltInt l h i dk, if_pos hlt, ← HI.out, ins_stop l j dj (.inr (by rw [← HG.out, ← HG.out]; exact hl))]
        · have jz : decide ((l : Int) < (j : Int)) = false := decide_eq_false (by omega)
          go_wp2_with fail
          go_quiet (first | (go_at_call 142; refine Calls.quiet_of_same (less_any _ _ _)))
          go_wp2
          go_roundg (h - (i + 1))
          case measure => omega
          case rel =>
            refine ⟨i + 1, dj, by simp, by omega, by omega, Nat.le_refl _, hdj, A.out.drewN nq, ?_⟩
            rw [← HO.out, insOuter.eq_def ltInt l h i dk, if_pos hlt, ← HI.out, ins_stop l j dj (.inl (by omega))]
    · have hz : ¬ (i : Int) < (h : Int) := by omega
      go_wp2
      go_end0
      refine ⟨rfl, ?_⟩
      rw [insertionSort, ← HO.out, insOuter.eq_def ltInt l h i dk, if_neg hlt]
      exact R
end Go.Proofs.YtlcnefeikejcaaaGreatDoor
namespace Go.Proofs.YtlcnefeikejcaaaGreatDoor
open Go.RowKit Go.Sort
set_option maxHeartbeats 3200000 in
set_option maxRecDepth 1000000 in
theorem sift_any (b o cap : Nat) (d : Array Int) (l h f : Nat) (w : World) (hH : Holds eU w b o d) (hlo : l ≤ h) (hb : f + h ≤ d.size) (hsz : d.size < 4611686018427387904) :
    Calls Tryz.prog 161 #[.slice (some ⟨b, o, none⟩) d.size cap, .int .i64 l, .int .i64 h, .int .i64 f] w fun e w' => e = .returned (.tuple #[]) ∧ Rw w b o (siftDown ltInt h f l d) w' := by
  go_enter Tryz.func161, Tryz.ntmps161
  go_wp2
  go_loopg [8] (h - l) (fun k s8 wr => ∃ (r : Nat) (dk : Array Int), s8 = .int .i64 r ∧ r ≤ h ∧ h - r ≤ k ∧ dk.size = d.size ∧ Rw w b o dk wr ∧ siftDown ltInt h f r dk = siftDown ltInt h f l d)
  case atStart => exact ⟨l, d, rfl, hlo, Nat.le_refl _, rfl, Rw.self hH, rfl⟩
  case round =>
    obtain ⟨r, dk, rfl, hr, hk, hds, R, heq⟩ := hrel
    obtain ⟨G, HG, hcw, hfw⟩ := R.fams hds
    have A := Lib.hid R
    have HO := Lib.hid heq
    clear R hH heq
    by_cases h0 : h ≤ 2 * r + 1
    · have h0z : (h : Int) ≤ 2 * (r : Int) + 1 := by omega
      go_wp2
      go_end0
      refine ⟨rfl, ?_⟩
      rw [← HO.out, sd_end ltInt dk h0]
      exact A.out
    · have h0z : ¬ ((h : Int) ≤ 2 * (r : Int) + 1) := by omega
      by_cases h1 : 2 * r + 2 < h
      · have h1z : 2 * (r : Int) + 1 + 1 < (h : Int) := by omega
        go_wp2_with fail
        go_big_quiet (first | (go_at_call 142; refine Calls.quiet_of_same (less_any _ _ _)))
        go_wp2_with fail
        · have hL : ltInt (G (f + 2 * r + 1)) (G (f + 2 * r + 2)) = true := by assumption
          revert nq; intro nq1
          have hcw2 : ∀ t, t < d.size → (wr.drewN nq1).cell? ⟨b, o + t, none⟩ = some (.int .u32 (G t)) := hcw
          have hfw2 : ∀ t, t < d.size → (wr.drewN nq1).frozen? ⟨b, o + t, none⟩ = false := hfw
          have A2 : Hid (Rw w b o dk (wr.drewN nq1)) := A.out.drewN nq1
          clear hcw hfw A
          generalize wr.drewN nq1 = wr2 at hcw2 hfw2 A2 ⊢
          go_big_quiet (first | (go_at_call 142; refine Calls.quiet_of_same (less_any _ _ _)))
          go_wp2_with fail
          · have hS : ltInt (G (f + r)) (G (f + 2 * r + 2)) = false := by
              have : (!ltInt (G (f + r)) (G (f + 2 * r + 2))) = true := by assumption
              simpa using this
            (try simp only [Exit.inBlock, Exit.then]); refine bodyPost_ret (results_none rfl _ _ _) rfl ?_
            refine ⟨rfl, ?_⟩
            rw [← HO.out, sd_right_stop ltInt dk h1 (by rw [← HG.out, ← HG.out]; exact hL) (by rw [← HG.out, ← HG.out]; exact hS)]
            exact A2.out.drewN nq
          · have hS : ltInt (G (f + r)) (G (f + 2 * r + 2)) = true := by
              have : (!ltInt (G (f + r)) (G (f + 2 * r + 2))) = false := by assumption
              simpa using this
            have hcw3 : ∀ t, t < d.size → (wr2.drewN nq).cell? ⟨b, o + t, none⟩ = some (.int .u32 (G t)) := hcw2
            have hfw3 : ∀ t, t < d.size → (wr2.drewN nq).frozen? ⟨b, o + t, none⟩ = false := hfw2
            have A3 : Hid (Rw w b o dk (wr2.drewN nq)) := A2.out.drewN nq
            clear hcw2 hfw2 A2
            generalize wr2.drewN nq = wr3 at hcw3 hfw3 A3 ⊢
            go_region
            go_wp2
            go_roundg (h - (2 * r + 2))
            case measure => omega
            case rel =>
              refine ⟨2 * r + 2, swp dk (f + r) (f + (2 * r + 2)), by simp <;> omega, by omega, Nat.le_refl _, by rw [size_swp]; exact hds, A3.out.swap (by omega) (by omega) (by rw [HG.out]; exact congrArg (fun z => Value.int .u32 dk[z]!) (by omega)) (by rw [HG.out]), ?_⟩
              rw [← HO.out, sd_right_go ltInt dk h1 (by rw [← HG.out, ← HG.out]; exact hL) (by rw [← HG.out, ← HG.out]; exact hS)]
        · have hL : ltInt (G (f + 2 * r + 1)) (G (f + 2 * r + 2)) = false := by assumption
          revert nq; intro nq1
          have hcw2 : ∀ t, t < d.size → (wr.drewN nq1).cell? ⟨b, o + t, none⟩ = some (.int .u32 (G t)) := hcw
          have hfw2 : ∀ t, t < d.size → (wr.drewN nq1).frozen? ⟨b, o + t, none⟩ = false := hfw
          have A2 : Hid (Rw w b o dk (wr.drewN nq1)) := A.out.drewN nq1
          clear hcw hfw A
          generalize wr.drewN nq1 = wr2 at hcw2 hfw2 A2 ⊢
          go_big_quiet (first | (go_at_call 142; refine Calls.quiet_of_same (less_any _ _ _)))
          go_wp2_with fail
          · have hS : ltInt (G (f + r)) (G (f + 2 * r + 1)) = false := by
              have : (!ltInt (G (f + r)) (G (f + 2 * r + 1))) = true := by assumption
              simpa using this
            (try simp only [Exit.inBlock, Exit.then]); refine bodyPost_ret (results_none rfl _ _ _) rfl ?_
            refine ⟨rfl, ?_⟩
            rw [← HO.out, sd_left_stop ltInt dk (by omega) (fun _ => by rw [← HG.out, ← HG.out]; exact hL) (by rw [← HG.out, ← HG.out]; exact hS)]
            exact A2.out.drewN nq
          · have hS : ltInt (G (f + r)) (G (f + 2 * r + 1)) = true := by
              have : (!ltInt (G (f + r)) (G (f + 2 * r + 1))) = false := by assumption
              simpa using this
            have hcw3 : ∀ t, t < d.size → (wr2.drewN nq).cell? ⟨b, o + t, none⟩ = some (.int .u32 (G t)) := hcw2
            have hfw3 : ∀ t, t < d.size → (wr2.drewN nq).frozen? ⟨b, o + t, none⟩ = false := hfw2
            have A3 : Hid (Rw w b o dk (wr2.drewN nq)) := A2.out.drewN nq
            clear hcw2 hfw2 A2
            generalize wr2.drewN nq = wr3 at hcw3 hfw3 A3 ⊢
            go_region
            go_wp2
            go_roundg (h - (2 * r + 1))
            case measure => omega
            case rel =>
              refine ⟨2 * r + 1, swp dk (f + r) (f + (2 * r + 1)), by simp <;> omega, by omega, Nat.le_refl _, by rw [size_swp]; exact hds, A3.out.swap (by omega) (by omega) (by rw [HG.out]; exact congrArg (fun z => Value.int .u32 dk[z]!) (by omega)) (by rw [HG.out]), ?_⟩
              rw [← HO.out, sd_left_go ltInt dk (by omega) (fun _ => by rw [← HG.out, ← HG.out]; exact hL) (by rw [← HG.out, ← HG.out]; exact hS)]
      · have h1z : decide (2 * (r : Int) + 1 + 1 < (h : Int)) = false := decide_eq_false (by omega)
        go_wp2_with fail
        go_big_quiet (first | (go_at_call 142; refine Calls.quiet_of_same (less_any _ _ _)))
        go_wp2_with fail
        · skip
          revert nq; intro nq1
          have hcw2 : ∀ t, t < d.size → (wr.drewN nq1).cell? ⟨b, o + t, none⟩ = some (.int .u32 (G t)) := hcw
          have hfw2 : ∀ t, t < d.size → (wr.drewN nq1).frozen? ⟨b, o + t, none⟩ = false := hfw
          have A2 : Hid (Rw w b o dk (wr.drewN nq1)) := A.out.drewN nq1
          clear hcw hfw A
          generalize wr.drewN nq1 = wr2 at hcw2 hfw2 A2 ⊢
          go_big_quiet (first | (go_at_call 142; refine Calls.quiet_of_same (less_any _ _ _)))
          go_wp2_with fail
          · have hS : ltInt (G (f + r)) (G (f + 2 * r + 1)) = false := by
              have : (!ltInt (G (f + r)) (G (f + 2 * r + 1))) = true := by assumption
              simpa using this
            (try simp only [Exit.inBlock, Exit.then]); refine bodyPost_ret (results_none rfl _ _ _) rfl ?_
            refine ⟨rfl, ?_⟩
            rw [← HO.out, sd_left_stop ltInt dk (by omega) (fun q => absurd q h1) (by rw [← HG.out, ← HG.out]; exact hS)]
            exact A2.out.drewN nq
          · have hS : ltInt (G (f + r)) (G (f + 2 * r + 1)) = true := by
              have : (!ltInt (G (f + r)) (G (f + 2 * r + 1))) = false := by assumption
              simpa using this
            have hcw3 : ∀ t, t < d.size → (wr2.drewN nq).cell? ⟨b, o + t, none⟩ = some (.int .u32 (G t)) := hcw2
            have hfw3 : ∀ t, t < d.size → (wr2.drewN nq).frozen? ⟨b, o + t, none⟩ = false := hfw2
            have A3 : Hid (Rw w b o dk (wr2.drewN nq)) := A2.out.drewN nq
            clear hcw2 hfw2 A2
            generalize wr2.drewN nq = wr3 at hcw3 hfw3 A3 ⊢
            go_region
            go_wp2
            go_roundg (h - (2 * r + 1))
            case measure => omega
            case rel =>
              refine ⟨2 * r + 1, swp dk (f + r) (f + (2 * r + 1)), by simp <;> omega, by omega, Nat.le_refl _, by rw [size_swp]; exact hds, A3.out.swap (by omega) (by omega) (by rw [HG.out]; exact congrArg (fun z => Value.int .u32 dk[z]!) (by omega)) (by rw [HG.out]), ?_⟩
              rw [← HO.out, sd_left_go ltInt dk (by omega) (fun q => absurd q h1) (by rw [← HG.out, ← HG.out]; exact hS)]
theorem sift_len (b o cap : Nat) (d : Array Int) (n : Nat) (hn : d.size = n) (l h f : Nat) (w : World) (hH : Holds eU w b o d) (hlo : l ≤ h) (hb : f + h ≤ n) (hsz : n < 4611686018427387904) :
    Calls Tryz.prog 161 #[.slice (some ⟨b, o, none⟩) n cap, .int .i64 l, .int .i64 h, .int .i64 f] w fun e w' => e = .returned (.tuple #[]) ∧ Rw w b o (siftDown ltInt h f l d) w' := by
  subst hn
  exact sift_any b o cap d l h f w hH hlo hb hsz
end Go.Proofs.YtlcnefeikejcaaaGreatDoor
namespace Go.Proofs.YtlcnefeikejcaaaGreatDoor
open Go.RowKit Go.Sort
theorem size_sift (h f : Nat) : ∀ (n r : Nat) (d : Array Int), h - r ≤ n → (siftDown ltInt h f r d).size = d.size := by
  intro n
  induction n with
  | zero => intro r d hr; rw [sd_end ltInt d (by omega)]
  | succ n ih =>
    intro r d hr
    rw [siftDown]
    split
    · rfl
    · split
      · split
        · rfl
        · split
          · rw [ih _ _ (by omega), size_swp]
          · rfl
      · split
        · rfl
        · rw [ih _ _ (by omega), size_swp]
theorem heap_end (l n : Nat) (d dk dj : Array Int) (h1 : heapBuild ltInt n l 0 dk = heapBuild ltInt n l ((n - 1) / 2 + 1) d) (h2 : heapPop ltInt l 0 dj = heapPop ltInt l n dk) : heapSort ltInt d l (l + n) = dj := by
  have e2 : heapBuild ltInt n l 0 dk = dk := rfl
  have e3 : heapPop ltInt l 0 dj = dj := rfl
  unfold heapSort
  rw [show l + n - l = n by omega, ← h1, e2, ← h2, e3]
theorem build_go (n l m : Nat) (d : Array Int) : heapBuild ltInt n l (m + 1) d = heapBuild ltInt n l m (siftDown ltInt n l m d) := by rw [heapBuild]
theorem pop_go (l m : Nat) (d : Array Int) : heapPop ltInt l (m + 1) d = heapPop ltInt l m (siftDown ltInt m l 0 (swp d l (l + m))) := by rw [heapPop]
set_option maxHeartbeats 3200000 in
set_option maxRecDepth 1000000 in
theorem heap_any (b o cap : Nat) (d : Array Int) (l h : Nat) (w : World) (hH : Holds eU w b o d) (hab : l < h) (hb : h ≤ d.size) (hsz : d.size < 4611686018427387904) :
    Calls Tryz.prog 137 #[.slice (some ⟨b, o, none⟩) d.size cap, .int .i64 l, .int .i64 h] w fun e w' => e = .returned (.tuple #[]) ∧ Rw w b o (heapSort ltInt d l h) w' := by
  obtain ⟨n, hnh⟩ : ∃ n, h = l + n := ⟨h - l, by omega⟩
  have hn : 0 < n := by omega
  have e0 : (h : Int) - (l : Int) = (n : Int) := by omega
  rw [show heapSort ltInt d l h = heapSort ltInt d l (l + n) by rw [hnh]]
  have hb' : l + n ≤ d.size := by omega
  clear hab hnh hb
  have e1 : Int.tdiv ((n : Int) - 1) 2 = (((n - 1) / 2 : Nat) : Int) := by
    rw [show (n : Int) - 1 = ((n - 1 : Nat) : Int) by omega]
    rfl
  go_enter Tryz.func137, Tryz.ntmps137
  go_wp2
  go_loopg [9] ((n - 1) / 2 + 1) (fun k s9 wr => ∃ (z : Int) (dk : Array Int), s9 = .int .i64 z ∧ z = (k : Int) - 1 ∧ k ≤ n ∧ dk.size = d.size ∧ Rw w b o dk wr ∧ heapBuild ltInt n l k dk = heapBuild ltInt n l ((n - 1) / 2 + 1) d)
  case atStart => exact ⟨_, d, rfl, by omega, by omega, rfl, Rw.self hH, rfl⟩
  case round =>
    obtain ⟨z, dk, rfl, hz, hk, hds, R, heq⟩ := hrel
    have HO := Lib.hid heq
    have A := Lib.hid R
    clear heq R
    rcases gk with _ | m
    · have hz0 : ¬ (0 ≤ z) := by omega
      go_wp2
      go_loopg [10] n (fun k s10 wq => ∃ (y : Int) (dj : Array Int), s10 = .int .i64 y ∧ y = (k : Int) - 1 ∧ k ≤ n ∧ dj.size = d.size ∧ Rw w b o dj wq ∧ heapPop ltInt l k dj = heapPop ltInt l n dk)
      case atStart => exact ⟨_, dk, rfl, by omega, by omega, hds, A.out, rfl⟩
      case round =>
        obtain ⟨y, dj, rfl, hy, hk2, hdj, R2, heq2⟩ := hrel
        obtain ⟨G, HG, hcw, hfw⟩ := R2.fams hdj
        have HI := Lib.hid heq2
        have A2 := Lib.hid R2
        clear heq2 R2 hH
        rcases gk with _ | q
        · have hy0 : ¬ (0 ≤ y) := by omega
          go_wp2
          go_end0
          refine ⟨rfl, ?_⟩
          rw [heap_end l n d dk dj HO.out HI.out]
          exact A2.out
        · obtain rfl : y = (q : Int) := by omega
          clear hy
          rcases Nat.eq_zero_or_pos q with rfl | hq
          · go_wp2_with fail
            go_region
            have A3 := Lib.hid (A2.out.swap (i := l) (j := l + 0) (by omega) (by omega) (x := .int .u32 (G l)) (y := .int .u32 (G l)) (by rw [HG.out]; rfl) (by rw [HG.out]))
            simp only [Nat.add_zero] at A3
            clear A2 hcw hfw
            generalize ((wr.setCell _ _).setCell _ _).drew = wr3 at A3 ⊢
            have c := sift_len b o cap (swp dj l l) d.size ((size_swp dj l l).trans hdj) 0 0 l wr3 A3.out.there (by omega) (by omega) (by omega)
            have C := Lib.hid c
            clear c
            go_wp2_with (go_at_call 161; refine C.out.mono ?_; rintro e w1 ⟨rfl, R1⟩)
            go_roundg 0
            case measure => omega
            case rel =>
              refine ⟨_, siftDown ltInt 0 l 0 (swp dj l l), rfl, rfl, by omega, by rw [size_sift _ _ _ _ _ (Nat.le_refl _), size_swp]; exact hdj, A3.out.trans R1, ?_⟩
              exact (pop_go l 0 dj).symm.trans HI.out
          · go_wp2_with fail
            go_region
            have A3 := Lib.hid (A2.out.swap (i := l) (j := l + q) (by omega) (by omega) (x := .int .u32 (G (l + q))) (y := .int .u32 (G l)) (by rw [HG.out]) (by rw [HG.out]))
            clear A2 hcw hfw
            generalize ((wr.setCell _ _).setCell _ _).drew = wr3 at A3 ⊢
            have c := sift_len b o cap (swp dj l (l + q)) d.size ((size_swp dj l (l + q)).trans hdj) 0 q l wr3 A3.out.there (by omega) (by omega) (by omega)
            have C := Lib.hid c
            clear c
            go_wp2_with (go_at_call 161; refine C.out.mono ?_; rintro e w1 ⟨rfl, R1⟩)
            go_roundg q
            case measure => omega
            case rel =>
              refine ⟨_, siftDown ltInt q l 0 (swp dj l (l + q)), rfl, rfl, by omega, by rw [size_sift _ _ _ _ _ (Nat.le_refl _), size_swp]; exact hdj, A3.out.trans R1, ?_⟩
              exact (pop_go l q dj).symm.trans HI.out
    · obtain rfl : z = (m : Int) := by omega
      clear hz
      have c := sift_len b o cap dk d.size hds m n l wr A.out.there (by omega) (by omega) (by omega)
      have C := Lib.hid c
      clear c
      go_wp2_with (go_at_call 161; refine C.out.mono ?_; rintro e w1 ⟨rfl, R1⟩)
      go_roundg m
      case measure => omega
      case rel =>
        refine ⟨_, siftDown ltInt n l m dk, rfl, rfl, by omega, by rw [size_sift _ _ _ _ _ (Nat.le_refl _)]; exact hds, A.out.trans R1, ?_⟩
        exact (build_go n l m dk).symm.trans HO.out
end Go.Proofs.YtlcnefeikejcaaaGreatDoor
namespace Go.Proofs.YtlcnefeikejcaaaGreatDoor
open Go.RowKit Go.Sort
theorem eq_stop {l i j i1 j1 : Nat} {d : Array Int} (hu : scanUp (fun x => !ltInt d[l]! x) d j i = i1) (hd : scanDown (fun x => ltInt d[l]! x) d i1 j = j1) (h : j1 < i1) : partEqLoop ltInt l i j d = (i1, d) := by
  rw [partEqLoop_eq, hu, hd, if_pos h]
theorem eq_go {l i j i1 j1 : Nat} {d : Array Int} (hu : scanUp (fun x => !ltInt d[l]! x) d j i = i1) (hd : scanDown (fun x => ltInt d[l]! x) d i1 j = j1) (h : ¬ j1 < i1) : partEqLoop ltInt l i j d = partEqLoop ltInt l (i1 + 1) (j1 - 1) (swp d i1 j1) := by
  rw [partEqLoop_eq, hu, hd, if_neg h]
set_option maxHeartbeats 6400000 in
set_option maxRecDepth 1000000 in
theorem parteq_any (b o cap : Nat) (d : Array Int) (l h p : Nat) (w : World) (hH : Holds eU w b o d) (hlp : l ≤ p) (hp : p < h) (hb : h ≤ d.size) (hsz : d.size < 4611686018427387904) :
    Calls Tryz.prog 143 #[.slice (some ⟨b, o, none⟩) d.size cap, .int .i64 l, .int .i64 h, .int .i64 p] w fun e w' =>
      e = .returned (.int .i64 ((partitionEqual ltInt d l h p).1 : Nat)) ∧ Rw w b o (partitionEqual ltInt d l h p).2 w' := by
  obtain ⟨G, HG, hcw, hfw⟩ := (Rw.self hH).fams rfl
  obtain ⟨v0, hy⟩ := set_some (p := ⟨b, o + l, none⟩) (x := .int .u32 (G p)) (hcw p (by omega))
  have A0 := Lib.hid ((Rw.self hH).swap (i := l) (j := p) (by omega) (by omega) (x := .int .u32 (G p)) (y := .int .u32 (G l)) (by rw [HG.out]) (by rw [HG.out]))
  clear hH HG
  rw [show partitionEqual ltInt d l h p = partEqLoop ltInt l (l + 1) (h - 1) (swp d l p) from rfl]
  obtain ⟨S, hS⟩ : ∃ S, S = partEqLoop ltInt l (l + 1) (h - 1) (swp d l p) := ⟨_, rfl⟩
  rw [← hS]
  have HS := Lib.hid hS
  clear hS
  go_enter Tryz.func143, Tryz.ntmps143
  go_wp2_with fail
  go_region
  clear hcw hfw hy
  generalize ((w.setCell _ _).setCell _ _).drew = w0 at A0 ⊢
  go_wp2
  go_loopg [9, 10] (h + 1 - l) (fun k s9 s10 wr => ∃ (i j : Nat) (dk : Array Int), s9 = .int .i64 i ∧ s10 = .int .i64 j ∧ l < i ∧ i ≤ j + 2 ∧ l ≤ j ∧ j < h ∧ j + 2 - i ≤ k ∧ dk.size = d.size ∧ Rw w b o dk wr ∧ partEqLoop ltInt l i j dk = S)
  case atStart => exact ⟨l + 1, h - 1, swp d l p, by simp, by congr 1; omega, by omega, by omega, by omega, by omega, by omega, by rw [size_swp], A0.out, HS.out.symm⟩
  case round =>
    clear A0 HS
    obtain ⟨i, j, dk, rfl, rfl, h1, h2, h3, h4, hk, hds, R, heq⟩ := hrel
    have A := Lib.hid R
    have AE := Lib.hid heq
    clear R heq
    go_wp2
    go_loopg [9] (j + 2 - i) (fun k s wq => ∃ (i' : Nat), s = .int .i64 i' ∧ i ≤ i' ∧ i' ≤ j + 2 ∧ j + 2 - i' ≤ k ∧ Rw w b o dk wq ∧ Hid (scanUp (fun x => !ltInt dk[l]! x) dk j i' = scanUp (fun x => !ltInt dk[l]! x) dk j i))
    case atStart => exact ⟨i, rfl, by omega, by omega, by omega, A.out, rfl⟩
    case round =>
      clear A
      obtain ⟨i1, rfl, u1, u2, u3, R1, HU⟩ := hrel
      obtain ⟨G, HG, hcw, hfw⟩ := R1.fams hds
      have A := Lib.hid R1
      obtain ⟨c, hc⟩ : ∃ c, c = (decide (i1 ≤ j) && !ltInt (G l) (G i1)) := ⟨_, rfl⟩
      have HC := Lib.hid hc
      clear R1 hc hfw
      go_upto_region 3 with fail
      go_cut [43] from 29 to 45 (fun x wc => x = .bool c ∧ Rw w b o dk wc)
      case first =>
        by_cases hle : i1 ≤ j
        · have hz : (i1 : Int) ≤ (j : Int) := by omega
          have hd : decide (i1 ≤ j) = true := decide_eq_true hle
          go_wp2_with fail
          go_big_quiet (first | (go_at_call 142; refine Calls.quiet_of_same (less_any _ _ _)))
          go_wp2_with fail
          go_meet
          exact ⟨by rw [HC.out, hd]; simp, A.out.drewN nq⟩
        · have hz : decide ((i1 : Int) ≤ (j : Int)) = false := decide_eq_false (by omega)
          have hd : decide (i1 ≤ j) = false := decide_eq_false hle
          go_wp2_with fail
          go_big_quiet (first | (go_at_call 142; refine Calls.quiet_of_same (less_any _ _ _)))
          go_wp2_with fail
          go_meet
          exact ⟨by rw [HC.out, hd]; simp, A.out.drewN nq⟩
      case rest =>
        clear A hcw
        obtain ⟨rfl, R2⟩ := hcut
        have A := Lib.hid R2
        clear R2
        have HC2 : Hid (c = (decide (i1 ≤ j) && (fun x => !ltInt dk[l]! x) dk[i1]!)) := by
          refine HC.out.trans ?_
          simp only [HG.out]
        clear HC HG G
        cases c with
        | true =>
          have hle : i1 ≤ j := by
            have := HC2.out
            simp at this
            exact this.1
          go_wp2
          go_roundg (j + 2 - (i1 + 1))
          case measure => omega
          case rel => exact ⟨i1 + 1, by simp, by omega, by omega, by omega, A.out, (up_go HC2.out.symm).symm.trans HU.out⟩
        | false =>
          have HU2 : Hid (scanUp (fun x => !ltInt dk[l]! x) dk j i = i1) := HU.out.symm.trans (up_end HC2.out.symm)
          clear HU HC2
          go_wp2
          go_loopg [10] j (fun k s wq => ∃ (j' : Nat), s = .int .i64 j' ∧ j' ≤ j ∧ i1 ≤ j' + 2 ∧ l ≤ j' ∧ j' ≤ k ∧ Rw w b o dk wq ∧ Hid (scanDown (fun x => ltInt dk[l]! x) dk i1 j' = scanDown (fun x => ltInt dk[l]! x) dk i1 j))
          case atStart => exact ⟨j, rfl, by omega, by omega, by omega, by omega, A.out, rfl⟩
          case round =>
            clear A
            obtain ⟨j1, rfl, v1, v2, v3, v4, R1, HD⟩ := hrel
            obtain ⟨G, HG, hcw, hfw⟩ := R1.fams hds
            have A := Lib.hid R1
            obtain ⟨c, hc⟩ : ∃ c, c = (decide (i1 ≤ j1) && ltInt (G l) (G j1)) := ⟨_, rfl⟩
            have HC := Lib.hid hc
            clear R1 hc hfw
            go_upto_region 5 with fail
            go_cut [59] from 46 to 61 (fun x wc => x = .bool c ∧ Rw w b o dk wc)
            case first =>
              by_cases hle : i1 ≤ j1
              · have hz : (i1 : Int) ≤ (j1 : Int) := by omega
                have hd : decide (i1 ≤ j1) = true := decide_eq_true hle
                go_wp2_with fail
                go_big_quiet (first | (go_at_call 142; refine Calls.quiet_of_same (less_any _ _ _)))
                go_wp2_with fail
                go_meet
                exact ⟨by rw [HC.out, hd]; simp, A.out.drewN nq⟩
              · have hz : decide ((i1 : Int) ≤ (j1 : Int)) = false := decide_eq_false (by omega)
                have hd : decide (i1 ≤ j1) = false := decide_eq_false hle
                go_wp2_with fail
                go_big_quiet (first | (go_at_call 142; refine Calls.quiet_of_same (less_any _ _ _)))
                go_wp2_with fail
                go_meet
                exact ⟨by rw [HC.out, hd]; simp, A.out.drewN nq⟩
            case rest =>
              clear A hcw
              obtain ⟨rfl, R2⟩ := hcut
              have HC2 : Hid (c = (decide (i1 ≤ j1) && (fun x => ltInt dk[l]! x) dk[j1]!)) := by
                refine HC.out.trans ?_
                simp only [HG.out]
              clear HC HG G
              cases c with
              | true =>
                have hle : i1 ≤ j1 := by
                  have := HC2.out
                  simp at this
                  exact this.1
                have A := Lib.hid R2
                clear R2
                go_wp2
                go_roundg (j1 - 1)
                case measure => omega
                case rel => exact ⟨j1 - 1, by congr 1; omega, by omega, by omega, by omega, by omega, A.out, (down_go (by omega) HC2.out.symm).symm.trans HD.out⟩
              | false =>
                have HD2 : Hid (scanDown (fun x => ltInt dk[l]! x) dk i1 j = j1) := HD.out.symm.trans (down_end HC2.out.symm)
                clear HD HC2
                obtain ⟨G, HG, hcw, hfw⟩ := R2.fams hds
                have A := Lib.hid R2
                clear R2
                by_cases hgt : j1 < i1
                · have hz : (j1 : Int) < (i1 : Int) := by omega
                  clear hcw hfw
                  go_wp2
                  go_ret
                  have e : (i1, dk) = S := (eq_stop HU2.out HD2.out hgt).symm.trans AE.out
                  rw [← e]
                  exact ⟨rfl, A.out⟩
                · have hz : ¬ (j1 : Int) < (i1 : Int) := by omega
                  obtain ⟨v1', hy1⟩ := set_some (p := ⟨b, o + i1, none⟩) (x := .int .u32 (G j1)) (hcw j1 (by omega))
                  have A3 := Lib.hid (A.out.swap (i := i1) (j := j1) (by omega) (by omega) (x := .int .u32 (G j1)) (y := .int .u32 (G i1)) (by rw [HG.out]) (by rw [HG.out]))
                  clear A
                  go_wp2_with fail
                  go_region
                  go_wp2
                  go_roundg (j1 - 1 + 2 - (i1 + 1))
                  case measure => omega
                  case rel => exact ⟨i1 + 1, j1 - 1, swp dk i1 j1, by simp, by congr 1; omega, by omega, by omega, by omega, by omega, by omega, by rw [size_swp]; exact hds, A3.out, (eq_go HU2.out HD2.out hgt).symm.trans AE.out⟩
end Go.Proofs.YtlcnefeikejcaaaGreatDoor
namespace Go.Proofs.YtlcnefeikejcaaaGreatDoor
open Go.RowKit Go.Sort
theorem pt_stop {l i j i1 j1 : Nat} {d : Array Int} (hu : scanUp (fun x => ltInt x d[l]!) d j i = i1) (hd : scanDown (fun x => !ltInt x d[l]!) d i1 j = j1) (h : j1 < i1) : partLoop ltInt l i j d = (j1, d) := by
  rw [partLoop_eq, hu, hd, if_pos h]
theorem pt_go {l i j i1 j1 : Nat} {d : Array Int} (hu : scanUp (fun x => ltInt x d[l]!) d j i = i1) (hd : scanDown (fun x => !ltInt x d[l]!) d i1 j = j1) (h : ¬ j1 < i1) : partLoop ltInt l i j d = partLoop ltInt l (i1 + 1) (j1 - 1) (swp d i1 j1) := by
  rw [partLoop_eq, hu, hd, if_neg h]
set_option maxHeartbeats 6400000 in
set_option maxRecDepth 1000000 in
theorem part_core (b o cap : Nat) (d : Array Int) (l h p : Nat) (w : World) (hH : Holds eU w b o d) (hlp : l ≤ p) (hp : p < h) (hb : h ≤ d.size) (hsz : d.size < 4611686018427387904) (S : Nat × Array Int) (HS : Hid (S = partLoop ltInt l (l + 1) (h - 1) (swp d l p))) :
    Calls Tryz.prog 144 #[.slice (some ⟨b, o, none⟩) d.size cap, .int .i64 l, .int .i64 h, .int .i64 p] w fun e w' =>
      ∃ f : Bool, e = .returned (.tuple #[.int .i64 (S.1 : Nat), .bool f]) ∧ Rw w b o (swp S.2 S.1 l) w' := by
  obtain ⟨G, HG, hcw, hfw⟩ := (Rw.self hH).fams rfl
  obtain ⟨v0, hy⟩ := set_some (p := ⟨b, o + l, none⟩) (x := .int .u32 (G p)) (hcw p (by omega))
  have A0 := Lib.hid ((Rw.self hH).swap (i := l) (j := p) (by omega) (by omega) (x := .int .u32 (G p)) (y := .int .u32 (G l)) (by rw [HG.out]) (by rw [HG.out]))
  clear hH HG
  go_enter Tryz.func144, Tryz.ntmps144
  go_wp2_with fail
  go_region
  clear hcw hfw hy
  generalize ((w.setCell _ _).setCell _ _).drew = w0 at A0 ⊢
  go_wp2
  obtain ⟨dk, hdk⟩ : ∃ dk, dk = swp d l p := ⟨_, rfl⟩
  rw [← hdk] at A0 HS
  have hds : dk.size = d.size := by rw [hdk, size_swp]
  clear hdk
  rw [show (l : Int) + 1 = ((l + 1 : Nat) : Int) by omega, show (h : Int) - 1 = ((h - 1 : Nat) : Int) by omega]
  obtain ⟨i, hi⟩ : ∃ i, i = l + 1 := ⟨_, rfl⟩
  obtain ⟨j, hj⟩ : ∃ j, j = h - 1 := ⟨_, rfl⟩
  rw [← hi, ← hj]
  rw [← hi, ← hj] at HS
  have h1 : l < i := by omega
  have h2 : i ≤ j + 2 := by omega
  have h3 : l ≤ j := by omega
  have h4 : j < h := by omega
  clear hi hj
  have A := A0
  clear A0
  go_loopg [10] (j + 2 - i) (fun k s wq => ∃ (i' : Nat), s = .int .i64 i' ∧ i ≤ i' ∧ i' ≤ j + 2 ∧ j + 2 - i' ≤ k ∧ Rw w b o dk wq ∧ Hid (scanUp (fun x => ltInt x dk[l]!) dk j i' = scanUp (fun x => ltInt x dk[l]!) dk j i))
  case atStart => exact ⟨i, rfl, by omega, by omega, by omega, A.out, rfl⟩
  case round =>
    clear A
    obtain ⟨i1, rfl, u1, u2, u3, R1, HU⟩ := hrel
    obtain ⟨G, HG, hcw, hfw⟩ := R1.fams hds
    have A := Lib.hid R1
    obtain ⟨c, hc⟩ : ∃ c, c = (decide (i1 ≤ j) && ltInt (G i1) (G l)) := ⟨_, rfl⟩
    have HC := Lib.hid hc
    clear R1 hc hfw
    go_upto_region 3 with fail
    go_cut [43] from 30 to 45 (fun x wc => x = .bool c ∧ Rw w b o dk wc)
    case first =>
      by_cases hle : i1 ≤ j
      · have hz : (i1 : Int) ≤ (j : Int) := by omega
        have hd : decide (i1 ≤ j) = true := decide_eq_true hle
        go_wp2_with fail
        go_big_quiet (first | (go_at_call 142; refine Calls.quiet_of_same (less_any _ _ _)))
        go_wp2_with fail
        go_meet
        exact ⟨by rw [HC.out, hd]; simp, A.out.drewN nq⟩
      · have hz : decide ((i1 : Int) ≤ (j : Int)) = false := decide_eq_false (by omega)
        have hd : decide (i1 ≤ j) = false := decide_eq_false hle
        go_wp2_with fail
        go_big_quiet (first | (go_at_call 142; refine Calls.quiet_of_same (less_any _ _ _)))
        go_wp2_with fail
        go_meet
        exact ⟨by rw [HC.out, hd]; simp, A.out.drewN nq⟩
    case rest =>
      clear A hcw
      obtain ⟨rfl, R2⟩ := hcut
      have A := Lib.hid R2
      clear R2
      have HC2 : Hid (c = (decide (i1 ≤ j) && (fun x => ltInt x dk[l]!) dk[i1]!)) := by
        refine HC.out.trans ?_
        simp only [HG.out]
      clear HC HG G
      cases c with
      | true =>
        have hle : i1 ≤ j := by
          have := HC2.out
          simp at this
          exact this.1
        go_wp2
        go_roundg (j + 2 - (i1 + 1))
        case measure => omega
        case rel => exact ⟨i1 + 1, by simp, by omega, by omega, by omega, A.out, (up_go HC2.out.symm).symm.trans HU.out⟩
      | false =>
        have HU2 : Hid (scanUp (fun x => ltInt x dk[l]!) dk j i = i1) := HU.out.symm.trans (up_end HC2.out.symm)
        clear HU HC2
        go_wp2
        go_loopg [11] j (fun k s wq => ∃ (j' : Nat), s = .int .i64 j' ∧ j' ≤ j ∧ i1 ≤ j' + 2 ∧ l ≤ j' ∧ j' ≤ k ∧ Rw w b o dk wq ∧ Hid (scanDown (fun x => !ltInt x dk[l]!) dk i1 j' = scanDown (fun x => !ltInt x dk[l]!) dk i1 j))
        case atStart => exact ⟨j, rfl, by omega, by omega, by omega, by omega, A.out, rfl⟩
        case round =>
          clear A
          obtain ⟨j1, rfl, v1, v2, v3, v4, R1, HD⟩ := hrel
          obtain ⟨G, HG, hcw, hfw⟩ := R1.fams hds
          have A := Lib.hid R1
          obtain ⟨c, hc⟩ : ∃ c, c = (decide (i1 ≤ j1) && !ltInt (G j1) (G l)) := ⟨_, rfl⟩
          have HC := Lib.hid hc
          clear R1 hc hfw
          go_upto_region 5 with fail
          go_cut [60] from 46 to 62 (fun x wc => x = .bool c ∧ Rw w b o dk wc)
          case first =>
            by_cases hle : i1 ≤ j1
            · have hz : (i1 : Int) ≤ (j1 : Int) := by omega
              have hd : decide (i1 ≤ j1) = true := decide_eq_true hle
              go_wp2_with fail
              go_big_quiet (first | (go_at_call 142; refine Calls.quiet_of_same (less_any _ _ _)))
              go_wp2_with fail
              go_meet
              exact ⟨by rw [HC.out, hd]; simp, A.out.drewN nq⟩
            · have hz : decide ((i1 : Int) ≤ (j1 : Int)) = false := decide_eq_false (by omega)
              have hd : decide (i1 ≤ j1) = false := decide_eq_false hle
              go_wp2_with fail
              go_big_quiet (first | (go_at_call 142; refine Calls.quiet_of_same (less_any _ _ _)))
              go_wp2_with fail
              go_meet
              exact ⟨by rw [HC.out, hd]; simp, A.out.drewN nq⟩
          case rest =>
            clear A hcw
            obtain ⟨rfl, R2⟩ := hcut
            have HC2 : Hid (c = (decide (i1 ≤ j1) && (fun x => !ltInt x dk[l]!) dk[j1]!)) := by
              refine HC.out.trans ?_
              simp only [HG.out]
            clear HC HG G
            cases c with
            | true =>
              have hle : i1 ≤ j1 := by
                have := HC2.out
                simp at this
                exact this.1
              have A := Lib.hid R2
              clear R2
              go_wp2
              go_roundg (j1 - 1)
              case measure => omega
              case rel => exact ⟨j1 - 1, by congr 1; omega, by omega, by omega, by omega, by omega, A.out, (down_go (by omega) HC2.out.symm).symm.trans HD.out⟩
            | false =>
              have HD2 : Hid (scanDown (fun x => !ltInt x dk[l]!) dk i1 j = j1) := HD.out.symm.trans (down_end HC2.out.symm)
              clear HD HC2
              obtain ⟨G, HG, hcw, hfw⟩ := R2.fams hds
              have A := Lib.hid R2
              clear R2
              by_cases hgt : j1 < i1
              · have hz : (j1 : Int) < (i1 : Int) := by omega
                have e : (j1, dk) = S := (pt_stop HU2.out HD2.out hgt).symm.trans HS.out.symm
                have HE := Lib.hid e
                clear e HS HU2 HD2
                obtain ⟨v1', hy1⟩ := set_some (p := ⟨b, o + j1, none⟩) (x := .int .u32 (G l)) (hcw l (by omega))
                have A3 := Lib.hid (A.out.swap (i := j1) (j := l) (by omega) (by omega) (x := .int .u32 (G l)) (y := .int .u32 (G j1)) (by rw [HG.out]) (by rw [HG.out]))
                clear A
                go_wp2_with fail
                go_region
                go_wp2
                go_ret2
                rw [← HE.out]
                exact ⟨true, rfl, A3.out⟩
              · have hz : ¬ (j1 : Int) < (i1 : Int) := by omega
                have HS2 : Hid (partLoop ltInt l (i1 + 1) (j1 - 1) (swp dk i1 j1) = S) := (pt_go HU2.out HD2.out hgt).symm.trans HS.out.symm
                clear HS HU2 HD2
                obtain ⟨v1', hy1⟩ := set_some (p := ⟨b, o + i1, none⟩) (x := .int .u32 (G j1)) (hcw j1 (by omega))
                have A3 := Lib.hid (A.out.swap (i := i1) (j := j1) (by omega) (by omega) (x := .int .u32 (G j1)) (y := .int .u32 (G i1)) (by rw [HG.out]) (by rw [HG.out]))
                clear A
                go_wp2_with fail
                go_region
                clear hcw hfw hy1 HG
                generalize ((wr.setCell _ _).setCell _ _).drew = w3 at A3 ⊢
                go_wp2
                go_loopg [10, 11] (h + 1 - l) (fun k s10 s11 wr => ∃ (i j : Nat) (dk : Array Int), s10 = .int .i64 i ∧ s11 = .int .i64 j ∧ l < i ∧ i ≤ j + 2 ∧ l ≤ j ∧ j < h ∧ j + 2 - i ≤ k ∧ dk.size = d.size ∧ Rw w b o dk wr ∧ partLoop ltInt l i j dk = S)
                case atStart => exact ⟨i1 + 1, j1 - 1, swp dk i1 j1, by simp, by congr 1; omega, by omega, by omega, by omega, by omega, by omega, by rw [size_swp]; exact hds, A3.out, HS2.out⟩
                case round =>
                  clear A3 HS2 hds
                  obtain ⟨i, j, dk, rfl, rfl, h1, h2, h3, h4, hk, hds, R, heq⟩ := hrel
                  have A := Lib.hid R
                  have AE := Lib.hid heq
                  clear R heq
                  go_wp2
                  go_loopg [10] (j + 2 - i) (fun k s wq => ∃ (i' : Nat), s = .int .i64 i' ∧ i ≤ i' ∧ i' ≤ j + 2 ∧ j + 2 - i' ≤ k ∧ Rw w b o dk wq ∧ Hid (scanUp (fun x => ltInt x dk[l]!) dk j i' = scanUp (fun x => ltInt x dk[l]!) dk j i))
                  case atStart => exact ⟨i, rfl, by omega, by omega, by omega, A.out, rfl⟩
                  case round =>
                    clear A
                    obtain ⟨i1, rfl, u1, u2, u3, R1, HU⟩ := hrel
                    obtain ⟨G, HG, hcw, hfw⟩ := R1.fams hds
                    have A := Lib.hid R1
                    obtain ⟨c, hc⟩ : ∃ c, c = (decide (i1 ≤ j) && ltInt (G i1) (G l)) := ⟨_, rfl⟩
                    have HC := Lib.hid hc
                    clear R1 hc hfw
                    go_upto_region 13 with fail
                    go_cut [112] from 99 to 114 (fun x wc => x = .bool c ∧ Rw w b o dk wc)
                    case first =>
                      by_cases hle : i1 ≤ j
                      · have hz : (i1 : Int) ≤ (j : Int) := by omega
                        have hd : decide (i1 ≤ j) = true := decide_eq_true hle
                        go_wp2_with fail
                        go_big_quiet (first | (go_at_call 142; refine Calls.quiet_of_same (less_any _ _ _)))
                        go_wp2_with fail
                        go_meet
                        exact ⟨by rw [HC.out, hd]; simp, A.out.drewN nq⟩
                      · have hz : decide ((i1 : Int) ≤ (j : Int)) = false := decide_eq_false (by omega)
                        have hd : decide (i1 ≤ j) = false := decide_eq_false hle
                        go_wp2_with fail
                        go_big_quiet (first | (go_at_call 142; refine Calls.quiet_of_same (less_any _ _ _)))
                        go_wp2_with fail
                        go_meet
                        exact ⟨by rw [HC.out, hd]; simp, A.out.drewN nq⟩
                    case rest =>
                      clear A hcw
                      obtain ⟨rfl, R2⟩ := hcut
                      have A := Lib.hid R2
                      clear R2
                      have HC2 : Hid (c = (decide (i1 ≤ j) && (fun x => ltInt x dk[l]!) dk[i1]!)) := by
                        refine HC.out.trans ?_
                        simp only [HG.out]
                      clear HC HG G
                      cases c with
                      | true =>
                        have hle : i1 ≤ j := by
                          have := HC2.out
                          simp at this
                          exact this.1
                        go_wp2
                        go_roundg (j + 2 - (i1 + 1))
                        case measure => omega
                        case rel => exact ⟨i1 + 1, by simp, by omega, by omega, by omega, A.out, (up_go HC2.out.symm).symm.trans HU.out⟩
                      | false =>
                        have HU2 : Hid (scanUp (fun x => ltInt x dk[l]!) dk j i = i1) := HU.out.symm.trans (up_end HC2.out.symm)
                        clear HU HC2
                        go_wp2
                        go_loopg [11] j (fun k s wq => ∃ (j' : Nat), s = .int .i64 j' ∧ j' ≤ j ∧ i1 ≤ j' + 2 ∧ l ≤ j' ∧ j' ≤ k ∧ Rw w b o dk wq ∧ Hid (scanDown (fun x => !ltInt x dk[l]!) dk i1 j' = scanDown (fun x => !ltInt x dk[l]!) dk i1 j))
                        case atStart => exact ⟨j, rfl, by omega, by omega, by omega, by omega, A.out, rfl⟩
                        case round =>
                          clear A
                          obtain ⟨j1, rfl, v1, v2, v3, v4, R1, HD⟩ := hrel
                          obtain ⟨G, HG, hcw, hfw⟩ := R1.fams hds
                          have A := Lib.hid R1
                          obtain ⟨c, hc⟩ : ∃ c, c = (decide (i1 ≤ j1) && !ltInt (G j1) (G l)) := ⟨_, rfl⟩
                          have HC := Lib.hid hc
                          clear R1 hc hfw
                          go_upto_region 15 with fail
                          go_cut [129] from 115 to 131 (fun x wc => x = .bool c ∧ Rw w b o dk wc)
                          case first =>
                            by_cases hle : i1 ≤ j1
                            · have hz : (i1 : Int) ≤ (j1 : Int) := by omega
                              have hd : decide (i1 ≤ j1) = true := decide_eq_true hle
                              go_wp2_with fail
                              go_big_quiet (first | (go_at_call 142; refine Calls.quiet_of_same (less_any _ _ _)))
                              go_wp2_with fail
                              go_meet
                              exact ⟨by rw [HC.out, hd]; simp, A.out.drewN nq⟩
                            · have hz : decide ((i1 : Int) ≤ (j1 : Int)) = false := decide_eq_false (by omega)
                              have hd : decide (i1 ≤ j1) = false := decide_eq_false hle
                              go_wp2_with fail
                              go_big_quiet (first | (go_at_call 142; refine Calls.quiet_of_same (less_any _ _ _)))
                              go_wp2_with fail
                              go_meet
                              exact ⟨by rw [HC.out, hd]; simp, A.out.drewN nq⟩
                          case rest =>
                            clear A hcw
                            obtain ⟨rfl, R2⟩ := hcut
                            have HC2 : Hid (c = (decide (i1 ≤ j1) && (fun x => !ltInt x dk[l]!) dk[j1]!)) := by
                              refine HC.out.trans ?_
                              simp only [HG.out]
                            clear HC HG G
                            cases c with
                            | true =>
                              have hle : i1 ≤ j1 := by
                                have := HC2.out
                                simp at this
                                exact this.1
                              have A := Lib.hid R2
                              clear R2
                              go_wp2
                              go_roundg (j1 - 1)
                              case measure => omega
                              case rel => exact ⟨j1 - 1, by congr 1; omega, by omega, by omega, by omega, by omega, A.out, (down_go (by omega) HC2.out.symm).symm.trans HD.out⟩
                            | false =>
                              have HD2 : Hid (scanDown (fun x => !ltInt x dk[l]!) dk i1 j = j1) := HD.out.symm.trans (down_end HC2.out.symm)
                              clear HD HC2
                              obtain ⟨G, HG, hcw, hfw⟩ := R2.fams hds
                              have A := Lib.hid R2
                              clear R2
                              by_cases hgt : j1 < i1
                              · have hz : (j1 : Int) < (i1 : Int) := by omega
                                have e : (j1, dk) = S := (pt_stop HU2.out HD2.out hgt).symm.trans AE.out
                                have HE := Lib.hid e
                                clear e AE HU2 HD2
                                obtain ⟨v1', hy1⟩ := set_some (p := ⟨b, o + j1, none⟩) (x := .int .u32 (G l)) (hcw l (by omega))
                                have A3 := Lib.hid (A.out.swap (i := j1) (j := l) (by omega) (by omega) (x := .int .u32 (G l)) (y := .int .u32 (G j1)) (by rw [HG.out]) (by rw [HG.out]))
                                clear A
                                go_wp2_with fail
                                go_region
                                go_wp2
                                go_ret2
                                rw [← HE.out]
                                exact ⟨false, rfl, A3.out⟩
                              · have hz : ¬ (j1 : Int) < (i1 : Int) := by omega
                                obtain ⟨v1', hy1⟩ := set_some (p := ⟨b, o + i1, none⟩) (x := .int .u32 (G j1)) (hcw j1 (by omega))
                                have A3 := Lib.hid (A.out.swap (i := i1) (j := j1) (by omega) (by omega) (x := .int .u32 (G j1)) (y := .int .u32 (G i1)) (by rw [HG.out]) (by rw [HG.out]))
                                clear A
                                go_wp2_with fail
                                go_region
                                go_wp2
                                go_roundg (j1 - 1 + 2 - (i1 + 1))
                                case measure => omega
                                case rel => exact ⟨i1 + 1, j1 - 1, swp dk i1 j1, by simp, by congr 1; omega, by omega, by omega, by omega, by omega, by omega, by rw [size_swp]; exact hds, A3.out, (pt_go HU2.out HD2.out hgt).symm.trans AE.out⟩
theorem part_any (b o cap : Nat) (d : Array Int) (l h p : Nat) (w : World) (hH : Holds eU w b o d) (hlp : l ≤ p) (hp : p < h) (hb : h ≤ d.size) (hsz : d.size < 4611686018427387904) :
    Calls Tryz.prog 144 #[.slice (some ⟨b, o, none⟩) d.size cap, .int .i64 l, .int .i64 h, .int .i64 p] w fun e w' =>
      ∃ f : Bool, e = .returned (.tuple #[.int .i64 ((partition ltInt d l h p).1 : Nat), .bool f]) ∧ Rw w b o (partition ltInt d l h p).2.2 w' := by
  rw [partition_fst, partition_arr]
  exact part_core b o cap d l h p w hH hlp hp hb hsz _ (Lib.hid rfl)
end Go.Proofs.YtlcnefeikejcaaaGreatDoor
namespace Go.Proofs.YtlcnefeikejcaaaGreatDoor
open Go.RowKit Go.Sort
theorem holds_keep {F : Nat → Prop} {w w' : World} {b o : Nat} {d : Array Int} (h : Holds eU w b o d) (k : Keep F w w') (hf : ¬ F b) : Holds eU w' b o d := fun j hj =>
  ⟨k.cell (h j hj).1 hf, (k.frozen (h j hj).1 hf).trans (h j hj).2⟩
structure Sw (s : Nat) (w w' : World) : Prop where
  keep : Keep (fun k => k = s) w w'
  cell : ∃ z, w'.cell? ⟨s, 0, none⟩ = some (.int .i64 z)
  fz : w'.frozen? ⟨s, 0, none⟩ = false
theorem Sw.trans {s : Nat} {a c e : World} (h : Sw s a c) (k : Sw s c e) : Sw s a e := ⟨h.keep.trans k.keep (fun _ q => .inl q), k.cell, k.fz⟩
theorem Sw.drewN {s : Nat} {a c : World} (h : Sw s a c) (n : Nat) : Sw s a (c.drewN n) := ⟨⟨h.keep.os, h.keep.tape, h.keep.output, h.keep.size, h.keep.block⟩, h.cell, h.fz⟩
theorem Sw.set {s : Nat} {a c : World} (h : Sw s a c) (z : Int) : Sw s a (c.setCell ⟨s, 0, none⟩ (.int .i64 z)) :=
  ⟨h.keep.setCell (.inl rfl) _, ⟨z, World.cell?_setCell_same _ _ _ h.cell.choose_spec⟩, by rw [World.frozen?_setCell]; exact h.fz⟩
set_option maxHeartbeats 1600000 in
set_option maxRecDepth 1000000 in
theorem order_any (b o cap : Nat) (d : Array Int) (x y s : Nat) (w : World) (hH : Holds eU w b o d) (hx : x < d.size) (hy : y < d.size) (hs : Sw s w w) :
    Calls Tryz.prog 174 #[.slice (some ⟨b, o, none⟩) d.size cap, .int .i64 x, .int .i64 y, .pointer (some ⟨s, 0, none⟩)] w fun e w' =>
      ∃ x' y' : Nat, e = .returned (.tuple #[.int .i64 x', .int .i64 y']) ∧ (∀ p : Nat → Prop, p x → p y → p x' ∧ p y') ∧ Sw s w w' := by
  obtain ⟨G, HG, hcw, hfw⟩ := (Rw.self hH).fams rfl
  obtain ⟨z, c0⟩ := hs.cell
  have f0 := hs.fz
  have A := Lib.hid hs
  clear hs hH HG
  go_enter Tryz.func174, Tryz.ntmps174
  go_wp2_with fail
  go_quiet (first | (go_at_call 142; refine Calls.quiet_of_same (less_any _ _ _)))
  have c1 : (w.drewN nq).cell? ⟨s, 0, none⟩ = some (.int .i64 z) := c0
  have f1 : (w.drewN nq).frozen? ⟨s, 0, none⟩ = false := f0
  have A1 := Lib.hid (A.out.drewN nq)
  clear c0 f0 A hcw hfw
  generalize w.drewN nq = w1 at c1 f1 A1 ⊢
  go_wp2
  · go_ret2
    exact ⟨y, x, rfl, fun p hx hy => ⟨hy, hx⟩, A1.out.set _⟩
  · go_ret2
    exact ⟨x, y, rfl, fun p hx hy => ⟨hx, hy⟩, A1.out⟩
set_option maxHeartbeats 1600000 in
set_option maxRecDepth 1000000 in
theorem median_any (b o cap : Nat) (d : Array Int) (x y c s : Nat) (w : World) (hH : Holds eU w b o d) (hx : x < d.size) (hy : y < d.size) (hc : c < d.size) (hs : Sw s w w) (hne : s ≠ b) :
    Calls Tryz.prog 165 #[.slice (some ⟨b, o, none⟩) d.size cap, .int .i64 x, .int .i64 y, .int .i64 c, .pointer (some ⟨s, 0, none⟩)] w fun e w' =>
      ∃ r : Nat, e = .returned (.int .i64 r) ∧ (∀ p : Nat → Prop, p x → p y → p c → p r) ∧ Sw s w w' := by
  have hb : ¬ (fun k => k = s) b := fun e => hne e.symm
  go_enter Tryz.func165, Tryz.ntmps165
  go_wp2_with fail
  refine (order_any b o cap d x y s w hH hx hy hs).mono ?_
  rintro e w1 ⟨x1, y1, rfl, m1, k1⟩
  obtain ⟨bx1, by1⟩ := m1 (fun q => q < d.size) hx hy
  have h1 := holds_keep hH k1.keep hb
  go_wp2_with fail
  refine (order_any b o cap d y1 c s w1 h1 by1 hc ⟨Keep.refl _ _, k1.cell, k1.fz⟩).mono ?_
  rintro e w2 ⟨y2, c2, rfl, m2, k2⟩
  obtain ⟨by2, bc2⟩ := m2 (fun q => q < d.size) by1 hc
  have h2 := holds_keep h1 k2.keep hb
  go_wp2_with fail
  refine (order_any b o cap d x1 y2 s w2 h2 bx1 by2 ⟨Keep.refl _ _, k2.cell, k2.fz⟩).mono ?_
  rintro e w3 ⟨x3, y3, rfl, m3, k3⟩
  go_wp2
  go_ret
  exact ⟨y3, rfl, fun p px py pc => (m3 p (m1 p px py).1 (m2 p (m1 p px py).2 pc).1).2, (k1.trans k2).trans k3⟩
set_option maxHeartbeats 1600000 in
set_option maxRecDepth 1000000 in
theorem near_any (b o cap : Nat) (d : Array Int) (x s : Nat) (w : World) (hH : Holds eU w b o d) (hx : 0 < x) (hy : x + 1 < d.size) (hs : Sw s w w) (hne : s ≠ b) (hsz : d.size < 65536) :
    Calls Tryz.prog 164 #[.slice (some ⟨b, o, none⟩) d.size cap, .int .i64 x, .pointer (some ⟨s, 0, none⟩)] w fun e w' =>
      ∃ r : Nat, e = .returned (.int .i64 r) ∧ x ≤ r + 1 ∧ r ≤ x + 1 ∧ Sw s w w' := by
  obtain ⟨y, rfl⟩ : ∃ y, x = y + 1 := ⟨x - 1, by omega⟩
  have c := median_any b o cap d y (y + 1) (y + 2) s w hH (by omega) (by omega) (by omega) hs hne
  rw [show ((y + 1 : Nat) : Int) = (y : Int) + 1 by omega, show ((y + 2 : Nat) : Int) = (y : Int) + 1 + 1 by omega] at c
  clear hs
  go_enter Tryz.func164, Tryz.ntmps164
  go_wp2_with fail
  refine c.mono ?_
  rintro e w1 ⟨r, rfl, m, k⟩
  go_wp2
  go_ret
  exact ⟨r, rfl, m (fun r => y + 1 ≤ r + 1) (by omega) (by omega) (by omega), m (fun r => r ≤ y + 1 + 1) (by omega) (by omega) (by omega), k⟩
end Go.Proofs.YtlcnefeikejcaaaGreatDoor
namespace Go.Proofs.YtlcnefeikejcaaaGreatDoor
open Go.RowKit Go.Sort
theorem holds_below {w w' : World} {b o : Nat} {d : Array Int} (h : Holds eU w b o d) (k : Below w.heap.size w w') : Holds eU w' b o d := holds_keep (F := fun _ => False) h (Keep.of_below k) (fun h => h)
theorem Sw.here {s : Nat} {w w' : World} (h : Sw s w w') : Sw s w' w' := ⟨Keep.refl _ _, h.cell, h.fz⟩
set_option maxHeartbeats 3200000 in
set_option maxRecDepth 1000000 in
theorem pivot_any (b o cap : Nat) (d : Array Int) (l h : Nat) (w : World) (hH : Holds eU w b o d) (hlh : l + 12 < h) (hb : h ≤ d.size) (hsz : d.size < 65536) :
    Calls Tryz.prog 139 #[.slice (some ⟨b, o, none⟩) d.size cap, .int .i64 l, .int .i64 h] w fun e w' =>
      ∃ (p : Nat) (t : Int), e = .returned (.tuple #[.int .i64 p, .int .i64 t]) ∧ l ≤ p ∧ p < h ∧ Below w.heap.size w w' := by
  obtain ⟨n, hn⟩ : ∃ n, n = h - l := ⟨_, rfl⟩
  obtain ⟨q, hq⟩ : ∃ q, q = n / 4 := ⟨_, rfl⟩
  have e0 : (h : Int) - (l : Int) = (n : Int) := by omega
  have e1 : Int.tdiv (n : Int) 4 = (q : Int) := by rw [hq]; rfl
  have h8 : 8 ≤ n := by omega
  have hq4 : 4 * q ≤ n := by omega
  have hq3 : 3 ≤ q := by omega
  have hln : l + n = h := by omega
  have hbb : b < w.heap.size := World.block_lt_of_cell? w _ (hH 0 (by omega)).1
  have hsb : w.heap.size ≠ b := by omega
  have s0 : Sw w.heap.size (w.alloc (.cells #[.int .i64 0] 3)) (w.alloc (.cells #[.int .i64 0] 3)) := ⟨Keep.refl _ _, ⟨0, by simp [go_sem]⟩, by simp [go_sem]⟩
  have h0 : Holds eU (w.alloc (.cells #[.int .i64 0] 3)) b o d := holds_below hH (alb _)
  have b0 : Below w.heap.size w (w.alloc (.cells #[.int .i64 0] 3)) := alb _
  have z0 : w.heap.size ≤ (w.alloc (.cells #[.int .i64 0] 3)).heap.size := b0.size
  have S0 := Lib.hid s0
  have H0 := Lib.hid h0
  have B0 := Lib.hid b0
  have Z0 := Lib.hid z0
  clear s0 h0 b0 z0 hH hn hq
  have fin : ∀ w0 w', Sw w.heap.size w0 w' → Below w.heap.size w w0 → Below w.heap.size w w' := fun w0 w' k kb => kb.trans (k.keep.below kb.size (fun i hi => by subst hi; exact Nat.le_refl _))
  have FIN := Lib.hid fin
  clear fin
  go_enter Tryz.func139, Tryz.ntmps139
  go_upto_region 3 with fail
  generalize w.alloc (.cells #[.int .i64 0] 3) = w0 at S0 H0 B0 Z0 ⊢
  have c1 := Lib.hid (near_any b o cap d (l + q) w.heap.size w0 H0.out (by omega) (by omega) S0.out hsb hsz)
  rw [show ((l + q : Nat) : Int) = (l : Int) + (q : Int) by omega] at c1
  have c5 := Lib.hid (median_any b o cap d (l + q) (l + q * 2) (l + q * 3) w.heap.size w0 H0.out (by omega) (by omega) (by omega) S0.out hsb)
  rw [show ((l + q : Nat) : Int) = (l : Int) + (q : Int) by omega, show ((l + q * 2 : Nat) : Int) = (l : Int) + (q : Int) * 2 by omega, show ((l + q * 3 : Nat) : Int) = (l : Int) + (q : Int) * 3 by omega] at c5
  by_cases h50 : 50 ≤ n
  · go_wp2_with fail
    refine c1.out.mono ?_
    rintro e w1 ⟨r1, rfl, r1a, r1b, k1⟩
    have H1 := Lib.hid (holds_keep H0.out k1.keep (fun e => hsb e.symm))
    have c2 := Lib.hid (near_any b o cap d (l + q * 2) w.heap.size w1 H1.out (by omega) (by omega) k1.here hsb hsz)
    rw [show ((l + q * 2 : Nat) : Int) = (l : Int) + (q : Int) * 2 by omega] at c2
    have K1 := Lib.hid k1
    clear k1
    go_wp2_with fail
    refine c2.out.mono ?_
    rintro e w2 ⟨r2, rfl, r2a, r2b, k2⟩
    have H2 := Lib.hid (holds_keep H1.out k2.keep (fun e => hsb e.symm))
    have c3 := Lib.hid (near_any b o cap d (l + q * 3) w.heap.size w2 H2.out (by omega) (by omega) k2.here hsb hsz)
    rw [show ((l + q * 3 : Nat) : Int) = (l : Int) + (q : Int) * 3 by omega] at c3
    have K2 := Lib.hid (K1.out.trans k2)
    clear k2 K1
    go_wp2_with fail
    refine c3.out.mono ?_
    rintro e w3 ⟨r3, rfl, r3a, r3b, k3⟩
    have H3 := Lib.hid (holds_keep H2.out k3.keep (fun e => hsb e.symm))
    have c4 := Lib.hid (median_any b o cap d r1 r2 r3 w.heap.size w3 H3.out (by omega) (by omega) (by omega) k3.here hsb)
    have K3 := Lib.hid (K2.out.trans k3)
    clear k3 K2
    go_wp2_with fail
    refine c4.out.mono ?_
    rintro e w4 ⟨r, rfl, rm, k4⟩
    have ra : l ≤ r := rm (fun x => l ≤ x) (by omega) (by omega) (by omega)
    have rb : r < h := rm (fun x => x < h) (by omega) (by omega) (by omega)
    have B4 := Lib.hid (FIN.out _ _ (K3.out.trans k4) B0.out)
    obtain ⟨z, hz⟩ := k4.cell
    clear rm k4 K3
    go_wp2
    all_goals go_ret2
    all_goals exact ⟨r, _, rfl, ra, rb, B4.out⟩
  · go_wp2_with fail
    refine c5.out.mono ?_
    rintro e w4 ⟨r, rfl, rm, k4⟩
    have ra : l ≤ r := rm (fun x => l ≤ x) (by omega) (by omega) (by omega)
    have rb : r < h := rm (fun x => x < h) (by omega) (by omega) (by omega)
    have B4 := Lib.hid (FIN.out _ _ k4 B0.out)
    obtain ⟨z, hz⟩ := k4.cell
    clear rm k4
    go_wp2
    all_goals go_ret2
    all_goals exact ⟨r, _, rfl, ra, rb, B4.out⟩
end Go.Proofs.YtlcnefeikejcaaaGreatDoor
namespace Go.Proofs.YtlcnefeikejcaaaGreatDoor
open Go.RowKit Go.Sort
structure Xs (s : Nat) (w w' : World) : Prop where
  keep : Keep (fun k => k = s) w w'
  cell : ∃ z : Nat, z < 18446744073709551616 ∧ w'.cell? ⟨s, 0, none⟩ = some (.int .u64 (z : Int))
  fz : w'.frozen? ⟨s, 0, none⟩ = false
theorem Xs.here {s : Nat} {w w' : World} (h : Xs s w w') : Xs s w' w' := ⟨Keep.refl _ _, h.cell, h.fz⟩
theorem Xs.trans {s : Nat} {a c e : World} (h : Xs s a c) (k : Xs s c e) : Xs s a e := ⟨h.keep.trans k.keep (fun _ q => .inl q), k.cell, k.fz⟩
theorem Xs.drew {s : Nat} {a c : World} (h : Xs s a c) : Xs s a c.drew := ⟨h.keep.drew, h.cell, h.fz⟩
theorem Xs.set {s : Nat} {a c : World} (h : Xs s a c) (z : Nat) (hz : z < 18446744073709551616) : Xs s a (c.setCell ⟨s, 0, none⟩ (.int .u64 (z : Int))) :=
  ⟨h.keep.setCell (.inl rfl) _, ⟨z, hz, World.cell?_setCell_same _ _ _ h.cell.choose_spec.2⟩, by rw [World.frozen?_setCell]; exact h.fz⟩
theorem bits_some (op : BinOp) (x y : Int) : ∃ z : Nat, z < 18446744073709551616 ∧ bits op .u64 x y = (z : Int) := by
  have h : ∀ t : Int, ∃ z : Nat, z < 18446744073709551616 ∧ IntKind.u64.wrap t = (z : Int) := fun t => ⟨(t % 18446744073709551616).toNat, by omega, by rw [IntKind.wrap_u64]; omega⟩
  unfold bits
  exact h _
set_option maxHeartbeats 1600000 in
set_option maxRecDepth 1000000 in
theorem xor_any (s : Nat) (w : World) (h : Xs s w w) :
    Calls Tryz.prog 163 #[.pointer (some ⟨s, 0, none⟩)] w fun e w' => ∃ z : Nat, z < 18446744073709551616 ∧ e = .returned (.int .u64 (z : Int)) ∧ Xs s w w' := by
  obtain ⟨z, hz, c0⟩ := h.cell
  have f0 := h.fz
  have A := Lib.hid h
  clear h
  go_enter Tryz.func163, Tryz.ntmps163
  go_wp2_with fail
  go_region
  obtain ⟨z1, b1, e1⟩ := bits_some .xor (z : Int) (IntKind.u64.wrap ((z : Int) * 8192))
  rw [e1]
  obtain ⟨w1, hw1⟩ : ∃ w1, w1 = (w.setCell ⟨s, 0, none⟩ (.int .u64 (z1 : Int))).drew := ⟨_, rfl⟩
  rw [← hw1]
  have A1 := (A.out.set z1 b1).drew
  rw [← hw1] at A1
  have c1 : w1.cell? ⟨s, 0, none⟩ = some (.int .u64 (z1 : Int)) := by rw [hw1]; exact World.cell?_setCell_same _ _ _ c0
  have f1 := A1.fz
  have H1 := Lib.hid A1
  clear A1 hw1 e1 A c0 f0
  go_wp2_with fail
  go_region
  obtain ⟨z2, b2, e2⟩ := bits_some .xor (z1 : Int) ((z1 : Int) / 128)
  rw [e2]
  obtain ⟨w2, hw2⟩ : ∃ w2, w2 = (w1.setCell ⟨s, 0, none⟩ (.int .u64 (z2 : Int))).drew := ⟨_, rfl⟩
  rw [← hw2]
  have A2 := (H1.out.set z2 b2).drew
  rw [← hw2] at A2
  have c2 : w2.cell? ⟨s, 0, none⟩ = some (.int .u64 (z2 : Int)) := by rw [hw2]; exact World.cell?_setCell_same _ _ _ c1
  have f2 := A2.fz
  have H2 := Lib.hid A2
  clear A2 hw2 e2 H1 c1 f1
  go_wp2_with fail
  go_region
  obtain ⟨z3, b3, e3⟩ := bits_some .xor (z2 : Int) (IntKind.u64.wrap ((z2 : Int) * 131072))
  rw [e3]
  obtain ⟨w3, hw3⟩ : ∃ w3, w3 = (w2.setCell ⟨s, 0, none⟩ (.int .u64 (z3 : Int))).drew := ⟨_, rfl⟩
  rw [← hw3]
  have A3 := (H2.out.set z3 b3).drew
  rw [← hw3] at A3
  have c3 : w3.cell? ⟨s, 0, none⟩ = some (.int .u64 (z3 : Int)) := by rw [hw3]; exact World.cell?_setCell_same _ _ _ c2
  have f3 := A3.fz
  have H3 := Lib.hid A3
  clear A3 hw3 e3 H2 c2 f2
  go_wp2
  go_ret
  exact ⟨z3, b3, rfl, H3.out⟩
set_option maxHeartbeats 1600000 in
set_option maxRecDepth 100000 in
theorem len64_any (n : Nat) (hn : n < 65536) (w : World) : Calls Tryz.prog 146 #[.int .u64 (n : Int)] w fun e w' => e = .returned (.int .i64 ((Lib.bitLen n : Nat) : Int)) ∧ w = w' := by
  have hz1 : ¬ (4294967296 ≤ (n : Int)) := by omega
  have hz2 : ¬ (65536 ≤ (n : Int)) := by omega
  obtain ⟨R, hR⟩ : ∃ R, R = Lib.bitLen n := ⟨_, rfl⟩
  rw [← hR]
  go_enter Tryz.func146, Tryz.ntmps146
  generalize ht : (ByteArray.mk (List.toArray _)) = tb
  have hx : ∀ i : Nat, i ≤ 255 → ∀ w, (Instr.index 9 (.string tb) (.int .u8 (i : Int))).run Tryz.prog w = .ok (.int .u8 ((Lib.bitLen i : Nat) : Int)) w := fun i h1 w => by
    obtain rfl : tb = Lib.len8tab := by rw [← ht]; rfl
    rw [Lib.run_index_len8tab w _ _ _ rfl (by omega) (by omega), Lib.len8_of _ (by omega) (by omega)]
    rfl
  clear ht
  by_cases h8 : 256 ≤ n
  · have h8z : 256 ≤ (n : Int) := by omega
    have l := Lib.bitLen_le8' ((n / 256 : Nat) : Int) (by omega) (by omega)
    have s := Lib.bitLen_shift8 n (by omega) (by omega)
    rw [Int.toNat_natCast] at l
    have hx1 := hx (n / 256) (by omega)
    clear hx
    generalize Lib.bitLen (n / 256) = L at l s hx1
    have e : R = 8 + L := by omega
    have E := Lib.hid e
    have q : (n : Int) / 256 = ((n / 256 : Nat) : Int) := by omega
    have q2 : n / 256 ≤ 255 := by omega
    generalize n / 256 = m at q q2 hx1
    clear s hR e hn
    go_wp2
    go_ret
    rw [E.out]
    exact ⟨rfl, rfl⟩
  · have h8z : ¬ 256 ≤ (n : Int) := by omega
    have q2 : n ≤ 255 := by omega
    have l := Lib.bitLen_le8' (n : Int) (by omega) (by omega)
    rw [Int.toNat_natCast] at l
    have hx1 := hx n (by omega)
    clear hx
    rw [← hR] at l hx1
    clear hR hn
    go_wp2
    go_ret
    exact ⟨rfl, rfl⟩
end Go.Proofs.YtlcnefeikejcaaaGreatDoor
namespace Go.Proofs.YtlcnefeikejcaaaGreatDoor
open Go.RowKit Go.Sort
theorem aux_pow : ∀ (f x : Nat), x ≠ 0 → 2 ^ Lib.bitLenAux f x ≤ 2 * x
  | 0, x, h => by simp [Lib.bitLenAux]; omega
  | f + 1, x, h => by
    rw [Lib.bitLenAux, if_neg h]
    by_cases h2 : x / 2 = 0
    · rw [h2]
      have e : Lib.bitLenAux f 0 = 0 := by cases f <;> rfl
      rw [e]
      omega
    · have := aux_pow f (x / 2) h2
      rw [Nat.pow_add]
      omega
theorem len_pow (n : Nat) (h : n ≠ 0) : 2 ^ Lib.bitLen n ≤ 2 * n := aux_pow 64 n h
theorem len_16 (n : Nat) (h : n < 65536) : Lib.bitLen n ≤ 16 := by
  by_cases h0 : n = 0
  · subst h0; decide
  · have := len_pow n h0
    have h17 : 2 ^ Lib.bitLen n < 2 ^ 17 := by omega
    have := (Nat.pow_lt_pow_iff_right (by decide : 1 < 2)).1 h17
    omega
set_option maxHeartbeats 1600000 in
theorem len_any (n : Nat) (hn : n < 65536) (w : World) : Calls Tryz.prog 111 #[.int .u64 (n : Int)] w fun e w' => e = .returned (.int .i64 ((Lib.bitLen n : Nat) : Int)) ∧ w = w' := by
  go_enter Tryz.func111, Tryz.ntmps111
  go_wp2_with (go_at_call 146; refine (len64_any n hn w).mono ?_; rintro e w1 ⟨rfl, rfl⟩)
  go_ret
  exact ⟨rfl, rfl⟩
set_option maxHeartbeats 1600000 in
theorem power_any (n : Nat) (h0 : n ≠ 0) (hn : n < 65536) (w : World) : Calls Tryz.prog 162 #[.int .i64 (n : Int)] w fun e w' => ∃ m : Nat, e = .returned (.int .u64 (m : Int)) ∧ 0 < m ∧ m ≤ 2 * n ∧ w = w' := by
  have l16 := len_16 n hn
  have lp := len_pow n h0
  have hc := len_any n hn w
  generalize Lib.bitLen n = L at l16 lp hc
  have p : 0 < 2 ^ L := Nat.two_pow_pos L
  go_enter Tryz.func162, Tryz.ntmps162
  go_wp2_with (go_at_call 111; refine hc.mono ?_; rintro e w1 ⟨rfl, rfl⟩)
  go_ret
  refine ⟨2 ^ L, ?_, p, lp, rfl⟩
  have e : IntKind.u64.wrap ((2 : Int) ^ L) = ((2 ^ L : Nat) : Int) := by
    have e2 : ((2 ^ L : Nat) : Int) = (2 : Int) ^ L := by simp
    rw [IntKind.wrap_u64, ← e2]
    generalize 2 ^ L = y at lp p
    omega
  simp [e]
theorem and_some (z k : Nat) (hz : z < 18446744073709551616) (hk : k < 18446744073709551616) : ∃ y : Nat, y ≤ k ∧ bits .and .u64 (z : Int) (k : Int) = (y : Int) := ⟨z &&& k, Nat.and_le_right, bits_and_u64_nat z k hz hk⟩
theorem Rw.step {w w1 w2 : World} {b o s : Nat} {d : Array Int} (h : Rw w b o d w1) (k : Keep (fun k => k = s) w1 w2) (hs : s ≠ b) (hws : w.heap.size ≤ s) : Rw w b o d w2 :=
  ⟨holds_keep h.holds k (fun e => hs e.symm), h.keep.trans k (fun i e => .inr (by omega)), fun cur e fr q => by
    obtain ⟨c1, q1, s1⟩ := h.shape cur e fr q
    exact ⟨c1, (k.block b (Array.getElem?_eq_some_iff.1 q1).1 (fun e => hs e.symm)).trans q1, s1⟩⟩
theorem Xs.kept {s b : Nat} {w w1 w2 : World} (h : Xs s w w1) (k : Keep (fun k => k = b) w1 w2) (hs : s ≠ b) : Xs s w2 w2 := by
  obtain ⟨z, hz, c⟩ := h.cell
  exact ⟨Keep.refl _ _, ⟨z, hz, k.cell c hs⟩, (k.frozen c hs).trans h.fz⟩
theorem keep_swap {w : World} {b i j : Nat} (x y : Value) : Keep (fun k => k = b) w ((w.setCell ⟨b, i, none⟩ x).setCell ⟨b, j, none⟩ y).drew := Keep.drew (Keep.setCell (F := fun k => k = b) (Keep.setCell (F := fun k => k = b) (Keep.refl _ w) (.inl rfl) _) (.inl rfl) _)
set_option maxHeartbeats 6400000 in
set_option maxRecDepth 1000000 in
theorem break_any (b o cap : Nat) (d : Array Int) (l h : Nat) (w : World) (hH : Holds eU w b o d) (hlh : l + 12 < h) (hb : h ≤ d.size) (hsz : d.size < 65536) :
    Calls Tryz.prog 138 #[.slice (some ⟨b, o, none⟩) d.size cap, .int .i64 l, .int .i64 h] w fun e w' =>
      e = .returned (.tuple #[]) ∧ ∃ d', PermIn l h d d' ∧ Rw w b o d' w' := by
  obtain ⟨n, hn⟩ : ∃ n, n = h - l := ⟨_, rfl⟩
  obtain ⟨q, hq⟩ : ∃ q, q = n / 4 := ⟨_, rfl⟩
  have e0 : (h : Int) - (l : Int) = (n : Int) := by omega
  have e1 : Int.tdiv (n : Int) 4 = (q : Int) := by rw [hq]; rfl
  have h8 : 8 ≤ n := by omega
  have h8z : 8 ≤ (n : Int) := by omega
  have hq4 : 4 * q ≤ n := by omega
  have hq3 : 3 ≤ q := by omega
  have hln : l + n = h := by omega
  have hbb : b < w.heap.size := World.block_lt_of_cell? w _ (hH 0 (by omega)).1
  have hsb : w.heap.size ≠ b := by omega
  have s0 : Xs w.heap.size (w.alloc (.cells #[.int .u64 (n : Int)] 241)) (w.alloc (.cells #[.int .u64 (n : Int)] 241)) := ⟨Keep.refl _ _, ⟨n, by omega, by simp [go_sem]⟩, by simp [go_sem]⟩
  have h0 : Rw w b o d (w.alloc (.cells #[.int .u64 (n : Int)] 241)) := (Rw.self hH).below (alb _)
  have S0 := Lib.hid s0
  have R0 := Lib.hid h0
  clear s0 h0 hH hn hq
  have hlarge := hsz
  go_enter Tryz.func138, Tryz.ntmps138
  go_upto_region 3 with fail
  generalize w.alloc (.cells #[.int .u64 (n : Int)] 241) = w0 at S0 R0 ⊢
  have C := Lib.hid (power_any n (by omega) (by omega) w0)
  go_upto_region 4 with (go_at_call 162; refine C.out.mono ?_; rintro e w1 ⟨m, rfl, m0, m1, rfl⟩)
  clear C
  go_wp2
  go_loopg [9] 3 (fun k s9 wr => ∃ (i : Nat) (dk : Array Int), s9 = .int .i64 i ∧ i + k = l + q * 2 + 2 ∧ l ≤ i ∧ k ≤ 3 ∧ dk.size = d.size ∧ Hid (PermIn l h d dk) ∧ Rw w b o dk wr ∧ Xs w.heap.size wr wr)
  case atStart => exact ⟨l + q * 2 - 1, d, by congr 1; omega, by omega, by omega, by omega, rfl, permIn_refl d l h, R0.out, S0.out⟩
  case round =>
    obtain ⟨i, dk, rfl, hk, hli, hk3, hds, P, R, X⟩ := hrel
    have A := Lib.hid R
    have AX := Lib.hid X
    clear R X R0 S0
    by_cases hi : i ≤ l + q * 2 + 1
    · have hz : (i : Int) ≤ (l : Int) + (q : Int) * 2 + 1 := by omega
      go_wp2_with (go_at_call 163; refine (xor_any _ wr AX.out).mono ?_; rintro e w1 ⟨z, hz, rfl, X1⟩; have R1 := A.out.step X1.keep hsb (Nat.le_refl _); obtain ⟨G, HG, hcw, hfw⟩ := R1.fams hds; have A1 := Lib.hid R1; have AX1 := Lib.hid X1; clear A AX R1 X1; obtain ⟨y, hy, ey⟩ := and_some z (m - 1) hz (by omega); rw [show ((m - 1 : Nat) : Int) = (m : Int) - 1 by omega] at ey; have hy2 : y < 2 * n := by omega)
      · have hcnd : n ≤ y := by omega
        obtain ⟨v0, hv0⟩ := set_some (p := ⟨b, o + i, none⟩) (x := .int .u32 (G (l + (y - n)))) (hcw (l + (y - n)) (by omega))
        have A2 := Lib.hid (A1.out.swap (i := i) (j := l + (y - n)) (by omega) (by omega) (x := .int .u32 (G (l + (y - n)))) (y := .int .u32 (G i)) (by rw [HG.out]) (by rw [HG.out]))
        have AX2 := Lib.hid (AX1.out.kept (keep_swap (b := b) (i := o + i) (j := o + (l + (y - n))) (.int .u32 (G (l + (y - n)))) (.int .u32 (G i))) hsb)
        clear A1 AX1
        go_region
        go_wp2
        go_roundg (gk - 1)
        case measure => omega
        case rel =>
          refine ⟨i + 1, swp dk i (l + (y - n)), by simp, by omega, by omega, by omega, by rw [size_swp]; exact hds, permIn_trans d dk _ l h P.out (swp_permIn dk l h i (l + (y - n)) (by omega) (by omega) (by omega) (by omega) (by omega)), A2.out, AX2.out⟩
      · have hcnd : y < n := by omega
        obtain ⟨v0, hv0⟩ := set_some (p := ⟨b, o + i, none⟩) (x := .int .u32 (G (l + y))) (hcw (l + y) (by omega))
        have A2 := Lib.hid (A1.out.swap (i := i) (j := l + y) (by omega) (by omega) (x := .int .u32 (G (l + y))) (y := .int .u32 (G i)) (by rw [HG.out]) (by rw [HG.out]))
        have AX2 := Lib.hid (AX1.out.kept (keep_swap (b := b) (i := o + i) (j := o + (l + y)) (.int .u32 (G (l + y))) (.int .u32 (G i))) hsb)
        clear A1 AX1
        go_region
        go_wp2
        go_roundg (gk - 1)
        case measure => omega
        case rel =>
          refine ⟨i + 1, swp dk i (l + y), by simp, by omega, by omega, by omega, by rw [size_swp]; exact hds, permIn_trans d dk _ l h P.out (swp_permIn dk l h i (l + y) (by omega) (by omega) (by omega) (by omega) (by omega)), A2.out, AX2.out⟩
    · have hz : ¬ ((i : Int) ≤ (l : Int) + (q : Int) * 2 + 1) := by omega
      go_wp2
      go_end0
      exact ⟨rfl, dk, P.out, A.out⟩
end Go.Proofs.YtlcnefeikejcaaaGreatDoor
namespace Go.Proofs.YtlcnefeikejcaaaGreatDoor
open Go.RowKit Go.Sort
theorem sc_go {d : Array Int} {h i : Nat} (c : (decide (i < h) && !ltInt d[i]! d[i - 1]!) = true) : scanSorted ltInt d h i = scanSorted ltInt d h (i + 1) := by
  rw [scanSorted.eq_def ltInt d h i, if_pos c]
theorem sc_end {d : Array Int} {h i : Nat} (c : (decide (i < h) && !ltInt d[i]! d[i - 1]!) = false) : scanSorted ltInt d h i = i := by
  rw [scanSorted.eq_def ltInt d h i, if_neg (by simp [c])]
theorem sd_stop (j : Nat) (d : Array Int) (h : j = 0 ∨ ltInt d[j]! d[j - 1]! = false) : shiftDown ltInt j d = d := by
  rcases j with _ | k
  · rfl
  · rw [shiftDown, if_pos]
    rcases h with h | h
    · omega
    · simp only [Nat.add_sub_cancel] at h
      simp [h]
theorem sd_on (j : Nat) (d : Array Int) (hj : 1 ≤ j) (h : ltInt d[j]! d[j - 1]! = true) : shiftDown ltInt j d = shiftDown ltInt (j - 1) (swp d j (j - 1)) := by
  obtain ⟨k, rfl⟩ : ∃ k, j = k + 1 := ⟨j - 1, by omega⟩
  rw [shiftDown, if_neg]
  · rfl
  · simp only [Nat.add_sub_cancel] at h
    simp [h]
theorem su_stop (b j : Nat) (d : Array Int) (h : b ≤ j ∨ ltInt d[j]! d[j - 1]! = false) : shiftUp ltInt b j d = d := by
  rw [shiftUp.eq_def]
  rcases h with h | h
  · rw [if_neg (by omega)]
  · split
    · rw [if_pos (by simp [h])]
    · rfl
theorem su_on (b j : Nat) (d : Array Int) (hj : j < b) (h : ltInt d[j]! d[j - 1]! = true) : shiftUp ltInt b j d = shiftUp ltInt b (j + 1) (swp d j (j - 1)) := by
  rw [shiftUp.eq_def, if_pos hj, if_neg (by simp [h])]
theorem fd_on {l i : Nat} {d : Array Int} (h : 2 ≤ i - l) : fixDown ltInt l i d = shiftDown ltInt (i - 1) d := by rw [fixDown, if_pos h]
theorem fd_off {l i : Nat} {d : Array Int} (h : ¬ 2 ≤ i - l) : fixDown ltInt l i d = d := by rw [fixDown, if_neg h]
theorem fu_on {h i : Nat} {d : Array Int} (c : 2 ≤ h - i) : fixUp ltInt h i d = shiftUp ltInt h (i + 1) d := by rw [fixUp, if_pos c]
theorem fu_off {h i : Nat} {d : Array Int} (c : ¬ 2 ≤ h - i) : fixUp ltInt h i d = d := by rw [fixUp, if_neg c]
theorem size_sd (j : Nat) : ∀ (d : Array Int), (shiftDown ltInt j d).size = d.size := by
  induction j with
  | zero => intro d; rfl
  | succ j ih => intro d; rw [shiftDown]; split; rfl; rw [ih, size_swp]
theorem size_su (b : Nat) : ∀ (n j : Nat) (d : Array Int), b - j ≤ n → (shiftUp ltInt b j d).size = d.size := by
  intro n
  induction n with
  | zero => intro j d h; rw [su_stop b j d (.inl (by omega))]
  | succ n ih => intro j d h; rw [shiftUp.eq_def]; split; split; rfl; rw [ih _ _ (by omega), size_swp]; rfl
set_option maxHeartbeats 6400000 in
set_option maxRecDepth 1000000 in
theorem partial_core (b o cap : Nat) (d : Array Int) (l h : Nat) (w : World) (hH : Holds eU w b o d) (hab : l < h) (hb : h ≤ d.size) (hsz : d.size < 4611686018427387904) (S : Array Int × Bool) (HS : Hid (partialIns ltInt l h 5 (l + 1) d = S)) :
    Calls Tryz.prog 141 #[.slice (some ⟨b, o, none⟩) d.size cap, .int .i64 l, .int .i64 h] w fun e w' => e = .returned (.bool S.2) ∧ Rw w b o S.1 w' := by
  have R0 := Lib.hid (Rw.self hH)
  clear hH
  go_enter Tryz.func141, Tryz.ntmps141
  go_wp2
  go_loopg [7, 8] 5 (fun k s7 s8 wr => ∃ (i j : Nat) (dk : Array Int), s7 = .int .i64 i ∧ s8 = .int .i64 j ∧ l < i ∧ i ≤ h ∧ j + k = 5 ∧ dk.size = d.size ∧ Rw w b o dk wr ∧ Hid (partialIns ltInt l h k i dk = S))
  case atStart => exact ⟨l + 1, 0, d, by simp, rfl, by omega, by omega, by omega, rfl, R0.out, HS⟩
  case round =>
    clear HS R0
    obtain ⟨i, j, dk, rfl, rfl, h1, h2, hk, hds, R, HE⟩ := hrel
    have A := Lib.hid R
    clear R
    rcases gk with _ | k0
    · have hz : ¬ (j : Int) < 5 := by omega
      go_wp2
      go_ret
      rw [← HE.out]
      exact ⟨rfl, A.out⟩
    · have hz : (j : Int) < 5 := by omega
      go_wp2
      go_loopg [7] (h - i) (fun k s wq => ∃ (i' : Nat), s = .int .i64 i' ∧ i ≤ i' ∧ i' ≤ h ∧ h - i' ≤ k ∧ Rw w b o dk wq ∧ Hid (scanSorted ltInt dk h i' = scanSorted ltInt dk h i))
      case atStart => exact ⟨i, rfl, by omega, by omega, by omega, A.out, rfl⟩
      case round =>
        clear A
        obtain ⟨i1, rfl, u1, u2, u3, R1, HU⟩ := hrel
        obtain ⟨G, HG, hcw, hfw⟩ := R1.fams hds
        have A := Lib.hid R1
        obtain ⟨c, hc⟩ : ∃ c, c = (decide (i1 < h) && !ltInt (G i1) (G (i1 - 1))) := ⟨_, rfl⟩
        have HC := Lib.hid hc
        clear R1 hc hfw
        go_upto_region 5 with fail
        go_cut [32] from 17 to 34 (fun x wc => x = .bool c ∧ Rw w b o dk wc)
        case first =>
          by_cases hle : i1 < h
          · have hz2 : (i1 : Int) < (h : Int) := by omega
            have hd : decide (i1 < h) = true := decide_eq_true hle
            go_wp2_with fail
            go_big_quiet (first | (go_at_call 142; refine Calls.quiet_of_same (less_any _ _ _)))
            go_wp2_with fail
            go_meet
            exact ⟨by rw [HC.out, hd]; simp, A.out.drewN nq⟩
          · have hz2 : decide ((i1 : Int) < (h : Int)) = false := decide_eq_false (by omega)
            have hd : decide (i1 < h) = false := decide_eq_false hle
            go_wp2_with fail
            go_big_quiet (first | (go_at_call 142; refine Calls.quiet_of_same (less_any _ _ _)))
            go_wp2_with fail
            go_meet
            exact ⟨by rw [HC.out, hd]; simp, A.out.drewN nq⟩
        case rest =>
          clear A hcw
          obtain ⟨rfl, R2⟩ := hcut
          have A := Lib.hid R2
          clear R2
          have HC2 : Hid (c = (decide (i1 < h) && !ltInt dk[i1]! dk[i1 - 1]!)) := by
            refine HC.out.trans ?_
            simp only [HG.out]
          clear HC HG G
          cases c with
          | true =>
            have hle : i1 < h := by
              have := HC2.out
              simp at this
              exact this.1
            go_wp2
            go_roundg (h - (i1 + 1))
            case measure => omega
            case rel => exact ⟨i1 + 1, by simp, by omega, by omega, by omega, A.out, (sc_go HC2.out.symm).symm.trans HU.out⟩
          | false =>
            have HU2 : Hid (scanSorted ltInt dk h i = i1) := HU.out.symm.trans (sc_end HC2.out.symm)
            clear HU HC2
            have HE2 : Hid ((if i1 = h then (dk, true) else if h - l < 50 then (dk, false) else partialIns ltInt l h k0 i1 (fixUp ltInt h i1 (fixDown ltInt l i1 (swp dk i1 (i1 - 1))))) = S) := by
              have := HE.out
              rw [partialIns_succ, HU2.out] at this
              exact this
            clear HE HU2
            by_cases hend : i1 = h
            · have hz2 : (i1 : Int) = (h : Int) := by omega
              go_wp2
              go_ret
              rw [← HE2.out, if_pos hend]
              exact ⟨rfl, A.out⟩
            · have hz2 : ¬ (i1 : Int) = (h : Int) := by omega
              by_cases h50 : h - l < 50
              · have hz3 : (h : Int) - (l : Int) < 50 := by omega
                go_wp2
                go_ret
                rw [← HE2.out, if_neg hend, if_pos h50]
                exact ⟨rfl, A.out⟩
              · have hz3 : ¬ (h : Int) - (l : Int) < 50 := by omega
                obtain ⟨D1, hD1⟩ : ∃ D1, D1 = swp dk i1 (i1 - 1) := ⟨_, rfl⟩
                have HE3 : Hid (partialIns ltInt l h k0 i1 (fixUp ltInt h i1 (fixDown ltInt l i1 D1)) = S) := by
                  have := HE2.out
                  rw [if_neg hend, if_neg h50, ← hD1] at this
                  exact this
                clear HE2
                obtain ⟨G, HG, hcw, hfw⟩ := A.out.fams hds
                have A2 := Lib.hid (A.out.swap (i := i1) (j := i1 - 1) (by omega) (by omega) (x := .int .u32 (G (i1 - 1))) (y := .int .u32 (G i1)) (by rw [HG.out]) (by rw [HG.out]))
                rw [← hD1] at A2
                have hd1 : D1.size = d.size := by rw [hD1, size_swp]; exact hds
                clear A HG hD1
                go_wp2_with fail
                go_region
                clear hcw hfw
                generalize (World.setCell (World.setCell _ _ _) _ _).drew = w3 at A2 ⊢
                go_upto_if 61 with fail
                go_cut [9] from 13 to 132 (fun x wc => Rw w b o (fixDown ltInt l i1 D1) wc)
                case first =>
                  by_cases h2 : 2 ≤ i1 - l
                  · have hz4 : 2 ≤ (i1 : Int) - (l : Int) := by omega
                    have hb4 : decide (2 ≤ (i1 : Int) - (l : Int)) = true := decide_eq_true hz4
                    go_wp2
                    go_loopg [9] i1 (fun k s wq => ∃ (y : Nat) (dj : Array Int), s = .int .i64 y ∧ y < i1 ∧ y ≤ k ∧ dj.size = d.size ∧ Rw w b o dj wq ∧ Hid (shiftDown ltInt y dj = shiftDown ltInt (i1 - 1) D1))
                    case atStart => exact ⟨i1 - 1, D1, by congr 1; omega, by omega, by omega, hd1, A2.out, rfl⟩
                    case round =>
                      clear A2
                      obtain ⟨y, dj, rfl, y1, y2, hdj, R4, HD⟩ := hrel
                      obtain ⟨G, HG, hcw, hfw⟩ := R4.fams hdj
                      have A4 := Lib.hid R4
                      clear R4
                      by_cases hy : 1 ≤ y
                      · have hz5 : 1 ≤ (y : Int) := by omega
                        go_wp2_with fail
                        go_quiet (first | (go_at_call 142; refine Calls.quiet_of_same (less_any _ _ _)))
                        go_wp2_with fail
                        · have hL : ltInt (G y) (G (y - 1)) = false := by
                            have : (!ltInt (G y) (G (y - 1))) = true := by assumption
                            simpa using this
                          go_meet
                          rw [fd_on h2, ← HD.out, sd_stop y dj (.inr (by rw [← HG.out, ← HG.out]; exact hL))]
                          exact A4.out.drewN nq
                        · have hL : ltInt (G y) (G (y - 1)) = true := by
                            have : (!ltInt (G y) (G (y - 1))) = false := by assumption
                            simpa using this
                          have A5 := Lib.hid ((A4.out.drewN nq).swap (i := y) (j := y - 1) (by omega) (by omega) (x := .int .u32 (G (y - 1))) (y := .int .u32 (G y)) (by rw [HG.out]) (by rw [HG.out]))
                          have HD2 : Hid (shiftDown ltInt (y - 1) (swp dj y (y - 1)) = shiftDown ltInt (i1 - 1) D1) := by
                            rw [← HD.out, sd_on y dj hy (by rw [← HG.out, ← HG.out]; exact hL)]
                            exact rfl
                          clear A4 HD HG
                          go_region
                          go_wp2
                          go_roundg (y - 1)
                          case measure => omega
                          case rel => exact ⟨y - 1, swp dj y (y - 1), by congr 1; omega, by omega, by omega, by rw [size_swp]; exact hdj, A5.out, HD2⟩
                      · have hz5 : ¬ 1 ≤ (y : Int) := by omega
                        go_wp2
                        go_meet
                        rw [fd_on h2, ← HD.out, sd_stop y dj (.inl (by omega))]
                        exact A4.out
                  · have hz4 : ¬ 2 ≤ (i1 : Int) - (l : Int) := by omega
                    have hb4 : decide (2 ≤ (i1 : Int) - (l : Int)) = false := decide_eq_false hz4
                    go_wp2
                    go_meet
                    rw [fd_off h2]
                    exact A2.out
                case rest =>
                  clear A2
                  have A3 := Lib.hid hcut
                  clear hcut
                  obtain ⟨D2, hD2⟩ : ∃ D2, D2 = fixDown ltInt l i1 D1 := ⟨_, rfl⟩
                  rw [← hD2] at A3 HE3
                  have hd2 : D2.size = d.size := by
                    rw [hD2, fixDown]
                    split
                    · rw [size_sd]; exact hd1
                    · exact hd1
                  clear hD2 hd1 D1
                  go_upto_if 98 with fail
                  have hd3 : (fixUp ltInt h i1 D2).size = d.size := by
                    rw [fixUp]
                    split
                    · rw [size_su _ _ _ _ (Nat.le_refl _)]; exact hd2
                    · exact hd2
                  by_cases h2 : 2 ≤ h - i1
                  · have hz4 : 2 ≤ (h : Int) - (i1 : Int) := by omega
                    have hb4 : decide (2 ≤ (h : Int) - (i1 : Int)) = true := decide_eq_true hz4
                    go_wp2
                    go_loopg [10] h (fun k s wq => ∃ (y : Nat) (dj : Array Int), s = .int .i64 y ∧ i1 < y ∧ y ≤ h ∧ h - y ≤ k ∧ dj.size = d.size ∧ Rw w b o dj wq ∧ Hid (shiftUp ltInt h y dj = shiftUp ltInt h (i1 + 1) D2))
                    case atStart => exact ⟨i1 + 1, D2, by simp, by omega, by omega, by omega, hd2, A3.out, rfl⟩
                    case round =>
                      clear A3
                      obtain ⟨y, dj, rfl, y1, y2, y3, hdj, R4, HD⟩ := hrel
                      obtain ⟨G, HG, hcw, hfw⟩ := R4.fams hdj
                      have A4 := Lib.hid R4
                      clear R4
                      by_cases hy : y < h
                      · have hz5 : (y : Int) < (h : Int) := by omega
                        go_wp2_with fail
                        go_quiet (first | (go_at_call 142; refine Calls.quiet_of_same (less_any _ _ _)))
                        go_wp2_with fail
                        · have hL : ltInt (G y) (G (y - 1)) = false := by
                            have : (!ltInt (G y) (G (y - 1))) = true := by assumption
                            simpa using this
                          go_roundg k0
                          case measure => omega
                          case rel => exact ⟨i1, j + 1, fixUp ltInt h i1 D2, rfl, by simp, by omega, by omega, by omega, hd3, by (rw [fu_on h2, ← HD.out, su_stop h y dj (.inr (by rw [← HG.out, ← HG.out]; exact hL))]; exact A4.out.drewN nq), HE3⟩
                        · have hL : ltInt (G y) (G (y - 1)) = true := by
                            have : (!ltInt (G y) (G (y - 1))) = false := by assumption
                            simpa using this
                          have A5 := Lib.hid ((A4.out.drewN nq).swap (i := y) (j := y - 1) (by omega) (by omega) (x := .int .u32 (G (y - 1))) (y := .int .u32 (G y)) (by rw [HG.out]) (by rw [HG.out]))
                          have HD2 : Hid (shiftUp ltInt h (y + 1) (swp dj y (y - 1)) = shiftUp ltInt h (i1 + 1) D2) := by
                            rw [← HD.out, su_on h y dj hy (by rw [← HG.out, ← HG.out]; exact hL)]
                            exact rfl
                          clear A4 HD HG
                          go_region
                          go_wp2
                          go_roundg (h - (y + 1))
                          case measure => omega
                          case rel => exact ⟨y + 1, swp dj y (y - 1), by simp, by omega, by omega, by omega, by rw [size_swp]; exact hdj, A5.out, HD2⟩
                      · have hz5 : ¬ (y : Int) < (h : Int) := by omega
                        go_wp2
                        go_roundg k0
                        case measure => omega
                        case rel => exact ⟨i1, j + 1, fixUp ltInt h i1 D2, rfl, by simp, by omega, by omega, by omega, hd3, by (rw [fu_on h2, ← HD.out, su_stop h y dj (.inl (by omega))]; exact A4.out), HE3⟩
                  · have hz4 : ¬ 2 ≤ (h : Int) - (i1 : Int) := by omega
                    have hb4 : decide (2 ≤ (h : Int) - (i1 : Int)) = false := decide_eq_false hz4
                    go_wp2
                    go_roundg k0
                    case measure => omega
                    case rel => exact ⟨i1, j + 1, fixUp ltInt h i1 D2, rfl, by simp, by omega, by omega, by omega, hd3, by (rw [fu_off h2]; exact A3.out), HE3⟩
theorem partial_any (b o cap : Nat) (d : Array Int) (l h : Nat) (w : World) (hH : Holds eU w b o d) (hab : l < h) (hb : h ≤ d.size) (hsz : d.size < 4611686018427387904) :
    Calls Tryz.prog 141 #[.slice (some ⟨b, o, none⟩) d.size cap, .int .i64 l, .int .i64 h] w fun e w' => e = .returned (.bool (partialInsertionSort ltInt d l h).2) ∧ Rw w b o (partialInsertionSort ltInt d l h).1 w' :=
  partial_core b o cap d l h w hH hab hb hsz _ (Lib.hid rfl)
end Go.Proofs.YtlcnefeikejcaaaGreatDoor
namespace Go.Proofs.YtlcnefeikejcaaaGreatDoor
open Go.RowKit Go.Sort
def Left (l h : Nat) (d : Array Int) (a c : Nat) (dk : Array Int) : Prop := ∀ R, PermIn a c dk R → SortedIn ltInt a c R → PermIn l h d R ∧ SortedIn ltInt l h R
theorem Left.perm {l h a c : Nat} {d dk dm : Array Int} (L : Left l h d a c dk) (p : PermIn a c dk dm) : Left l h d a c dm := fun R q s => L R (permIn_trans _ _ _ _ _ p q) s
set_option maxHeartbeats 12800000 in
set_option maxRecDepth 1000000 in
theorem pdq_any : ∀ (n b o cap : Nat) (d : Array Int) (l h lim : Nat) (w : World) (_ : Holds eU w b o d) (_ : l ≤ h) (_ : h ≤ d.size) (_ : d.size < 65536) (_ : lim ≤ 64) (_ : h - l ≤ n) (_ : Go.Sort.Below ltInt l h d),
    Calls Tryz.prog 110 #[.slice (some ⟨b, o, none⟩) d.size cap, .int .i64 l, .int .i64 h, .int .i64 lim] w fun e w' =>
      e = .returned (.tuple #[]) ∧ ∃ d', PermIn l h d d' ∧ SortedIn ltInt l h d' ∧ Rw w b o d' w' := by
  intro n
  induction n using Nat.strongRecOn with
  | _ n ih =>
  intro b o cap d l h lim w hH hlh hb hsz hlim hn hB
  have IH := Lib.hid ih
  have R0 := Lib.hid (Rw.self hH)
  have B0 := Lib.hid hB
  clear ih hH hB
  go_enter Tryz.func110, Tryz.ntmps110
  go_wp2
  go_loopg [1, 2, 3, 8, 9] (h - l) (fun k s1 s2 s3 s8 s9 wr => ∃ (a c lim : Nat) (wb wp : Bool) (dk : Array Int), s1 = .int .i64 a ∧ s2 = .int .i64 c ∧ s3 = .int .i64 lim ∧ s8 = .bool wb ∧ s9 = .bool wp ∧ l ≤ a ∧ a ≤ c ∧ c ≤ h ∧ c - a ≤ k ∧ lim ≤ 64 ∧ dk.size = d.size ∧ Rw w b o dk wr ∧ Hid (Go.Sort.Below ltInt a c dk) ∧ Hid (Left l h d a c dk))
  case atStart => exact ⟨l, h, lim, true, true, d, rfl, rfl, rfl, rfl, rfl, by omega, hlh, by omega, by omega, hlim, rfl, R0.out, B0, fun R p s => ⟨p, s⟩⟩
  case round =>
    clear R0 B0 hlim hlh
    obtain ⟨a, c, lim, wb, wp, dk, rfl, rfl, rfl, rfl, rfl, hla, hac, hch, hk, hlim, hds, R, HB, HL⟩ := hrel
    have A := Lib.hid R
    clear R
    by_cases hsm : c - a ≤ 12
    · have hz : (c : Int) - (a : Int) ≤ 12 := by omega
      have C := insert_any b o cap dk a c wr A.out.there hac (by omega) (by omega)
      rw [hds] at C
      have C := Lib.hid C
      go_wp2_with (go_at_call 136; refine C.out.mono ?_; rintro e w1 ⟨rfl, R1⟩)
      (try simp only [Exit.inBlock, Exit.then]); refine bodyPost_ret (results_none rfl _ _ _) rfl ?_
      obtain ⟨p, s⟩ := insertionSort_holds swo dk a c hac (by omega)
      obtain ⟨p2, s2⟩ := HL.out _ p s
      exact ⟨rfl, _, p2, s2, A.out.trans R1⟩
    · have hz : ¬ ((c : Int) - (a : Int) ≤ 12) := by omega
      by_cases hl0 : lim = 0
      · have hz2 : (lim : Int) = 0 := by omega
        have C := heap_any b o cap dk a c wr A.out.there (by omega) (by omega) (by omega)
        rw [hds] at C
        have C := Lib.hid C
        go_wp2_with (go_at_call 137; refine C.out.mono ?_; rintro e w1 ⟨rfl, R1⟩)
        (try simp only [Exit.inBlock, Exit.then]); refine bodyPost_ret (results_none rfl _ _ _) rfl ?_
        obtain ⟨p, s⟩ := heapSort_holds swo dk a c hac (by omega)
        obtain ⟨p2, s2⟩ := HL.out _ p s
        exact ⟨rfl, _, p2, s2, A.out.trans R1⟩
      · have hz2 : ¬ ((lim : Int) = 0) := by omega
        go_upto_if 35 with fail
        go_cut [3] from 19 to 133 (fun x wc => ∃ (lim1 : Nat) (d1 : Array Int), x = .int .i64 lim1 ∧ lim1 ≤ 64 ∧ Hid (PermIn a c dk d1) ∧ Rw w b o d1 wc)
        case first =>
          have C := break_any b o cap dk a c wr A.out.there (by omega) (by omega) (by omega)
          rw [hds] at C
          have C := Lib.hid C
          cases wb with
          | false =>
            go_wp2_with (go_at_call 138; refine C.out.mono ?_; rintro e w1 ⟨rfl, d1, P1, R1⟩)
            go_meet
            exact ⟨lim - 1, d1, by congr 1; omega, by omega, P1, A.out.trans R1⟩
          | true =>
            go_wp2
            go_meet
            exact ⟨lim, dk, rfl, hlim, permIn_refl dk a c, A.out⟩
        case rest =>
          clear A
          obtain ⟨lim1, d1, rfl, hlim1, P1, R1⟩ := hcut
          have A := Lib.hid R1
          have hd1 : d1.size = d.size := P1.out.1.trans hds
          have HL1 := Lib.hid (HL.out.perm P1.out)
          have HB1 := Lib.hid (HB.out.perm (by omega) P1.out)
          clear R1 HL HB P1 hds dk hlim hl0 hz2
          have C := pivot_any b o cap d1 a c wc A.out.there (by omega) (by omega) (by omega)
          rw [hd1] at C
          have C := Lib.hid C
          go_upto_region 11 with (go_at_call 139; refine C.out.mono ?_; rintro e w1 ⟨p, t, rfl, hp1, hp2, k1⟩)
          have A1 := Lib.hid (A.out.below k1)
          clear A C k1
          go_upto_if 50 with fail
          go_cut [11, 12] from 19 to 133 (fun x y wc => ∃ (p1 : Nat) (t1 : Int) (d2 : Array Int), x = .int .i64 p1 ∧ y = .int .i64 t1 ∧ a ≤ p1 ∧ p1 < c ∧ Hid (PermIn a c d1 d2) ∧ Rw w b o d2 wc)
          case first =>
            have C := reverse_any b o cap d1 a c w1 A1.out.there (by omega) (by omega) (by omega)
            rw [hd1] at C
            have C := Lib.hid C
            by_cases ht : t = 2
            · subst ht
              go_wp2_with (go_at_call 140; refine C.out.mono ?_; rintro e w2 ⟨rfl, R1⟩)
              go_meet
              exact ⟨c - 1 - (p - a), 1, reverseRange d1 a c, by congr 1; omega, rfl, by omega, by omega, reverseRange_holds d1 a c hac (by omega), A1.out.trans R1⟩
            · go_wp2
              go_meet
              exact ⟨p, t, d1, rfl, rfl, hp1, hp2, permIn_refl d1 a c, A1.out⟩
          case rest =>
            clear A1 hp1 hp2 p t
            obtain ⟨p, t, d2, rfl, rfl, hp1, hp2, P1, R1⟩ := hcut
            have A := Lib.hid R1
            have hd2 : d2.size = d.size := P1.out.1.trans hd1
            have HL2 := Lib.hid (HL1.out.perm P1.out)
            have HB2 := Lib.hid (HB1.out.perm (by omega) P1.out)
            clear R1 HL1 HB1 P1 hd1 d1
            go_upto_region 15 with fail
            go_cut [68] from 19 to 133 (fun x wc => (∃ z : Bool, x = .bool z) ∧ Rw w b o d2 wc)
            case first =>
              cases wb
              · go_wp2
                go_meet
                exact ⟨⟨_, rfl⟩, A.out⟩
              · cases wp
                · go_wp2
                  go_meet
                  exact ⟨⟨_, rfl⟩, A.out⟩
                · go_wp2
                  go_meet
                  exact ⟨⟨_, rfl⟩, A.out⟩
            case rest =>
              clear A
              obtain ⟨⟨z, rfl⟩, R1⟩ := hcut
              have A := Lib.hid R1
              clear R1
              go_upto_if 68 with fail
              go_cut [] from 19 to 133 (fun wc => ∃ d3 : Array Int, Hid (PermIn a c d2 d3) ∧ Rw w b o d3 wc)
              case first =>
                cases z with
                | false =>
                  go_wp2
                  go_meet
                  exact ⟨d2, permIn_refl d2 a c, A.out⟩
                | true =>
                  have C := partial_any b o cap d2 a c wc A.out.there (by omega) (by omega) (by omega)
                  rw [hd2] at C
                  obtain ⟨PP, PS⟩ := partialInsertionSort_holds swo d2 a c (by omega) (by omega) HB2.out
                  generalize hZ : partialInsertionSort ltInt d2 a c = Z at C PP PS
                  obtain ⟨d3, f⟩ := Z
                  have C := Lib.hid C
                  have PP := Lib.hid PP
                  have PS := Lib.hid PS
                  clear hZ
                  cases f with
                  | true =>
                    go_wp2_with (go_at_call 141; refine C.out.mono ?_; rintro e w2 ⟨rfl, R1⟩)
                    (try simp only [Exit.inBlock, Exit.then]); refine bodyPost_ret (results_none rfl _ _ _) rfl ?_
                    obtain ⟨p2, s2⟩ := HL2.out _ PP.out (PS.out (by first | rfl | trivial))
                    exact ⟨rfl, _, p2, s2, A.out.trans R1⟩
                  | false =>
                    go_wp2_with (go_at_call 141; refine C.out.mono ?_; rintro e w2 ⟨rfl, R1⟩)
                    go_meet
                    exact ⟨d3, PP.out, A.out.trans R1⟩
              case rest =>
                clear A
                obtain ⟨d3, P1, R1⟩ := hcut
                have A := Lib.hid R1
                have hd3 : d3.size = d.size := P1.out.1.trans hd2
                have HL3 := Lib.hid (HL2.out.perm P1.out)
                have HB3 := Lib.hid (HB2.out.perm (by omega) P1.out)
                clear R1 HL2 HB2 P1 hd2 d2
                obtain ⟨G, HG, hcw, hfw⟩ := A.out.fams hd3
                obtain ⟨f, hf⟩ : ∃ f, f = (decide (0 < a) && !ltInt (G (a - 1)) (G p)) := ⟨_, rfl⟩
                have HF := Lib.hid hf
                clear hf hfw
                go_upto_region 17 with fail
                go_cut [87] from 19 to 133 (fun x wc => x = .bool f ∧ Rw w b o d3 wc)
                case first =>
                  by_cases ha0 : 0 < a
                  · have hz4 : 0 < (a : Int) := by omega
                    have hd : decide (0 < a) = true := decide_eq_true ha0
                    go_wp2_with fail
                    go_big_quiet (first | (go_at_call 142; refine Calls.quiet_of_same (less_any _ _ _)))
                    go_wp2_with fail
                    go_meet
                    exact ⟨by rw [HF.out, hd]; simp, A.out.drewN nq⟩
                  · have hz4 : decide (0 < (a : Int)) = false := decide_eq_false (by omega)
                    have hd : decide (0 < a) = false := decide_eq_false ha0
                    go_wp2_with fail
                    go_big_quiet (first | (go_at_call 142; refine Calls.quiet_of_same (less_any _ _ _)))
                    go_wp2_with fail
                    go_meet
                    exact ⟨by rw [HF.out, hd]; simp, A.out.drewN nq⟩
                case rest =>
                  clear A hcw
                  obtain ⟨rfl, R1⟩ := hcut
                  have A := Lib.hid R1
                  clear R1
                  have HF2 : Hid (f = (decide (0 < a) && !ltInt d3[a - 1]! d3[p]!)) := by
                    refine HF.out.trans ?_
                    simp only [HG.out]
                  clear HF HG G
                  cases f with
                  | true =>
                    obtain ⟨ha0, hnl⟩ : 0 < a ∧ ltInt d3[a - 1]! d3[p]! = false := by
                      have := HF2.out
                      simp at this
                      exact this
                    obtain ⟨⟨mid, d4⟩, hZ⟩ : ∃ Z, partitionEqual ltInt d3 a c p = Z := ⟨_, rfl⟩
                    obtain ⟨m1, m2, m3, m4, m5⟩ := round_eq swo (partitionEqual_holds ltInt) ha0 hp1 hp2 (by omega) HB3.out hnl hZ
                    have C := parteq_any b o cap d3 a c p wc A.out.there hp1 hp2 (by omega) (by omega)
                    rw [hd3, hZ] at C
                    have C := Lib.hid C
                    have M4 := Lib.hid m4
                    have M5 := Lib.hid m5
                    clear m4 m5 hZ hnl HF2
                    go_wp2_with (go_at_call 143; refine C.out.mono ?_; rintro e w2 ⟨rfl, R1⟩)
                    go_roundg (c - mid)
                    case measure => omega
                    case rel => exact ⟨mid, c, lim1, wb, wp, d4, rfl, rfl, rfl, rfl, rfl, by omega, m2, hch, by omega, hlim1, m3.trans hd3, A.out.trans R1, M4.out, fun R q s => HL3.out R (M5.out R q s).1 (M5.out R q s).2⟩
                  | false =>
                    clear HF2
                    obtain ⟨⟨mid, ap, d4⟩, hZ⟩ : ∃ Z, partition ltInt d3 a c p = Z := ⟨_, rfl⟩
                    obtain ⟨m1, m2, m3, mB1, mB2, mL, mR⟩ := round_part swo (partition_holds ltInt) hp1 hp2 (by omega) HB3.out hZ
                    have C := part_any b o cap d3 a c p wc A.out.there hp1 hp2 (by omega) (by omega)
                    rw [hd3, hZ] at C
                    have C := Lib.hid C
                    have MB1 := Lib.hid mB1
                    have MB2 := Lib.hid mB2
                    have ML := Lib.hid mL
                    have MR := Lib.hid mR
                    have hd4 : d4.size = d.size := m3.trans hd3
                    have e8 : Int.tdiv ((c : Int) - (a : Int)) 8 = (((c - a) / 8 : Nat) : Int) := by
                      rw [show (c : Int) - (a : Int) = ((c - a : Nat) : Int) by omega]
                      rfl
                    generalize (c - a) / 8 = thr at e8
                    clear mB1 mB2 mL mR hZ HB3
                    by_cases hleft : mid - a < c - mid
                    · have hz5 : (mid : Int) - (a : Int) < (c : Int) - (mid : Int) := by omega
                      go_upto_region 26 with (go_at_call 144; refine C.out.mono ?_; rintro e w2 ⟨f, rfl, R1⟩)
                      have A1 := Lib.hid (A.out.trans R1)
                      clear A R1 C
                      have C := IH.out (mid - a) (by omega) b o cap d4 a mid lim1 w2 A1.out.there m1 (by omega) (by omega) hlim1 (by omega) MB1.out
                      rw [hd4] at C
                      have C := Lib.hid C
                      go_wp2_with (go_at_call 110; refine C.out.mono ?_; rintro e w3 ⟨rfl, d5, p5, s5, R5⟩)
                      go_roundg (c - (mid + 1))
                      case measure => omega
                      case rel =>
                        obtain ⟨q1, q2⟩ := ML.out d5 p5 s5
                        exact ⟨mid + 1, c, lim1, _, f, d5, by simp, rfl, rfl, rfl, rfl, by omega, by omega, hch, by omega, hlim1, p5.1.trans hd4, A1.out.trans R5, q1, fun R q s => HL3.out R (q2 R q s).1 (q2 R q s).2⟩
                    · have hz5 : ¬ ((mid : Int) - (a : Int) < (c : Int) - (mid : Int)) := by omega
                      go_upto_region 29 with (go_at_call 144; refine C.out.mono ?_; rintro e w2 ⟨f, rfl, R1⟩)
                      have A1 := Lib.hid (A.out.trans R1)
                      clear A R1 C
                      have C := IH.out (c - (mid + 1)) (by omega) b o cap d4 (mid + 1) c lim1 w2 A1.out.there (by omega) (by omega) (by omega) hlim1 (by omega) MB2.out
                      rw [hd4, show ((mid + 1 : Nat) : Int) = (mid : Int) + 1 by omega] at C
                      have C := Lib.hid C
                      go_wp2_with (go_at_call 110; refine C.out.mono ?_; rintro e w3 ⟨rfl, d5, p5, s5, R5⟩)
                      go_roundg (mid - a)
                      case measure => omega
                      case rel =>
                        obtain ⟨q1, q2⟩ := MR.out d5 p5 s5
                        exact ⟨a, mid, lim1, _, f, d5, rfl, rfl, rfl, rfl, rfl, hla, by omega, by omega, by omega, hlim1, p5.1.trans hd4, A1.out.trans R5, q1, fun R q s => HL3.out R (q2 R q s).1 (q2 R q s).2⟩
theorem sort_any (b o cap : Nat) (d : Array Int) (w : World) (hH : Holds eU w b o d) (hsz : d.size < 65536) :
    Calls Tryz.prog 109 #[.slice (some ⟨b, o, none⟩) d.size cap] w fun e w' =>
      e = .returned (.tuple #[]) ∧ ∃ d', PermIn 0 d.size d d' ∧ SortedIn ltInt 0 d.size d' ∧ Rw w b o d' w' := by
  have C1 := len_any d.size hsz w
  have h16 := len_16 d.size hsz
  generalize Lib.bitLen d.size = L at C1 h16
  have C2 := Lib.hid (pdq_any d.size b o cap d 0 d.size L w hH (Nat.zero_le _) (Nat.le_refl _) hsz (by omega) (by omega) (.inl rfl))
  go_enter Tryz.func109, Tryz.ntmps109
  go_wp2_with (first
    | (go_at_call 111; refine C1.mono ?_; rintro e w1 ⟨rfl, rfl⟩)
    | (go_at_call 110; refine C2.out.mono ?_; rintro e w1 ⟨rfl, d', p, s, R⟩))
  go_end0
  exact ⟨rfl, d', p, s, R⟩
end Go.Proofs.YtlcnefeikejcaaaGreatDoor
