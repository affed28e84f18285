/- The library's sort at uint32: a part that is nearly in order. -/
import Derived.Test.YtmjjkoiepoblmaaSp
namespace Go.Proofs.Ytmjjkoiepoblmaa
open Go.RowKit Go.Sort

theorem sc_go {d : Array Int} {h i : Nat} (c : (decide (i < h) && !ltInt d[i]! d[i - 1]!) = true) : scanSorted ltInt d h i = scanSorted ltInt d h (i + 1) := by
  rw [scanSorted.eq_def ltInt d h i, if_pos c]
theorem sc_end {d : Array Int} {h i : Nat} (c : (decide (i < h) && !ltInt d[i]! d[i - 1]!) = false) : scanSorted ltInt d h i = i := by
  rw [scanSorted.eq_def ltInt d h i, if_neg (by simp [c])]
theorem sd_stop (j : Nat) (d : Array Int) (h : j = 0 ∨ ltInt d[j]! d[j - 1]! = false) : shiftDown ltInt j d = d := by
  rcases j with _ | k
  · rfl
  · rw [shiftDown, if_pos]
    rcases h with h | h
    · omega
    · simp only [Nat.add_sub_cancel] at h
      simp [h]
theorem sd_on (j : Nat) (d : Array Int) (hj : 1 ≤ j) (h : ltInt d[j]! d[j - 1]! = true) : shiftDown ltInt j d = shiftDown ltInt (j - 1) (swp d j (j - 1)) := by
  obtain ⟨k, rfl⟩ : ∃ k, j = k + 1 := ⟨j - 1, by omega⟩
  rw [shiftDown, if_neg]
  · rfl
  · simp only [Nat.add_sub_cancel] at h
    simp [h]
theorem su_stop (b j : Nat) (d : Array Int) (h : b ≤ j ∨ ltInt d[j]! d[j - 1]! = false) : shiftUp ltInt b j d = d := by
  rw [shiftUp.eq_def]
  rcases h with h | h
  · rw [if_neg (by omega)]
  · split
    · rw [if_pos (by simp [h])]
    · rfl
theorem su_on (b j : Nat) (d : Array Int) (hj : j < b) (h : ltInt d[j]! d[j - 1]! = true) : shiftUp ltInt b j d = shiftUp ltInt b (j + 1) (swp d j (j - 1)) := by
  rw [shiftUp.eq_def, if_pos hj, if_neg (by simp [h])]
theorem fd_on {l i : Nat} {d : Array Int} (h : 2 ≤ i - l) : fixDown ltInt l i d = shiftDown ltInt (i - 1) d := by rw [fixDown, if_pos h]
theorem fd_off {l i : Nat} {d : Array Int} (h : ¬ 2 ≤ i - l) : fixDown ltInt l i d = d := by rw [fixDown, if_neg h]
theorem fu_on {h i : Nat} {d : Array Int} (c : 2 ≤ h - i) : fixUp ltInt h i d = shiftUp ltInt h (i + 1) d := by rw [fixUp, if_pos c]
theorem fu_off {h i : Nat} {d : Array Int} (c : ¬ 2 ≤ h - i) : fixUp ltInt h i d = d := by rw [fixUp, if_neg c]
theorem size_sd (j : Nat) : ∀ (d : Array Int), (shiftDown ltInt j d).size = d.size := by
  induction j with
  | zero => intro d; rfl
  | succ j ih => intro d; rw [shiftDown]; split; rfl; rw [ih, size_swp]
theorem size_su (b : Nat) : ∀ (n j : Nat) (d : Array Int), b - j ≤ n → (shiftUp ltInt b j d).size = d.size := by
  intro n
  induction n with
  | zero => intro j d h; rw [su_stop b j d (.inl (by omega))]
  | succ n ih => intro j d h; rw [shiftUp.eq_def]; split; split; rfl; rw [ih _ _ (by omega), size_swp]; rfl

set_option maxHeartbeats 6400000 in
set_option maxRecDepth 1000000 in
theorem partial_core (b o cap : Nat) (d : Array Int) (l h : Nat) (w : World) (hH : Holds eU w b o d) (hab : l < h) (hb : h ≤ d.size) (hsz : d.size < 4611686018427387904) (S : Array Int × Bool) (HS : Hid (partialIns ltInt l h 5 (l + 1) d = S)) :
    Calls Try.prog 34 #[.slice (some ⟨b, o, none⟩) d.size cap, .int .i64 l, .int .i64 h] w fun e w' => e = .returned (.bool S.2) ∧ Rw w b o S.1 w' := by
  have R0 := Lib.hid (Rw.self hH)
  clear hH
  go_enter Try.func34, Try.ntmps34
  go_wp2
  go_loopg [7, 8] 5 (fun k s7 s8 wr => ∃ (i j : Nat) (dk : Array Int), s7 = .int .i64 i ∧ s8 = .int .i64 j ∧ l < i ∧ i ≤ h ∧ j + k = 5 ∧ dk.size = d.size ∧ Rw w b o dk wr ∧ Hid (partialIns ltInt l h k i dk = S))
  case atStart => exact ⟨l + 1, 0, d, by simp, rfl, by omega, by omega, by omega, rfl, R0.out, HS⟩
  case round =>
    clear HS R0
    obtain ⟨i, j, dk, rfl, rfl, h1, h2, hk, hds, R, HE⟩ := hrel
    have A := Lib.hid R
    clear R
    rcases gk with _ | k0
    · have hz : ¬ (j : Int) < 5 := by omega
      go_wp2
      go_ret
      rw [← HE.out]
      exact ⟨rfl, A.out⟩
    · have hz : (j : Int) < 5 := by omega
      go_wp2
      go_loopg [7] (h - i) (fun k s wq => ∃ (i' : Nat), s = .int .i64 i' ∧ i ≤ i' ∧ i' ≤ h ∧ h - i' ≤ k ∧ Rw w b o dk wq ∧ Hid (scanSorted ltInt dk h i' = scanSorted ltInt dk h i))
      case atStart => exact ⟨i, rfl, by omega, by omega, by omega, A.out, rfl⟩
      case round =>
        clear A
        obtain ⟨i1, rfl, u1, u2, u3, R1, HU⟩ := hrel
        obtain ⟨G, HG, hcw, hfw⟩ := R1.fams hds
        have A := Lib.hid R1
        obtain ⟨c, hc⟩ : ∃ c, c = (decide (i1 < h) && !ltInt (G i1) (G (i1 - 1))) := ⟨_, rfl⟩
        have HC := Lib.hid hc
        clear R1 hc hfw
        go_upto_region 5 with fail
        go_cut [32] from 17 to 34 (fun x wc => x = .bool c ∧ Rw w b o dk wc)
        case first =>
          by_cases hle : i1 < h
          · have hz2 : (i1 : Int) < (h : Int) := by omega
            have hd : decide (i1 < h) = true := decide_eq_true hle
            go_wp2_with fail
            go_big_quiet (first | (go_at_call 35; refine Calls.quiet_of_same (less_any _ _ _)))
            go_wp2_with fail
            go_meet
            exact ⟨by rw [HC.out, hd]; simp, A.out.drewN nq⟩
          · have hz2 : decide ((i1 : Int) < (h : Int)) = false := decide_eq_false (by omega)
            have hd : decide (i1 < h) = false := decide_eq_false hle
            go_wp2_with fail
            go_big_quiet (first | (go_at_call 35; refine Calls.quiet_of_same (less_any _ _ _)))
            go_wp2_with fail
            go_meet
            exact ⟨by rw [HC.out, hd]; simp, A.out.drewN nq⟩
        case rest =>
          clear A hcw
          obtain ⟨rfl, R2⟩ := hcut
          have A := Lib.hid R2
          clear R2
          have HC2 : Hid (c = (decide (i1 < h) && !ltInt dk[i1]! dk[i1 - 1]!)) := by
            refine HC.out.trans ?_
            simp only [HG.out]
          clear HC HG G
          cases c with
          | true =>
            have hle : i1 < h := by
              have := HC2.out
              simp at this
              exact this.1
            go_wp2
            go_roundg (h - (i1 + 1))
            case measure => omega
            case rel => exact ⟨i1 + 1, by simp, by omega, by omega, by omega, A.out, (sc_go HC2.out.symm).symm.trans HU.out⟩
          | false =>
            have HU2 : Hid (scanSorted ltInt dk h i = i1) := HU.out.symm.trans (sc_end HC2.out.symm)
            clear HU HC2
            have HE2 : Hid ((if i1 = h then (dk, true) else if h - l < 50 then (dk, false) else partialIns ltInt l h k0 i1 (fixUp ltInt h i1 (fixDown ltInt l i1 (swp dk i1 (i1 - 1))))) = S) := by
              have := HE.out
              rw [partialIns_succ, HU2.out] at this
              exact this
            clear HE HU2
            by_cases hend : i1 = h
            · have hz2 : (i1 : Int) = (h : Int) := by omega
              go_wp2
              go_ret
              rw [← HE2.out, if_pos hend]
              exact ⟨rfl, A.out⟩
            · have hz2 : ¬ (i1 : Int) = (h : Int) := by omega
              by_cases h50 : h - l < 50
              · have hz3 : (h : Int) - (l : Int) < 50 := by omega
                go_wp2
                go_ret
                rw [← HE2.out, if_neg hend, if_pos h50]
                exact ⟨rfl, A.out⟩
              · have hz3 : ¬ (h : Int) - (l : Int) < 50 := by omega
                obtain ⟨D1, hD1⟩ : ∃ D1, D1 = swp dk i1 (i1 - 1) := ⟨_, rfl⟩
                have HE3 : Hid (partialIns ltInt l h k0 i1 (fixUp ltInt h i1 (fixDown ltInt l i1 D1)) = S) := by
                  have := HE2.out
                  rw [if_neg hend, if_neg h50, ← hD1] at this
                  exact this
                clear HE2
                obtain ⟨G, HG, hcw, hfw⟩ := A.out.fams hds
                have A2 := Lib.hid (A.out.swap (i := i1) (j := i1 - 1) (by omega) (by omega) (x := .int .u32 (G (i1 - 1))) (y := .int .u32 (G i1)) (by rw [HG.out]) (by rw [HG.out]))
                rw [← hD1] at A2
                have hd1 : D1.size = d.size := by rw [hD1, size_swp]; exact hds
                clear A HG hD1
                go_wp2_with fail
                go_region
                clear hcw hfw
                generalize (World.setCell (World.setCell _ _ _) _ _).drew = w3 at A2 ⊢
                go_upto_if 61 with fail
                go_cut [9] from 13 to 132 (fun x wc => Rw w b o (fixDown ltInt l i1 D1) wc)
                case first =>
                  by_cases h2 : 2 ≤ i1 - l
                  · have hz4 : 2 ≤ (i1 : Int) - (l : Int) := by omega
                    have hb4 : decide (2 ≤ (i1 : Int) - (l : Int)) = true := decide_eq_true hz4
                    go_wp2
                    go_loopg [9] i1 (fun k s wq => ∃ (y : Nat) (dj : Array Int), s = .int .i64 y ∧ y < i1 ∧ y ≤ k ∧ dj.size = d.size ∧ Rw w b o dj wq ∧ Hid (shiftDown ltInt y dj = shiftDown ltInt (i1 - 1) D1))
                    case atStart => exact ⟨i1 - 1, D1, by congr 1; omega, by omega, by omega, hd1, A2.out, rfl⟩
                    case round =>
                      clear A2
                      obtain ⟨y, dj, rfl, y1, y2, hdj, R4, HD⟩ := hrel
                      obtain ⟨G, HG, hcw, hfw⟩ := R4.fams hdj
                      have A4 := Lib.hid R4
                      clear R4
                      by_cases hy : 1 ≤ y
                      · have hz5 : 1 ≤ (y : Int) := by omega
                        go_wp2_with fail
                        go_quiet (first | (go_at_call 35; refine Calls.quiet_of_same (less_any _ _ _)))
                        go_wp2_with fail
                        · have hL : ltInt (G y) (G (y - 1)) = false := by
                            have : (!ltInt (G y) (G (y - 1))) = true := by assumption
                            simpa using this
                          go_meet
                          rw [fd_on h2, ← HD.out, sd_stop y dj (.inr (by rw [← HG.out, ← HG.out]; exact hL))]
                          exact A4.out.drewN nq
                        · have hL : ltInt (G y) (G (y - 1)) = true := by
                            have : (!ltInt (G y) (G (y - 1))) = false := by assumption
                            simpa using this
                          have A5 := Lib.hid ((A4.out.drewN nq).swap (i := y) (j := y - 1) (by omega) (by omega) (x := .int .u32 (G (y - 1))) (y := .int .u32 (G y)) (by rw [HG.out]) (by rw [HG.out]))
                          have HD2 : Hid (shiftDown ltInt (y - 1) (swp dj y (y - 1)) = shiftDown ltInt (i1 - 1) D1) := by
                            rw [← HD.out, sd_on y dj hy (by rw [← HG.out, ← HG.out]; exact hL)]
                            exact rfl
                          clear A4 HD HG
                          go_region
                          go_wp2
                          go_roundg (y - 1)
                          case measure => omega
                          case rel => exact ⟨y - 1, swp dj y (y - 1), by congr 1; omega, by omega, by omega, by rw [size_swp]; exact hdj, A5.out, HD2⟩
                      · have hz5 : ¬ 1 ≤ (y : Int) := by omega
                        go_wp2
                        go_meet
                        rw [fd_on h2, ← HD.out, sd_stop y dj (.inl (by omega))]
                        exact A4.out
                  · have hz4 : ¬ 2 ≤ (i1 : Int) - (l : Int) := by omega
                    have hb4 : decide (2 ≤ (i1 : Int) - (l : Int)) = false := decide_eq_false hz4
                    go_wp2
                    go_meet
                    rw [fd_off h2]
                    exact A2.out
                case rest =>
                  clear A2
                  have A3 := Lib.hid hcut
                  clear hcut
                  obtain ⟨D2, hD2⟩ : ∃ D2, D2 = fixDown ltInt l i1 D1 := ⟨_, rfl⟩
                  rw [← hD2] at A3 HE3
                  have hd2 : D2.size = d.size := by
                    rw [hD2, fixDown]
                    split
                    · rw [size_sd]; exact hd1
                    · exact hd1
                  clear hD2 hd1 D1
                  go_upto_if 98 with fail
                  have hd3 : (fixUp ltInt h i1 D2).size = d.size := by
                    rw [fixUp]
                    split
                    · rw [size_su _ _ _ _ (Nat.le_refl _)]; exact hd2
                    · exact hd2
                  by_cases h2 : 2 ≤ h - i1
                  · have hz4 : 2 ≤ (h : Int) - (i1 : Int) := by omega
                    have hb4 : decide (2 ≤ (h : Int) - (i1 : Int)) = true := decide_eq_true hz4
                    go_wp2
                    go_loopg [10] h (fun k s wq => ∃ (y : Nat) (dj : Array Int), s = .int .i64 y ∧ i1 < y ∧ y ≤ h ∧ h - y ≤ k ∧ dj.size = d.size ∧ Rw w b o dj wq ∧ Hid (shiftUp ltInt h y dj = shiftUp ltInt h (i1 + 1) D2))
                    case atStart => exact ⟨i1 + 1, D2, by simp, by omega, by omega, by omega, hd2, A3.out, rfl⟩
                    case round =>
                      clear A3
                      obtain ⟨y, dj, rfl, y1, y2, y3, hdj, R4, HD⟩ := hrel
                      obtain ⟨G, HG, hcw, hfw⟩ := R4.fams hdj
                      have A4 := Lib.hid R4
                      clear R4
                      by_cases hy : y < h
                      · have hz5 : (y : Int) < (h : Int) := by omega
                        go_wp2_with fail
                        go_quiet (first | (go_at_call 35; refine Calls.quiet_of_same (less_any _ _ _)))
                        go_wp2_with fail
                        · have hL : ltInt (G y) (G (y - 1)) = false := by
                            have : (!ltInt (G y) (G (y - 1))) = true := by assumption
                            simpa using this
                          go_roundg k0
                          case measure => omega
                          case rel => exact ⟨i1, j + 1, fixUp ltInt h i1 D2, rfl, by simp, by omega, by omega, by omega, hd3, by (rw [fu_on h2, ← HD.out, su_stop h y dj (.inr (by rw [← HG.out, ← HG.out]; exact hL))]; exact A4.out.drewN nq), HE3⟩
                        · have hL : ltInt (G y) (G (y - 1)) = true := by
                            have : (!ltInt (G y) (G (y - 1))) = false := by assumption
                            simpa using this
                          have A5 := Lib.hid ((A4.out.drewN nq).swap (i := y) (j := y - 1) (by omega) (by omega) (x := .int .u32 (G (y - 1))) (y := .int .u32 (G y)) (by rw [HG.out]) (by rw [HG.out]))
                          have HD2 : Hid (shiftUp ltInt h (y + 1) (swp dj y (y - 1)) = shiftUp ltInt h (i1 + 1) D2) := by
                            rw [← HD.out, su_on h y dj hy (by rw [← HG.out, ← HG.out]; exact hL)]
                            exact rfl
                          clear A4 HD HG
                          go_region
                          go_wp2
                          go_roundg (h - (y + 1))
                          case measure => omega
                          case rel => exact ⟨y + 1, swp dj y (y - 1), by simp, by omega, by omega, by omega, by rw [size_swp]; exact hdj, A5.out, HD2⟩
                      · have hz5 : ¬ (y : Int) < (h : Int) := by omega
                        go_wp2
                        go_roundg k0
                        case measure => omega
                        case rel => exact ⟨i1, j + 1, fixUp ltInt h i1 D2, rfl, by simp, by omega, by omega, by omega, hd3, by (rw [fu_on h2, ← HD.out, su_stop h y dj (.inl (by omega))]; exact A4.out), HE3⟩
                  · have hz4 : ¬ 2 ≤ (h : Int) - (i1 : Int) := by omega
                    have hb4 : decide (2 ≤ (h : Int) - (i1 : Int)) = false := decide_eq_false hz4
                    go_wp2
                    go_roundg k0
                    case measure => omega
                    case rel => exact ⟨i1, j + 1, fixUp ltInt h i1 D2, rfl, by simp, by omega, by omega, by omega, hd3, by (rw [fu_off h2]; exact A3.out), HE3⟩
theorem partial_any (b o cap : Nat) (d : Array Int) (l h : Nat) (w : World) (hH : Holds eU w b o d) (hab : l < h) (hb : h ≤ d.size) (hsz : d.size < 4611686018427387904) :
    Calls Try.prog 34 #[.slice (some ⟨b, o, none⟩) d.size cap, .int .i64 l, .int .i64 h] w fun e w' => e = .returned (.bool (partialInsertionSort ltInt d l h).2) ∧ Rw w b o (partialInsertionSort ltInt d l h).1 w' :=
  partial_core b o cap d l h w hH hab hb hsz _ (Lib.hid rfl)
end Go.Proofs.Ytmjjkoiepoblmaa
