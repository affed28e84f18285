/- The row's methods, and the library's heap over it. -/
import Derived.Test.YtmjjkoiepoblmaaNa
import Derived.Test.YtmjjkoiepoblmaaNm
import Derived.Test.YtmjjkoiepoblmaaSp
namespace Go.Proofs.Ytmjjkoiepoblmaa
open Go.RowKit Go.Sort

set_option maxHeartbeats 1600000 in
theorem less_row (b n cap : Nat) (d : Array Int) (i j : Nat) (w : World) (hds : d.size = n) (hH : Holds eU w b 0 d) (hi : i < n) (hj : j < n) :
    Calls Try.prog 64 #[.slice (some ⟨b, 0, none⟩) n cap, .int .i64 i, .int .i64 j] w fun e w' => e = .returned (.bool (ltInt d[i]! d[j]!)) ∧ Rw w b 0 d w' := by
  obtain ⟨G, HG, hcw, hfw⟩ := (Rw.self hH).fams hds
  have hcw2 : ∀ t, t < n → w.cell? ⟨b, t, none⟩ = some (.int .u32 (G t)) := fun t ht => by have := hcw t ht; rwa [Nat.zero_add] at this
  have A := Lib.hid (Rw.self hH)
  have e : ltInt d[i]! d[j]! = ltInt (G i) (G j) := by rw [HG.out, HG.out]
  rw [e]
  clear hH hcw hfw e HG
  go_enter Try.func64, Try.ntmps64
  go_wp2_with fail
  go_region
  go_wp2
  go_ret
  exact ⟨rfl, A.out.drew⟩
set_option maxHeartbeats 1600000 in
theorem swap_row (b n cap : Nat) (d : Array Int) (i j : Nat) (w : World) (hds : d.size = n) (hH : Holds eU w b 0 d) (hi : i < n) (hj : j < n) :
    Calls Try.prog 65 #[.slice (some ⟨b, 0, none⟩) n cap, .int .i64 i, .int .i64 j] w fun e w' => e = .returned (.tuple #[]) ∧ Rw w b 0 (swp d i j) w' := by
  obtain ⟨G, HG, hcw, hfw⟩ := (Rw.self hH).fams hds
  have hcw2 : ∀ t, t < n → w.cell? ⟨b, t, none⟩ = some (.int .u32 (G t)) := fun t ht => by have := hcw t ht; rwa [Nat.zero_add] at this
  have hfw2 : ∀ t, t < n → w.frozen? ⟨b, t, none⟩ = false := fun t ht => by have := hfw t ht; rwa [Nat.zero_add] at this
  obtain ⟨v0, hv0⟩ := set_some (p := ⟨b, i, none⟩) (x := .int .u32 (G j)) (hcw2 j hj)
  have A := Lib.hid ((Rw.self hH).swap (i := i) (j := j) (by omega) (by omega) (x := .int .u32 (G j)) (y := .int .u32 (G i)) (by rw [HG.out]) (by rw [HG.out]))
  simp only [Nat.zero_add] at A
  clear hH hcw hfw HG
  go_enter Try.func65, Try.ntmps65
  go_wp2_with fail
  go_region
  go_wp2
  go_end0
  exact ⟨rfl, A.out⟩
theorem len_row (A : Option Addr) (n cap : Nat) (w : World) : Calls Try.prog 63 #[.slice A n cap] w fun e w' => e = .returned (.int .i64 n) ∧ w = w' := by
  go_enter Try.func63, Try.ntmps63
  go_wp2
  go_ret
  exact ⟨rfl, rfl⟩

set_option maxHeartbeats 3200000 in
set_option maxRecDepth 1000000 in
theorem up_any (p b n cap : Nat) (d : Array Int) (j : Nat) (w : World) (hds0 : d.size = n) (hH : Holds eU w b 0 d) (hj : j < n) (hn : n < 4611686018427387904) (hpb : p ≠ b) (hV : UpInv d n j) (c00 : w.cell? ⟨p, 0, none⟩ = some (.slice (some ⟨b, 0, none⟩) n cap)) :
    Calls Try.prog 26 #[.iface 52 (.pointer (some ⟨p, 0, none⟩)), .int .i64 j] w fun e w' => e = .returned (.tuple #[]) ∧ ∃ d', Rw w b 0 d' w' ∧ PermIn 0 n d d' ∧ Heap d' n := by
  have hpb' : ¬ (fun k => k = b) (⟨p, 0, none⟩ : Addr).block := hpb
  have R0 := Lib.hid (Rw.self hH)
  have V0 := Lib.hid hV
  have LESS : Hid (∀ (d : Array Int) (i j : Nat) (w : World) (hds : d.size = n) (hH : Holds eU w b 0 d) (hi : i < n) (hj : j < n), Calls Try.prog 64 #[.slice (some ⟨b, 0, none⟩) n cap, .int .i64 i, .int .i64 j] w fun e w' => e = .returned (.bool (ltInt d[i]! d[j]!)) ∧ Rw w b 0 d w') := Lib.hid (less_row b n cap)
  have SWAP : Hid (∀ (d : Array Int) (i j : Nat) (w : World) (hds : d.size = n) (hH : Holds eU w b 0 d) (hi : i < n) (hj : j < n), Calls Try.prog 65 #[.slice (some ⟨b, 0, none⟩) n cap, .int .i64 i, .int .i64 j] w fun e w' => e = .returned (.tuple #[]) ∧ Rw w b 0 (swp d i j) w') := Lib.hid (swap_row b n cap)
  have C00 := Lib.hid c00
  clear hH hV c00
  go_enter Try.func26, Try.ntmps26
  go_wp2
  go_loopg [1] j (fun k s wr => ∃ (y : Nat) (dk : Array Int), s = .int .i64 y ∧ y < n ∧ y ≤ k ∧ dk.size = n ∧ Rw w b 0 dk wr ∧ Hid (UpInv dk n y) ∧ Hid (PermIn 0 n d dk))
  case atStart => exact ⟨j, d, rfl, hj, by omega, hds0, R0.out, V0, permIn_refl d 0 n⟩
  case round =>
    obtain ⟨y, dk, rfl, hy, hk, hds, R, V, P⟩ := hrel
    have c0 : wr.cell? ⟨p, 0, none⟩ = some (.slice (some ⟨b, 0, none⟩) n cap) := R.keep.cell C00.out hpb'
    have A := Lib.hid R
    have ml := fun k => m_less k p 0 (some ⟨b, 0, none⟩) n cap wr c0
    clear R R0 V0
    rcases Nat.eq_zero_or_pos y with rfl | hy0
    · have e1 : Int.tdiv ((0 : Int) - 1) 2 = 0 := rfl
      go_wp2
      go_end0
      exact ⟨rfl, dk, A.out, P.out, hup_stop V.out (.inl rfl)⟩
    · obtain ⟨i, hi⟩ : ∃ i, i = (y - 1) / 2 := ⟨_, rfl⟩
      have e1 : Int.tdiv ((y : Int) - 1) 2 = (i : Int) := by
        rw [show (y : Int) - 1 = ((y - 1 : Nat) : Int) by omega, hi]
        rfl
      have hne : ((i : Int) == (y : Int)) = false := by
        rw [beq_eq_false_iff_ne]
        omega
      have hin : i < n := by omega
      have hiy : i < y := by omega
      have HI := Lib.hid hi
      clear hi
      obtain ⟨q, hq⟩ : ∃ q, q = ltInt dk[y]! dk[i]! := ⟨_, rfl⟩
      have HQ := Lib.hid hq
      clear hq
      go_wp2_with (go_at_call 64; refine (LESS.out dk y i wr hds A.out.there hy hin).mono ?_; rintro e w2 ⟨he, R2⟩; rw [← HQ.out] at he; subst he; have A2 := Lib.hid (A.out.trans R2); have c2 := R2.keep.cell c0 hpb'; have ms2 := fun k => m_swap k p 0 (some ⟨b, 0, none⟩) n cap w2 c2; clear R2)
      · have hS : ltInt dk[y]! dk[i]! = false := by
          have : (!q) = true := by assumption
          rw [← HQ.out]
          simpa using this
        go_end0
        refine ⟨rfl, dk, A2.out, P.out, hup_stop V.out (.inr ?_)⟩
        rw [← HI.out]
        simpa [ltInt] using hS
      · have hS : ltInt dk[y]! dk[i]! = true := by
          have : (!q) = false := by assumption
          rw [← HQ.out]
          simpa using this
        have hS2 : dk[y]! < dk[i]! := by simpa [ltInt] using hS
        have V2 : Hid (UpInv (swp dk i y) n i) := by
          have := hup_go V.out hy0 hy (by omega) (by rw [← HI.out]; exact hS2)
          rw [← HI.out] at this
          exact this
        have P2 := Lib.hid (permIn_trans _ _ _ 0 n P.out (swp_permIn dk 0 n i y (by omega) (by omega) (by omega) (by omega) (by omega)))
        clear V P hS hS2
        go_wp2_with (go_at_call 65; refine (SWAP.out dk i y w2 hds A2.out.there hin hy).mono ?_; rintro e w3 ⟨rfl, R3⟩; have A3 := Lib.hid (A2.out.trans R3))
        go_roundg i
        case measure => omega
        case rel => exact ⟨i, swp dk i y, rfl, hin, by omega, by rw [size_swp]; exact hds, A3.out, V2, P2⟩


set_option maxHeartbeats 3200000 in
set_option maxRecDepth 1000000 in
theorem down_any (p b n cap m : Nat) (d : Array Int) (w : World) (hds0 : d.size = n) (hH : Holds eU w b 0 d) (hm : m ≤ n) (hn : n < 2305843009213693952) (hpb : p ≠ b) (hV : DownInv d m 0) (c00 : w.cell? ⟨p, 0, none⟩ = some (.slice (some ⟨b, 0, none⟩) n cap)) :
    Calls Try.prog 27 #[.iface 52 (.pointer (some ⟨p, 0, none⟩)), .int .i64 0, .int .i64 m] w fun e w' => ∃ f : Bool, e = .returned (.bool f) ∧ ∃ d', Rw w b 0 d' w' ∧ PermIn 0 m d d' ∧ Heap d' m := by
  have hpb' : ¬ (fun k => k = b) (⟨p, 0, none⟩ : Addr).block := hpb
  have R0 := Lib.hid (Rw.self hH)
  have V0 := Lib.hid hV
  have LESS : Hid (∀ (d : Array Int) (i j : Nat) (w : World) (hds : d.size = n) (hH : Holds eU w b 0 d) (hi : i < n) (hj : j < n), Calls Try.prog 64 #[.slice (some ⟨b, 0, none⟩) n cap, .int .i64 i, .int .i64 j] w fun e w' => e = .returned (.bool (ltInt d[i]! d[j]!)) ∧ Rw w b 0 d w') := Lib.hid (less_row b n cap)
  have SWAP : Hid (∀ (d : Array Int) (i j : Nat) (w : World) (hds : d.size = n) (hH : Holds eU w b 0 d) (hi : i < n) (hj : j < n), Calls Try.prog 65 #[.slice (some ⟨b, 0, none⟩) n cap, .int .i64 i, .int .i64 j] w fun e w' => e = .returned (.tuple #[]) ∧ Rw w b 0 (swp d i j) w') := Lib.hid (swap_row b n cap)
  have C00 := Lib.hid c00
  clear hH hV c00
  go_enter Try.func27, Try.ntmps27
  go_wp2
  go_loopg [7] m (fun k s wr => ∃ (y : Nat) (dk : Array Int), s = .int .i64 y ∧ (y < m ∨ y = 0) ∧ m - y ≤ k ∧ dk.size = n ∧ Rw w b 0 dk wr ∧ Hid (DownInv dk m y) ∧ Hid (PermIn 0 m d dk))
  case atStart => exact ⟨0, d, rfl, by omega, by omega, hds0, R0.out, V0, permIn_refl d 0 m⟩
  case round =>
    obtain ⟨i, dk, rfl, him, hk, hds, R, V, P⟩ := hrel
    have c0 : wr.cell? ⟨p, 0, none⟩ = some (.slice (some ⟨b, 0, none⟩) n cap) := R.keep.cell C00.out hpb'
    have A := Lib.hid R
    have ml := fun k => m_less k p 0 (some ⟨b, 0, none⟩) n cap wr c0
    clear R R0 V0
    have hib : i < 2305843009213693952 := by omega
    by_cases h1 : m ≤ 2 * i + 1
    · have h1z : (m : Int) ≤ 2 * (i : Int) + 1 := by omega
      go_wp2
      go_ret
      exact ⟨_, rfl, dk, A.out, P.out, hdown_stop V.out (fun k h0 h1 h2 => by omega)⟩
    · have h1z : ¬ (m : Int) ≤ 2 * (i : Int) + 1 := by omega
      have him2 : i < m := by omega
      have hin : i < n := by omega
      clear him
      by_cases h2 : 2 * i + 2 < m
      · have h2z : decide (2 * (i : Int) + 1 + 1 < (m : Int)) = true := decide_eq_true (by omega)
        have hj1 : 2 * i + 1 < n := by omega
        have hj2 : 2 * i + 2 < n := by omega
        obtain ⟨q2, hq2⟩ : ∃ q, q = ltInt dk[2 * i + 2]! dk[2 * i + 1]! := ⟨_, rfl⟩
        have HQ2 := Lib.hid hq2
        clear hq2
        have L0 := LESS.out dk (2 * i + 2) (2 * i + 1) wr hds A.out.there hj2 hj1
        rw [← HQ2.out, show ((2 * i + 1 : Nat) : Int) = 2 * (i : Int) + 1 by omega, show ((2 * i + 2 : Nat) : Int) = 2 * (i : Int) + 1 + 1 by omega] at L0
        have L0 := Lib.hid L0
        cases q2 with
        | true =>
          go_upto_region 8 with (go_at_call 64; refine L0.out.mono ?_; rintro e w1 ⟨rfl, R1⟩)
          have HM : Hid (∀ k, 0 < k → k < m → (k - 1) / 2 = i → dk[2 * i + 2]! ≤ dk[k]!) := by
            have hS : dk[2 * i + 2]! < dk[2 * i + 1]! := by simpa [ltInt] using HQ2.out.symm
            intro k h0 h1 h2
            rcases (show k = 2 * i + 1 ∨ k = 2 * i + 2 by omega) with rfl | rfl
            · exact Int.le_of_lt hS
            · exact Int.le_refl _
          rw [show 2 * (i : Int) + 1 + 1 = ((2 * i + 2 : Nat) : Int) by omega]
          have c1 : w1.cell? ⟨p, 0, none⟩ = some (.slice (some ⟨b, 0, none⟩) n cap) := R1.keep.cell c0 hpb'
          have ml1 := fun k => m_less k p 0 (some ⟨b, 0, none⟩) n cap w1 c1
          have A1 := Lib.hid (A.out.trans R1)
          obtain ⟨y, hy⟩ : ∃ y, y = 2 * i + 2 := ⟨_, rfl⟩
          rw [← hy] at HM ⊢
          have hy0 : 0 < y := by omega
          have hym : y < m := by omega
          have hyn : y < n := by omega
          have hiy : i < y := by omega
          have HY : Hid ((y - 1) / 2 = i) := by
            show (y - 1) / 2 = i
            omega
          clear ml A R1 c0 h1 h1z h2z h2 hj1 hj2 hy L0 HQ2
          have A := A1
          clear A1

          obtain ⟨q, hq⟩ : ∃ q, q = ltInt dk[y]! dk[i]! := ⟨_, rfl⟩
          have HQ := Lib.hid hq
          clear hq
          go_wp2_with (go_at_call 64; refine (LESS.out dk y i w1 hds A.out.there hyn hin).mono ?_; rintro e w2 ⟨he, R2⟩; rw [← HQ.out] at he; subst he; have A2 := Lib.hid (A.out.trans R2); have c2 := R2.keep.cell c1 hpb'; have ms2 := fun k => m_swap k p 0 (some ⟨b, 0, none⟩) n cap w2 c2; clear R2)
          · have hS : ltInt dk[y]! dk[i]! = false := by
              have : (!q) = true := by assumption
              rw [← HQ.out]
              simpa using this
            go_ret
            refine ⟨_, rfl, dk, A2.out, P.out, hdown_stop V.out ?_⟩
            have hS2 : dk[i]! ≤ dk[y]! := by simpa [ltInt] using hS
            intro k h0 h1 h2
            exact Int.le_trans hS2 (HM.out k h0 h1 h2)
          · have hS : ltInt dk[y]! dk[i]! = true := by
              have : (!q) = false := by assumption
              rw [← HQ.out]
              simpa using this
            have hS2 : dk[y]! < dk[i]! := by simpa [ltInt] using hS
            have V2 := Lib.hid (hdown_go V.out hy0 HY.out hym (by omega) HM.out hS2)
            have P2 := Lib.hid (permIn_trans _ _ _ 0 m P.out (swp_permIn dk 0 m i y (by omega) (by omega) (by omega) (by omega) (by omega)))
            clear V P hS hS2
            go_wp2_with (go_at_call 65; refine (SWAP.out dk i y w2 hds A2.out.there hin hyn).mono ?_; rintro e w3 ⟨rfl, R3⟩; have A3 := Lib.hid (A2.out.trans R3))
            go_roundg (m - y)
            case measure => omega
            case rel => exact ⟨y, swp dk i y, rfl, .inl hym, by omega, by rw [size_swp]; exact hds, A3.out, V2, P2⟩
        | false =>
          go_upto_region 8 with (go_at_call 64; refine L0.out.mono ?_; rintro e w1 ⟨rfl, R1⟩)
          have HM : Hid (∀ k, 0 < k → k < m → (k - 1) / 2 = i → dk[2 * i + 1]! ≤ dk[k]!) := by
            have hS : dk[2 * i + 1]! ≤ dk[2 * i + 2]! := by simpa [ltInt] using HQ2.out.symm
            intro k h0 h1 h2
            rcases (show k = 2 * i + 1 ∨ k = 2 * i + 2 by omega) with rfl | rfl
            · exact Int.le_refl _
            · exact hS
          rw [show 2 * (i : Int) + 1 + 1 = ((2 * i + 2 : Nat) : Int) by omega, show 2 * (i : Int) + 1 = ((2 * i + 1 : Nat) : Int) by omega]
          have c1 : w1.cell? ⟨p, 0, none⟩ = some (.slice (some ⟨b, 0, none⟩) n cap) := R1.keep.cell c0 hpb'
          have ml1 := fun k => m_less k p 0 (some ⟨b, 0, none⟩) n cap w1 c1
          have A1 := Lib.hid (A.out.trans R1)
          obtain ⟨y, hy⟩ : ∃ y, y = 2 * i + 1 := ⟨_, rfl⟩
          rw [← hy] at HM ⊢
          have hy0 : 0 < y := by omega
          have hym : y < m := by omega
          have hyn : y < n := by omega
          have hiy : i < y := by omega
          have HY : Hid ((y - 1) / 2 = i) := by
            show (y - 1) / 2 = i
            omega
          clear ml A R1 c0 h1 h1z h2z h2 hj1 hj2 hy L0 HQ2
          have A := A1
          clear A1

          obtain ⟨q, hq⟩ : ∃ q, q = ltInt dk[y]! dk[i]! := ⟨_, rfl⟩
          have HQ := Lib.hid hq
          clear hq
          go_wp2_with (go_at_call 64; refine (LESS.out dk y i w1 hds A.out.there hyn hin).mono ?_; rintro e w2 ⟨he, R2⟩; rw [← HQ.out] at he; subst he; have A2 := Lib.hid (A.out.trans R2); have c2 := R2.keep.cell c1 hpb'; have ms2 := fun k => m_swap k p 0 (some ⟨b, 0, none⟩) n cap w2 c2; clear R2)
          · have hS : ltInt dk[y]! dk[i]! = false := by
              have : (!q) = true := by assumption
              rw [← HQ.out]
              simpa using this
            go_ret
            refine ⟨_, rfl, dk, A2.out, P.out, hdown_stop V.out ?_⟩
            have hS2 : dk[i]! ≤ dk[y]! := by simpa [ltInt] using hS
            intro k h0 h1 h2
            exact Int.le_trans hS2 (HM.out k h0 h1 h2)
          · have hS : ltInt dk[y]! dk[i]! = true := by
              have : (!q) = false := by assumption
              rw [← HQ.out]
              simpa using this
            have hS2 : dk[y]! < dk[i]! := by simpa [ltInt] using hS
            have V2 := Lib.hid (hdown_go V.out hy0 HY.out hym (by omega) HM.out hS2)
            have P2 := Lib.hid (permIn_trans _ _ _ 0 m P.out (swp_permIn dk 0 m i y (by omega) (by omega) (by omega) (by omega) (by omega)))
            clear V P hS hS2
            go_wp2_with (go_at_call 65; refine (SWAP.out dk i y w2 hds A2.out.there hin hyn).mono ?_; rintro e w3 ⟨rfl, R3⟩; have A3 := Lib.hid (A2.out.trans R3))
            go_roundg (m - y)
            case measure => omega
            case rel => exact ⟨y, swp dk i y, rfl, .inl hym, by omega, by rw [size_swp]; exact hds, A3.out, V2, P2⟩
      · have h2z : decide (2 * (i : Int) + 1 + 1 < (m : Int)) = false := decide_eq_false (by omega)
        have hj1 : 2 * i + 1 < n := by omega
        go_upto_region 8 with fail
        have HM : Hid (∀ k, 0 < k → k < m → (k - 1) / 2 = i → dk[2 * i + 1]! ≤ dk[k]!) := by
          intro k h0 h1 h2
          obtain rfl : k = 2 * i + 1 := by omega
          exact Int.le_refl _
        obtain ⟨w1, hw1⟩ : ∃ w1, w1 = wr := ⟨_, rfl⟩
        have R1 : Rw wr b 0 dk w1 := by
          rw [hw1]
          exact Rw.self A.out.there
        rw [show 2 * (i : Int) + 1 = ((2 * i + 1 : Nat) : Int) by omega]
        rw [← hw1]
        have c1 : w1.cell? ⟨p, 0, none⟩ = some (.slice (some ⟨b, 0, none⟩) n cap) := R1.keep.cell c0 hpb'
        have ml1 := fun k => m_less k p 0 (some ⟨b, 0, none⟩) n cap w1 c1
        have A1 := Lib.hid (A.out.trans R1)
        obtain ⟨y, hy⟩ : ∃ y, y = 2 * i + 1 := ⟨_, rfl⟩
        rw [← hy] at HM ⊢
        have hy0 : 0 < y := by omega
        have hym : y < m := by omega
        have hyn : y < n := by omega
        have hiy : i < y := by omega
        have HY : Hid ((y - 1) / 2 = i) := by
          show (y - 1) / 2 = i
          omega
        clear ml A R1 c0 h1 h1z h2z h2 hj1 hy hw1
        have A := A1
        clear A1

        obtain ⟨q, hq⟩ : ∃ q, q = ltInt dk[y]! dk[i]! := ⟨_, rfl⟩
        have HQ := Lib.hid hq
        clear hq
        go_wp2_with (go_at_call 64; refine (LESS.out dk y i w1 hds A.out.there hyn hin).mono ?_; rintro e w2 ⟨he, R2⟩; rw [← HQ.out] at he; subst he; have A2 := Lib.hid (A.out.trans R2); have c2 := R2.keep.cell c1 hpb'; have ms2 := fun k => m_swap k p 0 (some ⟨b, 0, none⟩) n cap w2 c2; clear R2)
        · have hS : ltInt dk[y]! dk[i]! = false := by
            have : (!q) = true := by assumption
            rw [← HQ.out]
            simpa using this
          go_ret
          refine ⟨_, rfl, dk, A2.out, P.out, hdown_stop V.out ?_⟩
          have hS2 : dk[i]! ≤ dk[y]! := by simpa [ltInt] using hS
          intro k h0 h1 h2
          exact Int.le_trans hS2 (HM.out k h0 h1 h2)
        · have hS : ltInt dk[y]! dk[i]! = true := by
            have : (!q) = false := by assumption
            rw [← HQ.out]
            simpa using this
          have hS2 : dk[y]! < dk[i]! := by simpa [ltInt] using hS
          have V2 := Lib.hid (hdown_go V.out hy0 HY.out hym (by omega) HM.out hS2)
          have P2 := Lib.hid (permIn_trans _ _ _ 0 m P.out (swp_permIn dk 0 m i y (by omega) (by omega) (by omega) (by omega) (by omega)))
          clear V P hS hS2
          go_wp2_with (go_at_call 65; refine (SWAP.out dk i y w2 hds A2.out.there hin hyn).mono ?_; rintro e w3 ⟨rfl, R3⟩; have A3 := Lib.hid (A2.out.trans R3))
          go_roundg (m - y)
          case measure => omega
          case rel => exact ⟨y, swp dk i y, rfl, .inl hym, by omega, by rw [size_swp]; exact hds, A3.out, V2, P2⟩
end Go.Proofs.Ytmjjkoiepoblmaa
