/- The library's sort at uint32: a part is parted: what is less, what is not. -/
import Derived.Test.YtmjjkoiepoblmaaSp
namespace Go.Proofs.Ytmjjkoiepoblmaa
open Go.RowKit Go.Sort

theorem pt_stop {l i j i1 j1 : Nat} {d : Array Int} (hu : scanUp (fun x => ltInt x d[l]!) d j i = i1) (hd : scanDown (fun x => !ltInt x d[l]!) d i1 j = j1) (h : j1 < i1) : partLoop ltInt l i j d = (j1, d) := by
  rw [partLoop_eq, hu, hd, if_pos h]
theorem pt_go {l i j i1 j1 : Nat} {d : Array Int} (hu : scanUp (fun x => ltInt x d[l]!) d j i = i1) (hd : scanDown (fun x => !ltInt x d[l]!) d i1 j = j1) (h : ¬ j1 < i1) : partLoop ltInt l i j d = partLoop ltInt l (i1 + 1) (j1 - 1) (swp d i1 j1) := by
  rw [partLoop_eq, hu, hd, if_neg h]

set_option maxHeartbeats 6400000 in
set_option maxRecDepth 1000000 in
theorem part_core (b o cap : Nat) (d : Array Int) (l h p : Nat) (w : World) (hH : Holds eU w b o d) (hlp : l ≤ p) (hp : p < h) (hb : h ≤ d.size) (hsz : d.size < 4611686018427387904) (S : Nat × Array Int) (HS : Hid (S = partLoop ltInt l (l + 1) (h - 1) (swp d l p))) :
    Calls Try.prog 37 #[.slice (some ⟨b, o, none⟩) d.size cap, .int .i64 l, .int .i64 h, .int .i64 p] w fun e w' =>
      ∃ f : Bool, e = .returned (.tuple #[.int .i64 (S.1 : Nat), .bool f]) ∧ Rw w b o (swp S.2 S.1 l) w' := by
  obtain ⟨G, HG, hcw, hfw⟩ := (Rw.self hH).fams rfl
  obtain ⟨v0, hy⟩ := set_some (p := ⟨b, o + l, none⟩) (x := .int .u32 (G p)) (hcw p (by omega))
  have A0 := Lib.hid ((Rw.self hH).swap (i := l) (j := p) (by omega) (by omega) (x := .int .u32 (G p)) (y := .int .u32 (G l)) (by rw [HG.out]) (by rw [HG.out]))
  clear hH HG
  go_enter Try.func37, Try.ntmps37
  go_wp2_with fail
  go_region
  clear hcw hfw hy
  generalize ((w.setCell _ _).setCell _ _).drew = w0 at A0 ⊢
  go_wp2
  obtain ⟨dk, hdk⟩ : ∃ dk, dk = swp d l p := ⟨_, rfl⟩
  rw [← hdk] at A0 HS
  have hds : dk.size = d.size := by rw [hdk, size_swp]
  clear hdk
  rw [show (l : Int) + 1 = ((l + 1 : Nat) : Int) by omega, show (h : Int) - 1 = ((h - 1 : Nat) : Int) by omega]
  obtain ⟨i, hi⟩ : ∃ i, i = l + 1 := ⟨_, rfl⟩
  obtain ⟨j, hj⟩ : ∃ j, j = h - 1 := ⟨_, rfl⟩
  rw [← hi, ← hj]
  rw [← hi, ← hj] at HS
  have h1 : l < i := by omega
  have h2 : i ≤ j + 2 := by omega
  have h3 : l ≤ j := by omega
  have h4 : j < h := by omega
  clear hi hj
  have A := A0
  clear A0
  go_loopg [10] (j + 2 - i) (fun k s wq => ∃ (i' : Nat), s = .int .i64 i' ∧ i ≤ i' ∧ i' ≤ j + 2 ∧ j + 2 - i' ≤ k ∧ Rw w b o dk wq ∧ Hid (scanUp (fun x => ltInt x dk[l]!) dk j i' = scanUp (fun x => ltInt x dk[l]!) dk j i))
  case atStart => exact ⟨i, rfl, by omega, by omega, by omega, A.out, rfl⟩
  case round =>
    clear A
    obtain ⟨i1, rfl, u1, u2, u3, R1, HU⟩ := hrel
    obtain ⟨G, HG, hcw, hfw⟩ := R1.fams hds
    have A := Lib.hid R1
    obtain ⟨c, hc⟩ : ∃ c, c = (decide (i1 ≤ j) && ltInt (G i1) (G l)) := ⟨_, rfl⟩
    have HC := Lib.hid hc
    clear R1 hc hfw
    go_upto_region 3 with fail
    go_cut [43] from 30 to 45 (fun x wc => x = .bool c ∧ Rw w b o dk wc)
    case first =>
      by_cases hle : i1 ≤ j
      · have hz : (i1 : Int) ≤ (j : Int) := by omega
        have hd : decide (i1 ≤ j) = true := decide_eq_true hle
        go_wp2_with fail
        go_big_quiet (first | (go_at_call 35; refine Calls.quiet_of_same (less_any _ _ _)))
        go_wp2_with fail
        go_meet
        exact ⟨by rw [HC.out, hd]; simp, A.out.drewN nq⟩
      · have hz : decide ((i1 : Int) ≤ (j : Int)) = false := decide_eq_false (by omega)
        have hd : decide (i1 ≤ j) = false := decide_eq_false hle
        go_wp2_with fail
        go_big_quiet (first | (go_at_call 35; refine Calls.quiet_of_same (less_any _ _ _)))
        go_wp2_with fail
        go_meet
        exact ⟨by rw [HC.out, hd]; simp, A.out.drewN nq⟩
    case rest =>
      clear A hcw
      obtain ⟨rfl, R2⟩ := hcut
      have A := Lib.hid R2
      clear R2
      have HC2 : Hid (c = (decide (i1 ≤ j) && (fun x => ltInt x dk[l]!) dk[i1]!)) := by
        refine HC.out.trans ?_
        simp only [HG.out]
      clear HC HG G
      cases c with
      | true =>
        have hle : i1 ≤ j := by
          have := HC2.out
          simp at this
          exact this.1
        go_wp2
        go_roundg (j + 2 - (i1 + 1))
        case measure => omega
        case rel => exact ⟨i1 + 1, by simp, by omega, by omega, by omega, A.out, (up_go HC2.out.symm).symm.trans HU.out⟩
      | false =>
        have HU2 : Hid (scanUp (fun x => ltInt x dk[l]!) dk j i = i1) := HU.out.symm.trans (up_end HC2.out.symm)
        clear HU HC2
        go_wp2
        go_loopg [11] j (fun k s wq => ∃ (j' : Nat), s = .int .i64 j' ∧ j' ≤ j ∧ i1 ≤ j' + 2 ∧ l ≤ j' ∧ j' ≤ k ∧ Rw w b o dk wq ∧ Hid (scanDown (fun x => !ltInt x dk[l]!) dk i1 j' = scanDown (fun x => !ltInt x dk[l]!) dk i1 j))
        case atStart => exact ⟨j, rfl, by omega, by omega, by omega, by omega, A.out, rfl⟩
        case round =>
          clear A
          obtain ⟨j1, rfl, v1, v2, v3, v4, R1, HD⟩ := hrel
          obtain ⟨G, HG, hcw, hfw⟩ := R1.fams hds
          have A := Lib.hid R1
          obtain ⟨c, hc⟩ : ∃ c, c = (decide (i1 ≤ j1) && !ltInt (G j1) (G l)) := ⟨_, rfl⟩
          have HC := Lib.hid hc
          clear R1 hc hfw
          go_upto_region 5 with fail
          go_cut [60] from 46 to 62 (fun x wc => x = .bool c ∧ Rw w b o dk wc)
          case first =>
            by_cases hle : i1 ≤ j1
            · have hz : (i1 : Int) ≤ (j1 : Int) := by omega
              have hd : decide (i1 ≤ j1) = true := decide_eq_true hle
              go_wp2_with fail
              go_big_quiet (first | (go_at_call 35; refine Calls.quiet_of_same (less_any _ _ _)))
              go_wp2_with fail
              go_meet
              exact ⟨by rw [HC.out, hd]; simp, A.out.drewN nq⟩
            · have hz : decide ((i1 : Int) ≤ (j1 : Int)) = false := decide_eq_false (by omega)
              have hd : decide (i1 ≤ j1) = false := decide_eq_false hle
              go_wp2_with fail
              go_big_quiet (first | (go_at_call 35; refine Calls.quiet_of_same (less_any _ _ _)))
              go_wp2_with fail
              go_meet
              exact ⟨by rw [HC.out, hd]; simp, A.out.drewN nq⟩
          case rest =>
            clear A hcw
            obtain ⟨rfl, R2⟩ := hcut
            have HC2 : Hid (c = (decide (i1 ≤ j1) && (fun x => !ltInt x dk[l]!) dk[j1]!)) := by
              refine HC.out.trans ?_
              simp only [HG.out]
            clear HC HG G
            cases c with
            | true =>
              have hle : i1 ≤ j1 := by
                have := HC2.out
                simp at this
                exact this.1
              have A := Lib.hid R2
              clear R2
              go_wp2
              go_roundg (j1 - 1)
              case measure => omega
              case rel => exact ⟨j1 - 1, by congr 1; omega, by omega, by omega, by omega, by omega, A.out, (down_go (by omega) HC2.out.symm).symm.trans HD.out⟩
            | false =>
              have HD2 : Hid (scanDown (fun x => !ltInt x dk[l]!) dk i1 j = j1) := HD.out.symm.trans (down_end HC2.out.symm)
              clear HD HC2
              obtain ⟨G, HG, hcw, hfw⟩ := R2.fams hds
              have A := Lib.hid R2
              clear R2
              by_cases hgt : j1 < i1
              · have hz : (j1 : Int) < (i1 : Int) := by omega
                have e : (j1, dk) = S := (pt_stop HU2.out HD2.out hgt).symm.trans HS.out.symm
                have HE := Lib.hid e
                clear e HS HU2 HD2
                obtain ⟨v1', hy1⟩ := set_some (p := ⟨b, o + j1, none⟩) (x := .int .u32 (G l)) (hcw l (by omega))
                have A3 := Lib.hid (A.out.swap (i := j1) (j := l) (by omega) (by omega) (x := .int .u32 (G l)) (y := .int .u32 (G j1)) (by rw [HG.out]) (by rw [HG.out]))
                clear A
                go_wp2_with fail
                go_region
                go_wp2
                go_ret2
                rw [← HE.out]
                exact ⟨true, rfl, A3.out⟩
              · have hz : ¬ (j1 : Int) < (i1 : Int) := by omega
                have HS2 : Hid (partLoop ltInt l (i1 + 1) (j1 - 1) (swp dk i1 j1) = S) := (pt_go HU2.out HD2.out hgt).symm.trans HS.out.symm
                clear HS HU2 HD2
                obtain ⟨v1', hy1⟩ := set_some (p := ⟨b, o + i1, none⟩) (x := .int .u32 (G j1)) (hcw j1 (by omega))
                have A3 := Lib.hid (A.out.swap (i := i1) (j := j1) (by omega) (by omega) (x := .int .u32 (G j1)) (y := .int .u32 (G i1)) (by rw [HG.out]) (by rw [HG.out]))
                clear A
                go_wp2_with fail
                go_region
                clear hcw hfw hy1 HG
                generalize ((wr.setCell _ _).setCell _ _).drew = w3 at A3 ⊢
                go_wp2
                go_loopg [10, 11] (h + 1 - l) (fun k s10 s11 wr => ∃ (i j : Nat) (dk : Array Int), s10 = .int .i64 i ∧ s11 = .int .i64 j ∧ l < i ∧ i ≤ j + 2 ∧ l ≤ j ∧ j < h ∧ j + 2 - i ≤ k ∧ dk.size = d.size ∧ Rw w b o dk wr ∧ partLoop ltInt l i j dk = S)
                case atStart => exact ⟨i1 + 1, j1 - 1, swp dk i1 j1, by simp, by congr 1; omega, by omega, by omega, by omega, by omega, by omega, by rw [size_swp]; exact hds, A3.out, HS2.out⟩
                case round =>
                  clear A3 HS2 hds
                  obtain ⟨i, j, dk, rfl, rfl, h1, h2, h3, h4, hk, hds, R, heq⟩ := hrel
                  have A := Lib.hid R
                  have AE := Lib.hid heq
                  clear R heq
                  go_wp2
                  go_loopg [10] (j + 2 - i) (fun k s wq => ∃ (i' : Nat), s = .int .i64 i' ∧ i ≤ i' ∧ i' ≤ j + 2 ∧ j + 2 - i' ≤ k ∧ Rw w b o dk wq ∧ Hid (scanUp (fun x => ltInt x dk[l]!) dk j i' = scanUp (fun x => ltInt x dk[l]!) dk j i))
                  case atStart => exact ⟨i, rfl, by omega, by omega, by omega, A.out, rfl⟩
                  case round =>
                    clear A
                    obtain ⟨i1, rfl, u1, u2, u3, R1, HU⟩ := hrel
                    obtain ⟨G, HG, hcw, hfw⟩ := R1.fams hds
                    have A := Lib.hid R1
                    obtain ⟨c, hc⟩ : ∃ c, c = (decide (i1 ≤ j) && ltInt (G i1) (G l)) := ⟨_, rfl⟩
                    have HC := Lib.hid hc
                    clear R1 hc hfw
                    go_upto_region 13 with fail
                    go_cut [112] from 99 to 114 (fun x wc => x = .bool c ∧ Rw w b o dk wc)
                    case first =>
                      by_cases hle : i1 ≤ j
                      · have hz : (i1 : Int) ≤ (j : Int) := by omega
                        have hd : decide (i1 ≤ j) = true := decide_eq_true hle
                        go_wp2_with fail
                        go_big_quiet (first | (go_at_call 35; refine Calls.quiet_of_same (less_any _ _ _)))
                        go_wp2_with fail
                        go_meet
                        exact ⟨by rw [HC.out, hd]; simp, A.out.drewN nq⟩
                      · have hz : decide ((i1 : Int) ≤ (j : Int)) = false := decide_eq_false (by omega)
                        have hd : decide (i1 ≤ j) = false := decide_eq_false hle
                        go_wp2_with fail
                        go_big_quiet (first | (go_at_call 35; refine Calls.quiet_of_same (less_any _ _ _)))
                        go_wp2_with fail
                        go_meet
                        exact ⟨by rw [HC.out, hd]; simp, A.out.drewN nq⟩
                    case rest =>
                      clear A hcw
                      obtain ⟨rfl, R2⟩ := hcut
                      have A := Lib.hid R2
                      clear R2
                      have HC2 : Hid (c = (decide (i1 ≤ j) && (fun x => ltInt x dk[l]!) dk[i1]!)) := by
                        refine HC.out.trans ?_
                        simp only [HG.out]
                      clear HC HG G
                      cases c with
                      | true =>
                        have hle : i1 ≤ j := by
                          have := HC2.out
                          simp at this
                          exact this.1
                        go_wp2
                        go_roundg (j + 2 - (i1 + 1))
                        case measure => omega
                        case rel => exact ⟨i1 + 1, by simp, by omega, by omega, by omega, A.out, (up_go HC2.out.symm).symm.trans HU.out⟩
                      | false =>
                        have HU2 : Hid (scanUp (fun x => ltInt x dk[l]!) dk j i = i1) := HU.out.symm.trans (up_end HC2.out.symm)
                        clear HU HC2
                        go_wp2
                        go_loopg [11] j (fun k s wq => ∃ (j' : Nat), s = .int .i64 j' ∧ j' ≤ j ∧ i1 ≤ j' + 2 ∧ l ≤ j' ∧ j' ≤ k ∧ Rw w b o dk wq ∧ Hid (scanDown (fun x => !ltInt x dk[l]!) dk i1 j' = scanDown (fun x => !ltInt x dk[l]!) dk i1 j))
                        case atStart => exact ⟨j, rfl, by omega, by omega, by omega, by omega, A.out, rfl⟩
                        case round =>
                          clear A
                          obtain ⟨j1, rfl, v1, v2, v3, v4, R1, HD⟩ := hrel
                          obtain ⟨G, HG, hcw, hfw⟩ := R1.fams hds
                          have A := Lib.hid R1
                          obtain ⟨c, hc⟩ : ∃ c, c = (decide (i1 ≤ j1) && !ltInt (G j1) (G l)) := ⟨_, rfl⟩
                          have HC := Lib.hid hc
                          clear R1 hc hfw
                          go_upto_region 15 with fail
                          go_cut [129] from 115 to 131 (fun x wc => x = .bool c ∧ Rw w b o dk wc)
                          case first =>
                            by_cases hle : i1 ≤ j1
                            · have hz : (i1 : Int) ≤ (j1 : Int) := by omega
                              have hd : decide (i1 ≤ j1) = true := decide_eq_true hle
                              go_wp2_with fail
                              go_big_quiet (first | (go_at_call 35; refine Calls.quiet_of_same (less_any _ _ _)))
                              go_wp2_with fail
                              go_meet
                              exact ⟨by rw [HC.out, hd]; simp, A.out.drewN nq⟩
                            · have hz : decide ((i1 : Int) ≤ (j1 : Int)) = false := decide_eq_false (by omega)
                              have hd : decide (i1 ≤ j1) = false := decide_eq_false hle
                              go_wp2_with fail
                              go_big_quiet (first | (go_at_call 35; refine Calls.quiet_of_same (less_any _ _ _)))
                              go_wp2_with fail
                              go_meet
                              exact ⟨by rw [HC.out, hd]; simp, A.out.drewN nq⟩
                          case rest =>
                            clear A hcw
                            obtain ⟨rfl, R2⟩ := hcut
                            have HC2 : Hid (c = (decide (i1 ≤ j1) && (fun x => !ltInt x dk[l]!) dk[j1]!)) := by
                              refine HC.out.trans ?_
                              simp only [HG.out]
                            clear HC HG G
                            cases c with
                            | true =>
                              have hle : i1 ≤ j1 := by
                                have := HC2.out
                                simp at this
                                exact this.1
                              have A := Lib.hid R2
                              clear R2
                              go_wp2
                              go_roundg (j1 - 1)
                              case measure => omega
                              case rel => exact ⟨j1 - 1, by congr 1; omega, by omega, by omega, by omega, by omega, A.out, (down_go (by omega) HC2.out.symm).symm.trans HD.out⟩
                            | false =>
                              have HD2 : Hid (scanDown (fun x => !ltInt x dk[l]!) dk i1 j = j1) := HD.out.symm.trans (down_end HC2.out.symm)
                              clear HD HC2
                              obtain ⟨G, HG, hcw, hfw⟩ := R2.fams hds
                              have A := Lib.hid R2
                              clear R2
                              by_cases hgt : j1 < i1
                              · have hz : (j1 : Int) < (i1 : Int) := by omega
                                have e : (j1, dk) = S := (pt_stop HU2.out HD2.out hgt).symm.trans AE.out
                                have HE := Lib.hid e
                                clear e AE HU2 HD2
                                obtain ⟨v1', hy1⟩ := set_some (p := ⟨b, o + j1, none⟩) (x := .int .u32 (G l)) (hcw l (by omega))
                                have A3 := Lib.hid (A.out.swap (i := j1) (j := l) (by omega) (by omega) (x := .int .u32 (G l)) (y := .int .u32 (G j1)) (by rw [HG.out]) (by rw [HG.out]))
                                clear A
                                go_wp2_with fail
                                go_region
                                go_wp2
                                go_ret2
                                rw [← HE.out]
                                exact ⟨false, rfl, A3.out⟩
                              · have hz : ¬ (j1 : Int) < (i1 : Int) := by omega
                                obtain ⟨v1', hy1⟩ := set_some (p := ⟨b, o + i1, none⟩) (x := .int .u32 (G j1)) (hcw j1 (by omega))
                                have A3 := Lib.hid (A.out.swap (i := i1) (j := j1) (by omega) (by omega) (x := .int .u32 (G j1)) (y := .int .u32 (G i1)) (by rw [HG.out]) (by rw [HG.out]))
                                clear A
                                go_wp2_with fail
                                go_region
                                go_wp2
                                go_roundg (j1 - 1 + 2 - (i1 + 1))
                                case measure => omega
                                case rel => exact ⟨i1 + 1, j1 - 1, swp dk i1 j1, by simp, by congr 1; omega, by omega, by omega, by omega, by omega, by omega, by rw [size_swp]; exact hds, A3.out, (pt_go HU2.out HD2.out hgt).symm.trans AE.out⟩

theorem part_any (b o cap : Nat) (d : Array Int) (l h p : Nat) (w : World) (hH : Holds eU w b o d) (hlp : l ≤ p) (hp : p < h) (hb : h ≤ d.size) (hsz : d.size < 4611686018427387904) :
    Calls Try.prog 37 #[.slice (some ⟨b, o, none⟩) d.size cap, .int .i64 l, .int .i64 h, .int .i64 p] w fun e w' =>
      ∃ f : Bool, e = .returned (.tuple #[.int .i64 ((partition ltInt d l h p).1 : Nat), .bool f]) ∧ Rw w b o (partition ltInt d l h p).2.2 w' := by
  rw [partition_fst, partition_arr]
  exact part_core b o cap d l h p w hH hlp hp hb hsz _ (Lib.hid rfl)
end Go.Proofs.Ytmjjkoiepoblmaa
