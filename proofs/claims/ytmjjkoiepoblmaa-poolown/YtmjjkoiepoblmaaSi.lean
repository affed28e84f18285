/- The library's sort at uint32: a part is parted: what is not greater, what is. -/
import Derived.Test.YtmjjkoiepoblmaaSp
namespace Go.Proofs.Ytmjjkoiepoblmaa
open Go.RowKit Go.Sort

theorem eq_stop {l i j i1 j1 : Nat} {d : Array Int} (hu : scanUp (fun x => !ltInt d[l]! x) d j i = i1) (hd : scanDown (fun x => ltInt d[l]! x) d i1 j = j1) (h : j1 < i1) : partEqLoop ltInt l i j d = (i1, d) := by
  rw [partEqLoop_eq, hu, hd, if_pos h]
theorem eq_go {l i j i1 j1 : Nat} {d : Array Int} (hu : scanUp (fun x => !ltInt d[l]! x) d j i = i1) (hd : scanDown (fun x => ltInt d[l]! x) d i1 j = j1) (h : ¬ j1 < i1) : partEqLoop ltInt l i j d = partEqLoop ltInt l (i1 + 1) (j1 - 1) (swp d i1 j1) := by
  rw [partEqLoop_eq, hu, hd, if_neg h]

set_option maxHeartbeats 6400000 in
set_option maxRecDepth 1000000 in
theorem parteq_any (b o cap : Nat) (d : Array Int) (l h p : Nat) (w : World) (hH : Holds eU w b o d) (hlp : l ≤ p) (hp : p < h) (hb : h ≤ d.size) (hsz : d.size < 4611686018427387904) :
    Calls Try.prog 36 #[.slice (some ⟨b, o, none⟩) d.size cap, .int .i64 l, .int .i64 h, .int .i64 p] w fun e w' =>
      e = .returned (.int .i64 ((partitionEqual ltInt d l h p).1 : Nat)) ∧ Rw w b o (partitionEqual ltInt d l h p).2 w' := by
  obtain ⟨G, HG, hcw, hfw⟩ := (Rw.self hH).fams rfl
  obtain ⟨v0, hy⟩ := set_some (p := ⟨b, o + l, none⟩) (x := .int .u32 (G p)) (hcw p (by omega))
  have A0 := Lib.hid ((Rw.self hH).swap (i := l) (j := p) (by omega) (by omega) (x := .int .u32 (G p)) (y := .int .u32 (G l)) (by rw [HG.out]) (by rw [HG.out]))
  clear hH HG
  rw [show partitionEqual ltInt d l h p = partEqLoop ltInt l (l + 1) (h - 1) (swp d l p) from rfl]
  obtain ⟨S, hS⟩ : ∃ S, S = partEqLoop ltInt l (l + 1) (h - 1) (swp d l p) := ⟨_, rfl⟩
  rw [← hS]
  have HS := Lib.hid hS
  clear hS
  go_enter Try.func36, Try.ntmps36
  go_wp2_with fail
  go_region
  clear hcw hfw hy
  generalize ((w.setCell _ _).setCell _ _).drew = w0 at A0 ⊢
  go_wp2
  go_loopg [9, 10] (h + 1 - l) (fun k s9 s10 wr => ∃ (i j : Nat) (dk : Array Int), s9 = .int .i64 i ∧ s10 = .int .i64 j ∧ l < i ∧ i ≤ j + 2 ∧ l ≤ j ∧ j < h ∧ j + 2 - i ≤ k ∧ dk.size = d.size ∧ Rw w b o dk wr ∧ partEqLoop ltInt l i j dk = S)
  case atStart => exact ⟨l + 1, h - 1, swp d l p, by simp, by congr 1; omega, by omega, by omega, by omega, by omega, by omega, by rw [size_swp], A0.out, HS.out.symm⟩
  case round =>
    clear A0 HS
    obtain ⟨i, j, dk, rfl, rfl, h1, h2, h3, h4, hk, hds, R, heq⟩ := hrel
    have A := Lib.hid R
    have AE := Lib.hid heq
    clear R heq
    go_wp2
    go_loopg [9] (j + 2 - i) (fun k s wq => ∃ (i' : Nat), s = .int .i64 i' ∧ i ≤ i' ∧ i' ≤ j + 2 ∧ j + 2 - i' ≤ k ∧ Rw w b o dk wq ∧ Hid (scanUp (fun x => !ltInt dk[l]! x) dk j i' = scanUp (fun x => !ltInt dk[l]! x) dk j i))
    case atStart => exact ⟨i, rfl, by omega, by omega, by omega, A.out, rfl⟩
    case round =>
      clear A
      obtain ⟨i1, rfl, u1, u2, u3, R1, HU⟩ := hrel
      obtain ⟨G, HG, hcw, hfw⟩ := R1.fams hds
      have A := Lib.hid R1
      obtain ⟨c, hc⟩ : ∃ c, c = (decide (i1 ≤ j) && !ltInt (G l) (G i1)) := ⟨_, rfl⟩
      have HC := Lib.hid hc
      clear R1 hc hfw
      go_upto_region 3 with fail
      go_cut [43] from 29 to 45 (fun x wc => x = .bool c ∧ Rw w b o dk wc)
      case first =>
        by_cases hle : i1 ≤ j
        · have hz : (i1 : Int) ≤ (j : Int) := by omega
          have hd : decide (i1 ≤ j) = true := decide_eq_true hle
          go_wp2_with fail
          go_big_quiet (first | (go_at_call 35; refine Calls.quiet_of_same (less_any _ _ _)))
          go_wp2_with fail
          go_meet
          exact ⟨by rw [HC.out, hd]; simp, A.out.drewN nq⟩
        · have hz : decide ((i1 : Int) ≤ (j : Int)) = false := decide_eq_false (by omega)
          have hd : decide (i1 ≤ j) = false := decide_eq_false hle
          go_wp2_with fail
          go_big_quiet (first | (go_at_call 35; refine Calls.quiet_of_same (less_any _ _ _)))
          go_wp2_with fail
          go_meet
          exact ⟨by rw [HC.out, hd]; simp, A.out.drewN nq⟩
      case rest =>
        clear A hcw
        obtain ⟨rfl, R2⟩ := hcut
        have A := Lib.hid R2
        clear R2
        have HC2 : Hid (c = (decide (i1 ≤ j) && (fun x => !ltInt dk[l]! x) dk[i1]!)) := by
          refine HC.out.trans ?_
          simp only [HG.out]
        clear HC HG G
        cases c with
        | true =>
          have hle : i1 ≤ j := by
            have := HC2.out
            simp at this
            exact this.1
          go_wp2
          go_roundg (j + 2 - (i1 + 1))
          case measure => omega
          case rel => exact ⟨i1 + 1, by simp, by omega, by omega, by omega, A.out, (up_go HC2.out.symm).symm.trans HU.out⟩
        | false =>
          have HU2 : Hid (scanUp (fun x => !ltInt dk[l]! x) dk j i = i1) := HU.out.symm.trans (up_end HC2.out.symm)
          clear HU HC2
          go_wp2
          go_loopg [10] j (fun k s wq => ∃ (j' : Nat), s = .int .i64 j' ∧ j' ≤ j ∧ i1 ≤ j' + 2 ∧ l ≤ j' ∧ j' ≤ k ∧ Rw w b o dk wq ∧ Hid (scanDown (fun x => ltInt dk[l]! x) dk i1 j' = scanDown (fun x => ltInt dk[l]! x) dk i1 j))
          case atStart => exact ⟨j, rfl, by omega, by omega, by omega, by omega, A.out, rfl⟩
          case round =>
            clear A
            obtain ⟨j1, rfl, v1, v2, v3, v4, R1, HD⟩ := hrel
            obtain ⟨G, HG, hcw, hfw⟩ := R1.fams hds
            have A := Lib.hid R1
            obtain ⟨c, hc⟩ : ∃ c, c = (decide (i1 ≤ j1) && ltInt (G l) (G j1)) := ⟨_, rfl⟩
            have HC := Lib.hid hc
            clear R1 hc hfw
            go_upto_region 5 with fail
            go_cut [59] from 46 to 61 (fun x wc => x = .bool c ∧ Rw w b o dk wc)
            case first =>
              by_cases hle : i1 ≤ j1
              · have hz : (i1 : Int) ≤ (j1 : Int) := by omega
                have hd : decide (i1 ≤ j1) = true := decide_eq_true hle
                go_wp2_with fail
                go_big_quiet (first | (go_at_call 35; refine Calls.quiet_of_same (less_any _ _ _)))
                go_wp2_with fail
                go_meet
                exact ⟨by rw [HC.out, hd]; simp, A.out.drewN nq⟩
              · have hz : decide ((i1 : Int) ≤ (j1 : Int)) = false := decide_eq_false (by omega)
                have hd : decide (i1 ≤ j1) = false := decide_eq_false hle
                go_wp2_with fail
                go_big_quiet (first | (go_at_call 35; refine Calls.quiet_of_same (less_any _ _ _)))
                go_wp2_with fail
                go_meet
                exact ⟨by rw [HC.out, hd]; simp, A.out.drewN nq⟩
            case rest =>
              clear A hcw
              obtain ⟨rfl, R2⟩ := hcut
              have HC2 : Hid (c = (decide (i1 ≤ j1) && (fun x => ltInt dk[l]! x) dk[j1]!)) := by
                refine HC.out.trans ?_
                simp only [HG.out]
              clear HC HG G
              cases c with
              | true =>
                have hle : i1 ≤ j1 := by
                  have := HC2.out
                  simp at this
                  exact this.1
                have A := Lib.hid R2
                clear R2
                go_wp2
                go_roundg (j1 - 1)
                case measure => omega
                case rel => exact ⟨j1 - 1, by congr 1; omega, by omega, by omega, by omega, by omega, A.out, (down_go (by omega) HC2.out.symm).symm.trans HD.out⟩
              | false =>
                have HD2 : Hid (scanDown (fun x => ltInt dk[l]! x) dk i1 j = j1) := HD.out.symm.trans (down_end HC2.out.symm)
                clear HD HC2
                obtain ⟨G, HG, hcw, hfw⟩ := R2.fams hds
                have A := Lib.hid R2
                clear R2
                by_cases hgt : j1 < i1
                · have hz : (j1 : Int) < (i1 : Int) := by omega
                  clear hcw hfw
                  go_wp2
                  go_ret
                  have e : (i1, dk) = S := (eq_stop HU2.out HD2.out hgt).symm.trans AE.out
                  rw [← e]
                  exact ⟨rfl, A.out⟩
                · have hz : ¬ (j1 : Int) < (i1 : Int) := by omega
                  obtain ⟨v1', hy1⟩ := set_some (p := ⟨b, o + i1, none⟩) (x := .int .u32 (G j1)) (hcw j1 (by omega))
                  have A3 := Lib.hid (A.out.swap (i := i1) (j := j1) (by omega) (by omega) (x := .int .u32 (G j1)) (y := .int .u32 (G i1)) (by rw [HG.out]) (by rw [HG.out]))
                  clear A
                  go_wp2_with fail
                  go_region
                  go_wp2
                  go_roundg (j1 - 1 + 2 - (i1 + 1))
                  case measure => omega
                  case rel => exact ⟨i1 + 1, j1 - 1, swp dk i1 j1, by simp, by congr 1; omega, by omega, by omega, by omega, by omega, by omega, by rw [size_swp]; exact hds, A3.out, (eq_go HU2.out HD2.out hgt).symm.trans AE.out⟩
end Go.Proofs.Ytmjjkoiepoblmaa
