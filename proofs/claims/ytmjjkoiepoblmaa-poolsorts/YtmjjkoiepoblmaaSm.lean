/- The library's sort at uint32: the whole of it. -/
import Derived.Test.YtmjjkoiepoblmaaSb
import Derived.Test.YtmjjkoiepoblmaaSc
import Derived.Test.YtmjjkoiepoblmaaSe
import Derived.Test.YtmjjkoiepoblmaaSi
import Derived.Test.YtmjjkoiepoblmaaSj
import Derived.Test.YtmjjkoiepoblmaaSk
import Derived.Test.YtmjjkoiepoblmaaSl
namespace Go.Proofs.Ytmjjkoiepoblmaa
open Go.RowKit Go.Sort

/-- What is left: whoever sorts the part from a to c has sorted all. -/
def Left (l h : Nat) (d : Array Int) (a c : Nat) (dk : Array Int) : Prop := ∀ R, PermIn a c dk R → SortedIn ltInt a c R → PermIn l h d R ∧ SortedIn ltInt l h R
theorem Left.perm {l h a c : Nat} {d dk dm : Array Int} (L : Left l h d a c dk) (p : PermIn a c dk dm) : Left l h d a c dm := fun R q s => L R (permIn_trans _ _ _ _ _ p q) s

set_option maxHeartbeats 12800000 in
set_option maxRecDepth 1000000 in
theorem pdq_any : ∀ (n b o cap : Nat) (d : Array Int) (l h lim : Nat) (w : World) (_ : Holds eU w b o d) (_ : l ≤ h) (_ : h ≤ d.size) (_ : d.size < 65536) (_ : lim ≤ 64) (_ : h - l ≤ n) (_ : Go.Sort.Below ltInt l h d),
    Calls Try.prog 24 #[.slice (some ⟨b, o, none⟩) d.size cap, .int .i64 l, .int .i64 h, .int .i64 lim] w fun e w' =>
      e = .returned (.tuple #[]) ∧ ∃ d', PermIn l h d d' ∧ SortedIn ltInt l h d' ∧ Rw w b o d' w' := by
  intro n
  induction n using Nat.strongRecOn with
  | _ n ih =>
  intro b o cap d l h lim w hH hlh hb hsz hlim hn hB
  have IH := Lib.hid ih
  have R0 := Lib.hid (Rw.self hH)
  have B0 := Lib.hid hB
  clear ih hH hB
  go_enter Try.func24, Try.ntmps24
  go_wp2
  go_loopg [1, 2, 3, 8, 9] (h - l) (fun k s1 s2 s3 s8 s9 wr => ∃ (a c lim : Nat) (wb wp : Bool) (dk : Array Int), s1 = .int .i64 a ∧ s2 = .int .i64 c ∧ s3 = .int .i64 lim ∧ s8 = .bool wb ∧ s9 = .bool wp ∧ l ≤ a ∧ a ≤ c ∧ c ≤ h ∧ c - a ≤ k ∧ lim ≤ 64 ∧ dk.size = d.size ∧ Rw w b o dk wr ∧ Hid (Go.Sort.Below ltInt a c dk) ∧ Hid (Left l h d a c dk))
  case atStart => exact ⟨l, h, lim, true, true, d, rfl, rfl, rfl, rfl, rfl, by omega, hlh, by omega, by omega, hlim, rfl, R0.out, B0, fun R p s => ⟨p, s⟩⟩
  case round =>
    clear R0 B0 hlim hlh
    obtain ⟨a, c, lim, wb, wp, dk, rfl, rfl, rfl, rfl, rfl, hla, hac, hch, hk, hlim, hds, R, HB, HL⟩ := hrel
    have A := Lib.hid R
    clear R
    by_cases hsm : c - a ≤ 12
    · have hz : (c : Int) - (a : Int) ≤ 12 := by omega
      have C := insert_any b o cap dk a c wr A.out.there hac (by omega) (by omega)
      rw [hds] at C
      have C := Lib.hid C
      go_wp2_with (go_at_call 29; refine C.out.mono ?_; rintro e w1 ⟨rfl, R1⟩)
      (try simp only [Exit.inBlock, Exit.then]); refine bodyPost_ret (results_none rfl _ _ _) rfl ?_
      obtain ⟨p, s⟩ := insertionSort_holds swo dk a c hac (by omega)
      obtain ⟨p2, s2⟩ := HL.out _ p s
      exact ⟨rfl, _, p2, s2, A.out.trans R1⟩
    · have hz : ¬ ((c : Int) - (a : Int) ≤ 12) := by omega
      by_cases hl0 : lim = 0
      · have hz2 : (lim : Int) = 0 := by omega
        have C := heap_any b o cap dk a c wr A.out.there (by omega) (by omega) (by omega)
        rw [hds] at C
        have C := Lib.hid C
        go_wp2_with (go_at_call 30; refine C.out.mono ?_; rintro e w1 ⟨rfl, R1⟩)
        (try simp only [Exit.inBlock, Exit.then]); refine bodyPost_ret (results_none rfl _ _ _) rfl ?_
        obtain ⟨p, s⟩ := heapSort_holds swo dk a c hac (by omega)
        obtain ⟨p2, s2⟩ := HL.out _ p s
        exact ⟨rfl, _, p2, s2, A.out.trans R1⟩
      · have hz2 : ¬ ((lim : Int) = 0) := by omega
        go_upto_if 35 with fail
        go_cut [3] from 19 to 133 (fun x wc => ∃ (lim1 : Nat) (d1 : Array Int), x = .int .i64 lim1 ∧ lim1 ≤ 64 ∧ Hid (PermIn a c dk d1) ∧ Rw w b o d1 wc)
        case first =>
          have C := break_any b o cap dk a c wr A.out.there (by omega) (by omega) (by omega)
          rw [hds] at C
          have C := Lib.hid C
          cases wb with
          | false =>
            go_wp2_with (go_at_call 31; refine C.out.mono ?_; rintro e w1 ⟨rfl, d1, P1, R1⟩)
            go_meet
            exact ⟨lim - 1, d1, by congr 1; omega, by omega, P1, A.out.trans R1⟩
          | true =>
            go_wp2
            go_meet
            exact ⟨lim, dk, rfl, hlim, permIn_refl dk a c, A.out⟩
        case rest =>
          clear A
          obtain ⟨lim1, d1, rfl, hlim1, P1, R1⟩ := hcut
          have A := Lib.hid R1
          have hd1 : d1.size = d.size := P1.out.1.trans hds
          have HL1 := Lib.hid (HL.out.perm P1.out)
          have HB1 := Lib.hid (HB.out.perm (by omega) P1.out)
          clear R1 HL HB P1 hds dk hlim hl0 hz2
          have C := pivot_any b o cap d1 a c wc A.out.there (by omega) (by omega) (by omega)
          rw [hd1] at C
          have C := Lib.hid C
          go_upto_region 11 with (go_at_call 32; refine C.out.mono ?_; rintro e w1 ⟨p, t, rfl, hp1, hp2, k1⟩)
          have A1 := Lib.hid (A.out.below k1)
          clear A C k1
          go_upto_if 50 with fail
          go_cut [11, 12] from 19 to 133 (fun x y wc => ∃ (p1 : Nat) (t1 : Int) (d2 : Array Int), x = .int .i64 p1 ∧ y = .int .i64 t1 ∧ a ≤ p1 ∧ p1 < c ∧ Hid (PermIn a c d1 d2) ∧ Rw w b o d2 wc)
          case first =>
            have C := reverse_any b o cap d1 a c w1 A1.out.there (by omega) (by omega) (by omega)
            rw [hd1] at C
            have C := Lib.hid C
            by_cases ht : t = 2
            · subst ht
              go_wp2_with (go_at_call 33; refine C.out.mono ?_; rintro e w2 ⟨rfl, R1⟩)
              go_meet
              exact ⟨c - 1 - (p - a), 1, reverseRange d1 a c, by congr 1; omega, rfl, by omega, by omega, reverseRange_holds d1 a c hac (by omega), A1.out.trans R1⟩
            · go_wp2
              go_meet
              exact ⟨p, t, d1, rfl, rfl, hp1, hp2, permIn_refl d1 a c, A1.out⟩
          case rest =>
            clear A1 hp1 hp2 p t
            obtain ⟨p, t, d2, rfl, rfl, hp1, hp2, P1, R1⟩ := hcut
            have A := Lib.hid R1
            have hd2 : d2.size = d.size := P1.out.1.trans hd1
            have HL2 := Lib.hid (HL1.out.perm P1.out)
            have HB2 := Lib.hid (HB1.out.perm (by omega) P1.out)
            clear R1 HL1 HB1 P1 hd1 d1
            go_upto_region 15 with fail
            go_cut [68] from 19 to 133 (fun x wc => (∃ z : Bool, x = .bool z) ∧ Rw w b o d2 wc)
            case first =>
              cases wb
              · go_wp2
                go_meet
                exact ⟨⟨_, rfl⟩, A.out⟩
              · cases wp
                · go_wp2
                  go_meet
                  exact ⟨⟨_, rfl⟩, A.out⟩
                · go_wp2
                  go_meet
                  exact ⟨⟨_, rfl⟩, A.out⟩
            case rest =>
              clear A
              obtain ⟨⟨z, rfl⟩, R1⟩ := hcut
              have A := Lib.hid R1
              clear R1
              go_upto_if 68 with fail
              go_cut [] from 19 to 133 (fun wc => ∃ d3 : Array Int, Hid (PermIn a c d2 d3) ∧ Rw w b o d3 wc)
              case first =>
                cases z with
                | false =>
                  go_wp2
                  go_meet
                  exact ⟨d2, permIn_refl d2 a c, A.out⟩
                | true =>
                  have C := partial_any b o cap d2 a c wc A.out.there (by omega) (by omega) (by omega)
                  rw [hd2] at C
                  obtain ⟨PP, PS⟩ := partialInsertionSort_holds swo d2 a c (by omega) (by omega) HB2.out
                  generalize hZ : partialInsertionSort ltInt d2 a c = Z at C PP PS
                  obtain ⟨d3, f⟩ := Z
                  have C := Lib.hid C
                  have PP := Lib.hid PP
                  have PS := Lib.hid PS
                  clear hZ
                  cases f with
                  | true =>
                    go_wp2_with (go_at_call 34; refine C.out.mono ?_; rintro e w2 ⟨rfl, R1⟩)
                    (try simp only [Exit.inBlock, Exit.then]); refine bodyPost_ret (results_none rfl _ _ _) rfl ?_
                    obtain ⟨p2, s2⟩ := HL2.out _ PP.out (PS.out (by first | rfl | trivial))
                    exact ⟨rfl, _, p2, s2, A.out.trans R1⟩
                  | false =>
                    go_wp2_with (go_at_call 34; refine C.out.mono ?_; rintro e w2 ⟨rfl, R1⟩)
                    go_meet
                    exact ⟨d3, PP.out, A.out.trans R1⟩
              case rest =>
                clear A
                obtain ⟨d3, P1, R1⟩ := hcut
                have A := Lib.hid R1
                have hd3 : d3.size = d.size := P1.out.1.trans hd2
                have HL3 := Lib.hid (HL2.out.perm P1.out)
                have HB3 := Lib.hid (HB2.out.perm (by omega) P1.out)
                clear R1 HL2 HB2 P1 hd2 d2
                obtain ⟨G, HG, hcw, hfw⟩ := A.out.fams hd3
                obtain ⟨f, hf⟩ : ∃ f, f = (decide (0 < a) && !ltInt (G (a - 1)) (G p)) := ⟨_, rfl⟩
                have HF := Lib.hid hf
                clear hf hfw
                go_upto_region 17 with fail
                go_cut [87] from 19 to 133 (fun x wc => x = .bool f ∧ Rw w b o d3 wc)
                case first =>
                  by_cases ha0 : 0 < a
                  · have hz4 : 0 < (a : Int) := by omega
                    have hd : decide (0 < a) = true := decide_eq_true ha0
                    go_wp2_with fail
                    go_big_quiet (first | (go_at_call 35; refine Calls.quiet_of_same (less_any _ _ _)))
                    go_wp2_with fail
                    go_meet
                    exact ⟨by rw [HF.out, hd]; simp, A.out.drewN nq⟩
                  · have hz4 : decide (0 < (a : Int)) = false := decide_eq_false (by omega)
                    have hd : decide (0 < a) = false := decide_eq_false ha0
                    go_wp2_with fail
                    go_big_quiet (first | (go_at_call 35; refine Calls.quiet_of_same (less_any _ _ _)))
                    go_wp2_with fail
                    go_meet
                    exact ⟨by rw [HF.out, hd]; simp, A.out.drewN nq⟩
                case rest =>
                  clear A hcw
                  obtain ⟨rfl, R1⟩ := hcut
                  have A := Lib.hid R1
                  clear R1
                  have HF2 : Hid (f = (decide (0 < a) && !ltInt d3[a - 1]! d3[p]!)) := by
                    refine HF.out.trans ?_
                    simp only [HG.out]
                  clear HF HG G
                  cases f with
                  | true =>
                    obtain ⟨ha0, hnl⟩ : 0 < a ∧ ltInt d3[a - 1]! d3[p]! = false := by
                      have := HF2.out
                      simp at this
                      exact this
                    obtain ⟨⟨mid, d4⟩, hZ⟩ : ∃ Z, partitionEqual ltInt d3 a c p = Z := ⟨_, rfl⟩
                    obtain ⟨m1, m2, m3, m4, m5⟩ := round_eq swo (partitionEqual_holds ltInt) ha0 hp1 hp2 (by omega) HB3.out hnl hZ
                    have C := parteq_any b o cap d3 a c p wc A.out.there hp1 hp2 (by omega) (by omega)
                    rw [hd3, hZ] at C
                    have C := Lib.hid C
                    have M4 := Lib.hid m4
                    have M5 := Lib.hid m5
                    clear m4 m5 hZ hnl HF2
                    go_wp2_with (go_at_call 36; refine C.out.mono ?_; rintro e w2 ⟨rfl, R1⟩)
                    go_roundg (c - mid)
                    case measure => omega
                    case rel => exact ⟨mid, c, lim1, wb, wp, d4, rfl, rfl, rfl, rfl, rfl, by omega, m2, hch, by omega, hlim1, m3.trans hd3, A.out.trans R1, M4.out, fun R q s => HL3.out R (M5.out R q s).1 (M5.out R q s).2⟩
                  | false =>
                    clear HF2
                    obtain ⟨⟨mid, ap, d4⟩, hZ⟩ : ∃ Z, partition ltInt d3 a c p = Z := ⟨_, rfl⟩
                    obtain ⟨m1, m2, m3, mB1, mB2, mL, mR⟩ := round_part swo (partition_holds ltInt) hp1 hp2 (by omega) HB3.out hZ
                    have C := part_any b o cap d3 a c p wc A.out.there hp1 hp2 (by omega) (by omega)
                    rw [hd3, hZ] at C
                    have C := Lib.hid C
                    have MB1 := Lib.hid mB1
                    have MB2 := Lib.hid mB2
                    have ML := Lib.hid mL
                    have MR := Lib.hid mR
                    have hd4 : d4.size = d.size := m3.trans hd3
                    have e8 : Int.tdiv ((c : Int) - (a : Int)) 8 = (((c - a) / 8 : Nat) : Int) := by
                      rw [show (c : Int) - (a : Int) = ((c - a : Nat) : Int) by omega]
                      rfl
                    generalize (c - a) / 8 = thr at e8
                    clear mB1 mB2 mL mR hZ HB3
                    by_cases hleft : mid - a < c - mid
                    · have hz5 : (mid : Int) - (a : Int) < (c : Int) - (mid : Int) := by omega
                      go_upto_region 26 with (go_at_call 37; refine C.out.mono ?_; rintro e w2 ⟨f, rfl, R1⟩)
                      have A1 := Lib.hid (A.out.trans R1)
                      clear A R1 C
                      have C := IH.out (mid - a) (by omega) b o cap d4 a mid lim1 w2 A1.out.there m1 (by omega) (by omega) hlim1 (by omega) MB1.out
                      rw [hd4] at C
                      have C := Lib.hid C
                      go_wp2_with (go_at_call 24; refine C.out.mono ?_; rintro e w3 ⟨rfl, d5, p5, s5, R5⟩)
                      go_roundg (c - (mid + 1))
                      case measure => omega
                      case rel =>
                        obtain ⟨q1, q2⟩ := ML.out d5 p5 s5
                        exact ⟨mid + 1, c, lim1, _, f, d5, by simp, rfl, rfl, rfl, rfl, by omega, by omega, hch, by omega, hlim1, p5.1.trans hd4, A1.out.trans R5, q1, fun R q s => HL3.out R (q2 R q s).1 (q2 R q s).2⟩
                    · have hz5 : ¬ ((mid : Int) - (a : Int) < (c : Int) - (mid : Int)) := by omega
                      go_upto_region 29 with (go_at_call 37; refine C.out.mono ?_; rintro e w2 ⟨f, rfl, R1⟩)
                      have A1 := Lib.hid (A.out.trans R1)
                      clear A R1 C
                      have C := IH.out (c - (mid + 1)) (by omega) b o cap d4 (mid + 1) c lim1 w2 A1.out.there (by omega) (by omega) (by omega) hlim1 (by omega) MB2.out
                      rw [hd4, show ((mid + 1 : Nat) : Int) = (mid : Int) + 1 by omega] at C
                      have C := Lib.hid C
                      go_wp2_with (go_at_call 24; refine C.out.mono ?_; rintro e w3 ⟨rfl, d5, p5, s5, R5⟩)
                      go_roundg (mid - a)
                      case measure => omega
                      case rel =>
                        obtain ⟨q1, q2⟩ := MR.out d5 p5 s5
                        exact ⟨a, mid, lim1, _, f, d5, rfl, rfl, rfl, rfl, rfl, hla, by omega, by omega, by omega, hlim1, p5.1.trans hd4, A1.out.trans R5, q1, fun R q s => HL3.out R (q2 R q s).1 (q2 R q s).2⟩

/-- slices.Sort: the row's numbers, rising. -/
theorem sort_any (b o cap : Nat) (d : Array Int) (w : World) (hH : Holds eU w b o d) (hsz : d.size < 65536) :
    Calls Try.prog 20 #[.slice (some ⟨b, o, none⟩) d.size cap] w fun e w' =>
      e = .returned (.tuple #[]) ∧ ∃ d', PermIn 0 d.size d d' ∧ SortedIn ltInt 0 d.size d' ∧ Rw w b o d' w' := by
  have C1 := len_any d.size hsz w
  have h16 := len_16 d.size hsz
  generalize Lib.bitLen d.size = L at C1 h16
  have C2 := Lib.hid (pdq_any d.size b o cap d 0 d.size L w hH (Nat.zero_le _) (Nat.le_refl _) hsz (by omega) (by omega) (.inl rfl))
  go_enter Try.func20, Try.ntmps20
  go_wp2_with (first
    | (go_at_call 25; refine C1.mono ?_; rintro e w1 ⟨rfl, rfl⟩)
    | (go_at_call 24; refine C2.out.mono ?_; rintro e w1 ⟨rfl, d', p, s, R⟩))
  go_end0
  exact ⟨rfl, d', p, s, R⟩
end Go.Proofs.Ytmjjkoiepoblmaa
