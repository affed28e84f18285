/- PoolPlays: any row of operations. -/
import Derived.Test.YtmjjkoiepoblmaaNo
namespace Go.Proofs.Ytmjjkoiepoblmaa
open Go.RowKit Go.Sort Go.Maps

set_option maxHeartbeats 3200000 in
theorem plays_core (w : World) (A : Option Addr) (L c : Nat) (os : List (Nat × Int)) (hL : os.length = L) (HO : Hid (Opl w A os)) :
    Calls Try.prog 3 #[.slice A L c] w fun e w' => e = .returned (.bool true) ∧ Below w.heap.size w w' := by
  have HL := Lib.hid hL
  clear hL
  go_enter Try.func3, Try.ntmps3
  by_cases hbig : 200 < L
  · have hz : 200 < (L : Int) := by omega
    have C := fixed_any w
    go_wp2_with (go_at_call 7; refine C.mono ?_; rintro e w1 ⟨rfl, hB⟩)
    go_ret
    exact ⟨rfl, hB⟩
  · have hz : ¬ 200 < (L : Int) := by omega
    have C := own_new w
    go_wp2_with (go_at_call 8; refine C.mono ?_; rintro e w1 ⟨p, rfl, hown⟩)
    have HS := Lib.hid (At.start hown)
    clear hown C
    go_loopg [4, 18] L (fun k s4 s18 wr => ∃ (i : Nat) (s : List Int), s18 = .int .i64 i ∧ i ≤ L ∧ L - i ≤ k ∧ s.length ≤ i ∧ Hid (At w wr p s4 s))
    case atStart => exact ⟨0, [], rfl, by omega, by omega, by simp, HS.out⟩
    case round =>
      obtain ⟨i, s, rfl, h1, h2, h3, HA⟩ := hrel
      by_cases hi : i < L
      · have hz2 : (i : Int) < (L : Int) := by omega
        have hi2 : i < os.length := by rw [HL.out]; exact hi
        obtain ⟨b, off, d, n, rfl, ho, hd, hn0, hn1, c0, c1⟩ := (HO.out.below (Below.mono HA.out.below (Nat.le_refl _))).get (i := i) hi2
        have hbx : Below wr.heap.size wr (wr.alloc (.cells #[.int .u8 (d : Int), .int .u32 n] 29)) := alb _
        have b0 : (wr.alloc (.cells #[.int .u8 (d : Int), .int .u32 n] 29)).cell? ⟨wr.heap.size, 0, none⟩ = some (.int .u8 (d : Int)) := by rw [World.cell?_alloc_at _ _ _ _ rfl]; rfl
        have b1 : (wr.alloc (.cells #[.int .u8 (d : Int), .int .u32 n] 29)).cell? ⟨wr.heap.size, 1, none⟩ = some (.int .u32 n) := by rw [World.cell?_alloc_at _ _ _ _ rfl]; rfl
        have BX := Lib.hid hbx
        have B0 := Lib.hid b0
        have B1 := Lib.hid b1
        clear ho b0 b1 hbx
        go_upto_region 10 with fail
        generalize wr.alloc (.cells #[.int .u8 (d : Int), .int .u32 n] 29) = w1 at *
        have b0 := B0.out
        have b1 := B1.out
        have C := Lib.hid ((HA.out.drop BX.out).step d n hn0 hn1 (by omega))
        clear c0 c1
        go_upto_region 11 with (go_at_call 9; refine C.out.mono ?_; rintro e w2 ⟨v2, rfl, h2⟩)
        obtain ⟨A2, c2, hv2, _⟩ := h2.nums
        have H2 := Lib.hid h2
        have hlen : (stp d n s).length ≤ i + 1 := Nat.le_trans (stp_len HA.out.ris d n) (by omega)
        clear h2 C b0 b1
        generalize stp d n s = s2 at *
        subst hv2
        have PL := Lib.hid (own_plen H2.out.own)
        go_wp2_with (go_at_call 10; refine PL.out.mono ?_; rintro e w3 ⟨rfl, rfl⟩)
        go_roundg (L - (i + 1))
        case measure => omega
        case rel => exact ⟨i + 1, s2, by simp, by omega, by omega, hlen, H2⟩
      · have hz2 : ¬ (i : Int) < (L : Int) := by omega
        obtain ⟨A2, c2, hv2, _⟩ := HA.out.nums
        subst hv2
        have FX := Lib.hid (fixed_any wr)
        go_wp2_with (first
          | (go_at_call 7; refine FX.out.mono ?_; rintro e w3 ⟨rfl, hB3⟩; have H3 := Lib.hid (HA.out.drop hB3); clear hB3)
          | (go_at_call 12; refine (H3.out.same (by omega)).mono ?_; rintro e w4 ⟨v4, rfl, hn4, hB4⟩; have H4 := Lib.hid (H3.out.drop hB4); have N4 := Lib.hid hn4; clear hB4 hn4)
          | (go_at_call 11; refine (rsame_any _ _ _ s s N4.out H4.out.nums).mono ?_; rintro e w5 ⟨he, hB5⟩; rw [decide_eq_true rfl] at he; subst he))
        go_ret
        exact ⟨rfl, btr H4.out.below hB5⟩
end Go.Proofs.Ytmjjkoiepoblmaa
