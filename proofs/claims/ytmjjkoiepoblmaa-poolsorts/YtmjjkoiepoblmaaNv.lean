/- PoolCopies: two pools, each with a list of its own. -/
import Derived.Test.YtmjjkoiepoblmaaNo
namespace Go.Proofs.Ytmjjkoiepoblmaa
open Go.RowKit Go.Sort Go.Maps

/-- Two pools behind w0, apart. -/
def Two (w0 w : World) (p : Nat) (v : Value) (s : List Int) (q : Nat) (u : Value) (t : List Int) : Prop :=
  ∃ F G, On w p F v s ∧ On w q G u t ∧ (∀ b, F b → ¬ G b) ∧ (∀ b, v.ownBlock = some b → ¬ G b) ∧ (∀ b, u.ownBlock = some b → ¬ F b) ∧ (∀ b, F b → w0.heap.size ≤ b) ∧ (∀ b, G b → w0.heap.size ≤ b) ∧ Below w0.heap.size w0 w
theorem Two.swap {w0 w : World} {p q : Nat} {v u : Value} {s t : List Int} (h : Two w0 w p v s q u t) : Two w0 w q u t p v s := by
  obtain ⟨F, G, h1, h2, h3, h4, h5, h6, h7, h8⟩ := h
  exact ⟨G, F, h2, h1, fun b hb hf => h3 b hf hb, h5, h4, h7, h6, h8⟩
theorem Two.step {w0 w : World} {p q : Nat} {v u : Value} {s t : List Int} (h : Two w0 w p v s q u t) (d : Nat) (n : Int) (h0 : 0 ≤ n) (h1 : n < 4294967296) (hl : s.length < 50000) :
    Calls Try.prog 9 #[.pointer (some ⟨p, 0, none⟩), v, .agg #[.int .u8 (d : Int), .int .u32 n]] w fun e w' => ∃ v', e = .returned (.tuple #[v', .bool true]) ∧ Two w0 w' p v' (stp d n s) q u t := by
  obtain ⟨F, G, g1, g2, g3, g4, g5, g6, g7, g8⟩ := h
  refine (step_any w p F v s d n g1 h0 h1 hl).mono ?_
  rintro e w' ⟨v', rfl, m⟩
  obtain ⟨F', k1, k2, k3, k4⟩ := On.next m
  have hs := g8.size
  refine ⟨v', rfl, F', G, k1, ⟨g2.po.keep k2 (fun b hb hf => g3 b hf hb), g2.nums.keep k2 g5, fun b hb => ⟨(g2.apart b hb).1, Nat.lt_of_lt_of_le (g2.apart b hb).2 k2.size⟩⟩, ?_, ?_, ?_, ?_, g7, g8.trans (k2.below hs g6)⟩
  · intro b hb hg
    rcases k3 b hb with q | q
    · exact g3 b q hg
    · have := g2.po.lt b hg
      omega
  · intro b hb hg
    rcases k4 b hb with q | q
    · exact g4 b q hg
    · have := g2.po.lt b hg
      omega
  · intro b hb hf
    rcases k3 b hf with q | q
    · exact g5 b hb q
    · have := (g2.apart b hb).2
      omega
  · intro b hb
    rcases k3 b hb with q | q
    · exact g6 b q
    · omega
theorem Two.drop {w0 w w' : World} {p q : Nat} {v u : Value} {s t : List Int} (h : Two w0 w p v s q u t) (k : Below w.heap.size w w') : Two w0 w' p v s q u t := by
  obtain ⟨F, G, g1, g2, g3, g4, g5, g6, g7, g8⟩ := h
  exact ⟨F, G, g1.below k, g2.below k, g3, g4, g5, g6, g7, btr g8 k⟩
theorem Two.at {w0 w : World} {p q : Nat} {v u : Value} {s t : List Int} (h : Two w0 w p v s q u t) : At w0 w p v s := by
  obtain ⟨F, G, g1, g2, g3, g4, g5, g6, g7, g8⟩ := h
  exact ⟨⟨F, g1, g6⟩, g8⟩
theorem At.copy {w0 w : World} {p : Nat} {v : Value} {s : List Int} (h : At w0 w p v s) (hl : s.length < 65536) :
    Calls Try.prog 17 #[.pointer (some ⟨p, 0, none⟩)] w fun e w' => ∃ q, e = .returned (.pointer (some ⟨q, 0, none⟩)) ∧ Two w0 w' p v s q v s := by
  obtain ⟨⟨F, ho, hF⟩, hB⟩ := h
  refine (copy_any w p F s ho.po hl).mono ?_
  rintro e w' ⟨q, rfl, k, G, hg, hG⟩
  have hs := hB.size
  have ap : ∀ b, v.ownBlock = some b → ¬ G b := fun b hb hg => by
    have := hG b hg
    have := (ho.apart b hb).2
    omega
  refine ⟨q, rfl, F, G, ho.below k, ⟨hg, ho.nums.below k, fun b hb => ⟨ap b hb, Nat.lt_of_lt_of_le (ho.apart b hb).2 k.size⟩⟩, fun b hf hg => ?_, ap, fun b hb => (ho.apart b hb).1, hF, fun b hb => by have := hG b hb; omega, btr hB k⟩
  have := hG b hg
  have := ho.po.lt b hf
  omega

set_option maxHeartbeats 6400000 in
theorem copies_core (w : World) (A A1 A2 : Option Addr) (L c L1 c1 L2 c2 : Nat) (os os1 os2 : List (Nat × Int)) (hL : os.length = L) (hL1 : os1.length = L1) (hL2 : os2.length = L2) (HO : Hid (Opl w A os)) (HO1 : Hid (Opl w A1 os1)) (HO2 : Hid (Opl w A2 os2)) :
    Calls Try.prog 5 #[.slice A L c, .slice A1 L1 c1, .slice A2 L2 c2] w fun e w' => e = .returned (.bool true) ∧ Below w.heap.size w w' := by
  have HL := Lib.hid hL
  have HL1 := Lib.hid hL1
  have HL2 := Lib.hid hL2
  clear hL hL1 hL2
  go_enter Try.func5, Try.ntmps5
  by_cases hbig : 100 < L ∨ 100 < L1 ∨ 100 < L2
  · have C := fixed_any w
    have far : ∀ x y z : Bool, (x || y || z) = true → (x = true) ∨ (x = false ∧ y = true) ∨ (x = false ∧ y = false ∧ z = true) := by decide
    have hb : (decide (100 < (L : Int)) || decide (100 < (L1 : Int)) || decide (100 < (L2 : Int))) = true := by
      simp
      omega
    rcases far _ _ _ hb with z1 | ⟨z1, z2⟩ | ⟨z1, z2, z3⟩
    · go_wp2_with (go_at_call 7; refine C.mono ?_; rintro e w1 ⟨rfl, hB⟩)
      go_ret
      exact ⟨rfl, hB⟩
    · go_wp2_with (go_at_call 7; refine C.mono ?_; rintro e w1 ⟨rfl, hB⟩)
      go_ret
      exact ⟨rfl, hB⟩
    · go_wp2_with (go_at_call 7; refine C.mono ?_; rintro e w1 ⟨rfl, hB⟩)
      go_ret
      exact ⟨rfl, hB⟩
  · have b0 : L ≤ 100 := by omega
    have b1 : L1 ≤ 100 := by omega
    have b2 : L2 ≤ 100 := by omega
    have z0 : decide (100 < (L : Int)) = false := decide_eq_false (by omega)
    have z1 : decide (100 < (L1 : Int)) = false := decide_eq_false (by omega)
    have z2 : decide (100 < (L2 : Int)) = false := decide_eq_false (by omega)
    clear hbig
    have C := own_new w
    go_wp2_with (go_at_call 8; refine C.mono ?_; rintro e w1 ⟨p, rfl, hown⟩)
    have HS := Lib.hid (At.start hown)
    clear hown C z0 z1 z2
    go_loopg [8, 36] L (fun k s4 s18 wr => ∃ (i : Nat) (s : List Int), s18 = .int .i64 i ∧ i ≤ L ∧ L - i ≤ k ∧ s.length ≤ i ∧ Hid (At w wr p s4 s))
    case atStart => exact ⟨0, [], rfl, by omega, by omega, by simp, HS.out⟩
    case round =>
      obtain ⟨i, s, rfl, h1, h2, h3, HA⟩ := hrel
      by_cases hi : i < L
      · have hz2 : (i : Int) < (L : Int) := by omega
        have hi2 : i < os.length := by rw [HL.out]; exact hi
        obtain ⟨b, off, d, n, rfl, ho, hd, hn0, hn1, c0, c1⟩ := (HO.out.below (Below.mono HA.out.below (Nat.le_refl _))).get (i := i) hi2
        have hbx : Below wr.heap.size wr (wr.alloc (.cells #[.int .u8 (d : Int), .int .u32 n] 29)) := alb _
        have b0 : (wr.alloc (.cells #[.int .u8 (d : Int), .int .u32 n] 29)).cell? ⟨wr.heap.size, 0, none⟩ = some (.int .u8 (d : Int)) := by rw [World.cell?_alloc_at _ _ _ _ rfl]; rfl
        have b1 : (wr.alloc (.cells #[.int .u8 (d : Int), .int .u32 n] 29)).cell? ⟨wr.heap.size, 1, none⟩ = some (.int .u32 n) := by rw [World.cell?_alloc_at _ _ _ _ rfl]; rfl
        have BX := Lib.hid hbx
        have B0 := Lib.hid b0
        have B1 := Lib.hid b1
        clear ho b0 b1 hbx
        go_upto_region 10 with fail
        generalize wr.alloc (.cells #[.int .u8 (d : Int), .int .u32 n] 29) = w1 at *
        have b0 := B0.out
        have b1 := B1.out
        have C := Lib.hid ((HA.out.drop BX.out).step d n hn0 hn1 (by omega))
        clear c0 c1
        go_wp2_with (go_at_call 9; refine C.out.mono ?_; rintro e w2 ⟨v2, rfl, hn2⟩)
        go_roundg (L - (i + 1))
        case measure => omega
        case rel => exact ⟨i + 1, _, by simp, by omega, by omega, Nat.le_trans (stp_len HA.out.ris d n) (by omega), hn2⟩
      · have hz2 : ¬ (i : Int) < (L : Int) := by omega
        generalize u8 = m0 at *
        have CP := Lib.hid (HA.out.copy (by omega))
        go_wp2_with (go_at_call 17; refine CP.out.mono ?_; rintro e w2 ⟨q, rfl, htw⟩)
        have TW := Lib.hid htw
        have RS := Lib.hid HA.out.ris
        clear htw CP
        go_loopg [8, 55] L1 (fun k s8 s55 wq => ∃ (j : Nat) (t : List Int), s55 = .int .i64 j ∧ j ≤ L1 ∧ L1 - j ≤ k ∧ t.length ≤ i + j ∧ Hid (Two w wq p s8 t q m0 s))
        case atStart => exact ⟨0, s, rfl, by omega, by omega, by omega, TW.out⟩
        case round =>
          obtain ⟨j, t, rfl, j1, j2, j3, HT⟩ := hrel
          by_cases hj : j < L1
          · have hz3 : (j : Int) < (L1 : Int) := by omega
            have hi2 : j < os1.length := by rw [HL1.out]; exact hj
            obtain ⟨b, off, d, n, rfl, ho, hd, hn0, hn1, c0, c1⟩ := (HO1.out.below (Below.mono (HT.out.at.below) (Nat.le_refl _))).get (i := j) hi2
            have hbx : Below wr.heap.size wr (wr.alloc (.cells #[.int .u8 (d : Int), .int .u32 n] 29)) := alb _
            have b0 : (wr.alloc (.cells #[.int .u8 (d : Int), .int .u32 n] 29)).cell? ⟨wr.heap.size, 0, none⟩ = some (.int .u8 (d : Int)) := by rw [World.cell?_alloc_at _ _ _ _ rfl]; rfl
            have b1 : (wr.alloc (.cells #[.int .u8 (d : Int), .int .u32 n] 29)).cell? ⟨wr.heap.size, 1, none⟩ = some (.int .u32 n) := by rw [World.cell?_alloc_at _ _ _ _ rfl]; rfl
            have BX := Lib.hid hbx
            have B0 := Lib.hid b0
            have B1 := Lib.hid b1
            clear ho b0 b1 hbx
            go_upto_region 18 with fail
            generalize wr.alloc (.cells #[.int .u8 (d : Int), .int .u32 n] 29) = w1 at *
            have b0 := B0.out
            have b1 := B1.out
            have C := Lib.hid ((HT.out.drop BX.out).step d n hn0 hn1 (by omega))
            clear c0 c1
            go_wp2_with (go_at_call 9; refine C.out.mono ?_; rintro e w2 ⟨v2, rfl, hn2⟩)
            go_roundg (L1 - (j + 1))
            case measure => omega
            case rel => exact ⟨j + 1, _, by simp, by omega, by omega, Nat.le_trans (stp_len HT.out.at.ris d n) (by omega), hn2⟩
          · have hz3 : ¬ (j : Int) < (L1 : Int) := by omega
            generalize u8 = x0 at *
            go_wp2
            go_loopg [12, 69] L2 (fun k s12 s69 wq => ∃ (z : Nat) (r : List Int), s69 = .int .i64 z ∧ z ≤ L2 ∧ L2 - z ≤ k ∧ r.length ≤ i + z ∧ Hid (Two w wq p x0 t q s12 r))
            case atStart => exact ⟨0, s, rfl, by omega, by omega, by omega, HT.out⟩
            case round =>
              obtain ⟨z, r, rfl, y1, y2, y3, HX⟩ := hrel
              by_cases hz : z < L2
              · have hz4 : (z : Int) < (L2 : Int) := by omega
                have hi2 : z < os2.length := by rw [HL2.out]; exact hz
                obtain ⟨b, off, d, n, rfl, ho, hd, hn0, hn1, c0, c1⟩ := (HO2.out.below (Below.mono (HX.out.at.below) (Nat.le_refl _))).get (i := z) hi2
                have hbx : Below wr.heap.size wr (wr.alloc (.cells #[.int .u8 (d : Int), .int .u32 n] 29)) := alb _
                have b0 : (wr.alloc (.cells #[.int .u8 (d : Int), .int .u32 n] 29)).cell? ⟨wr.heap.size, 0, none⟩ = some (.int .u8 (d : Int)) := by rw [World.cell?_alloc_at _ _ _ _ rfl]; rfl
                have b1 : (wr.alloc (.cells #[.int .u8 (d : Int), .int .u32 n] 29)).cell? ⟨wr.heap.size, 1, none⟩ = some (.int .u32 n) := by rw [World.cell?_alloc_at _ _ _ _ rfl]; rfl
                have BX := Lib.hid hbx
                have B0 := Lib.hid b0
                have B1 := Lib.hid b1
                clear ho b0 b1 hbx
                go_upto_region 23 with fail
                generalize wr.alloc (.cells #[.int .u8 (d : Int), .int .u32 n] 29) = w1 at *
                have b0 := B0.out
                have b1 := B1.out
                have C := Lib.hid ((HX.out.swap.drop BX.out).step d n hn0 hn1 (by omega))
                clear c0 c1
                go_wp2_with (go_at_call 9; refine C.out.mono ?_; rintro e w2 ⟨v2, rfl, hn2⟩)
                go_roundg (L2 - (z + 1))
                case measure => omega
                case rel => exact ⟨z + 1, _, by simp, by omega, by omega, Nat.le_trans (stp_len HX.out.swap.at.ris d n) (by omega), hn2.swap⟩
              · have hz4 : ¬ (z : Int) < (L2 : Int) := by omega
                generalize u12 = y0 at *
                obtain ⟨A5, c5, hv5, _⟩ := HX.out.at.nums
                obtain ⟨A6, c6, hv6, _⟩ := HX.out.swap.at.nums
                subst hv5
                subst hv6
                have FX := Lib.hid (fixed_any wr)
                have lt1 : t.length < 65536 := by omega
                have lt2 : r.length < 65536 := by omega
                go_wp2_with (first
                  | (go_at_call 11; refine (rsame_any _ _ _ r r N6.out H6.out.swap.at.nums).mono ?_; rintro e w7 ⟨he, hB7⟩; rw [decide_eq_true rfl] at he; subst he)
                  | (go_at_call 12; refine (H5.out.swap.at.same lt2).mono ?_; rintro e w6 ⟨v6, rfl, hn6, hB6⟩; have H6 := Lib.hid (H5.out.drop hB6); have N6 := Lib.hid hn6; clear hB6 hn6)
                  | (go_at_call 11; refine (rsame_any _ _ _ t t N4.out H4.out.at.nums).mono ?_; rintro e w5 ⟨he, hB5⟩; rw [decide_eq_true rfl] at he; subst he; have H5 := Lib.hid (H4.out.drop hB5); clear hB5)
                  | (go_at_call 12; refine (H3.out.at.same lt1).mono ?_; rintro e w4 ⟨v4, rfl, hn4, hB4⟩; have H4 := Lib.hid (H3.out.drop hB4); have N4 := Lib.hid hn4; clear hB4 hn4)
                  | (go_at_call 7; refine FX.out.mono ?_; rintro e w3 ⟨rfl, hB3⟩; have H3 := Lib.hid (HX.out.drop hB3); clear hB3))
                go_ret
                exact ⟨rfl, btr H6.out.at.below hB7⟩
end Go.Proofs.Ytmjjkoiepoblmaa
