/- PoolSorts: whatever numbers are put in, they are taken out rising. -/
import Derived.Test.YtmjjkoiepoblmaaNo
namespace Go.Proofs.Ytmjjkoiepoblmaa
open Go.RowKit Go.Sort Go.Maps

/-- A slice of numbers of 32 bits. -/
def W32 (w : World) (A : Option Addr) (l : List Int) : Prop := (∀ x ∈ l, 0 ≤ x ∧ x < 4294967296) ∧ (0 < l.length → ∃ b off, A = some ⟨b, off, none⟩ ∧ ∀ j, j < l.length → w.cell? ⟨b, off + j, none⟩ = some (.int .u32 l[j]!))
theorem W32.get {w w' : World} {A : Option Addr} {l : List Int} (h : W32 w A l) (k : Below w.heap.size w w') {i : Nat} (hi : i < l.length) : ∃ (b off : Nat) (n : Int), A = some ⟨b, off, none⟩ ∧ l[i]! = n ∧ n ∈ l ∧ 0 ≤ n ∧ n < 4294967296 ∧ w'.cell? ⟨b, off + i, none⟩ = some (.int .u32 n) := by
  obtain ⟨b, off, rfl, hc⟩ := h.2 (by omega)
  have e : l[i]! = l[i] := by simp [hi]
  have hm := List.getElem_mem hi
  have hr := h.1 _ hm
  have c := kept (hc i hi) k
  rw [e] at c
  exact ⟨b, off, l[i], rfl, e, hm, hr.1, hr.2, c⟩
/-- The pool at t, and another list told before. -/
structure Tk (w0 w : World) (p : Nat) (v : Value) (t s : List Int) : Prop where
  on : ∃ F, Po w p F t ∧ (∀ b, F b → w0.heap.size ≤ b) ∧ ∀ b, v.ownBlock = some b → ¬ F b
  nums : Nums w v s
  lt : ∀ b, v.ownBlock = some b → b < w.heap.size
  below : Below w0.heap.size w0 w
theorem Tk.own {w0 w : World} {p : Nat} {v : Value} {t s : List Int} (h : Tk w0 w p v t s) : Own w0 w p t := by
  obtain ⟨F, h1, h2, _⟩ := h.on
  exact ⟨F, h1, h2, h.below⟩
theorem Tk.drop {w0 w w' : World} {p : Nat} {v : Value} {t s : List Int} (h : Tk w0 w p v t s) (k : Below w.heap.size w w') : Tk w0 w' p v t s := by
  obtain ⟨F, h1, h2, h3⟩ := h.on
  exact ⟨⟨F, h1.below k, h2, h3⟩, h.nums.below k, fun b hb => Nat.lt_of_lt_of_le (h.lt b hb) k.size, btr h.below k⟩
theorem Tk.take {w0 w : World} {p : Nat} {v : Value} {x : Int} {t s : List Int} (h : Tk w0 w p v (x :: t) s) (hl : t.length < 65535) :
    Calls Try.prog 14 #[.pointer (some ⟨p, 0, none⟩)] w fun e w' => e = .returned (.tuple #[.int .u32 x, .bool true]) ∧ Tk w0 w' p v t s := by
  obtain ⟨F, h1, h2, h3⟩ := h.on
  refine (take_some w p F x t h1 hl).mono ?_
  rintro e w' ⟨rfl, F', g1, g2, g3⟩
  have hs := h.below.size
  refine ⟨rfl, ⟨F', g1, fun b hb => (g3 b hb).elim (h2 b) (fun q => by omega), fun b hb hf => ?_⟩, h.nums.keep g2 h3, fun b hb => Nat.lt_of_lt_of_le (h.lt b hb) g2.size, h.below.trans (g2.below hs h2)⟩
  rcases g3 b hf with q | q
  · exact h3 b hb q
  · have := h.lt b hb
    omega
theorem drop_cons {s : List Int} {i : Nat} (hi : i < s.length) : s.drop i = s[i]! :: s.drop (i + 1) := by
  rw [List.drop_eq_getElem_cons hi]
  simp [hi]
theorem ris_lt {s : List Int} (h : Ris s) {i j : Nat} (hij : i < j) (hj : j < s.length) : s[i]! < s[j]! := by
  have := (List.pairwise_iff_getElem.1 h.up) i j (by omega) hj hij
  simpa [hj, show i < s.length by omega] using this
theorem ris_not {s : List Int} (h : Ris s) {i : Nat} (hi : i < s.length) : s[i]! ∉ s.drop (i + 1) := fun q => by
  have hr : Ris (s[i]! :: s.drop (i + 1)) := by
    rw [← drop_cons hi]
    exact ⟨h.up.sublist (List.drop_sublist i s), fun x hx => h.rng x (List.mem_of_mem_drop hx)⟩
  have := hr.lt _ q
  omega

set_option maxHeartbeats 6400000 in
theorem sorts_core (w : World) (A : Option Addr) (L c : Nat) (l : List Int) (hL : l.length = L) (HO : Hid (W32 w A l)) :
    Calls Try.prog 4 #[.slice A L c] w fun e w' => e = .returned (.bool true) ∧ Below w.heap.size w w' := by
  have HL := Lib.hid hL
  clear hL
  go_enter Try.func4, Try.ntmps4
  by_cases hbig : 300 < L
  · have hz : 300 < (L : Int) := by omega
    have C := fixed_any w
    go_wp2_with (go_at_call 7; refine C.mono ?_; rintro e w1 ⟨rfl, hB⟩)
    go_ret
    exact ⟨rfl, hB⟩
  · have hz : ¬ 300 < (L : Int) := by omega
    have C := own_new w
    go_wp2_with (go_at_call 8; refine C.mono ?_; rintro e w1 ⟨p, rfl, hown⟩)
    have HS := Lib.hid hown
    clear hown C
    go_loopg [4, 25] L (fun k s4 s25 wr => ∃ (i : Nat) (s : List Int), s25 = .int .i64 i ∧ s4 = .int .i64 s.length ∧ i ≤ L ∧ L - i ≤ k ∧ s.length ≤ i ∧ Hid (Own w wr p s) ∧ Hid (∀ j, j < i → l[j]! ∈ s))
    case atStart => exact ⟨0, [], rfl, rfl, by omega, by omega, by simp, HS.out, fun j hj => by omega⟩
    case round =>
      obtain ⟨i, s, rfl, rfl, h1, h2, h3, HA, HM⟩ := hrel
      have hsl : s.length ≤ 300 := by omega
      have HRS : Hid (Ris s) := by
        obtain ⟨F, g1, _⟩ := HA.out
        exact g1.ris
      have HBW : Hid (Below w.heap.size w wr) := by
        obtain ⟨F, _, _, g3⟩ := HA.out
        exact g3
      by_cases hi : i < L
      · have hz2 : (i : Int) < (L : Int) := by omega
        obtain ⟨b, off, n, rfl, en, hmem, hn0, hn1, c0⟩ := HO.out.get HBW.out (i := i) (by rw [HL.out]; exact hi)
        have EN := Lib.hid en
        have PT := own_put HA.out n hn0 hn1 (by omega)
        have hlen := len_putS HRS.out n
        have HM2 : Hid (∀ j, j < i + 1 → l[j]! ∈ putS n s) := fun j hj => by
          rw [mem_putS]
          rcases Nat.lt_or_ge j i with q | q
          · exact .inr (HM.out j q)
          · obtain rfl : j = i := by omega
            exact .inl EN.out
        clear en hmem
        generalize putS n s = s2 at *
        by_cases hin : n ∈ s
        · rw [decide_eq_true hin] at PT
          rw [if_pos hin] at hlen
          have PT := Lib.hid PT
          have HLN := Lib.hid hlen
          clear hlen
          go_wp2_with (go_at_call 13; refine PT.out.mono ?_; rintro e w2 ⟨rfl, hn2⟩)
          go_roundg (L - (i + 1))
          case measure => omega
          case rel => exact ⟨i + 1, s2, by simp, by rw [HLN.out], by omega, by omega, by rw [HLN.out]; omega, hn2, HM2⟩
        · rw [decide_eq_false hin] at PT
          rw [if_neg hin] at hlen
          have PT := Lib.hid PT
          have HLN := Lib.hid hlen
          clear hlen
          go_wp2_with (go_at_call 13; refine PT.out.mono ?_; rintro e w2 ⟨rfl, hn2⟩)
          go_roundg (L - (i + 1))
          case measure => omega
          case rel => exact ⟨i + 1, s2, by simp, by rw [HLN.out]; simp, by omega, by omega, by rw [HLN.out]; omega, hn2, HM2⟩
      · have hz2 : ¬ (i : Int) < (L : Int) := by omega
        have HM2 : Hid (∀ j, j < L → l[j]! ∈ s) := fun j hj => HM.out j (by omega)
        have LI := Lib.hid (own_list HA.out (by omega))
        go_upto_region 14 with (go_at_call 12; refine LI.out.mono ?_; rintro e w3 ⟨v3, rfl, ho3, hb3⟩)
        have TK : Hid (Tk w w3 p v3 (s.drop 0) s) := by
          obtain ⟨F, g1, g2, g3⟩ := HA.out
          refine ⟨⟨F, by rw [List.drop_zero]; exact g1.below hb3, g2, fun b hb hf => ?_⟩, Nums.own ho3, fun b hb => (ho3.lt b hb).2, btr g3 hb3⟩
          have := g1.lt b hf
          have := (ho3.lt b hb).1
          omega
        obtain ⟨A3, c3, hv3⟩ := own_form ho3
        subst hv3
        have PL := own_plen TK.out.own
        rw [List.drop_zero] at PL
        generalize hm : s.length = m at *
        have HLM := Lib.hid hm
        have PL := Lib.hid PL
        clear ho3 hb3 LI hm HM h3 h1 h2 hi
        go_wp2_with (go_at_call 10; refine PL.out.mono ?_; rintro e w4 ⟨rfl, rfl⟩)
        go_loopg [49] m (fun k s49 wq => ∃ (j : Nat), s49 = .int .i64 j ∧ j ≤ m ∧ m - j ≤ k ∧ Hid (Tk w wq p (.slice A3 m c3) (s.drop j) s))
        case atStart => exact ⟨0, rfl, by omega, by omega, TK.out⟩
        case round =>
          obtain ⟨j, rfl, j1, j2, HQ⟩ := hrel
          by_cases hj : j < m
          · have hz3 : (j : Int) < (m : Int) := by omega
            have hjs : j < s.length := by rw [HLM.out]; exact hj
            obtain ⟨A4, c4, e4, _, _, hcell⟩ := HQ.out.nums
            simp only [Value.slice.injEq] at e4
            obtain ⟨rfl, eL4, rfl⟩ := e4
            clear eL4
            obtain ⟨b, off, rfl, hc⟩ := hcell (by omega)
            obtain ⟨x, hx⟩ : ∃ x, x = s[j]! := ⟨_, rfl⟩
            have c0 := hc j hjs
            rw [← hx] at c0
            have HQ2 := HQ.out
            rw [drop_cons hjs, ← hx] at HQ2
            have HX := Lib.hid hx
            have TT := Lib.hid (HQ2.take (by have := HLM.out; simp; omega))
            have hxr := HRS.out.rng x (by rw [hx]; simp [hjs])
            have HNI : Hid (decide (x ∈ s.drop (j + 1)) = false) := by
              rw [hx]
              exact decide_eq_false (ris_not HRS.out hjs)
            have HC := Lib.hid hc
            clear hx HQ2 hcell hc
            go_upto_region 20 with (go_at_call 14; refine TT.out.mono ?_; rintro e w5 ⟨rfl, h5⟩)
            have T5 := Lib.hid h5
            have PH := own_has h5.own x hxr.1 hxr.2
            rw [HNI.out] at PH
            have PH := Lib.hid PH
            obtain ⟨A6, c6, e6, _, _, hcell6⟩ := h5.nums
            simp only [Value.slice.injEq] at e6
            obtain ⟨rfl, eL6, rfl⟩ := e6
            clear eL6
            obtain ⟨b6, off6, e6, hc6⟩ := hcell6 (by omega)
            simp only [Option.some.injEq, Addr.mk.injEq, and_true] at e6
            obtain ⟨rfl, rfl⟩ := e6
            have HC6 := Lib.hid hc6
            clear h5 TT hcell6 hc6 c0
            rcases Nat.eq_zero_or_pos j with rfl | hj0
            · go_wp2_with (go_at_call 15; refine PH.out.mono ?_; rintro e w6 ⟨rfl, hB6⟩)
              go_roundg (m - (0 + 1))
              case measure => omega
              case rel => exact ⟨0 + 1, by simp, by omega, by omega, T5.out.drop hB6⟩
            · have hj0z : 0 < (j : Int) := by omega
              obtain ⟨y, hy⟩ : ∃ y, y = s[j - 1]! := ⟨_, rfl⟩
              have cy := HC6.out (j - 1) (by omega)
              rw [← hy] at cy
              have hyx : y < x := by
                rw [hy, HX.out]
                exact ris_lt HRS.out (by omega) hjs
              have hyz : ¬ x ≤ y := by omega
              clear hy
              go_wp2_with (go_at_call 15; refine PH.out.mono ?_; rintro e w6 ⟨rfl, hB6⟩)
              go_roundg (m - (j + 1))
              case measure => omega
              case rel => exact ⟨j + 1, by simp, by omega, by omega, T5.out.drop hB6⟩
          · have hz3 : ¬ (j : Int) < (m : Int) := by omega
            have HQ3 : Hid (Tk w wr p (.slice A3 m c3) [] s) := by
              have := HQ.out
              rwa [List.drop_eq_nil_of_le (by rw [HLM.out]; omega)] at this
            go_wp2
            go_loopg [87] L (fun k s87 wq => ∃ (z : Nat), s87 = .int .i64 z ∧ z ≤ L ∧ L - z ≤ k ∧ wr = wq)
            case atStart => exact ⟨0, rfl, by omega, by omega, rfl⟩
            case round =>
              obtain ⟨z, rfl, y1, y2, rfl⟩ := hrel
              by_cases hzz : z < L
              · have hz4 : (z : Int) < (L : Int) := by omega
                obtain ⟨b, off, n, rfl, en, hmem, hn0, hn1, c0⟩ := HO.out.get HQ3.out.below (i := z) (by rw [HL.out]; exact hzz)
                have RH := rhas_any wr _ s n HQ3.out.nums
                rw [decide_eq_true (by rw [← en]; exact HM2.out z hzz)] at RH
                have RH := Lib.hid RH
                clear en hmem
                go_wp2_with (go_at_call 16; refine RH.out.mono ?_; rintro e w6 ⟨rfl, rfl⟩)
                go_roundg (L - (z + 1))
                case measure => omega
                case rel => exact ⟨z + 1, by simp, by omega, by omega, rfl⟩
              · have hz4 : ¬ (z : Int) < (L : Int) := by omega
                have T0 := Lib.hid (own_take0 HQ3.out.own)
                have FX := Lib.hid (fixed_any wr)
                go_wp2_with (first
                  | (go_at_call 7; refine FX.out.mono ?_; rintro e w7 ⟨rfl, hB7⟩)
                  | (go_at_call 14; refine T0.out.mono ?_; rintro e w6 ⟨rfl, rfl⟩))
                go_ret
                exact ⟨rfl, btr HQ3.out.below hB7⟩
end Go.Proofs.Ytmjjkoiepoblmaa
