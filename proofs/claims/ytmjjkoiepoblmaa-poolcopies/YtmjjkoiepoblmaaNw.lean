/- PoolOwn: whoever writes into the numbers that were told. -/
import Derived.Test.YtmjjkoiepoblmaaNo
namespace Go.Proofs.Ytmjjkoiepoblmaa
open Go.RowKit Go.Sort Go.Maps

theorem us_set (zs : List Int) (i : Nat) (y : Int) : (us zs).set i (.int .u32 y) = us (zs.set i y) := by simp [us, List.map_set]
/-- Another row is written: the pool and its list stay. -/
theorem On.set {w w' : World} {p : Nat} {F : Nat → Prop} {v : Value} {s : List Int} {g : Nat} (h : On w p F v s) (k : Keep (fun b => b = g) w w') (hF : ¬ F g) (hv : v.ownBlock ≠ some g) : On w' p F v s :=
  ⟨h.po.keep k (fun b hb e => hF (e ▸ hb)), h.nums.keep k (fun b hb e => hv (by rw [hb, e])), fun b hb => ⟨(h.apart b hb).1, Nat.lt_of_lt_of_le (h.apart b hb).2 k.size⟩⟩

set_option maxHeartbeats 6400000 in
theorem own_core (w : World) (A : Option Addr) (L c : Nat) (by0 : Int) (os : List (Nat × Int)) (hL : os.length = L) (HO : Hid (Opl w A os)) :
    Calls Try.prog 6 #[.slice A L c, .int .u32 by0] w fun e w' => e = .returned (.bool true) ∧ Below w.heap.size w w' := by
  have HL := Lib.hid hL
  clear hL
  go_enter Try.func6, Try.ntmps6
  by_cases hbig : 100 < L
  · have hz : 100 < (L : Int) := by omega
    have C := fixed_any w
    go_wp2_with (go_at_call 7; refine C.mono ?_; rintro e w1 ⟨rfl, hB⟩)
    go_ret
    exact ⟨rfl, hB⟩
  · have hz : ¬ 100 < (L : Int) := by omega
    have C := own_new w
    go_wp2_with (go_at_call 8; refine C.mono ?_; rintro e w1 ⟨p, rfl, hown⟩)
    have HS := Lib.hid (At.start hown)
    clear hown C
    go_loopg [6, 20] L (fun k s6 s20 wr => ∃ (i : Nat) (s : List Int), s20 = .int .i64 i ∧ i ≤ L ∧ L - i ≤ k ∧ s.length ≤ i ∧ Hid (At w wr p s6 s))
    case atStart => exact ⟨0, [], rfl, by omega, by omega, by simp, HS.out⟩
    case round =>
      obtain ⟨i, s, rfl, h1, h2, h3, HA⟩ := hrel
      by_cases hi : i < L
      · have hz2 : (i : Int) < (L : Int) := by omega
        have hi2 : i < os.length := by rw [HL.out]; exact hi
        obtain ⟨b, off, d, n, rfl, ho, hd, hn0, hn1, c0, c1⟩ := (HO.out.below (Below.mono HA.out.below (Nat.le_refl _))).get (i := i) hi2
        have hbx : Below wr.heap.size wr (wr.alloc (.cells #[.int .u8 (d : Int), .int .u32 n] 29)) := alb _
        have b0 : (wr.alloc (.cells #[.int .u8 (d : Int), .int .u32 n] 29)).cell? ⟨wr.heap.size, 0, none⟩ = some (.int .u8 (d : Int)) := by rw [World.cell?_alloc_at _ _ _ _ rfl]; rfl
        have b1 : (wr.alloc (.cells #[.int .u8 (d : Int), .int .u32 n] 29)).cell? ⟨wr.heap.size, 1, none⟩ = some (.int .u32 n) := by rw [World.cell?_alloc_at _ _ _ _ rfl]; rfl
        have BX := Lib.hid hbx
        have B0 := Lib.hid b0
        have B1 := Lib.hid b1
        clear ho b0 b1 hbx
        go_upto_region 10 with fail
        generalize wr.alloc (.cells #[.int .u8 (d : Int), .int .u32 n] 29) = w1 at *
        have b0 := B0.out
        have b1 := B1.out
        have C := Lib.hid ((HA.out.drop BX.out).step d n hn0 hn1 (by omega))
        clear c0 c1
        go_upto_region 11 with (go_at_call 9; refine C.out.mono ?_; rintro e w2 ⟨v2, rfl, hn2⟩)
        have hlen : (stp d n s).length ≤ i + 1 := Nat.le_trans (stp_len HA.out.ris d n) (by omega)
        clear b0 b1 C
        generalize stp d n s = s2 at *
        obtain ⟨⟨F, hon, hF⟩, hB2⟩ := hn2
        have HON := Lib.hid hon
        have HF := Lib.hid hF
        have HB2 := Lib.hid hB2
        have LI := Lib.hid (list_any w2 p F s2 hon.po (by omega))
        clear hon hF hB2
        go_upto_region 12 with (go_at_call 12; refine LI.out.mono ?_; rintro e w3 ⟨v3, rfl, ho3, hb3⟩)
        obtain ⟨A3, c3, hv3⟩ := own_form ho3
        subst hv3
        generalize hm : s2.length = m at *
        have HON3 := Lib.hid (HON.out.below hb3)
        have HO3 := Lib.hid ho3
        have HB3 := Lib.hid (btr HB2.out hb3)
        have HUS : Hid (m = s2.length) := hm.symm
        clear ho3 hb3 LI hm
        go_wp2
        go_loopg [35] m (fun k s35 wq => ∃ (j : Nat) (zs : List Int), s35 = .int .i64 j ∧ j ≤ m ∧ m - j ≤ k ∧ zs.length = m ∧ Hid (On wq p F v2 s2) ∧ Hid (wq.ownsRow w2.heap.size 27 1 (.slice A3 m c3) m (us zs)) ∧ Hid (Below w.heap.size w wq))
        case atStart => exact ⟨0, s2, rfl, by omega, by omega, HUS.out.symm, HON3.out, HO3.out, HB3.out⟩
        case round =>
          obtain ⟨j, zs, rfl, j1, j2, j3, HQ, HR, HB⟩ := hrel
          by_cases hj : j < m
          · have hz3 : (j : Int) < (m : Int) := by omega
            obtain ⟨g, rfl⟩ : ∃ g, A3 = some ⟨g, 0, none⟩ := by
              rcases HR.out.2 with ⟨e, e2⟩ | ⟨g, cap, cur, e, _⟩
              · omega
              · simp only [Value.slice.injEq] at e
                exact ⟨g, e.1⟩
            have hcap : m ≤ c3 := by
              rcases HR.out.2 with ⟨e, e2⟩ | ⟨g', cap, cur, e, _, _, hc, _⟩
              · omega
              · simp only [Value.slice.injEq] at e
                omega
            obtain ⟨x, hx⟩ : ∃ x, x = zs[j]! := ⟨_, rfl⟩
            have cj : wr.cell? ⟨g, j, none⟩ = some (.int .u32 x) := by
              rw [HR.out.cellAt j (by omega), us_get zs j (by omega), hx]
            have fj : wr.frozen? ⟨g, j, none⟩ = false := HR.out.frozenAt j
            obtain ⟨y, hy⟩ : ∃ y, y = IntKind.u32.wrap (x + by0) := ⟨_, rfl⟩
            have hy2 := hy.symm
            clear hx hy
            have ST := Lib.hid (HR.out.stored j (.int .u32 y))
            rw [us_set] at ST
            have hgB : w2.heap.size ≤ g := (HR.out.lt g rfl).1
            have KG : Hid (Keep (fun b => b = g) wr (wr.setCell ⟨g, j, none⟩ (.int .u32 y))) := Keep.setCell (F := fun b => b = g) (Keep.refl _ wr) (.inl rfl) _
            go_wp2
            go_roundg (m - (j + 1))
            case measure => omega
            case rel =>
              refine ⟨j + 1, zs.set j y, by simp, by omega, by omega, by simpa using j3, ?_, ?_, ?_⟩
              · refine HQ.out.set KG.out (fun hf => ?_) (fun e => ?_)
                · have := HON.out.po.lt g hf
                  omega
                · have := (HON.out.apart g e).2
                  omega
              · exact ST.out.1
              · exact HB.out.trans (KG.out.below HB.out.size (fun b e => by have := HB2.out.size; omega))
          · have hz3 : ¬ (j : Int) < (m : Int) := by omega
            go_wp2
            go_roundg (L - (i + 1))
            case measure => omega
            case rel => exact ⟨i + 1, s2, by simp, by omega, by omega, by have := HUS.out; omega, ⟨⟨F, HQ.out, HF.out⟩, HB.out⟩⟩
      · have hz2 : ¬ (i : Int) < (L : Int) := by omega
        obtain ⟨A2, c2, hv2, _⟩ := HA.out.nums
        subst hv2
        have FX := Lib.hid (fixed_any wr)
        go_wp2_with (first
          | (go_at_call 11; refine (rsame_any _ _ _ s s N4.out H4.out.nums).mono ?_; rintro e w5 ⟨he, hB5⟩; rw [decide_eq_true rfl] at he; subst he)
          | (go_at_call 12; refine (H3.out.same (by omega)).mono ?_; rintro e w4 ⟨v4, rfl, hn4, hB4⟩; have H4 := Lib.hid (H3.out.drop hB4); have N4 := Lib.hid hn4; clear hB4 hn4)
          | (go_at_call 7; refine FX.out.mono ?_; rintro e w3 ⟨rfl, hB3⟩; have H3 := Lib.hid (HA.out.drop hB3); clear hB3))
        go_ret
        exact ⟨rfl, btr H4.out.below hB5⟩
end Go.Proofs.Ytmjjkoiepoblmaa
