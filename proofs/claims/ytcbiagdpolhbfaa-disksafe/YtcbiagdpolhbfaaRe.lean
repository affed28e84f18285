/- cashbookref05's Sync. -/
import Derived.Test.YtcbiagdpolhbfaaRd
namespace Go.Proofs.Ytcbiagdpolhbfaa
open Go.RowKit
open D (St)

theorem refsync_down (A A2 : Option Addr) (m c m2 c2 : Nat) (z wr : Int) (w : World) :
    Calls Try.prog 26 #[five (.slice A m c) (.slice A2 m2 c2) z true wr] w fun e w' => e = .returned (.tuple #[five (.slice A m c) (.slice A2 m2 c2) z true wr, .int .i64 7]) ∧ Below w.heap.size w w' := by
  have hz := (zero_of_info Try.zero31).1
  unfold five
  go_enter Try.func26, Try.ntmps26
  go_wp2
  refine bodyPost_ret (results_five2 rfl _ _ (w.heap.size + 1) (.slice A m c) (.slice A2 m2 c2) z true wr (.int .i64 7) rfl rfl (range_lit _ _ _ _ (by simp))) rfl ⟨rfl, bal (alb _) _⟩
theorem refsync_falls (A A2 : Option Addr) (m c m2 c2 : Nat) (wr : Int) (w : World) :
    Calls Try.prog 26 #[five (.slice A m c) (.slice A2 m2 c2) 0 false wr] w fun e w' => e = .returned (.tuple #[five (.slice A m c) (.slice A2 m2 c2) 0 true wr, .int .i64 7]) ∧ Below w.heap.size w w' := by
  have hz := (zero_of_info Try.zero31).1
  obtain ⟨z, hzz⟩ : ∃ z : Int, Hid (z = 0) := ⟨0, rfl⟩
  rw [← hzz.out]
  have HX2 : Hid (Box ((w.alloc (.cells #[.slice A m c, .slice A2 m2 c2, .int .i64 z, .bool false, .int .i64 wr] 31)).alloc (.cells #[.slice none 0 0, .slice none 0 0, .int .i64 0, .bool false, .int .i64 0] 31)) w.heap.size (.slice A m c) (.slice A2 m2 c2) z false wr) := (Box.made w _ _ z false wr _ _ rfl).below (alb _)
  have HR2 : Hid (Box ((w.alloc (.cells #[.slice A m c, .slice A2 m2 c2, .int .i64 z, .bool false, .int .i64 wr] 31)).alloc (.cells #[.slice none 0 0, .slice none 0 0, .int .i64 0, .bool false, .int .i64 0] 31)) (w.heap.size + 1) (.slice none 0 0) (.slice none 0 0) 0 false 0) := Box.made (w.alloc (.cells #[.slice A m c, .slice A2 m2 c2, .int .i64 z, .bool false, .int .i64 wr] 31)) _ _ 0 false 0 _ _ (by simp)
  have HB2 : Hid (Below w.heap.size w ((w.alloc (.cells #[.slice A m c, .slice A2 m2 c2, .int .i64 z, .bool false, .int .i64 wr] 31)).alloc (.cells #[.slice none 0 0, .slice none 0 0, .int .i64 0, .bool false, .int .i64 0] 31))) := bal (alb _) _
  unfold five
  go_enter Try.func26, Try.ntmps26
  go_wp2_with fail
  generalize ((w.alloc (.cells #[.slice A m c, .slice A2 m2 c2, .int .i64 z, .bool false, .int .i64 wr] 31)).alloc (.cells #[.slice none 0 0, .slice none 0 0, .int .i64 0, .bool false, .int .i64 0] 31)) = w2 at *
  refine (ract A A2 m c m2 c2 z false wr w2 (by rw [hzz.out]; decide) (by rw [hzz.out]; decide)).mono ?_
  rintro e w6 ⟨rfl, hb6⟩
  have HX6 := Lib.hid (HX2.out.below hb6)
  have HR6 := Lib.hid (HR2.out.below hb6)
  have HB6 := Lib.hid (btr HB2.out hb6)
  clear hb6 HX2 HR2 HB2
  have e1 : (if 0 < z then z - 1 else z) = z := by rw [hzz.out]; rfl
  have e2 : (if z = 0 then true else false) = true := by rw [hzz.out]; rfl
  rw [e1, e2]
  clear e1 e2
  unfold five
  go_wp2_with (first
    | (refine wpList_store_box HX6.out rfl _ _ rfl (.slice A m c) (.slice A2 m2 c2) z true wr rfl rfl rfl rfl ?_; intro w7 hx7 hk7; have HR7 := Lib.hid (HR6.out.keep hk7 (by show ¬ w.heap.size + 1 = w.heap.size; omega)); have HK7 := Lib.hid hk7; have u0 := hx7.c0; have u1 := hx7.c1; have u2 := hx7.c2; have u3 := hx7.c3; have u4 := hx7.c4; clear hx7 hk7)
    | (refine wpList_store_box HR7.out rfl _ _ rfl (.slice A m c) (.slice A2 m2 c2) z true wr rfl rfl rfl rfl ?_; intro w8 hx8 hk8; have HX8 := Lib.hid hx8; have HK8 := Lib.hid hk8; clear hx8 hk8))
  refine bodyPost_ret (results_five2 rfl _ _ (w.heap.size + 1) (.slice A m c) (.slice A2 m2 c2) z true wr (.int .i64 7) rfl rfl HX8.out.range) rfl ?_
  have hK : Keep (fun b => b = w.heap.size ∨ b = w.heap.size + 1) w6 w8 := (HK7.out.mono (fun _ _ h => .inl h)).trans HK8.out (fun _ h => .inl (.inr h))
  exact ⟨rfl, ((Keep.of_below (F := fun b => w.heap.size ≤ b) HB6.out).trans hK (fun q hq => .inl (by omega))).below (Nat.le_refl _) (fun _ h => h)⟩
theorem svs_set (l : List (List UInt8)) (i : Nat) (b : List UInt8) : svs (l.set i b) = (svs l).set i (.string (str b)) := by simp [svs, List.map_set]
set_option maxRecDepth 100000 in
set_option maxHeartbeats 1000000 in
theorem refsync_core {w : World} {A A2 : Option Addr} {m c m2 c2 : Nat} {z nw : Int} {ss : List (List UInt8)} {ws : List (Nat × List UInt8)} (HSS : Hid (w.ownsRow 0 9 1 (.slice A m c) m (svs ss))) (HW : Hid (w.ownsRow 0 82 2 (.slice A2 m2 c2) m2 (wvs ws))) (HL2 : Hid (ws.length = m2)) (HP : Hid (∀ x ∈ ws, x.1 < m)) (hm : m ≤ 4096) (hm0 : 0 < m) (hm2 : m2 ≤ 9223372036854775807) (hz1 : -1 ≤ z) (hz2 : z ≤ 9223372036854775807) (hz3 : z ≠ 0) {z2 : Int} (HZZ : Hid ((if 0 < z then z - 1 else z) = z2)) :
    Calls Try.prog 26 #[five (.slice A m c) (.slice A2 m2 c2) z false nw] w fun e w' => ∃ sv', e = .returned (.tuple #[five sv' (.slice none 0 0) z2 false nw, .int .i64 0]) ∧
      w'.ownsRow w.heap.size 9 1 sv' m (svs (D.lay ss ws)) ∧ Below w.heap.size w w' := by
  obtain ⟨i9, hi9, hy0, hy1, hy2⟩ := info_parts Try.info9
  have hz := (zero_of_info Try.zero31).1
  have HX2 : Hid (Box ((w.alloc (.cells #[.slice A m c, .slice A2 m2 c2, .int .i64 z, .bool false, .int .i64 nw] 31)).alloc (.cells #[.slice none 0 0, .slice none 0 0, .int .i64 0, .bool false, .int .i64 0] 31)) w.heap.size (.slice A m c) (.slice A2 m2 c2) z false nw) := (Box.made w _ _ z false nw _ _ rfl).below (alb _)
  have HR2 : Hid (Box ((w.alloc (.cells #[.slice A m c, .slice A2 m2 c2, .int .i64 z, .bool false, .int .i64 nw] 31)).alloc (.cells #[.slice none 0 0, .slice none 0 0, .int .i64 0, .bool false, .int .i64 0] 31)) (w.heap.size + 1) (.slice none 0 0) (.slice none 0 0) 0 false 0) := Box.made (w.alloc (.cells #[.slice A m c, .slice A2 m2 c2, .int .i64 z, .bool false, .int .i64 nw] 31)) _ _ 0 false 0 _ _ (by simp)
  have HB2 : Hid (Below w.heap.size w ((w.alloc (.cells #[.slice A m c, .slice A2 m2 c2, .int .i64 z, .bool false, .int .i64 nw] 31)).alloc (.cells #[.slice none 0 0, .slice none 0 0, .int .i64 0, .bool false, .int .i64 0] 31))) := bal (alb _) _
  unfold five
  go_enter Try.func26, Try.ntmps26
  go_wp2_with fail
  generalize ((w.alloc (.cells #[.slice A m c, .slice A2 m2 c2, .int .i64 z, .bool false, .int .i64 nw] 31)).alloc (.cells #[.slice none 0 0, .slice none 0 0, .int .i64 0, .bool false, .int .i64 0] 31)) = w2 at *
  refine (ract A A2 m c m2 c2 z false nw w2 hz1 hz2).mono ?_
  rintro e w6 ⟨rfl, hb6⟩
  have HX6 := Lib.hid (HX2.out.below hb6)
  have HR6 := Lib.hid (HR2.out.below hb6)
  have HB6 := Lib.hid (btr HB2.out hb6)
  rw [HZZ.out, if_neg hz3]
  clear hb6 HX2 HR2 HB2 hz1 hz2 hz3 HZZ
  unfold five
  go_wp2_with (first
    | (refine wpList_store_box HX6.out rfl _ _ rfl (.slice A m c) (.slice A2 m2 c2) z2 false nw rfl rfl rfl rfl ?_; intro w7 hx7 hk7; have HR7 := Lib.hid (HR6.out.keep hk7 (by show ¬ w.heap.size + 1 = w.heap.size; omega)); have HK7 := Lib.hid hk7; have HX7 := Lib.hid hx7; have u0 := alc hx7.c0 (.cells #[] 9); have u3 := hx7.c3; clear hx7 hk7)
    | (at_builtin; refine wpList_append_rows rfl _ _ 28 rfl w7.heap.size 9 i9 _ 1 16 Try.underlying28 hi9 hy0 hy1 hy2 rfl (by decide) _ 0 [] rfl ?a1 (.slice A m c) m (svs ss) rfl ?a2 (svs_one ss) ?a3 ?a4 ?a5 ?_))
  case a1 =>
    have := World.ownsRow_lit (base := w7.heap.size) (e := 9) (size := 1) w7 #[] 0 (Nat.le_refl _) (by unfold maxLen; omega) rfl
    exact this
  case a2 => exact own_keep (F := fun b => b = w.heap.size) HSS.out (((Keep.of_below HB6.out).trans HK7.out (fun _ h => .inl h)).alloc _) (fun q hq e => by have := (HSS.out.lt q hq).2; omega)
  case a3 => unfold maxLen; omega
  case a4 => omega
  case a5 => simp
  intro v1 w8 hown hgrow
  have HK8 : Hid (Keep (fun b => w7.heap.size ≤ b) w7 w8) := ((Keep.refl _ _).alloc _).grown hgrow (fun q hq => .inl (by have e : w7.heap.size = q := Option.some.inj hq; omega))
  have HN7 : Hid (w.heap.size + 1 < w7.heap.size) := HR7.out.lt
  have HX8 := Lib.hid (HX7.out.keep HK8.out (by show ¬ w7.heap.size ≤ w.heap.size; have := HN7.out; omega))
  have HR8 := Lib.hid (HR7.out.keep HK8.out (by show ¬ w7.heap.size ≤ w.heap.size + 1; have := HN7.out; omega))
  have HKK : Hid (Keep (fun b => w.heap.size ≤ b) w w8) := ((Keep.of_below (F := fun b => w.heap.size ≤ b) HB6.out).trans HK7.out (fun q hq => .inl (by omega))).trans HK8.out (fun q hq => .inl (by have := HN7.out; omega))
  obtain ⟨g, cap, rfl⟩ := Go.Joins.ownsRow_form hown (by omega)
  have HO8 := Lib.hid (Go.Joins.ownsRow_le hown (Nat.le_of_lt HN7.out))
  have HNG : Hid (w.heap.size + 1 < g) := Nat.lt_of_lt_of_le HN7.out (hown.lt g rfl).1
  clear hown hgrow HX6 HR6 HB6 HX7 HR7 HK7 HK8 HSS u0 u3
  have c0 := HX8.out.c0
  have f0 := HX8.out.fz 0
  have HX9 := Lib.hid (HX8.out.set0 (.slice (some ⟨g, 0, none⟩) m cap))
  have HK9 := Lib.hid (keep1 w8 w.heap.size 0 (.slice (some ⟨g, 0, none⟩) m cap))
  have HR9 := Lib.hid (HR8.out.keep HK9.out (by show ¬ w.heap.size + 1 = w.heap.size; omega))
  have HO9 := Lib.hid (own_keep HO8.out HK9.out (fun q hq => by
    have e : g = q := Option.some.inj hq
    show ¬ q = w.heap.size
    have := HNG.out
    omega))
  have HKL : Hid (Keep (fun b => w.heap.size ≤ b) w (w8.setCell ⟨w.heap.size, 0, none⟩ (.slice (some ⟨g, 0, none⟩) m cap))) := HKK.out.trans HK9.out (fun q hq => .inl (by omega))
  go_wp2
  clear c0 f0 HX8 HR8 HO8 HK9 HKK
  generalize w8.setCell ⟨w.heap.size, 0, none⟩ (.slice (some ⟨g, 0, none⟩) m cap) = w9 at *
  go_loopw [4] (fun i wr => ∃ k : Nat, k ≤ m2 ∧ i = .int .i64 (k : Int) ∧ Hid (Box wr w.heap.size (.slice (some ⟨g, 0, none⟩) m cap) (.slice A2 m2 c2) z2 false nw) ∧ Hid (Box wr (w.heap.size + 1) (.slice none 0 0) (.slice none 0 0) 0 false 0) ∧ Hid (wr.ownsRow (w.heap.size + 1) 9 1 (.slice (some ⟨g, 0, none⟩) m cap) m (svs (D.lay ss (ws.take k)))) ∧ Hid (Keep (fun b => w.heap.size ≤ b) w wr))
    (fun i _ => (m2 - intOf i).toNat)
  case atStart => exact ⟨0, Nat.zero_le _, rfl, HX9, HR9, HO9, HKL⟩
  case round =>
    obtain ⟨k, hk, rfl, HX, HR, HO, HK⟩ := hrel
    by_cases hkl : k < m2
    · have hkw : k < ws.length := by rw [HL2.out]; exact hkl
      have HWr := Lib.hid (own_keep HW.out HK.out (fun q hq => by
        show ¬ w.heap.size ≤ q
        have := (HW.out.lt q hq).2
        omega))
      obtain ⟨g2, cap2, e⟩ := Go.Joins.ownsRow_form HWr.out (by omega)
      obtain ⟨rfl, -, rfl⟩ := (Value.slice.injEq ..).mp e
      have a1 : wr.cell? ⟨g2, k * 2, none⟩ = some (.int .i64 ((ws[k].1 : Nat) : Int)) := by
        rw [HWr.out.cellAt (k * 2) (by omega)]
        exact (wvs_get ws k hkw).1
      have a2 : wr.cell? ⟨g2, k * 2 + 1, none⟩ = some (.string (str ws[k].2)) := by
        rw [HWr.out.cellAt (k * 2 + 1) (by omega)]
        exact (wvs_get ws k hkw).2
      have HPk := Lib.hid (HP.out _ (List.getElem_mem hkw))
      have HN : Hid (svs (D.lay ss (ws.take (k + 1))) = (svs (D.lay ss (ws.take k))).set ws[k].1 (.string (str ws[k].2))) := by
        unfold Hid
        rw [D.lay_take _ _ k hkw, svs_set]
      have A1 := Lib.hid a1
      have A2' := Lib.hid a2
      clear a1 a2 e
      generalize ws[k].1 = x at *
      generalize str ws[k].2 = y at *
      have hpx := HPk.out
      have u1 := HX.out.c1
      have HS0 : Hid (Keep (fun _ => False) wr wr.drew) := (Keep.refl _ _).drew
      have U0 := Lib.hid HX.out.c0
      have U1 := Lib.hid HX.out.c1
      have HCX : ∃ u, wr.cell? ⟨g, x, none⟩ = some u := by
        rw [HO.out.cellAt x (by omega)]
        exact ⟨_, List.getElem?_eq_getElem (by rw [HO.out.1]; omega)⟩
      obtain ⟨u, hu⟩ := HCX
      have hu' : wr.drew.cell? ⟨g, x, none⟩ = some u := hu
      have fu : wr.drew.frozen? ⟨g, x, none⟩ = false := HO.out.frozenAt x
      have HO2 : Hid ((wr.setCell ⟨g, x, none⟩ (.string y)).drew.ownsRow (w.heap.size + 1) 9 1 (.slice (some ⟨g, 0, none⟩) m cap) m (svs (D.lay ss (ws.take (k + 1))))) := by
        have := (World.ownsRow.stored (w := wr) HO.out x (.string y)).1
        rw [← HN.out] at this
        exact this
      have HK1 : Hid (Keep (fun b => b = g) wr (wr.setCell ⟨g, x, none⟩ (.string y)).drew) := (keep1 wr g x _).drew
      have HX2 := Lib.hid (HX.out.keep HK1.out (by show ¬ w.heap.size = g; have := HNG.out; omega))
      have HR2 := Lib.hid (HR.out.keep HK1.out (by show ¬ w.heap.size + 1 = g; have := HNG.out; omega))
      have HK2 := Lib.hid (HK.out.trans HK1.out (fun q hq => .inl (by have := HNG.out; omega)))
      have hS : Hid (Keep (fun _ => False) wr wr.drew) := (Keep.refl _ _).drew
      clear HN hu
      go_wp2
      refine lz_start 16 15 (fun W => Keep (fun _ => False) wr W) rfl (by kernel_rfl) ?_
      refine lz_take 0 25 (v := ?_) rfl rfl (by kernel_rfl) (by kernel_rfl) (by kernel_rfl) (by kernel_rfl) (fun _ _ _ _ _ h => h) (by rfl) hS.out (fun W hW => ?_) ?_
      rotate_left
      · go_simp; try rfl
      try simp only [Act.put, List.setIfInBounds_toArray, List.set_cons_zero, List.set_cons_succ]
      refine lz_take 1 26 (v := ?_) rfl rfl (by kernel_rfl) (by kernel_rfl) (by kernel_rfl) (by kernel_rfl) (fun _ _ _ _ _ h => h) (by rfl) hS.out (fun W hW => ?_) ?_
      rotate_left
      · have q0 := hW.cell U0.out (fun h => h); go_simp; try rfl
      try simp only [Act.put, List.setIfInBounds_toArray, List.set_cons_zero, List.set_cons_succ]
      refine lz_take 2 27 (v := ?_) rfl rfl (by kernel_rfl) (by kernel_rfl) (by kernel_rfl) (by kernel_rfl) (fun _ _ _ _ _ h => h) (by rfl) hS.out (fun W hW => ?_) ?_
      rotate_left
      · go_simp; try rfl
      try simp only [Act.put, List.setIfInBounds_toArray, List.set_cons_zero, List.set_cons_succ]
      refine lz_take 3 28 (v := ?_) rfl rfl (by kernel_rfl) (by kernel_rfl) (by kernel_rfl) (by kernel_rfl) (fun _ _ _ _ _ h => h) (by rfl) hS.out (fun W hW => ?_) ?_
      rotate_left
      · have q0 := hW.cell U1.out (fun h => h); go_simp; try rfl
      try simp only [Act.put, List.setIfInBounds_toArray, List.set_cons_zero, List.set_cons_succ]
      refine lz_take 4 29 (v := ?_) rfl rfl (by kernel_rfl) (by kernel_rfl) (by kernel_rfl) (by kernel_rfl) (fun _ _ _ _ _ h => h) (by rfl) hS.out (fun W hW => ?_) ?_
      rotate_left
      · go_simp; try rfl
      try simp only [Act.put, List.setIfInBounds_toArray, List.set_cons_zero, List.set_cons_succ]
      refine lz_take 5 30 (v := ?_) rfl rfl (by kernel_rfl) (by kernel_rfl) (by kernel_rfl) (by kernel_rfl) (fun _ _ _ _ _ h => h) (by rfl) hS.out (fun W hW => ?_) ?_
      rotate_left
      · go_simp; try rfl
      try simp only [Act.put, List.setIfInBounds_toArray, List.set_cons_zero, List.set_cons_succ]
      refine lz_take 6 31 (v := ?_) rfl rfl (by kernel_rfl) (by kernel_rfl) (by kernel_rfl) (by kernel_rfl) (fun _ _ _ _ _ h => h) (by rfl) hS.out (fun W hW => ?_) ?_
      rotate_left
      · go_simp; try rfl
      try simp only [Act.put, List.setIfInBounds_toArray, List.set_cons_zero, List.set_cons_succ]
      refine lz_take 7 32 (v := ?_) rfl rfl (by kernel_rfl) (by kernel_rfl) (by kernel_rfl) (by kernel_rfl) (fun _ _ _ _ _ h => h) (by rfl) hS.out (fun W hW => ?_) ?_
      rotate_left
      · have q0 := hW.cell A1.out (fun h => h); go_simp; try rfl
      try simp only [Act.put, List.setIfInBounds_toArray, List.set_cons_zero, List.set_cons_succ]
      refine lz_take 8 33 (v := ?_) rfl rfl (by kernel_rfl) (by kernel_rfl) (by kernel_rfl) (by kernel_rfl) (fun _ _ _ _ _ h => h) (by rfl) hS.out (fun W hW => ?_) ?_
      rotate_left
      · go_simp; try rfl
      try simp only [Act.put, List.setIfInBounds_toArray, List.set_cons_zero, List.set_cons_succ]
      refine lz_take 9 34 (v := ?_) rfl rfl (by kernel_rfl) (by kernel_rfl) (by kernel_rfl) (by kernel_rfl) (fun _ _ _ _ _ h => h) (by rfl) hS.out (fun W hW => ?_) ?_
      rotate_left
      · have q0 := hW.cell U1.out (fun h => h); go_simp; try rfl
      try simp only [Act.put, List.setIfInBounds_toArray, List.set_cons_zero, List.set_cons_succ]
      refine lz_take 10 35 (v := ?_) rfl rfl (by kernel_rfl) (by kernel_rfl) (by kernel_rfl) (by kernel_rfl) (fun _ _ _ _ _ h => h) (by rfl) hS.out (fun W hW => ?_) ?_
      rotate_left
      · go_simp; try rfl
      try simp only [Act.put, List.setIfInBounds_toArray, List.set_cons_zero, List.set_cons_succ]
      refine lz_take 11 36 (v := ?_) rfl rfl (by kernel_rfl) (by kernel_rfl) (by kernel_rfl) (by kernel_rfl) (fun _ _ _ _ _ h => h) (by rfl) hS.out (fun W hW => ?_) ?_
      rotate_left
      · go_simp; try rfl
      try simp only [Act.put, List.setIfInBounds_toArray, List.set_cons_zero, List.set_cons_succ]
      refine lz_take 12 37 (v := ?_) rfl rfl (by kernel_rfl) (by kernel_rfl) (by kernel_rfl) (by kernel_rfl) (fun _ _ _ _ _ h => h) (by rfl) hS.out (fun W hW => ?_) ?_
      rotate_left
      · go_simp; try rfl
      try simp only [Act.put, List.setIfInBounds_toArray, List.set_cons_zero, List.set_cons_succ]
      refine lz_take 13 38 (v := ?_) rfl rfl (by kernel_rfl) (by kernel_rfl) (by kernel_rfl) (by kernel_rfl) (fun _ _ _ _ _ h => h) (by rfl) hS.out (fun W hW => ?_) ?_
      rotate_left
      · have q0 := hW.cell A2'.out (fun h => h); go_simp; try rfl
      try simp only [Act.put, List.setIfInBounds_toArray, List.set_cons_zero, List.set_cons_succ]
      refine lz_op 14 rfl rfl (by kernel_rfl) (fun K hK => ?_)
      go_simp
      refine hK.out _ _ hS.out ?_
      clear hK K
      refine lz_end rfl rfl (by kernel_rfl) (by kernel_rfl) (fun K hK => ?_)
      go_simp
      refine hK.out _ _ ?_
      clear hK K
      clear hu' fu
      generalize (wr.setCell ⟨g, x, none⟩ (.string y)).drew = w5 at *
      go_wp2
      go_roundw
      case rel => exact ⟨k + 1, by omega, by go_num, HX2, HR2, HO2, HK2⟩
      case measure => simp [intOf]; omega
    · obtain rfl : k = m2 := by omega
      have HO' : Hid (wr.ownsRow (w.heap.size + 1) 9 1 (.slice (some ⟨g, 0, none⟩) m cap) m (svs (D.lay ss ws))) := by
        have := HO.out
        rwa [← HL2.out, List.take_length] at this
      have u1 := HX.out.c1
      have f1 := HX.out.fz 1
      have HX2 := Lib.hid (HX.out.set1 (.slice none 0 0))
      have HK1 := Lib.hid (keep1 wr w.heap.size 1 (.slice none 0 0))
      have HR2 := Lib.hid (HR.out.keep HK1.out (by show ¬ w.heap.size + 1 = w.heap.size; omega))
      have v0 := HX2.out.c0
      have v1 := HX2.out.c1
      have v2 := HX2.out.c2
      have v3 := HX2.out.c3
      have v4 := HX2.out.c4
      clear hkl HX2
      go_wp2_with (first
        | (refine wpList_store_box HR2.out rfl _ _ rfl (.slice (some ⟨g, 0, none⟩) m cap) (.slice none 0 0) z2 false nw rfl rfl rfl rfl ?_; intro w8 hx8 hk8; have HX8 := Lib.hid hx8; have HK8 := Lib.hid hk8; clear hx8 hk8)
        | fail)
      refine bodyPost_ret (results_five2 rfl _ _ (w.heap.size + 1) (.slice (some ⟨g, 0, none⟩) m cap) (.slice none 0 0) z2 false nw (.int .i64 0) rfl rfl HX8.out.range) rfl ?_
      have hK : Keep (fun b => b = w.heap.size ∨ b = w.heap.size + 1) wr w8 := (HK1.out.mono (fun _ _ h => .inl h)).trans HK8.out (fun _ h => .inl (.inr h))
      refine ⟨_, rfl, Go.Joins.ownsRow_le (own_keep HO'.out hK (fun q hq => by
        have e : g = q := Option.some.inj hq
        show ¬ (q = w.heap.size ∨ q = w.heap.size + 1)
        have := HNG.out
        omega)) (by omega), (HK.out.trans hK (fun q hq => .inl (by omega))).below (Nat.le_refl _) (fun _ h => h)⟩
theorem refsync_any {w : World} {sv wv : Value} {s : St} (h : Rep w sv wv s) :
    Calls Try.prog 26 #[rv sv wv s] w fun e w' => ∃ sv' wv', e = .returned (.tuple #[rv sv' wv' (D.sync s), .int .i64 (D.syncE s)]) ∧ Made w w' sv wv sv' wv' (D.sync s) := by
  have hok := D.sync_ok h.ok
  obtain ⟨A, c, e1⟩ := row_form h.safe
  obtain ⟨A2, c2, e2⟩ := row_form h.waits
  cases hd : s.down with
  | true =>
    have ew : D.sync s = s := by unfold D.sync; rw [hd, if_pos rfl]
    have ee : D.syncE s = 7 := by unfold D.syncE; rw [hd, if_pos rfl]
    rw [ew, ee]
    refine Calls.mono (R := fun e w' => e = .returned (.tuple #[rv sv wv s, .int .i64 7]) ∧ Below w.heap.size w w') ?_ ?_
    · rw [e1, e2]
      unfold rv
      rw [hd]
      exact refsync_down A A2 _ c _ c2 s.fuse s.writes w
    · rintro e w' ⟨rfl, hb⟩
      exact ⟨sv, wv, rfl, h.below hb, hb, fun b q => .inl q⟩
  | false =>
    by_cases h0 : s.fuse = 0
    · have ew : D.sync s = { s with down := true } := by unfold D.sync; rw [hd, if_neg Bool.false_ne_true, if_pos h0]
      have ee : D.syncE s = 7 := by unfold D.syncE D.ans; rw [hd, if_neg Bool.false_ne_true, if_pos h0]
      rw [ew] at hok
      rw [ew, ee]
      refine Calls.mono (R := fun e w' => e = .returned (.tuple #[rv sv wv { s with down := true }, .int .i64 7]) ∧ Below w.heap.size w w') ?_ ?_
      · rw [e1, e2]
        unfold rv
        rw [hd]
        simp only [h0]
        exact refsync_falls A A2 _ c _ c2 s.writes w
      · rintro e w' ⟨rfl, hb⟩
        exact ⟨sv, wv, rfl, ⟨hok, (h.below hb).safe, (h.below hb).waits⟩, hb, fun b q => .inl q⟩
    · have ew : D.sync s = { D.act s with safe := D.lay s.safe s.waits, waits := [] } := by unfold D.sync; rw [hd, if_neg Bool.false_ne_true, if_neg h0]
      have ee : D.syncE s = 0 := by unfold D.syncE D.ans; rw [hd, if_neg Bool.false_ne_true, if_neg h0]
      rw [ew] at hok
      rw [ew, ee]
      have hs := h.safe
      have hw := h.waits
      rw [e1] at hs
      rw [e2] at hw
      have few := h.ok.few
      refine Calls.mono (R := fun e w' => ∃ sv', e = .returned (.tuple #[five sv' (.slice none 0 0) (if 0 < s.fuse then s.fuse - 1 else s.fuse) false s.writes, .int .i64 0]) ∧ w'.ownsRow w.heap.size 9 1 sv' s.safe.length (svs (D.lay s.safe s.waits)) ∧ Below w.heap.size w w') ?_ ?_
      · rw [e1, e2]
        have e3 : rv (.slice A s.safe.length c) (.slice A2 s.waits.length c2) s = five (.slice A s.safe.length c) (.slice A2 s.waits.length c2) s.fuse false s.writes := by unfold rv five; rw [hd]
        rw [e3]
        exact refsync_core hs hw rfl h.ok.place h.ok.many (by omega) h.nwaits h.ok.fuse h.ok.fuse2 h0 rfl
      · rintro e w' ⟨sv', rfl, ho, hb⟩
        refine ⟨sv', .slice none 0 0, ?_, ⟨hok, ?_, World.ownsRow_nil _ _ _ _⟩, hb, ?_⟩
        · have e4 : five sv' (.slice none 0 0) (if 0 < s.fuse then s.fuse - 1 else s.fuse) false s.writes = rv sv' (.slice none 0 0) { D.act s with safe := D.lay s.safe s.waits, waits := [] } := by
            unfold rv five D.act
            by_cases h1 : 0 < s.fuse
            · simp [h0, h1, hd]
            · simp [h0, h1, hd]
          rw [e4]
        · show w'.ownsRow 0 9 1 sv' (D.lay s.safe s.waits).length (svs (D.lay s.safe s.waits))
          rw [D.lay_length]
          exact Go.Joins.ownsRow_le ho (Nat.zero_le _)
        · rintro b (q | q)
          · exact .inr (ho.lt b q).1
          · simp [Value.ownBlock] at q
end Go.Proofs.Ytcbiagdpolhbfaa
