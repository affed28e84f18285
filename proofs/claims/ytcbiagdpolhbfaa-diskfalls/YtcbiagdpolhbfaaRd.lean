/- cashbookref05's Write. -/
import Derived.Test.YtcbiagdpolhbfaaRc
namespace Go.Proofs.Ytcbiagdpolhbfaa
open Go.RowKit
open D (St)

theorem Try.zero82 : (Try.prog.info? 82).map (fun i => (i.zero, i.size)) = some (some (.agg #[.int .i64 0, .string (str [])]), 2) := by kernel_rfl
theorem refwrite_down (A A2 : Option Addr) (m c m2 c2 : Nat) (z wr n : Int) (t : ByteArray) (w : World) :
    Calls Try.prog 24 #[five (.slice A m c) (.slice A2 m2 c2) z true wr, .int .i64 n, .string t] w fun e w' => e = .returned (.tuple #[five (.slice A m c) (.slice A2 m2 c2) z true wr, .int .i64 7]) ∧ Below w.heap.size w w' := by
  have hz := (zero_of_info Try.zero31).1
  unfold five
  go_enter Try.func24, Try.ntmps24
  go_wp2
  refine bodyPost_ret (results_five2 rfl _ _ (w.heap.size + 1) (.slice A m c) (.slice A2 m2 c2) z true wr (.int .i64 7) rfl rfl (range_lit _ _ _ _ (by simp))) rfl ⟨rfl, bal (alb _) _⟩
theorem refwrite_none (A A2 : Option Addr) (m c m2 c2 : Nat) (z wr n : Int) (t : ByteArray) (w : World) (h : n < 0 ∨ (m : Int) ≤ n) :
    Calls Try.prog 24 #[five (.slice A m c) (.slice A2 m2 c2) z false wr, .int .i64 n, .string t] w fun e w' => e = .returned (.tuple #[five (.slice A m c) (.slice A2 m2 c2) z false wr, .int .i64 4]) ∧ Below w.heap.size w w' := by
  have hz := (zero_of_info Try.zero31).1
  have hq : (decide (n < 0) = true) ∨ (decide (n < 0) = false ∧ decide ((m : Int) ≤ n) = true) := by simp; omega
  clear h
  unfold five
  rcases hq with hq | ⟨hq, hq2⟩
  all_goals
    go_enter Try.func24, Try.ntmps24
    go_wp2
    refine bodyPost_ret (results_five2 rfl _ _ (w.heap.size + 1) (.slice A m c) (.slice A2 m2 c2) z false wr (.int .i64 4) rfl rfl (range_lit _ _ _ _ (by simp))) rfl ⟨rfl, bal (alb _) _⟩
theorem refwrite_long (A A2 : Option Addr) (m c m2 c2 : Nat) (z wr n : Int) (t : ByteArray) (w : World) (q1 : decide (n < 0) = false) (q2 : decide ((m : Int) ≤ n) = false) (q3 : ((t.size : Int) == 512) = false) :
    Calls Try.prog 24 #[five (.slice A m c) (.slice A2 m2 c2) z false wr, .int .i64 n, .string t] w fun e w' => e = .returned (.tuple #[five (.slice A m c) (.slice A2 m2 c2) z false wr, .int .i64 1]) ∧ Below w.heap.size w w' := by
  have hz := (zero_of_info Try.zero31).1
  unfold five
  go_enter Try.func24, Try.ntmps24
  go_wp2
  refine bodyPost_ret (results_five2 rfl _ _ (w.heap.size + 1) (.slice A m c) (.slice A2 m2 c2) z false wr (.int .i64 1) rfl rfl (range_lit _ _ _ _ (by simp))) rfl ⟨rfl, bal (alb _) _⟩
set_option maxRecDepth 100000 in
set_option maxHeartbeats 1000000 in
theorem refwrite_core {w : World} {A A2 : Option Addr} {m c m2 c2 : Nat} {z wr : Int} {n : Nat} {y : List UInt8} {ws : List (Nat × List UInt8)} (HW : Hid (w.ownsRow 0 82 2 (.slice A2 m2 c2) m2 (wvs ws))) (hn : n < m) (hy : y.length = 512) (hm2 : m2 ≤ 1000000) (hw1 : 0 ≤ wr) (hw2 : wr ≤ 1000000) (hz1 : -1 ≤ z) (hz2 : z ≤ 9223372036854775807) {z2 ec : Int} {dn2 : Bool} (HZZ : Hid ((if 0 < z then z - 1 else z) = z2 ∧ (if z = 0 then true else false) = dn2)) (hd : (dn2 = true ∧ ec = 7) ∨ (dn2 = false ∧ ec = 0)) :
    Calls Try.prog 24 #[five (.slice A m c) (.slice A2 m2 c2) z false wr, .int .i64 (n : Int), .string (str y)] w fun e w' => ∃ wv', e = .returned (.tuple #[five (.slice A m c) wv' z2 dn2 (wr + 1), .int .i64 ec]) ∧
      w'.ownsRow w.heap.size 82 2 wv' (m2 + 1) (wvs (ws ++ [(n, y)])) ∧ Below w.heap.size w w' := by
  obtain ⟨i0, hi0, hy0, hy1, hy2⟩ := info_parts Try.info82
  have hz := (zero_of_info Try.zero31).1
  have hz82 := (zero_of_info Try.zero82).1
  have q1 : decide ((n : Int) < 0) = false := by simp
  have q2 : decide ((m : Int) ≤ (n : Int)) = false := by simp; omega
  have q3 : (((str y).size : Int) == 512) = true := by rw [str_size, hy]; rfl
  have HDD := Lib.hid hd
  clear hd
  unfold five
  obtain ⟨sy, hsy⟩ : ∃ sy, Hid (str y = sy) := ⟨_, rfl⟩
  rw [hsy.out] at q3 ⊢
  have HX2 : Hid (Box (((w.alloc (.cells #[.slice A m c, .slice A2 m2 c2, .int .i64 z, .bool false, .int .i64 wr] 31)).alloc (.cells #[.slice none 0 0, .slice none 0 0, .int .i64 0, .bool false, .int .i64 0] 31)).alloc (.cells #[] 82)) w.heap.size (.slice A m c) (.slice A2 m2 c2) z false wr) := ((Box.made w _ _ z false wr _ _ rfl).below (alb _)).below (alb _)
  have HR2 : Hid (Box (((w.alloc (.cells #[.slice A m c, .slice A2 m2 c2, .int .i64 z, .bool false, .int .i64 wr] 31)).alloc (.cells #[.slice none 0 0, .slice none 0 0, .int .i64 0, .bool false, .int .i64 0] 31)).alloc (.cells #[] 82)) (w.heap.size + 1) (.slice none 0 0) (.slice none 0 0) 0 false 0) := (Box.made (w.alloc (.cells #[.slice A m c, .slice A2 m2 c2, .int .i64 z, .bool false, .int .i64 wr] 31)) _ _ 0 false 0 _ _ (by simp)).below (alb _)
  have HB2 : Hid (Below w.heap.size w (((w.alloc (.cells #[.slice A m c, .slice A2 m2 c2, .int .i64 z, .bool false, .int .i64 wr] 31)).alloc (.cells #[.slice none 0 0, .slice none 0 0, .int .i64 0, .bool false, .int .i64 0] 31)).alloc (.cells #[] 82))) := bal (bal (alb _) _) _
  have HO2 : Hid (World.ownsRow (((w.alloc (.cells #[.slice A m c, .slice A2 m2 c2, .int .i64 z, .bool false, .int .i64 wr] 31)).alloc (.cells #[.slice none 0 0, .slice none 0 0, .int .i64 0, .bool false, .int .i64 0] 31)).alloc (.cells #[] 82)) (w.heap.size + 1 + 1) 82 2 (.slice (some ⟨w.heap.size + 1 + 1, 0, none⟩) 0 0) 0 []) := by
    have := World.ownsRow_lit (base := w.heap.size + 1 + 1) (e := 82) (size := 2) ((w.alloc (.cells #[.slice A m c, .slice A2 m2 c2, .int .i64 z, .bool false, .int .i64 wr] 31)).alloc (.cells #[.slice none 0 0, .slice none 0 0, .int .i64 0, .bool false, .int .i64 0] 31)) #[] 0 (by simp) (by unfold maxLen; omega) rfl
    have e : ((w.alloc (.cells #[.slice A m c, .slice A2 m2 c2, .int .i64 z, .bool false, .int .i64 wr] 31)).alloc (.cells #[.slice none 0 0, .slice none 0 0, .int .i64 0, .bool false, .int .i64 0] 31)).heap.size = w.heap.size + 1 + 1 := by simp
    rw [e] at this
    exact this
  have HS2 : Hid (w.heap.size + 1 + 1 ≤ (fun u : World => u.heap.size) (((w.alloc (.cells #[.slice A m c, .slice A2 m2 c2, .int .i64 z, .bool false, .int .i64 wr] 31)).alloc (.cells #[.slice none 0 0, .slice none 0 0, .int .i64 0, .bool false, .int .i64 0] 31)).alloc (.cells #[] 82))) := by simp [Hid]
  go_enter Try.func24, Try.ntmps24
  go_wp2_with (first
    | (at_builtin; refine wpList_append_rows rfl _ _ 29 rfl (w.heap.size + 1 + 1) 82 i0 _ 2 24 Try.underlying29 hi0 hy0 hy1 hy2 rfl (by decide) _ 0 [] rfl ?a1 (.slice A2 m2 c2) m2 (wvs ws) rfl ?a2 (wvs_one ws) ?a3 ?a4 ?a5 ?_)
    | fail)
  case a1 => exact HO2.out
  case a2 => exact own_keep (F := fun _ => False) HW.out (Keep.of_below HB2.out) (fun _ _ h => h)
  case a3 => unfold maxLen; omega
  case a4 => omega
  intro v1 w3 hown hgrow
  generalize (((w.alloc (.cells #[.slice A m c, .slice A2 m2 c2, .int .i64 z, .bool false, .int .i64 wr] 31)).alloc (.cells #[.slice none 0 0, .slice none 0 0, .int .i64 0, .bool false, .int .i64 0] 31)).alloc (.cells #[] 82)) = w2 at *
  have HK3 : Hid (Keep (fun b => w.heap.size + 1 + 1 ≤ b) w2 w3) := (Keep.refl _ _).grown hgrow (fun q hq => .inl (by have e : w.heap.size + 1 + 1 = q := Option.some.inj hq; omega))
  have HX3 := Lib.hid (HX2.out.keep HK3.out (by show ¬ w.heap.size + 1 + 1 ≤ w.heap.size; omega))
  have HR3 := Lib.hid (HR2.out.keep HK3.out (by show ¬ w.heap.size + 1 + 1 ≤ w.heap.size + 1; omega))
  have HB3 : Hid (Below w.heap.size w w3) := ((Keep.of_below (F := fun b => w.heap.size ≤ b) HB2.out).trans HK3.out (fun q hq => .inl (by omega))).below (Nat.le_refl _) (fun _ h => h)
  have HS3 : Hid (w.heap.size + 1 + 1 ≤ w3.heap.size) := Nat.le_trans HS2.out HK3.out.size
  obtain ⟨A3, c3, rfl⟩ := row_form hown
  have HO3 := Lib.hid hown
  clear hown hgrow HX2 HR2 HB2 HO2 HS2 HW
  have HA := Lib.hid (alb (w := w3) (.cells #[.int .i64 (n : Int), .string sy] 82))
  have HL : Hid (w.heap.size + 1 + 1 ≤ (w3.alloc (.cells #[.int .i64 (n : Int), .string sy] 82)).heap.size) := Nat.le_trans HS3.out HA.out.size
  have HOA := Lib.hid (own_keep (F := fun _ => False) HO3.out (Keep.of_below HA.out) (fun _ _ h => h))
  have HC : Hid ((w3.alloc (.cells #[.int .i64 (n : Int), .string sy] 82)).rangeAt w3.heap.size 0 [.int .i64 (n : Int), .string sy]) := range_lit w3 _ _ _ rfl
  go_wp2_with (first
    | (at_builtin; refine wpList_append_own _ rfl _ _ 29 rfl (w.heap.size + 1 + 1) 82 i0 _ 2 24 Try.underlying29 hi0 hy0 hy1 hy2 rfl (by decide) _ m2 (wvs ws) rfl HOA.out ⟨w3.heap.size, 0, none⟩ 1 1 [.int .i64 (n : Int), .string sy] rfl rfl ?b1 ?b2 ?b3 ?b4 HL.out ?_)
    | fail)
  case b1 =>
    intro j u hj
    rw [Addr.add_mid]
    exact HC.out j u hj
  case b2 =>
    intro u hu
    rcases List.mem_cons.1 hu with rfl | hu
    · rfl
    · rw [List.mem_singleton.1 hu]; rfl
  case b3 => unfold maxLen; omega
  case b4 => omega
  intro v2 w4 hown hgrow _
  have HK4 : Hid (Keep (fun b => w.heap.size + 1 + 1 ≤ b) w3 w4) := (Keep.of_below HA.out : Keep (fun b => w.heap.size + 1 + 1 ≤ b) w3 _).grown hgrow (fun q hq => .inl (HO3.out.lt q hq).1)
  have HX4 := Lib.hid (HX3.out.keep HK4.out (by show ¬ w.heap.size + 1 + 1 ≤ w.heap.size; omega))
  have HR4 := Lib.hid (HR3.out.keep HK4.out (by show ¬ w.heap.size + 1 + 1 ≤ w.heap.size + 1; omega))
  have HB4 : Hid (Below w.heap.size w w4) := ((Keep.of_below (F := fun b => w.heap.size ≤ b) HB3.out).trans HK4.out (fun q hq => .inl (by omega))).below (Nat.le_refl _) (fun _ h => h)
  obtain ⟨A4, c4, rfl⟩ := row_form hown
  have HO4 := Lib.hid hown
  clear hown hgrow HX3 HR3 HB3 HO3 HOA HC HK3 HK4 HA HL HS3
  have HX5 := Lib.hid ((HX4.out.set1 (.slice A4 (m2 + 1) c4)).set4 (wr + 1))
  have HK5 : Hid (Keep (fun b => b = w.heap.size) w4 ((w4.setCell ⟨w.heap.size, 1, none⟩ (.slice A4 (m2 + 1) c4)).setCell ⟨w.heap.size, 4, none⟩ (.int .i64 (wr + 1)))) := (keep1 w4 w.heap.size 1 _).trans (keep1 _ w.heap.size 4 _) (fun _ h => .inl h)
  have HR5 := Lib.hid (HR4.out.keep HK5.out (by show ¬ w.heap.size + 1 = w.heap.size; omega))
  have HO5 := Lib.hid (own_keep HO4.out HK5.out (fun q hq => by
    show ¬ q = w.heap.size
    have := (HO4.out.lt q hq).1
    omega))
  have HB5 : Hid (Below w.heap.size w ((w4.setCell ⟨w.heap.size, 1, none⟩ (.slice A4 (m2 + 1) c4)).setCell ⟨w.heap.size, 4, none⟩ (.int .i64 (wr + 1)))) := ((Keep.of_below (F := fun b => w.heap.size ≤ b) HB4.out).trans HK5.out (fun q hq => .inl (by omega))).below (Nat.le_refl _) (fun _ h => h)
  have c1 := HX4.out.c1
  have c4' := HX4.out.c4
  have f1 := HX4.out.fz 1
  have f4 := HX4.out.fz 4
  have HRG := Lib.hid HX5.out.range
  have q4 : IntKind.i64.wrap (wr + 1) = wr + 1 := by rw [IntKind.wrap_i64]; omega
  go_wp2_with (first
    | (refine wpList_load_mid rfl 31 _ rfl w.heap.size 0 rfl [.slice A m c, .slice A4 (m2 + 1) c4, .int .i64 z, .bool false, .int .i64 (wr + 1)] _ HRG.out Try.underlying31 rfl Try.size31 ?_)
    | fail)
  generalize (w4.setCell ⟨w.heap.size, 1, none⟩ (.slice A4 (m2 + 1) c4)).setCell ⟨w.heap.size, 4, none⟩ (.int .i64 (wr + 1)) = w5 at *
  refine (ract A A4 m c (m2 + 1) c4 z false (wr + 1) w5 hz1 hz2).mono ?_
  rintro e w6 ⟨rfl, hb6⟩
  have HX6 := Lib.hid (HX5.out.below hb6)
  have HR6 := Lib.hid (HR5.out.below hb6)
  have HO6 := Lib.hid (own_keep (F := fun _ => False) HO5.out (Keep.of_below hb6) (fun _ _ h => h))
  have HB6 := Lib.hid (btr HB5.out hb6)
  clear hb6 HX4 HX5 HR4 HR5 HO4 HO5 HB4 HB5 HK5 c1 c4' f1 f4 HRG
  have hx : wvs ws ++ [.int .i64 (n : Int), .string sy] = wvs (ws ++ [(n, y)]) := by rw [wvs_append, ← hsy.out]; rfl
  rw [hx] at HO6
  clear hx
  rw [HZZ.out.1, HZZ.out.2]
  clear hz1 hz2
  unfold five
  clear HZZ
  rcases HDD.out with ⟨rfl, rfl⟩ | ⟨rfl, rfl⟩
  · go_wp2_with (first
      | (refine wpList_store_box HX6.out rfl _ _ rfl (.slice A m c) (.slice A4 (m2 + 1) c4) z2 true (wr + 1) rfl rfl rfl rfl ?_; intro w7 hx7 hk7; have HR7 := Lib.hid (HR6.out.keep hk7 (by show ¬ w.heap.size + 1 = w.heap.size; omega)); have HK7 := Lib.hid hk7; have u0 := hx7.c0; have u1 := hx7.c1; have u2 := hx7.c2; have u3 := hx7.c3; have u4 := hx7.c4; clear hx7 hk7)
      | (refine wpList_store_box HR7.out rfl _ _ rfl (.slice A m c) (.slice A4 (m2 + 1) c4) z2 true (wr + 1) rfl rfl rfl rfl ?_; intro w8 hx8 hk8; have HX8 := Lib.hid hx8; have HK8 := Lib.hid hk8; clear hx8 hk8))
    refine bodyPost_ret (results_five2 rfl _ _ (w.heap.size + 1) (.slice A m c) (.slice A4 (m2 + 1) c4) z2 true (wr + 1) (.int .i64 7) rfl rfl HX8.out.range) rfl ?_
    have hK : Keep (fun b => b = w.heap.size ∨ b = w.heap.size + 1) w6 w8 := (HK7.out.mono (fun _ _ h => .inl h)).trans HK8.out (fun _ h => .inl (.inr h))
    refine ⟨.slice A4 (m2 + 1) c4, ?_, Go.Joins.ownsRow_le (own_keep HO6.out hK (fun q hq => by
      show ¬ (q = w.heap.size ∨ q = w.heap.size + 1)
      have := (HO6.out.lt q hq).1
      omega)) (by omega), ((Keep.of_below (F := fun b => w.heap.size ≤ b) HB6.out).trans hK (fun q hq => .inl (by omega))).below (Nat.le_refl _) (fun _ h => h)⟩
    rfl
  · go_wp2_with (first
      | (refine wpList_store_box HX6.out rfl _ _ rfl (.slice A m c) (.slice A4 (m2 + 1) c4) z2 false (wr + 1) rfl rfl rfl rfl ?_; intro w7 hx7 hk7; have HR7 := Lib.hid (HR6.out.keep hk7 (by show ¬ w.heap.size + 1 = w.heap.size; omega)); have HK7 := Lib.hid hk7; have u0 := hx7.c0; have u1 := hx7.c1; have u2 := hx7.c2; have u3 := hx7.c3; have u4 := hx7.c4; clear hx7 hk7)
      | (refine wpList_store_box HR7.out rfl _ _ rfl (.slice A m c) (.slice A4 (m2 + 1) c4) z2 false (wr + 1) rfl rfl rfl rfl ?_; intro w8 hx8 hk8; have HX8 := Lib.hid hx8; have HK8 := Lib.hid hk8; clear hx8 hk8))
    refine bodyPost_ret (results_five2 rfl _ _ (w.heap.size + 1) (.slice A m c) (.slice A4 (m2 + 1) c4) z2 false (wr + 1) (.int .i64 0) rfl rfl HX8.out.range) rfl ?_
    have hK : Keep (fun b => b = w.heap.size ∨ b = w.heap.size + 1) w6 w8 := (HK7.out.mono (fun _ _ h => .inl h)).trans HK8.out (fun _ h => .inl (.inr h))
    refine ⟨.slice A4 (m2 + 1) c4, ?_, Go.Joins.ownsRow_le (own_keep HO6.out hK (fun q hq => by
      show ¬ (q = w.heap.size ∨ q = w.heap.size + 1)
      have := (HO6.out.lt q hq).1
      omega)) (by omega), ((Keep.of_below (F := fun b => w.heap.size ≤ b) HB6.out).trans hK (fun q hq => .inl (by omega))).below (Nat.le_refl _) (fun _ h => h)⟩
    rfl
theorem refwrite_any {w : World} {sv wv : Value} {s : St} (h : Rep w sv wv s) (n : Int) (y : List UInt8) (h1 : s.waits.length ≤ 1000000) (h2 : s.writes ≤ 1000000) :
    Calls Try.prog 24 #[rv sv wv s, .int .i64 n, .string (str y)] w fun e w' => ∃ sv' wv', e = .returned (.tuple #[rv sv' wv' (D.write s n y), .int .i64 (D.writeE s n y)]) ∧ Made w w' sv wv sv' wv' (D.write s n y) := by
  have stay : ∀ {e : Ending} {w' : World} {k : Int}, D.bad s n y.length = k → k ≠ 0 → e = .returned (.tuple #[rv sv wv s, .int .i64 k]) ∧ Below w.heap.size w w' → ∃ sv' wv', e = .returned (.tuple #[rv sv' wv' (D.write s n y), .int .i64 (D.writeE s n y)]) ∧ Made w w' sv wv sv' wv' (D.write s n y) := by
    rintro e w' k hk h0 ⟨rfl, hb⟩
    have e1 : D.writeE s n y = k := by unfold D.writeE; rw [hk, if_neg h0]
    have e2 : D.write s n y = s := by unfold D.write; rw [hk, if_neg h0]
    rw [e1, e2]
    exact ⟨sv, wv, rfl, h.below hb, hb, fun b q => .inl q⟩
  obtain ⟨A, c, e1⟩ := row_form h.safe
  obtain ⟨A2, c2, e2⟩ := row_form h.waits
  cases hd : s.down with
  | true =>
    refine Calls.mono (R := fun e w' => e = .returned (.tuple #[rv sv wv s, .int .i64 7]) ∧ Below w.heap.size w w') ?_ (fun e w' q => stay (by simp [D.bad, hd]) (by decide) q)
    rw [e1, e2]
    unfold rv
    rw [hd]
    exact refwrite_down A A2 _ c _ c2 s.fuse s.writes n (str y) w
  | false =>
    by_cases hr : n < 0 ∨ (s.safe.length : Int) ≤ n
    · refine Calls.mono (R := fun e w' => e = .returned (.tuple #[rv sv wv s, .int .i64 4]) ∧ Below w.heap.size w w') ?_ (fun e w' q => stay (by simp [D.bad, hd, hr]) (by decide) q)
      rw [e1, e2]
      unfold rv
      rw [hd]
      exact refwrite_none A A2 _ c _ c2 s.fuse s.writes n (str y) w hr
    · obtain ⟨m, rfl⟩ := Int.eq_ofNat_of_zero_le (by omega : 0 ≤ n)
      by_cases hy : y.length = 512
      · have hb : D.bad s (m : Int) y.length = 0 := by unfold D.bad; rw [hd, if_neg (by simp), if_neg hr, if_neg (by omega)]
        have ew : D.write s (m : Int) y = D.act (D.put s m y) := by unfold D.write; rw [if_pos hb, Int.toNat_natCast]
        have ee : D.writeE s (m : Int) y = if s.fuse = 0 then 7 else 0 := by unfold D.writeE; rw [if_pos hb]; rfl
        have hok : D.Ok (D.act (D.put s m y)) := D.act_ok (D.put_ok h.ok (by omega) hy)
        rw [ew, ee]
        refine Calls.mono (R := fun e w' => ∃ wv', e = .returned (.tuple #[rv sv wv' (D.act (D.put s m y)), .int .i64 (if s.fuse = 0 then 7 else 0)]) ∧ w'.ownsRow w.heap.size 82 2 wv' (s.waits.length + 1) (wvs (s.waits ++ [(m, y)])) ∧ Below w.heap.size w w') ?_ ?_
        · have hw := h.waits
          rw [e1, e2]
          rw [e2] at hw
          have e3 : rv (.slice A s.safe.length c) (.slice A2 s.waits.length c2) s = five (.slice A s.safe.length c) (.slice A2 s.waits.length c2) s.fuse false s.writes := by unfold rv five; rw [hd]
          rw [e3]
          refine (refwrite_core (ec := if s.fuse = 0 then 7 else 0) hw (by omega) hy h1 (by omega) (by omega) h.ok.fuse h.ok.fuse2 ⟨rfl, rfl⟩ (by by_cases h0 : s.fuse = 0 <;> simp [h0])).mono ?_
          rintro e w' ⟨wv', rfl, ho, hb'⟩
          refine ⟨wv', ?_, ho, hb'⟩
          have e4 : five (.slice A s.safe.length c) wv' (if 0 < s.fuse then s.fuse - 1 else s.fuse) (if s.fuse = 0 then true else false) ((s.writes : Int) + 1) = rv (.slice A s.safe.length c) wv' (D.act (D.put s m y)) := by
            unfold rv five D.act D.put
            simp only
            by_cases h0 : s.fuse = 0
            · simp [h0]
            · by_cases h1 : 0 < s.fuse
              · simp [h0, h1, hd]
              · simp [h0, h1, hd]
          rw [e4]
        · rintro e w' ⟨wv', rfl, ho, hb'⟩
          refine ⟨sv, wv', rfl, ⟨hok, ?_, ?_⟩, hb', ?_⟩
          · rw [D.act_safe]
            exact (h.below hb').safe
          · rw [D.act_waits]
            show w'.ownsRow 0 82 2 wv' (s.waits ++ [(m, y)]).length (wvs (s.waits ++ [(m, y)]))
            rw [List.length_append]
            exact Go.Joins.ownsRow_le ho (Nat.zero_le _)
          · rintro b (q | q)
            · exact .inl (.inl q)
            · exact .inr (ho.lt b q).1
      · refine Calls.mono (R := fun e w' => e = .returned (.tuple #[rv sv wv s, .int .i64 1]) ∧ Below w.heap.size w w') ?_ (fun e w' q => stay (k := 1) (by unfold D.bad; rw [hd, if_neg (by simp), if_neg hr, if_pos hy]) (by decide) q)
        rw [e1, e2]
        unfold rv
        rw [hd]
        exact refwrite_long A A2 _ c _ c2 s.fuse s.writes m (str y) w (by simp) (by simp; omega) (by rw [str_size]; simp; omega)
end Go.Proofs.Ytcbiagdpolhbfaa
