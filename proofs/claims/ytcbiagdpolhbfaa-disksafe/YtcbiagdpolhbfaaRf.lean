/- cashbookref05's Crash. -/
import Derived.Test.YtcbiagdpolhbfaaRe
namespace Go.Proofs.Ytcbiagdpolhbfaa
open Go.RowKit
open D (St)

theorem set_self {l : List Value} {i : Nat} {v : Value} (h : l[i]? = some v) : l.set i v = l := by
  obtain ⟨hi, e⟩ := List.getElem?_eq_some_iff.1 h
  subst e
  exact List.set_getElem_self hi
theorem str_extract (l : List UInt8) (a b : Nat) : (str l).extract a b = str ((l.drop a).take (b - a)) := by
  apply ByteArray.ext
  simp [str]
theorem run_strMid (w : World) (l : List UInt8) (f t : Nat) (hf : f ≤ t) (ht : t ≤ l.length) :
    (Instr.slice 9 (.string (str l)) (some (.int .i64 (f : Int))) (some (.int .i64 (t : Int))) none).run Try.prog w = .ok (.string ((str l).extract f t)) w := by
  rw [run_slice_string w 9 (str l) .i64 .i64 (f : Int) (t : Int) Try.underlying9 (by omega) (by omega) (by rw [str_size]; omega)]
  simp
theorem run_strAdd (w : World) (l m : ByteArray) (h : l.size + m.size ≤ 1000) : (Op.stringOp .add l m).run Try.prog w = .ok (.string (l ++ m)) w := run_string_add_sum w l m (by omega)
set_option maxRecDepth 100000 in
set_option maxHeartbeats 2000000 in
theorem refcrash_core {w : World} {A A2 B : Option Addr} {m c m2 c2 N lc : Nat} {z nw : Int} {dn : Bool} {ss : List (List UInt8)} {ws : List (Nat × List UInt8)} {l : List (Int × Int)} (HSS : Hid (w.ownsRow 0 9 1 (.slice A m c) m (svs ss))) (HW : Hid (w.ownsRow 0 82 2 (.slice A2 m2 c2) m2 (wvs ws))) (HLV : Hid (Losses w (.slice B N lc) l)) (HL1 : Hid (ss.length = m)) (HL2 : Hid (ws.length = m2)) (HL3 : Hid (l.length = N)) (HP : Hid (∀ x ∈ ws, x.1 < m)) (HY : Hid (∀ x ∈ ws, x.2.length = 512)) (HF : Hid (∀ b ∈ ss, b.length = 512)) (hm : m ≤ 4096) (hm0 : 0 < m) (hm2 : m2 ≤ 9223372036854775807) :
    Calls Try.prog 28 #[five (.slice A m c) (.slice A2 m2 c2) z dn nw, .slice B N lc] w fun e w' => ∃ sv', e = .returned (five sv' (.slice none 0 0) (-1) false nw) ∧
      w'.ownsRow w.heap.size 9 1 sv' m (svs (D.left ss ws l)) ∧ Below w.heap.size w w' := by
  obtain ⟨i9, hi9, hy0, hy1, hy2⟩ := info_parts Try.info9
  have hz := (zero_of_info Try.zero31).1
  have hz82 := (zero_of_info Try.zero82).1
  have HX2 : Hid (Box (((w.alloc (.cells #[.slice A m c, .slice A2 m2 c2, .int .i64 z, .bool dn, .int .i64 nw] 31)).alloc (.cells #[.slice none 0 0, .slice none 0 0, .int .i64 0, .bool false, .int .i64 0] 31)).alloc (.cells #[] 9)) w.heap.size (.slice A m c) (.slice A2 m2 c2) z dn nw) := ((Box.made w _ _ z dn nw _ _ rfl).below (alb _)).below (alb _)
  have HR2 : Hid (Box (((w.alloc (.cells #[.slice A m c, .slice A2 m2 c2, .int .i64 z, .bool dn, .int .i64 nw] 31)).alloc (.cells #[.slice none 0 0, .slice none 0 0, .int .i64 0, .bool false, .int .i64 0] 31)).alloc (.cells #[] 9)) (w.heap.size + 1) (.slice none 0 0) (.slice none 0 0) 0 false 0) := (Box.made (w.alloc (.cells #[.slice A m c, .slice A2 m2 c2, .int .i64 z, .bool dn, .int .i64 nw] 31)) _ _ 0 false 0 _ _ (by simp)).below (alb _)
  have HB2 : Hid (Below w.heap.size w (((w.alloc (.cells #[.slice A m c, .slice A2 m2 c2, .int .i64 z, .bool dn, .int .i64 nw] 31)).alloc (.cells #[.slice none 0 0, .slice none 0 0, .int .i64 0, .bool false, .int .i64 0] 31)).alloc (.cells #[] 9))) := bal (bal (alb _) _) _
  have HO2 : Hid (World.ownsRow (((w.alloc (.cells #[.slice A m c, .slice A2 m2 c2, .int .i64 z, .bool dn, .int .i64 nw] 31)).alloc (.cells #[.slice none 0 0, .slice none 0 0, .int .i64 0, .bool false, .int .i64 0] 31)).alloc (.cells #[] 9)) (w.heap.size + 1 + 1) 9 1 (.slice (some ⟨w.heap.size + 1 + 1, 0, none⟩) 0 0) 0 []) := by
    have := World.ownsRow_lit (base := w.heap.size + 1 + 1) (e := 9) (size := 1) ((w.alloc (.cells #[.slice A m c, .slice A2 m2 c2, .int .i64 z, .bool dn, .int .i64 nw] 31)).alloc (.cells #[.slice none 0 0, .slice none 0 0, .int .i64 0, .bool false, .int .i64 0] 31)) #[] 0 (by simp) (by unfold maxLen; omega) rfl
    have e : ((w.alloc (.cells #[.slice A m c, .slice A2 m2 c2, .int .i64 z, .bool dn, .int .i64 nw] 31)).alloc (.cells #[.slice none 0 0, .slice none 0 0, .int .i64 0, .bool false, .int .i64 0] 31)).heap.size = w.heap.size + 1 + 1 := by simp
    rw [e] at this
    exact this
  have HN2 : Hid (w.heap.size + 1 + 1 ≤ (fun u : World => u.heap.size) (((w.alloc (.cells #[.slice A m c, .slice A2 m2 c2, .int .i64 z, .bool dn, .int .i64 nw] 31)).alloc (.cells #[.slice none 0 0, .slice none 0 0, .int .i64 0, .bool false, .int .i64 0] 31)).alloc (.cells #[] 9))) := by simp [Hid]
  unfold five
  go_enter Try.func28, Try.ntmps28
  go_wp2_with (first
    | (at_builtin; refine wpList_append_rows rfl _ _ 28 rfl (w.heap.size + 1 + 1) 9 i9 _ 1 16 Try.underlying28 hi9 hy0 hy1 hy2 rfl (by decide) _ 0 [] rfl ?a1 (.slice A m c) m (svs ss) rfl ?a2 (svs_one ss) ?a3 ?a4 ?a5 ?_)
    | fail)
  case a1 => exact HO2.out
  case a2 => exact own_keep (F := fun _ => False) HSS.out (Keep.of_below HB2.out) (fun _ _ h => h)
  case a3 => unfold maxLen; omega
  case a4 => omega
  intro v1 w8 hown hgrow
  generalize (((w.alloc (.cells #[.slice A m c, .slice A2 m2 c2, .int .i64 z, .bool dn, .int .i64 nw] 31)).alloc (.cells #[.slice none 0 0, .slice none 0 0, .int .i64 0, .bool false, .int .i64 0] 31)).alloc (.cells #[] 9)) = w7 at *
  have HK8 : Hid (Keep (fun b => w.heap.size + 1 + 1 ≤ b) w7 w8) := (Keep.refl _ _).grown hgrow (fun q hq => .inl (by have e : w.heap.size + 1 + 1 = q := Option.some.inj hq; omega))
  have HX8 := Lib.hid (HX2.out.keep HK8.out (by show ¬ w.heap.size + 1 + 1 ≤ w.heap.size; omega))
  have HR8 := Lib.hid (HR2.out.keep HK8.out (by show ¬ w.heap.size + 1 + 1 ≤ w.heap.size + 1; omega))
  have HKK : Hid (Keep (fun b => w.heap.size ≤ b) w w8) := (Keep.of_below (F := fun b => w.heap.size ≤ b) HB2.out).trans HK8.out (fun q hq => .inl (by omega))
  obtain ⟨g, cap, rfl⟩ := Go.Joins.ownsRow_form hown (by omega)
  have HNG : Hid (w.heap.size + 1 < g) := (hown.lt g rfl).1
  have HO8 := Lib.hid (Go.Joins.ownsRow_le hown (Nat.le_succ _))
  clear hown hgrow HX2 HR2 HB2 HK8 HSS HO2 HN2
  have c0 := HX8.out.c0
  have f0 := HX8.out.fz 0
  have HX9 := Lib.hid (HX8.out.set0 (.slice (some ⟨g, 0, none⟩) m cap))
  have HK9 := Lib.hid (keep1 w8 w.heap.size 0 (.slice (some ⟨g, 0, none⟩) m cap))
  have HR9 := Lib.hid (HR8.out.keep HK9.out (by show ¬ w.heap.size + 1 = w.heap.size; omega))
  have HO9 := Lib.hid (own_keep HO8.out HK9.out (fun q hq => by
    have e : g = q := Option.some.inj hq
    show ¬ q = w.heap.size
    have := HNG.out
    omega))
  have HKL : Hid (Keep (fun b => w.heap.size ≤ b) w (w8.setCell ⟨w.heap.size, 0, none⟩ (.slice (some ⟨g, 0, none⟩) m cap))) := HKK.out.trans HK9.out (fun q hq => .inl (by omega))
  go_wp2
  clear c0 f0 HX8 HR8 HO8 HK9 HKK
  generalize w8.setCell ⟨w.heap.size, 0, none⟩ (.slice (some ⟨g, 0, none⟩) m cap) = w9 at *
  go_loopw [5] (fun i wr => ∃ k : Nat, k ≤ m2 ∧ k ≤ N ∧ i = .int .i64 (k : Int) ∧ Hid (Box wr w.heap.size (.slice (some ⟨g, 0, none⟩) m cap) (.slice A2 m2 c2) z dn nw) ∧ Hid (Box wr (w.heap.size + 1) (.slice none 0 0) (.slice none 0 0) 0 false 0) ∧ Hid (wr.ownsRow (w.heap.size + 1) 9 1 (.slice (some ⟨g, 0, none⟩) m cap) m (svs (D.left ss (ws.take k) (l.take k)))) ∧ Hid (Keep (fun b => w.heap.size ≤ b) w wr))
    (fun i _ => (m2 - intOf i).toNat)
  case atStart => exact ⟨0, Nat.zero_le _, Nat.zero_le _, rfl, HX9, HR9, by rw [show ws.take 0 = [] from rfl]; exact HO9, HKL⟩
  case round =>
    obtain ⟨k, hk, hkN, rfl, HX, HR, HO, HK⟩ := hrel
    by_cases hkl : k < m2 ∧ k < N
    · obtain ⟨hkl1, hkl2⟩ := hkl
      have hkw : k < ws.length := by rw [HL2.out]; exact hkl1
      have hkn : k < l.length := by rw [HL3.out]; exact hkl2
      have HWr := Lib.hid (own_keep HW.out HK.out (fun q hq => by
        show ¬ w.heap.size ≤ q
        have := (HW.out.lt q hq).2
        omega))
      obtain ⟨g2, cap2, e⟩ := Go.Joins.ownsRow_form HWr.out (by omega)
      obtain ⟨rfl, -, rfl⟩ := (Value.slice.injEq ..).mp e
      have a1 : wr.cell? ⟨g2, k * 2, none⟩ = some (.int .i64 ((ws[k].1 : Nat) : Int)) := by
        rw [HWr.out.cellAt (k * 2) (by omega)]
        exact (wvs_get ws k hkw).1
      have a2 : wr.cell? ⟨g2, k * 2 + 1, none⟩ = some (.string (str ws[k].2)) := by
        rw [HWr.out.cellAt (k * 2 + 1) (by omega)]
        exact (wvs_get ws k hkw).2
      have HPk := Lib.hid (HP.out _ (List.getElem_mem hkw))
      have HYk := Lib.hid (HY.out _ (List.getElem_mem hkw))
      have hll : (D.left ss (ws.take k) (l.take k)).length = m := by rw [D.left_length, HL1.out]
      have HFk : Hid (((D.left ss (ws.take k) (l.take k)).getD ws[k].1 []).length = 512) := by
        have e2 : (D.left ss (ws.take k) (l.take k)).getD ws[k].1 [] = (D.left ss (ws.take k) (l.take k))[ws[k].1]'(by rw [hll]; exact HPk.out) := by simp [List.getD, hll, HPk.out]
        unfold Hid
        rw [e2]
        exact D.left_full ss _ _ HF.out (fun x hx => by rw [HL1.out]; exact HP.out x (List.mem_of_mem_take hx)) (fun x hx => HY.out x (List.mem_of_mem_take hx)) _ (List.getElem_mem _)
      have HN : Hid (svs (D.left ss (ws.take (k + 1)) (l.take (k + 1))) = (svs (D.left ss (ws.take k) (l.take k))).set ws[k].1 (.string (str (D.part ((D.left ss (ws.take k) (l.take k)).getD ws[k].1 []) ws[k].2 (D.bnd l[k].1) (D.bnd l[k].2))))) := by
        unfold Hid
        rw [D.left_take _ _ _ k hkw hkn, D.give, svs_set]
      have HC : Hid (wr.cell? ⟨g, ws[k].1, none⟩ = some (.string (str ((D.left ss (ws.take k) (l.take k)).getD ws[k].1 [])))) := by
        unfold Hid
        rw [HO.out.cellAt _ (by have := HPk.out; omega)]
        have := HPk.out
        simp [svs, List.getD, hll, HPk.out]
      obtain ⟨_, _, e0, _, hcl0⟩ := HLV.out.keep HK.out (fun _ q hq => by
        show ¬ w.heap.size ≤ q
        obtain ⟨_, _, e1, _, hq2⟩ := HLV.out
        obtain ⟨b, off, e2, hq3⟩ := hq2 (by omega)
        simp only [Value.slice.injEq] at e1
        obtain ⟨rfl, -, -⟩ := e1
        subst e2
        have e3 : b = q := Option.some.inj hq
        subst e3
        have := World.block_lt_of_cell? w _ (hq3 0 (by omega)).1
        simp at this
        omega)
      obtain ⟨b, off, e1, hcl⟩ := hcl0 (by omega)
      simp only [Value.slice.injEq] at e0
      obtain ⟨rfl, -, -⟩ := e0
      subst e1
      obtain ⟨l0, l1⟩ := hcl k hkn
      clear hcl hcl0 hll e
      generalize ws[k].1 = x at *
      generalize ws[k].2 = y at *
      generalize l[k].1 = y0 at *
      generalize l[k].2 = y1 at *
      generalize (D.left ss (ws.take k) (l.take k)).getD x [] = old at *
      have HA := Lib.hid (alb (w := wr) (.cells #[.int .i64 (x : Int), .string (str y)] 82))
      have HX2 := Lib.hid (HX.out.below HA.out)
      have HR2 := Lib.hid (HR.out.below HA.out)
      have HO2 := Lib.hid (own_keep (F := fun _ => False) HO.out (Keep.of_below HA.out) (fun _ _ h => h))
      have HC2 := Lib.hid (kept HC.out HA.out)
      have HK2 := Lib.hid (HK.out.step HA.out)
      have L0 := Lib.hid (kept l0 HA.out)
      have L1 := Lib.hid (kept l1 HA.out)
      have HB6 : Hid ((wr.alloc (.cells #[.int .i64 (x : Int), .string (str y)] 82)).rangeAt wr.heap.size 0 [.int .i64 (x : Int), .string (str y)]) := range_lit wr _ _ _ rfl
      have u1 := HX.out.c1
      clear l0 l1
      go_wp2
      generalize wr.alloc (.cells #[.int .i64 (x : Int), .string (str y)] 82) = w2 at *
      have hS : Hid (Keep (fun _ => False) w2 w2.drew) := (Keep.refl _ _).drew
      refine lz_start 14 1000 (fun W => Keep (fun _ => False) w2 W) rfl (by kernel_rfl) ?_
      refine lz_take 0 33 (v := ?_) rfl rfl (by kernel_rfl) (by kernel_rfl) (by kernel_rfl) (by kernel_rfl) (fun _ _ _ _ _ h => h) (by rfl) hS.out (fun W hW => ?_) ?_
      rotate_left
      · go_simp; try rfl
      try simp only [Act.put, List.setIfInBounds_toArray, List.set_cons_zero, List.set_cons_succ]
      refine lz_take 1 34 (v := ?_) rfl rfl (by kernel_rfl) (by kernel_rfl) (by kernel_rfl) (by kernel_rfl) (fun _ _ _ _ _ h => h) (by rfl) hS.out (fun W hW => ?_) ?_
      rotate_left
      · go_simp; try rfl
      try simp only [Act.put, List.setIfInBounds_toArray, List.set_cons_zero, List.set_cons_succ]
      refine lz_take 2 35 (v := ?_) rfl rfl (by kernel_rfl) (by kernel_rfl) (by kernel_rfl) (by kernel_rfl) (fun _ _ _ _ _ h => h) (by rfl) hS.out (fun W hW => ?_) ?_
      rotate_left
      · go_simp; try rfl
      try simp only [Act.put, List.setIfInBounds_toArray, List.set_cons_zero, List.set_cons_succ]
      refine lz_take 3 36 (v := ?_) rfl rfl (by kernel_rfl) (by kernel_rfl) (by kernel_rfl) (by kernel_rfl) (fun _ _ _ _ _ h => h) (by rfl) hS.out (fun W hW => ?_) ?_
      rotate_left
      · go_simp; try rfl
      try simp only [Act.put, List.setIfInBounds_toArray, List.set_cons_zero, List.set_cons_succ]
      refine lz_take 4 37 (v := ?_) rfl rfl (by kernel_rfl) (by kernel_rfl) (by kernel_rfl) (by kernel_rfl) (fun _ _ _ _ _ h => h) (by rfl) hS.out (fun W hW => ?_) ?_
      rotate_left
      · have q0 := hW.cell L0.out (fun h => h); go_simp; try rfl
      try simp only [Act.put, List.setIfInBounds_toArray, List.set_cons_zero, List.set_cons_succ]
      refine lz_take 6 39 (v := ?_) rfl rfl (by kernel_rfl) (by kernel_rfl) (by kernel_rfl) (by kernel_rfl) (fun _ _ _ _ _ h => h) (by rfl) hS.out (fun W hW => ?_) ?_
      rotate_left
      · go_simp; try rfl
      try simp only [Act.put, List.setIfInBounds_toArray, List.set_cons_zero, List.set_cons_succ]
      refine lz_take 7 40 (v := ?_) rfl rfl (by kernel_rfl) (by kernel_rfl) (by kernel_rfl) (by kernel_rfl) (fun _ _ _ _ _ h => h) (by rfl) hS.out (fun W hW => ?_) ?_
      rotate_left
      · go_simp; try rfl
      try simp only [Act.put, List.setIfInBounds_toArray, List.set_cons_zero, List.set_cons_succ]
      refine lz_take 8 41 (v := ?_) rfl rfl (by kernel_rfl) (by kernel_rfl) (by kernel_rfl) (by kernel_rfl) (fun _ _ _ _ _ h => h) (by rfl) hS.out (fun W hW => ?_) ?_
      rotate_left
      · go_simp; try rfl
      try simp only [Act.put, List.setIfInBounds_toArray, List.set_cons_zero, List.set_cons_succ]
      refine lz_take 9 42 (v := ?_) rfl rfl (by kernel_rfl) (by kernel_rfl) (by kernel_rfl) (by kernel_rfl) (fun _ _ _ _ _ h => h) (by rfl) hS.out (fun W hW => ?_) ?_
      rotate_left
      · go_simp; try rfl
      try simp only [Act.put, List.setIfInBounds_toArray, List.set_cons_zero, List.set_cons_succ]
      refine lz_take 10 43 (v := ?_) rfl rfl (by kernel_rfl) (by kernel_rfl) (by kernel_rfl) (by kernel_rfl) (fun _ _ _ _ _ h => h) (by rfl) hS.out (fun W hW => ?_) ?_
      rotate_left
      · have q0 := hW.cell L1.out (fun h => h); go_simp; try rfl
      try simp only [Act.put, List.setIfInBounds_toArray, List.set_cons_zero, List.set_cons_succ]
      refine lz_op 5 rfl rfl (by kernel_rfl) (fun K hK => ?_)
      go_simp
      refine (bound_any y0 _).mono ?_
      rintro e w3 ⟨rfl, rfl⟩
      refine hK.out _ _ hS.out ?_
      clear hK K
      refine lz_op 11 rfl rfl (by kernel_rfl) (fun K hK => ?_)
      go_simp
      refine (bound_any y1 _).mono ?_
      rintro e w3 ⟨rfl, rfl⟩
      refine hK.out _ _ hS.out ?_
      clear hK K
      refine lz_take 12 7 (v := ?_) rfl rfl (by kernel_rfl) (by kernel_rfl) (by kernel_rfl) (by kernel_rfl) (fun _ _ _ _ _ h => h) (by rfl) hS.out (fun W hW => ?_) ?_
      rotate_left
      · go_simp; try rfl
      try simp only [Act.put, List.setIfInBounds_toArray, List.set_cons_zero, List.set_cons_succ]
      refine lz_take 13 8 (v := ?_) rfl rfl (by kernel_rfl) (by kernel_rfl) (by kernel_rfl) (by kernel_rfl) (fun _ _ _ _ _ h => h) (by rfl) hS.out (fun W hW => ?_) ?_
      rotate_left
      · go_simp; try rfl
      try simp only [Act.put, List.setIfInBounds_toArray, List.set_cons_zero, List.set_cons_succ]
      refine lz_done (by kernel_rfl) ?_
      have T0 := Lib.hid (D.bnd_le y1)
      generalize D.bnd y0 = f at *
      generalize D.bnd y1 = t at *
      clear hS L0 L1 u1
      by_cases hft : f < t
      · have v0 : w2.drew.cell? ⟨w.heap.size, 0, none⟩ = _ := HX2.out.c0
        have v6 : w2.drew.cell? ⟨wr.heap.size, 0, none⟩ = some (.int .i64 (x : Int)) := HB6.out 0 _ rfl
        have vc : w2.drew.cell? ⟨g, x, none⟩ = some (.string (str old)) := HC2.out
        have hpx := HPk.out
        have B6 : Hid (w2.drew.cell? ⟨wr.heap.size, 1, none⟩ = some (.string (str y))) := HB6.out 1 _ rfl
        have V0 := Lib.hid v0
        have V6 := Lib.hid v6
        have hS : Hid (Keep (fun _ => False) w2.drew w2.drew.drew) := (Keep.refl _ _).drew
        have z1 : (str old).size = 512 := HFk.out
        have z2 : (str y).size = 512 := HYk.out
        have ht := T0.out
        go_wp2
        have i1 : (f : Int) ≤ 512 := by omega
        have i2 : (t : Int) ≤ 512 := by omega
        have lo : old.length = 512 := HFk.out
        have ly : y.length = 512 := HYk.out
        have p1 : ((str old).extract 0 f).size = f := by rw [str_extract, str_size]; simp; omega
        have p2 : ((str y).extract f t).size = t - f := by rw [str_extract, str_size]; simp; omega
        have p3 : ((str old).extract t 512).size = 512 - t := by rw [str_extract, str_size]; simp; omega
        have HE : Hid ((str old).extract 0 f ++ (str y).extract f t ++ (str old).extract t 512 = str (D.part old y f t)) := by
          unfold Hid D.part
          rw [if_pos hft, str_extract, str_extract, str_extract, str_append, str_append]
          congr 1
          rw [List.append_assoc, List.drop_zero, Nat.sub_zero]
          congr 2
          exact List.take_of_length_le (by simp; omega)
        clear lo ly
        refine lz_start 19 18 (fun W => Keep (fun _ => False) w2.drew W) rfl (by kernel_rfl) ?_
        refine lz_take 0 54 (v := ?_) rfl rfl (by kernel_rfl) (by kernel_rfl) (by kernel_rfl) (by kernel_rfl) (fun _ _ _ _ _ h => h) (by rfl) hS.out (fun W hW => ?_) ?_
        rotate_left
        · go_simp; try rfl
        try simp only [Act.put, List.setIfInBounds_toArray, List.set_cons_zero, List.set_cons_succ]
        refine lz_take 1 55 (v := ?_) rfl rfl (by kernel_rfl) (by kernel_rfl) (by kernel_rfl) (by kernel_rfl) (fun _ _ _ _ _ h => h) (by rfl) hS.out (fun W hW => ?_) ?_
        rotate_left
        · have q0 := hW.cell V0.out (fun h => h); go_simp; try rfl
        try simp only [Act.put, List.setIfInBounds_toArray, List.set_cons_zero, List.set_cons_succ]
        refine lz_take 2 56 (v := ?_) rfl rfl (by kernel_rfl) (by kernel_rfl) (by kernel_rfl) (by kernel_rfl) (fun _ _ _ _ _ h => h) (by rfl) hS.out (fun W hW => ?_) ?_
        rotate_left
        · go_simp; try rfl
        try simp only [Act.put, List.setIfInBounds_toArray, List.set_cons_zero, List.set_cons_succ]
        refine lz_take 3 57 (v := ?_) rfl rfl (by kernel_rfl) (by kernel_rfl) (by kernel_rfl) (by kernel_rfl) (fun _ _ _ _ _ h => h) (by rfl) hS.out (fun W hW => ?_) ?_
        rotate_left
        · have q0 := hW.cell V6.out (fun h => h); go_simp; try rfl
        try simp only [Act.put, List.setIfInBounds_toArray, List.set_cons_zero, List.set_cons_succ]
        refine lz_take 4 58 (v := ?_) rfl rfl (by kernel_rfl) (by kernel_rfl) (by kernel_rfl) (by kernel_rfl) (fun _ _ _ _ _ h => h) (by rfl) hS.out (fun W hW => ?_) ?_
        rotate_left
        · go_simp; try rfl
        try simp only [Act.put, List.setIfInBounds_toArray, List.set_cons_zero, List.set_cons_succ]
        refine lz_take 5 59 (v := ?_) rfl rfl (by kernel_rfl) (by kernel_rfl) (by kernel_rfl) (by kernel_rfl) (fun _ _ _ _ _ h => h) (by rfl) hS.out (fun W hW => ?_) ?_
        rotate_left
        · go_simp; try rfl
        try simp only [Act.put, List.setIfInBounds_toArray, List.set_cons_zero, List.set_cons_succ]
        refine lz_take 6 60 (v := ?_) rfl rfl (by kernel_rfl) (by kernel_rfl) (by kernel_rfl) (by kernel_rfl) (fun _ _ _ _ _ h => h) (by rfl) hS.out (fun W hW => ?_) ?_
        rotate_left
        · go_simp; try rfl
        try simp only [Act.put, List.setIfInBounds_toArray, List.set_cons_zero, List.set_cons_succ]
        refine lz_take 7 61 (v := ?_) rfl rfl (by kernel_rfl) (by kernel_rfl) (by kernel_rfl) (by kernel_rfl) (fun _ _ _ _ _ h => h) (by rfl) hS.out (fun W hW => ?_) ?_
        rotate_left
        · go_simp; try rfl
        try simp only [Act.put, List.setIfInBounds_toArray, List.set_cons_zero, List.set_cons_succ]
        refine lz_take 8 62 (v := ?_) rfl rfl (by kernel_rfl) (by kernel_rfl) (by kernel_rfl) (by kernel_rfl) (fun _ _ _ _ _ h => h) (by rfl) hS.out (fun W hW => ?_) ?_
        rotate_left
        · have q0 := hW.cell B6.out (fun h => h); go_simp; try rfl
        try simp only [Act.put, List.setIfInBounds_toArray, List.set_cons_zero, List.set_cons_succ]
        refine lz_take 9 63 (v := ?_) rfl rfl (by kernel_rfl) (by kernel_rfl) (by kernel_rfl) (by kernel_rfl) (fun _ _ _ _ _ h => h) (by rfl) hS.out (fun W hW => ?_) ?_
        rotate_left
        · go_simp; try rfl
        try simp only [Act.put, List.setIfInBounds_toArray, List.set_cons_zero, List.set_cons_succ]
        refine lz_take 10 64 (v := ?_) rfl rfl (by kernel_rfl) (by kernel_rfl) (by kernel_rfl) (by kernel_rfl) (fun _ _ _ _ _ h => h) (by rfl) hS.out (fun W hW => ?_) ?_
        rotate_left
        · go_simp; try rfl
        try simp only [Act.put, List.setIfInBounds_toArray, List.set_cons_zero, List.set_cons_succ]
        refine lz_take 11 65 (v := ?_) rfl rfl (by kernel_rfl) (by kernel_rfl) (by kernel_rfl) (by kernel_rfl) (fun _ _ _ _ _ h => h) (by rfl) hS.out (fun W hW => ?_) ?_
        rotate_left
        · have q0 := run_strMid W y f t (by omega) (by rw [← str_size]; omega); go_simp; try rfl
        try simp only [Act.put, List.setIfInBounds_toArray, List.set_cons_zero, List.set_cons_succ]
        refine lz_take 12 66 (v := ?_) rfl rfl (by kernel_rfl) (by kernel_rfl) (by kernel_rfl) (by kernel_rfl) (fun _ _ _ _ _ h => h) (by rfl) hS.out (fun W hW => ?_) ?_
        rotate_left
        · have q0 := run_strAdd W ((str old).extract 0 f) ((str y).extract f t) (by omega); go_simp; try rfl
        try simp only [Act.put, List.setIfInBounds_toArray, List.set_cons_zero, List.set_cons_succ]
        refine lz_take 13 67 (v := ?_) rfl rfl (by kernel_rfl) (by kernel_rfl) (by kernel_rfl) (by kernel_rfl) (fun _ _ _ _ _ h => h) (by rfl) hS.out (fun W hW => ?_) ?_
        rotate_left
        · go_simp; try rfl
        try simp only [Act.put, List.setIfInBounds_toArray, List.set_cons_zero, List.set_cons_succ]
        refine lz_take 14 68 (v := ?_) rfl rfl (by kernel_rfl) (by kernel_rfl) (by kernel_rfl) (by kernel_rfl) (fun _ _ _ _ _ h => h) (by rfl) hS.out (fun W hW => ?_) ?_
        rotate_left
        · go_simp; try rfl
        try simp only [Act.put, List.setIfInBounds_toArray, List.set_cons_zero, List.set_cons_succ]
        refine lz_take 15 69 (v := ?_) rfl rfl (by kernel_rfl) (by kernel_rfl) (by kernel_rfl) (by kernel_rfl) (fun _ _ _ _ _ h => h) (by rfl) hS.out (fun W hW => ?_) ?_
        rotate_left
        · go_simp; try rfl
        try simp only [Act.put, List.setIfInBounds_toArray, List.set_cons_zero, List.set_cons_succ]
        refine lz_take 16 70 (v := ?_) rfl rfl (by kernel_rfl) (by kernel_rfl) (by kernel_rfl) (by kernel_rfl) (fun _ _ _ _ _ h => h) (by rfl) hS.out (fun W hW => ?_) ?_
        rotate_left
        · have q0 := run_strAdd W ((str old).extract 0 f ++ (str y).extract f t) ((str old).extract t 512) (by rw [ByteArray.size_append]; omega); go_simp; try rfl
        try simp only [Act.put, List.setIfInBounds_toArray, List.set_cons_zero, List.set_cons_succ]
        rw [HE.out]
        clear i1 i2 p1 p2 p3 HE z1 z2
        have fu : w2.drew.frozen? ⟨g, x, none⟩ = false := HO2.out.frozenAt x
        have HN' : Hid (svs (D.left ss (ws.take (k + 1)) (l.take (k + 1))) = (svs (D.left ss (ws.take k) (l.take k))).set x (.string (str (D.part old y f t)))) := HN.out
        generalize str (D.part old y f t) = ny at *
        have HO3 : Hid ((w2.setCell ⟨g, x, none⟩ (.string ny)).drew.drew.ownsRow (w.heap.size + 1) 9 1 (.slice (some ⟨g, 0, none⟩) m cap) m (svs (D.left ss (ws.take (k + 1)) (l.take (k + 1))))) := by
          have := (World.ownsRow.stored (w := w2) HO2.out x (.string ny)).1
          rw [← HN'.out] at this
          exact this
        have HK1 : Hid (Keep (fun b => b = g) w2 (w2.setCell ⟨g, x, none⟩ (.string ny)).drew.drew) := (keep1 w2 g x _).drew.drew
        have HX3 := Lib.hid (HX2.out.keep HK1.out (by show ¬ w.heap.size = g; have := HNG.out; omega))
        have HR3 := Lib.hid (HR2.out.keep HK1.out (by show ¬ w.heap.size + 1 = g; have := HNG.out; omega))
        have HK3 := Lib.hid (HK2.out.trans HK1.out (fun q hq => .inl (by have := HNG.out; omega)))
        refine lz_op 17 rfl rfl (by kernel_rfl) (fun K hK => ?_)
        go_simp
        refine hK.out _ _ hS.out ?_
        clear hK K
        refine lz_end rfl rfl (by kernel_rfl) (by kernel_rfl) (fun K hK => ?_)
        go_simp
        refine hK.out _ _ ?_
        clear hK K
        clear fu v0 v6 vc
        generalize (w2.setCell ⟨g, x, none⟩ (.string ny)).drew.drew = w5 at *
        go_wp2
        go_roundw
        case rel => exact ⟨k + 1, by omega, by omega, by go_num, HX3, HR3, HO3, HK3⟩
        case measure => simp [intOf]; omega
      · have HO3 : Hid (w2.drew.ownsRow (w.heap.size + 1) 9 1 (.slice (some ⟨g, 0, none⟩) m cap) m (svs (D.left ss (ws.take (k + 1)) (l.take (k + 1))))) := by
          have e2 : D.part old y f t = old := by unfold D.part; rw [if_neg hft]
          have := HN.out
          rw [e2] at this
          rw [this]
          have hc := HC2.out
          rw [HO2.out.cellAt x (by have := HPk.out; omega)] at hc
          rw [set_self hc]
          exact HO2.out
        have HX3 := Lib.hid (HX2.out.keep (F := fun _ => False) (Keep.refl _ w2).drew (fun h => h))
        have HR3 := Lib.hid (HR2.out.keep (F := fun _ => False) (Keep.refl _ w2).drew (fun h => h))
        have HK3 := Lib.hid (HK2.out.drew)
        generalize w2.drew = w5 at *
        go_wp2
        go_roundw
        case rel => exact ⟨k + 1, by omega, by omega, by go_num, HX3, HR3, HO3, HK3⟩
        case measure => simp [intOf]; omega
    · have HO' : Hid (wr.ownsRow (w.heap.size + 1) 9 1 (.slice (some ⟨g, 0, none⟩) m cap) m (svs (D.left ss ws l))) := by
        have := HO.out
        rw [D.left_min _ _ _ k (by rw [HL2.out, HL3.out]; omega)] at this
        exact this
      have u1 := HX.out.c1
      have f1 := HX.out.fz 1
      have u2 := HX.out.c2
      have f2 := HX.out.fz 2
      have u3 := HX.out.c3
      have f3 := HX.out.fz 3
      have HX2 := Lib.hid (((HX.out.set1 (.slice none 0 0)).set3 false).set2 (-1))
      have HK1 : Hid (Keep (fun b => b = w.heap.size) wr (((wr.setCell ⟨w.heap.size, 1, none⟩ (.slice none 0 0)).setCell ⟨w.heap.size, 3, none⟩ (.bool false)).setCell ⟨w.heap.size, 2, none⟩ (.int .i64 (-1)))) := ((keep1 wr w.heap.size 1 _).trans (keep1 _ w.heap.size 3 _) (fun _ h => .inl h)).trans (keep1 _ w.heap.size 2 _) (fun _ h => .inl h)
      have HR2 := Lib.hid (HR.out.keep HK1.out (by show ¬ w.heap.size + 1 = w.heap.size; omega))
      have v0 := HX2.out.c0
      have v1 := HX2.out.c1
      have v2 := HX2.out.c2
      have v3 := HX2.out.c3
      have v4 := HX2.out.c4
      have hcase : (decide (k < m2) = false) ∨ (decide (k < m2) = true ∧ decide (k < N) = false) := by
        simp
        omega
      clear hkl HX2
      rcases hcase with hq | ⟨hq, hq2⟩
      all_goals
        go_wp2_with (first
          | (refine wpList_store_box HR2.out rfl _ _ rfl (.slice (some ⟨g, 0, none⟩) m cap) (.slice none 0 0) (-1) false nw rfl rfl rfl rfl ?_; intro w8 hx8 hk8; have HX8 := Lib.hid hx8; have HK8 := Lib.hid hk8; clear hx8 hk8)
          | fail)
        refine bodyPost_ret (results_five rfl _ _ (w.heap.size + 1) (.slice (some ⟨g, 0, none⟩) m cap) (.slice none 0 0) (-1) false nw rfl HX8.out.range) rfl ?_
        have hK : Keep (fun b => b = w.heap.size ∨ b = w.heap.size + 1) wr w8 := (HK1.out.mono (fun _ _ h => .inl h)).trans HK8.out (fun _ h => .inl (.inr h))
        refine ⟨_, rfl, Go.Joins.ownsRow_le (own_keep HO'.out hK (fun q hq => by
          have e : g = q := Option.some.inj hq
          show ¬ (q = w.heap.size ∨ q = w.heap.size + 1)
          have := HNG.out
          omega)) (by omega), (HK.out.trans hK (fun q hq => .inl (by omega))).below (Nat.le_refl _) (fun _ h => h)⟩
theorem refcrash_any {w : World} {sv wv : Value} {s : St} (h : Rep w sv wv s) (lv : Value) (l : List (Int × Int)) (hl : Losses w lv l) :
    Calls Try.prog 28 #[rv sv wv s, lv] w fun e w' => ∃ sv' wv', e = .returned (rv sv' wv' (D.crash s l)) ∧ Made w w' sv wv sv' wv' (D.crash s l) := by
  obtain ⟨A, c, rfl⟩ := row_form h.safe
  obtain ⟨A2, c2, rfl⟩ := row_form h.waits
  obtain ⟨B, lc, rfl, hl2⟩ := hl
  have few := h.ok.few
  refine (refcrash_core h.safe h.waits ⟨B, lc, rfl, hl2⟩ rfl rfl rfl h.ok.place h.ok.bytes h.ok.full h.ok.many (by omega) h.nwaits).mono ?_
  rintro e w' ⟨sv', rfl, ho, hb⟩
  refine ⟨sv', .slice none 0 0, rfl, ⟨D.crash_ok h.ok l, ?_, World.ownsRow_nil _ _ _ _⟩, hb, ?_⟩
  · show w'.ownsRow 0 9 1 sv' (D.left s.safe s.waits l).length (svs (D.left s.safe s.waits l))
    rw [D.left_length]
    exact Go.Joins.ownsRow_le ho (Nat.zero_le _)
  · rintro b (q | q)
    · exact .inr (ho.lt b q).1
    · simp [Value.ownBlock] at q
end Go.Proofs.Ytcbiagdpolhbfaa
