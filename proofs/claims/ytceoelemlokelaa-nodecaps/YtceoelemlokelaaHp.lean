/- node.Read. -/
import Derived.Test.YtceoelemlokelaaHo
namespace Go.Proofs.Ytceoelemlokelaa
open Go.RowKit

theorem nsaid_any (w : World) (lb b0 kd c k v : Nat) (B : List UInt8) (hkd : kd = 3 ∨ kd = 4) (hB : N.sizeN (decide (kd = 3)) c k v ≤ B.length) (hBm : B.length ≤ 1000) (h1 : 1 ≤ c) (hc : c ≤ 498) (hk : k ≤ 24) (hv : v ≤ 108) (HL : Lf w lb b0 (B.drop 2)) (l1 : lb < w.heap.size) (l2 : b0 < w.heap.size) :
    Calls Try.prog 34 #[.func (Fn.func 43) #[] #[.pointer (some ⟨lb, 0, none⟩)], .int .u8 (kd : Int), .int .i64 (c : Int), .int .i64 (k : Int), .int .i64 (v : Int)] w fun e w' =>
      ∃ kv vv pv, e = .returned (nodv (N.parse (decide (kd = 3)) B c k v).leaf kv vv pv) ∧ (∀ W, Keep (fun i => i < w.heap.size) w' W → NV W kv vv pv (N.parse (decide (kd = 3)) B c k v)) ∧ Keep (fun k => k = lb) w w' := by
  rcases hkd with rfl | rfl
  · exact nsaid_leaf w lb b0 c k v B (Lib.hid hB) (Lib.hid hBm) hc hk hv (Lib.hid HL) (Lib.hid l1) (Lib.hid l2)
  · obtain ⟨d, rfl⟩ : ∃ d, c = d + 1 := ⟨c - 1, by omega⟩
    have hB2 : 2 + (d + 1) * 4 + d * k ≤ B.length := by
      have h : 2 + (d + 1) * 4 + (d + 1 - 1) * k ≤ B.length := hB
      rwa [Nat.add_sub_cancel] at h
    exact nsaid_inner w lb b0 (d + 1) d k (v : Int) B (Lib.hid hB2) (Lib.hid hBm) hc rfl hk (Lib.hid HL) (Lib.hid l1) (Lib.hid l2)
theorem zero_nv (w : World) : NV w (.slice none 0 0) (.slice none 0 0) (.slice none 0 0) N.zero := ⟨Brs.nil w, Brs.nil w, Nums.nil w⟩
/-- Zero. -/
def zer : List Value := [.bool false, .slice none 0 0, .slice none 0 0, .slice none 0 0]
set_option maxHeartbeats 1600000 in
theorem nread_short (w : World) (kd : Nat) (A : Option Addr) (n c : Nat) (k v : Int) (hn : n < 2) :
    Calls Try.prog 16 #[.int .u8 (kd : Int), .slice A n c, .int .i64 k, .int .i64 v] w fun e w' => e = .returned (.tuple #[nodv false (.slice none 0 0) (.slice none 0 0) (.slice none 0 0), .int .i64 2]) ∧ Below w.heap.size w w' := by
  have hz : (n : Int) < 2 := by omega
  go_enter Try.func16, Try.ntmps16
  go_wp2
  exact bodyPost_ret (v := .tuple #[.agg #[.bool false, .slice none 0 0, .slice none 0 0, .slice none 0 0], .int .i64 2]) (by simp [results, Try.results16, go_sem]) rfl ⟨rfl, alb _⟩
/-- The four cells of a result are laid. -/
theorem rz_fin {w wr : World} {lf : Bool} {kv vv pv : Value} (h : wr.heap[w.heap.size]? = some (.cells #[.bool lf, kv, vv, pv] 28 (0, 0))) (hB : Below w.heap.size w wr) (x0 x1 x2 x3 : Value) :
    ((((wr.setCell ⟨w.heap.size, 0, none⟩ x0).setCell ⟨w.heap.size, 1, none⟩ x1).setCell ⟨w.heap.size, 2, none⟩ x2).setCell ⟨w.heap.size, 3, none⟩ x3).heap[w.heap.size]? = some (.cells #[x0, x1, x2, x3] 28 (0, 0)) ∧
    Below w.heap.size w ((((wr.setCell ⟨w.heap.size, 0, none⟩ x0).setCell ⟨w.heap.size, 1, none⟩ x1).setCell ⟨w.heap.size, 2, none⟩ x2).setCell ⟨w.heap.size, 3, none⟩ x3) ∧
    Keep (fun k => k = w.heap.size) wr ((((wr.setCell ⟨w.heap.size, 0, none⟩ x0).setCell ⟨w.heap.size, 1, none⟩ x1).setCell ⟨w.heap.size, 2, none⟩ x2).setCell ⟨w.heap.size, 3, none⟩ x3) := by
  have k : Keep (fun k => k = w.heap.size) wr ((((wr.setCell ⟨w.heap.size, 0, none⟩ x0).setCell ⟨w.heap.size, 1, none⟩ x1).setCell ⟨w.heap.size, 2, none⟩ x2).setCell ⟨w.heap.size, 3, none⟩ x3) :=
    (((((Keep.refl (fun k => k = w.heap.size) wr).setCell (p := ⟨w.heap.size, 0, none⟩) (.inl rfl) x0).setCell (p := ⟨w.heap.size, 1, none⟩) (.inl rfl) x1).setCell (p := ⟨w.heap.size, 2, none⟩) (.inl rfl) x2).setCell (p := ⟨w.heap.size, 3, none⟩) (.inl rfl) x3)
  refine ⟨heap_set (heap_set (heap_set (heap_set h 0 x0) 1 x1) 2 x2) 3 x3, ?_, k⟩
  exact hB.trans (k.below hB.size (fun i e => by have e : i = w.heap.size := e; omega))
theorem readOK_parts (kd : Nat) (l : List UInt8) (k v : Int) (h2 : 2 ≤ l.length) : N.readOK kd l k v = (N.may kd (N.count l) k v && (decide (l.length = N.sizeN (decide (kd = 3)) (N.count l) k.toNat v.toNat) && N.right (N.parse (decide (kd = 3)) l (N.count l) k.toNat v.toNat) k v)) := by
  unfold N.readOK
  rw [decide_eq_true h2, Bool.true_and]
theorem read_no {kd : Nat} {l : List UInt8} {k v : Int} (h : N.readOK kd l k v = false) : N.readN kd l k v = N.zero ∧ N.readE kd l k v = 2 := by
  unfold N.readN N.readE
  rw [h]
  exact ⟨rfl, rfl⟩
theorem read_yes {kd : Nat} {l : List UInt8} {k v : Int} (h : N.readOK kd l k v = true) : N.readN kd l k v = N.parse (decide (kd = 3)) l (N.count l) k.toNat v.toNat ∧ N.readE kd l k v = 0 := by
  unfold N.readN N.readE
  rw [h]
  exact ⟨rfl, rfl⟩
theorem may_kd {kd c : Nat} {k v : Int} (h : N.may kd c k v = true) : (kd = 3 ∨ kd = 4) ∧ 1 ≤ c ∧ c ≤ 498 := by
  by_cases h3 : kd = 3
  · subst h3
    have := N.may_leaf h
    exact ⟨.inl rfl, by omega, by omega⟩
  · by_cases h4 : kd = 4
    · subst h4
      have := N.may_inner h
      exact ⟨.inr rfl, by omega, by omega⟩
    · unfold N.may at h
      rw [if_neg h3, if_neg h4] at h
      cases h
set_option maxHeartbeats 3200000 in
theorem nread_core (w : World) (kd b0 off n c : Nat) (k v : Int) (l : List UInt8) (hkd : kd < 256) (hn : 2 ≤ n) (hm : n ≤ 1000) (HL : Hid (l.length = n)) (HB : Hid (Byts w (.slice (some ⟨b0, off, none⟩) n c) l)) :
    Calls Try.prog 16 #[.int .u8 (kd : Int), .slice (some ⟨b0, off, none⟩) n c, .int .i64 k, .int .i64 v] w fun e w' => ∃ kv vv pv,
      e = .returned (.tuple #[nodv (N.readN kd l k v).leaf kv vv pv, .int .i64 ((N.readE kd l k v : Nat) : Int)]) ∧ NV w' kv vv pv (N.readN kd l k v) ∧ Below w.heap.size w w' := by
  have hz : ¬ (n : Int) < 2 := by omega
  have hb0 : b0 < w.heap.size := World.block_lt_of_cell? w _ (HB.out.cell 0 (by omega))
  have HP := Lib.hid (readOK_parts kd l k v (by rw [HL.out]; exact hn))
  have HNQ : Hid (N.readOK kd l k v = false → N.readN kd l k v = N.zero ∧ N.readE kd l k v = 2) := fun h => read_no h
  have HYQ : Hid (N.readOK kd l k v = true → N.readN kd l k v = N.parse (decide (kd = 3)) l (N.count l) k.toNat v.toNat ∧ N.readE kd l k v = 0) := fun h => read_yes h
  rw [HP.out] at HNQ HYQ
  generalize N.readN kd l k v = RN at *
  generalize N.readE kd l k v = RE at *
  have HRZ0 : Hid ((w.alloc (.cells #[.bool false, .slice none 0 0, .slice none 0 0, .slice none 0 0] 28)).heap[w.heap.size]? = some (.cells #[.bool false, .slice none 0 0, .slice none 0 0, .slice none 0 0] 28 (0, 0))) := by
    show (w.heap.push _)[w.heap.size]? = _
    simp
  have HA : Hid (Below w.heap.size w (w.alloc (.cells #[.bool false, .slice none 0 0, .slice none 0 0, .slice none 0 0] 28))) := alb _
  have HSZ : Hid ((w.alloc (.cells #[.bool false, .slice none 0 0, .slice none 0 0, .slice none 0 0] 28)).heap.size = w.heap.size + 1) := World.size_alloc _ _
  go_enter Try.func16, Try.ntmps16
  go_wp2_with fail
  generalize w.alloc (.cells #[.bool false, .slice none 0 0, .slice none 0 0, .slice none 0 0] 28) = w1 at *
  refine (ntakefrom_any w1 b0 off n c l (HB.out.below HA.out) (by have := HA.out.size; omega)).mono ?_
  rintro e w2 ⟨rfl, hlf, hb2, hs2⟩
  have HB2 : Hid (Below w.heap.size w w2) := btr HA.out hb2
  have HRZ2 : Hid (w2.heap[w.heap.size]? = some (.cells #[.bool false, .slice none 0 0, .slice none 0 0, .slice none 0 0] 28 (0, 0))) := (hb2.block _ (by have := HSZ.out; omega)).trans HRZ0.out
  have HLF := Lib.hid hlf
  have HLB : Hid (w1.heap.size < w2.heap.size) := by show _ < _; omega
  clear hlf hb2 hs2 HRZ0
  go_wp2_with fail
  refine (ntake1_any w2 w1.heap.size b0 2 l HLF.out (by rw [HL.out]; exact hn) (by rw [HL.out]; omega)).mono ?_
  rintro e w3 ⟨rfl, hbk, hlf, hk3⟩
  have hl2 : (l.take 2).length = 2 := by rw [List.length_take, HL.out]; omega
  have HBY : Hid (Byts w3 (.slice (some ⟨w2.heap.size, 0, none⟩) 2 2) (l.take 2)) := by
    have := hbk.byts
    rw [hl2] at this
    exact this
  have HLF3 := Lib.hid hlf
  have HB3 : Hid (Below w.heap.size w w3) := HB2.out.trans (hk3.below HB2.out.size (fun i e => by have e : i = w1.heap.size := e; have := HSZ.out; omega))
  have HRZ3 : Hid (w3.heap[w.heap.size]? = some (.cells #[.bool false, .slice none 0 0, .slice none 0 0, .slice none 0 0] 28 (0, 0))) := (hk3.block _ (by have := HSZ.out; have := HLB.out; omega) (fun e => by have e : w.heap.size = w1.heap.size := e; have := HSZ.out; omega)).trans HRZ2.out
  have HLB3 : Hid (w1.heap.size < w3.heap.size) := by have := hk3.size; have := HLB.out; show _ < _; omega
  have HL2 := Lib.hid hl2
  clear hbk hlf hk3 hl2 HLF HB2 HRZ2 HLB
  go_wp2_with fail
  refine (nnumber_core w3 w2.heap.size 0 2 2 (l.take 2) (by omega) HL2 HBY).mono ?_
  rintro e w3b ⟨rfl, rfl⟩
  obtain ⟨ct, hct⟩ : ∃ ct, ct = valL (l.take 2) := ⟨_, rfl⟩
  have hct2 : ct < 65536 := by
    have := valL_lt (l.take 2)
    rw [HL2.out] at this
    omega
  have HC : Hid (N.count l = ct) := hct.symm
  rw [← hct]
  clear hct HBY HL2
  rw [HC.out] at HP HNQ HYQ
  go_wp2_with fail
  obtain ⟨R1, hR1⟩ : ∃ R1, R1 = N.may kd ct k v := ⟨_, rfl⟩
  have HM := Lib.hid (nmay_any kd ct k v w3 hkd)
  rw [← hR1] at HM HP HNQ HYQ
  have HR1 := Lib.hid hR1
  clear hR1
  refine HM.out.mono ?_
  rintro e w4 ⟨rfl, hb4⟩
  have HBZ : Hid (Below w.heap.size w w4) := btr HB3.out hb4
  have HRZ : Hid (w4.heap[w.heap.size]? = some (.cells #[.bool false, .slice none 0 0, .slice none 0 0, .slice none 0 0] 28 (0, 0))) := (hb4.block _ (by have := HSZ.out; have := HLB3.out; omega)).trans HRZ3.out
  have HLF4 := Lib.hid (HLF3.out.below hb4)
  have HLB4 : Hid (w1.heap.size < w4.heap.size) := by have := hb4.size; have := HLB3.out; show _ < _; omega
  have HW4 : Hid (w.heap.size < w4.heap.size) := (Array.getElem?_eq_some_iff.1 HRZ.out).1
  clear hb4 HM HLF3 HB3 HRZ3 HLB3
  cases R1 with
  | false =>
    have HNO := Lib.hid (HNQ.out rfl)
    clear HNQ HYQ
    obtain ⟨r0, r1, r2, r3⟩ : Nb w4 w.heap.size false (.slice none 0 0) (.slice none 0 0) (.slice none 0 0) := ⟨by rw [cell_of_heap HRZ.out]; rfl, by rw [cell_of_heap HRZ.out]; rfl, by rw [cell_of_heap HRZ.out]; rfl, by rw [cell_of_heap HRZ.out]; rfl⟩
    have fr0 := frozen_of_heap HRZ.out 0
    have fr1 := frozen_of_heap HRZ.out 1
    have fr2 := frozen_of_heap HRZ.out 2
    have fr3 := frozen_of_heap HRZ.out 3
    go_wp2
    obtain ⟨f1, f2, _⟩ := rz_fin HRZ.out HBZ.out (.bool false) (.slice none 0 0) (.slice none 0 0) (.slice none 0 0)
    have z0 := cell_of_heap f1 0
    have z1 := cell_of_heap f1 1
    have z2 := cell_of_heap f1 2
    have z3 := cell_of_heap f1 3
    simp at z0 z1 z2 z3
    have HF2 := Lib.hid f2
    clear f1 f2
    generalize (((w4.setCell ⟨w.heap.size, 0, none⟩ (.bool false)).setCell ⟨w.heap.size, 1, none⟩ (.slice none 0 0)).setCell ⟨w.heap.size, 2, none⟩ (.slice none 0 0)).setCell ⟨w.heap.size, 3, none⟩ (.slice none 0 0) = wf at *
    refine bodyPost_ret (v := .tuple #[.agg #[.bool false, .slice none 0 0, .slice none 0 0, .slice none 0 0], .int .i64 2]) (by simp [results, Try.results16, go_sem, z0, z1, z2, z3]) rfl ⟨.slice none 0 0, .slice none 0 0, .slice none 0 0, ?_, ?_, HF2.out⟩
    · rw [HNO.out.1, HNO.out.2]
      rfl
    · rw [HNO.out.1]
      exact zero_nv _
  | true =>
    obtain ⟨hk34, hc1, hc2⟩ := may_kd HR1.out.symm
    obtain ⟨f1, f2, f3, f4⟩ := N.may_fits HR1.out.symm
    obtain ⟨kn, rfl⟩ : ∃ kn : Nat, k = (kn : Int) := ⟨k.toNat, by omega⟩
    obtain ⟨vn, rfl⟩ : ∃ vn : Nat, v = (vn : Int) := ⟨v.toNat, by omega⟩
    rw [Int.toNat_natCast kn, Int.toNat_natCast vn, Bool.true_and] at HNQ HYQ
    clear HP
    have hkn : kn ≤ 24 := by omega
    have hvn : vn ≤ 108 := by omega
    clear f1 f2 f3 f4
    have HSI := Lib.hid (nsize_any kd ct kn vn (by omega) hc1 hkn hvn w4)
    obtain ⟨S, hS⟩ : ∃ S, S = N.sizeN (decide (kd = 3)) ct kn vn := ⟨_, rfl⟩
    rw [← hS] at HSI HNQ HYQ
    have HSS := Lib.hid hS
    have HK34 := Lib.hid hk34
    clear hS hk34
    go_wp2_with fail
    refine HSI.out.mono ?_
    rintro e w5 ⟨rfl, rfl⟩
    clear HSI
    by_cases hnS : n = S
    · have hne : ((n : Int) != (S : Int)) = false := by simp; omega
      have hlS : decide (l.length = S) = true := by rw [HL.out]; exact decide_eq_true hnS
      rw [hlS, Bool.true_and] at HNQ HYQ
      have HSB : Hid (N.sizeN (decide (kd = 3)) ct kn vn ≤ l.length) := by show _ ≤ _; rw [← HSS.out, HL.out, hnS]; exact Nat.le_refl _
      clear hnS hlS
      go_wp2_with fail
      refine (nsaid_any w4 w1.heap.size b0 kd ct kn vn l HK34.out HSB.out (by rw [HL.out]; exact hm) hc1 hc2 hkn hvn HLF4.out HLB4.out (by have := HBZ.out.size; omega)).mono ?_
      rintro e w6 ⟨kv, vv, pv, rfl, hnv, hk6⟩
      have HNV := Lib.hid hnv
      have HN6 := Lib.hid (hnv w6 (Keep.refl _ _))
      have HB6 : Hid (Below w.heap.size w w6) := HBZ.out.trans (hk6.below HBZ.out.size (fun i e => by have e : i = w1.heap.size := e; have := HSZ.out; omega))
      have HRZ6 : Hid (w6.heap[w.heap.size]? = some (.cells #[.bool false, .slice none 0 0, .slice none 0 0, .slice none 0 0] 28 (0, 0))) := (hk6.block _ (by have := HSZ.out; have := HLB4.out; omega) (fun e => by have e : w.heap.size = w1.heap.size := e; have := HSZ.out; omega)).trans HRZ.out
      clear hnv hk6 HRZ HBZ HLF4 HLB4
      obtain ⟨nd, hnd⟩ : ∃ nd, nd = N.parse (decide (kd = 3)) l ct kn vn := ⟨_, rfl⟩
      rw [← hnd] at HN6 HNV HYQ HNQ ⊢
      clear hnd
      obtain ⟨A1, d1, rfl, _⟩ := HN6.out.keys
      obtain ⟨A2, d2, rfl, _⟩ := HN6.out.vals
      obtain ⟨A3, d3, rfl, _⟩ := HN6.out.kids
      unfold nodv
      have HB7 : Hid (Below w6.heap.size w6 (w6.alloc (.cells #[.bool nd.leaf, .slice A1 nd.ks.length d1, .slice A2 nd.vs.length d2, .slice A3 nd.ps.length d3] 28))) := alb _
      have HNB := Lib.hid (Nb.made w6 nd.leaf (.slice A1 nd.ks.length d1) (.slice A2 nd.vs.length d2) (.slice A3 nd.ps.length d3))
      go_wp2_with fail
      generalize w6.alloc (.cells #[.bool nd.leaf, .slice A1 nd.ks.length d1, .slice A2 nd.vs.length d2, .slice A3 nd.ps.length d3] 28) = w7 at *
      obtain ⟨R2, hR2⟩ : ∃ R2, R2 = N.right nd (kn : Int) (vn : Int) := ⟨_, rfl⟩
      have HRI := Lib.hid (nright_any w7 nd _ _ _ (kn : Int) (vn : Int) (HN6.out.below HB7.out))
      rw [← hR2] at HRI HNQ HYQ
      clear hR2
      unfold nodv at HRI
      refine HRI.out.mono ?_
      rintro e w8 ⟨rfl, hb8⟩
      have HB8 := Lib.hid (btr HB7.out hb8)
      have HN8 := Lib.hid (HN6.out.below HB8.out)
      have HBZ : Hid (Below w.heap.size w w8) := btr HB6.out HB8.out
      have HRZ : Hid (w8.heap[w.heap.size]? = some (.cells #[.bool false, .slice none 0 0, .slice none 0 0, .slice none 0 0] 28 (0, 0))) := (HB8.out.block _ (Array.getElem?_eq_some_iff.1 HRZ6.out).1).trans HRZ6.out
      obtain ⟨q0, q1, q2, q3⟩ := HNB.out.below hb8
      clear hb8 HRI HNB HB7 HN6 HB6 HRZ6
      obtain ⟨r0, r1, r2, r3⟩ : Nb w8 w.heap.size false (.slice none 0 0) (.slice none 0 0) (.slice none 0 0) := ⟨by rw [cell_of_heap HRZ.out]; rfl, by rw [cell_of_heap HRZ.out]; rfl, by rw [cell_of_heap HRZ.out]; rfl, by rw [cell_of_heap HRZ.out]; rfl⟩
      have fr0 := frozen_of_heap HRZ.out 0
      have fr1 := frozen_of_heap HRZ.out 1
      have fr2 := frozen_of_heap HRZ.out 2
      have fr3 := frozen_of_heap HRZ.out 3
      cases R2 with
      | false =>
        have HNO := Lib.hid (HNQ.out rfl)
        clear HNQ HYQ
        go_wp2
        obtain ⟨f1, f2, _⟩ := rz_fin HRZ.out HBZ.out (.bool false) (.slice none 0 0) (.slice none 0 0) (.slice none 0 0)
        have z0 := cell_of_heap f1 0
        have z1 := cell_of_heap f1 1
        have z2 := cell_of_heap f1 2
        have z3 := cell_of_heap f1 3
        simp at z0 z1 z2 z3
        have HF2 := Lib.hid f2
        clear f1 f2
        generalize (((w8.setCell ⟨w.heap.size, 0, none⟩ (.bool false)).setCell ⟨w.heap.size, 1, none⟩ (.slice none 0 0)).setCell ⟨w.heap.size, 2, none⟩ (.slice none 0 0)).setCell ⟨w.heap.size, 3, none⟩ (.slice none 0 0) = wf at *
        refine bodyPost_ret (v := .tuple #[.agg #[.bool false, .slice none 0 0, .slice none 0 0, .slice none 0 0], .int .i64 2]) (by simp [results, Try.results16, go_sem, z0, z1, z2, z3]) rfl ⟨.slice none 0 0, .slice none 0 0, .slice none 0 0, ?_, ?_, HF2.out⟩
        · rw [HNO.out.1, HNO.out.2]
          rfl
        · rw [HNO.out.1]
          exact zero_nv _
      | true =>
        have HYS := Lib.hid (HYQ.out rfl)
        clear HNQ HYQ
        go_wp2
        obtain ⟨f1, f2, f3⟩ := rz_fin HRZ.out HBZ.out (.bool nd.leaf) (.slice A1 nd.ks.length d1) (.slice A2 nd.vs.length d2) (.slice A3 nd.ps.length d3)
        have z0 := cell_of_heap f1 0
        have z1 := cell_of_heap f1 1
        have z2 := cell_of_heap f1 2
        have z3 := cell_of_heap f1 3
        simp at z0 z1 z2 z3
        have HF2 := Lib.hid f2
        have HF3 := Lib.hid f3
        clear f1 f2 f3
        generalize (((w8.setCell ⟨w.heap.size, 0, none⟩ (.bool nd.leaf)).setCell ⟨w.heap.size, 1, none⟩ (.slice A1 nd.ks.length d1)).setCell ⟨w.heap.size, 2, none⟩ (.slice A2 nd.vs.length d2)).setCell ⟨w.heap.size, 3, none⟩ (.slice A3 nd.ps.length d3) = wf at *
        refine bodyPost_ret (v := .tuple #[.agg #[.bool nd.leaf, .slice A1 nd.ks.length d1, .slice A2 nd.vs.length d2, .slice A3 nd.ps.length d3], .int .i64 0]) (by simp [results, Try.results16, go_sem, z0, z1, z2, z3]) rfl ⟨.slice A1 nd.ks.length d1, .slice A2 nd.vs.length d2, .slice A3 nd.ps.length d3, ?_, ?_, HF2.out⟩
        · rw [HYS.out.1, HYS.out.2]
          rfl
        · rw [HYS.out.1]
          refine HNV.out _ ((Keep.of_below (F := fun i => i < w4.heap.size) HB8.out).trans HF3.out (fun i e => .inl ?_))
          have e : i = w.heap.size := e
          have := HW4.out
          show i < w4.heap.size
          omega
    · have hne : ((n : Int) != (S : Int)) = true := by simp; omega
      have hlS : decide (l.length = S) = false := by rw [HL.out]; exact decide_eq_false hnS
      rw [hlS, Bool.false_and] at HNQ HYQ
      have HNO := Lib.hid (HNQ.out rfl)
      clear HNQ HYQ hnS hlS
      obtain ⟨r0, r1, r2, r3⟩ : Nb w4 w.heap.size false (.slice none 0 0) (.slice none 0 0) (.slice none 0 0) := ⟨by rw [cell_of_heap HRZ.out]; rfl, by rw [cell_of_heap HRZ.out]; rfl, by rw [cell_of_heap HRZ.out]; rfl, by rw [cell_of_heap HRZ.out]; rfl⟩
      have fr0 := frozen_of_heap HRZ.out 0
      have fr1 := frozen_of_heap HRZ.out 1
      have fr2 := frozen_of_heap HRZ.out 2
      have fr3 := frozen_of_heap HRZ.out 3
      go_wp2
      obtain ⟨f1, f2, _⟩ := rz_fin HRZ.out HBZ.out (.bool false) (.slice none 0 0) (.slice none 0 0) (.slice none 0 0)
      have z0 := cell_of_heap f1 0
      have z1 := cell_of_heap f1 1
      have z2 := cell_of_heap f1 2
      have z3 := cell_of_heap f1 3
      simp at z0 z1 z2 z3
      have HF2 := Lib.hid f2
      clear f1 f2
      generalize (((w4.setCell ⟨w.heap.size, 0, none⟩ (.bool false)).setCell ⟨w.heap.size, 1, none⟩ (.slice none 0 0)).setCell ⟨w.heap.size, 2, none⟩ (.slice none 0 0)).setCell ⟨w.heap.size, 3, none⟩ (.slice none 0 0) = wf at *
      refine bodyPost_ret (v := .tuple #[.agg #[.bool false, .slice none 0 0, .slice none 0 0, .slice none 0 0], .int .i64 2]) (by simp [results, Try.results16, go_sem, z0, z1, z2, z3]) rfl ⟨.slice none 0 0, .slice none 0 0, .slice none 0 0, ?_, ?_, HF2.out⟩
      · rw [HNO.out.1, HNO.out.2]
        rfl
      · rw [HNO.out.1]
        exact zero_nv _
end Go.Proofs.Ytceoelemlokelaa
