/- node.countOf, leafBody: a leaf's body. -/
import Derived.Test.YtceoelemlokelaaHf
import Derived.Test.YtceoelemlokelaaApp
namespace Go.Proofs.Ytceoelemlokelaa
open Go.RowKit
open G (four two)

theorem ncountof_any (n : Nat) (hn : n < 65536) (w : World) :
    Calls Try.prog 42 #[.int .i64 (n : Int)] w fun e w' => ∃ v, e = .returned v ∧ w'.ownsRow w.heap.size 5 1 v 2 (bvs (two n)) ∧ Below w.heap.size w w' := by
  have ho := World.ownsRow_lit (base := w.heap.size) (e := 5) (size := 1) w (bvs (two n)).toArray 2 (Nat.le_refl _) (by unfold maxLen; omega) (by simp [bvs_length, G.two_length])
  rw [← two_vals n hn] at ho
  have e0 : (#[Value.int .u8 ((n : Int) / 256), Value.int .u8 ((n : Int) % 256)] : Array Value).toList = bvs (two n) := by rw [two_vals n hn]
  rw [e0] at ho
  have HO := Lib.hid ho
  clear ho e0
  have e1 : (n : Int) / 256 % 256 = (n : Int) / 256 := by omega
  go_enter Try.func42, Try.ntmps42
  go_wp2
  go_ret
  exact ⟨_, rfl, HO.out, alb _⟩

theorem own_low {w : World} {base base' : Nat} {e : TypeId} {size : Nat} {v : Value} {n : Nat} {xs : List Value} (h : w.ownsRow base e size v n xs) (hb : base' ≤ base) : w.ownsRow base' e size v n xs := by
  refine ⟨h.1, ?_⟩
  rcases h.2 with q | ⟨g, cap, cur, e, hg, r⟩
  · exact .inl q
  · exact .inr ⟨g, cap, cur, e, by omega, r⟩
theorem leafTo_zero (ks vs : List (List UInt8)) : N.leafTo ks vs 0 = two ks.length := by simp [N.leafTo]
theorem leafTo_next (ks vs : List (List UInt8)) (i : Nat) : N.leafTo ks vs i ++ ks.getD i [] ++ vs.getD i [] = N.leafTo ks vs (i + 1) := by
  unfold N.leafTo
  rw [List.range_succ, List.flatMap_append]
  simp only [List.flatMap_cons, List.flatMap_nil, List.append_nil, List.append_assoc]
theorem leafTo_len (ks vs : List (List UInt8)) (n s i : Nat) (h : ∀ j, j < n → (ks.getD j []).length + (vs.getD j []).length = s) (hi : i ≤ n) : (N.leafTo ks vs i).length = 2 + i * s := by
  unfold N.leafTo
  rw [List.length_append, G.two_length, N.flat_rows i _ s (fun j hj => by rw [List.length_append]; exact h j (by omega))]
set_option maxHeartbeats 1600000 in
theorem leafbody_core (w : World) (lf : Bool) (A1 A2 : Option Addr) (n d1 d2 s : Nat) (pv : Value) (ks vs : List (List UInt8)) (hn : n ≤ 498) (hs : n * s ≤ 498) (HL : Hid (ks.length = n))
    (HS : Hid (∀ j, j < n → (ks.getD j []).length + (vs.getD j []).length = s))
    (HK : Hid (0 < n → ∃ b off, A1 = some ⟨b, off, none⟩ ∧ ∀ j, j < n → ∃ u, w.cell? ⟨b, off + j, none⟩ = some u ∧ Byts w u (ks.getD j [])))
    (HV : Hid (0 < n → ∃ b off, A2 = some ⟨b, off, none⟩ ∧ ∀ j, j < n → ∃ u, w.cell? ⟨b, off + j, none⟩ = some u ∧ Byts w u (vs.getD j []))) :
    Calls Try.prog 27 #[.agg #[.bool lf, .slice A1 n d1, .slice A2 n d2, pv]] w fun e w' => ∃ v, e = .returned v ∧ w'.ownsRow w.heap.size 5 1 v (N.leafTo ks vs n).length (bvs (N.leafTo ks vs n)) ∧ Below w.heap.size w w' := by
  have HA : Hid (Below w.heap.size w (w.alloc (.cells #[.bool lf, .slice A1 n d1, .slice A2 n d2, pv] 28))) := alb _
  have HN := Lib.hid (Nb.made w lf (.slice A1 n d1) (.slice A2 n d2) pv)
  go_enter Try.func27, Try.ntmps27
  go_wp2_with fail
  generalize w.alloc (.cells #[.bool lf, .slice A1 n d1, .slice A2 n d2, pv] 28) = w1 at *
  refine (ncountof_any n (by omega) w1).mono ?_
  rintro e w2 ⟨v0, rfl, ho, hB2⟩
  have HO0 : Hid (w2.ownsRow w1.heap.size 5 1 v0 (N.leafTo ks vs 0).length (bvs (N.leafTo ks vs 0))) := by
    show World.ownsRow _ _ _ _ _ _ _
    rw [leafTo_zero, HL.out]
    exact ho
  have HB2 := Lib.hid hB2
  obtain ⟨k0, k1, k2, k3⟩ := HN.out.below hB2
  clear ho hB2 k0 k3
  go_wp2_with fail
  go_loopg [3, 13] n (fun g s3 s13 wr => ∃ i : Nat, s13 = .int .i64 (i : Int) ∧ i ≤ n ∧ n - i ≤ g ∧ Hid (wr.ownsRow w1.heap.size 5 1 s3 (N.leafTo ks vs i).length (bvs (N.leafTo ks vs i))) ∧ Hid (Below w1.heap.size w1 wr))
  case atStart => exact ⟨0, rfl, by omega, by omega, HO0, HB2⟩
  case round =>
    obtain ⟨i, rfl, h1, h2, HO, HB⟩ := hrel
    clear HO0 HB2 k1 k2
    obtain ⟨k0, k1, k2, k3⟩ := HN.out.below HB.out
    clear k0 k3
    by_cases hi : i < n
    · have hz : (i : Int) < (n : Int) := by omega
      obtain ⟨b, off, rfl, hcell⟩ := HK.out (by omega)
      obtain ⟨u, c0, hu⟩ := hcell i hi
      obtain ⟨b2, off2, rfl, hcell2⟩ := HV.out (by omega)
      obtain ⟨u2, c2, hu2⟩ := hcell2 i hi
      replace c0 := kept c0 (btr HA.out HB.out)
      replace c2 := kept c2 HA.out
      have HU := Lib.hid (hu.below (btr HA.out HB.out))
      have HU2 := Lib.hid (hu2.below HA.out)
      clear hcell hcell2 hu hu2
      have hl0 := leafTo_len ks vs n s i HS.out (by omega)
      have hl1 := leafTo_len ks vs n s (i + 1) HS.out (by omega)
      have hle : (i + 1) * s ≤ n * s := Nat.mul_le_mul_right _ (by omega)
      have hle2 : (i + 1) * s = i * s + s := by rw [Nat.add_mul, Nat.one_mul]
      have hsum := HS.out i hi
      have hb1 : (N.leafTo ks vs i).length + (ks.getD i []).length ≤ 1000000 := by omega
      have hb2 : (N.leafTo ks vs i).length + (ks.getD i []).length + (vs.getD i []).length ≤ 1000000 := by omega
      clear hl0 hl1 hle hle2 hsum
      go_wp2_with (first
        | (at_builtin; refine wpList_append_byts rfl _ _ rfl w1.heap.size _ _ _ _ _ rfl rfl HO.out HU.out hb1 HB.out.size ?_)
        | go_in)
      intro v1 w3 ho1 hg1
      have HB3 : Hid (Below w1.heap.size w1 w3) := HB.out.grown hg1 HB.out.size (fun k hk => (HO.out.lt k hk).1)
      have HO1 := Lib.hid ho1
      replace c2 := kept c2 HB3.out
      have HU3 := Lib.hid (HU2.out.below HB3.out)
      clear k1 k2 HO ho1 hg1 HU HU2 HB c0
      obtain ⟨k0, k1, k2, k3⟩ := HN.out.below HB3.out
      clear k0 k3
      go_wp2_with (first
        | (at_builtin; refine wpList_append_byts rfl _ _ rfl w1.heap.size _ _ _ _ _ rfl rfl HO1.out HU3.out hb2 HB3.out.size ?_)
        | go_in)
      intro v2 w4 ho2 hg2
      have HB4 : Hid (Below w1.heap.size w1 w4) := HB3.out.grown hg2 HB3.out.size (fun k hk => (HO1.out.lt k hk).1)
      have HO2 : Hid (w4.ownsRow w1.heap.size 5 1 v2 (N.leafTo ks vs (i + 1)).length (bvs (N.leafTo ks vs (i + 1)))) := by
        show World.ownsRow _ _ _ _ _ _ _
        rw [← leafTo_next, bvs_append, bvs_append, List.length_append, List.length_append]
        simpa [List.append_assoc] using ho2
      clear ho2 hg2
      go_wp2
      go_roundg (n - (i + 1))
      case measure => omega
      case rel => exact ⟨i + 1, by go_num, by omega, by omega, HO2, HB4⟩
    · have hz : ¬ (i : Int) < (n : Int) := by omega
      obtain rfl : i = n := by omega
      go_wp2
      go_ret
      exact ⟨_, rfl, own_low HO.out HA.out.size, btr HA.out HB.out⟩

theorem innerTo_zero (ks : List (List UInt8)) (ps : List Int) : N.innerTo ks ps 0 0 = two ps.length := by simp [N.innerTo]
theorem innerTo_kid (ks : List (List UInt8)) (ps : List Int) (i : Nat) (h : i < ps.length) : N.innerTo ks ps i 0 ++ four (ps[i]!).toNat = N.innerTo ks ps (i + 1) 0 := by
  unfold N.innerTo
  have et : ps.take (i + 1) = ps.take i ++ [ps[i]!] := by rw [List.take_succ_eq_append_getElem h, getElem!_pos ps i h]
  rw [et, List.flatMap_append]
  simp
theorem innerTo_key (ks : List (List UInt8)) (ps : List Int) (i j : Nat) (h : j < ks.length) : N.innerTo ks ps i j ++ ks.getD j [] = N.innerTo ks ps i (j + 1) := by
  unfold N.innerTo
  have et : ks.take (j + 1) = ks.take j ++ [ks.getD j []] := by
    rw [List.take_succ_eq_append_getElem h]
    simp [List.getD, h]
  rw [et, List.flatten_append]
  simp
theorem innerTo_len (ks : List (List UInt8)) (ps : List Int) (s i j : Nat) (h : ∀ b ∈ ks, b.length = s) (hi : i ≤ ps.length) (hj : j ≤ ks.length) : (N.innerTo ks ps i j).length = 2 + i * 4 + j * s := by
  unfold N.innerTo
  rw [List.length_append, List.length_append, G.two_length, N.flat4_len, N.flatten_len (k := s) (fun b hb => h b (List.mem_of_mem_take hb)), List.length_take, List.length_take, Nat.min_eq_left hi, Nat.min_eq_left hj]
  omega
theorem u8_of (n k : Nat) : ((n / k % 256 : Nat) : Int) = (((UInt8.ofNat (n / k)).toNat : Nat) : Int) := by rw [UInt8.toNat_ofNat']
set_option maxHeartbeats 3200000 in
theorem innerbody_core (w : World) (lf : Bool) (A1 A3 : Option Addr) (n m d1 d3 s : Nat) (vv : Value) (ks : List (List UInt8)) (ps : List Int) (hn : n ≤ 100) (hm : m ≤ 100) (hs : n * 4 + m * s ≤ 498) (HP : Hid (ps.length = n)) (HL : Hid (ks.length = m))
    (HS : Hid (∀ b ∈ ks, b.length = s)) (HR : Hid (Rg ps))
    (HK : Hid (0 < m → ∃ b off, A1 = some ⟨b, off, none⟩ ∧ ∀ j, j < m → ∃ u, w.cell? ⟨b, off + j, none⟩ = some u ∧ Byts w u (ks.getD j [])))
    (HV : Hid (0 < n → ∃ b off, A3 = some ⟨b, off, none⟩ ∧ ∀ j, j < n → w.cell? ⟨b, off + j, none⟩ = some (.int .u32 ps[j]!))) :
    Calls Try.prog 28 #[.agg #[.bool lf, .slice A1 m d1, vv, .slice A3 n d3]] w fun e w' => ∃ v, e = .returned v ∧ w'.ownsRow w.heap.size 5 1 v (N.innerTo ks ps n m).length (bvs (N.innerTo ks ps n m)) ∧ Below w.heap.size w w' := by
  have HA : Hid (Below w.heap.size w (w.alloc (.cells #[.bool lf, .slice A1 m d1, vv, .slice A3 n d3] 28))) := alb _
  have HN := Lib.hid (Nb.made w lf (.slice A1 m d1) vv (.slice A3 n d3))
  go_enter Try.func28, Try.ntmps28
  go_wp2_with fail
  generalize w.alloc (.cells #[.bool lf, .slice A1 m d1, vv, .slice A3 n d3] 28) = w1 at *
  refine (ncountof_any n (by omega) w1).mono ?_
  rintro e w2 ⟨v0, rfl, ho, hB2⟩
  have HO0 : Hid (w2.ownsRow w1.heap.size 5 1 v0 (N.innerTo ks ps 0 0).length (bvs (N.innerTo ks ps 0 0))) := by
    show World.ownsRow _ _ _ _ _ _ _
    rw [innerTo_zero, HP.out]
    exact ho
  have HB2 := Lib.hid hB2
  obtain ⟨k0, k1, k2, k3⟩ := HN.out.below hB2
  clear ho hB2 k0 k1 k2
  go_wp2_with fail
  go_loopg [3, 15] n (fun g s3 s15 wr => ∃ i : Nat, s15 = .int .i64 (i : Int) ∧ i ≤ n ∧ n - i ≤ g ∧ Hid (wr.ownsRow w1.heap.size 5 1 s3 (N.innerTo ks ps i 0).length (bvs (N.innerTo ks ps i 0))) ∧ Hid (Below w1.heap.size w1 wr))
  case atStart => exact ⟨0, rfl, by omega, by omega, HO0, HB2⟩
  case round =>
    obtain ⟨i, rfl, h1, h2, HO, HB⟩ := hrel
    clear HO0 HB2 k3
    by_cases hi : i < n
    · have hz : (i : Int) < (n : Int) := by omega
      obtain ⟨b, off, rfl, hcell⟩ := HV.out (by omega)
      have c0 := kept (hcell i hi) (btr HA.out HB.out)
      obtain ⟨x, hx, ex⟩ := HR.out.at i (by rw [HP.out]; exact hi)
      rw [ex] at c0
      clear hcell
      have HX := Lib.hid ex
      clear ex
      have hb1 : (N.innerTo ks ps i 0).length + (bvs (four x)).length ≤ 1000000 := by
        rw [innerTo_len ks ps s i 0 HS.out (by rw [HP.out]; omega) (by omega), bvs_length, G.four_length]
        omega
      have f4 := four_vals x hx
      have HF : Hid (Byts (wr.alloc (.cells (bvs (four x)).toArray 5)) (.slice (some ⟨wr.heap.size, 0, none⟩) 4 4) (four x)) := Byts.lit wr (four x) (by rw [G.four_length]; omega)
      have HBa : Hid (Below w1.heap.size w1 (wr.alloc (.cells (bvs (four x)).toArray 5))) := bal HB.out _
      have HOa := Lib.hid (HO.out.alloc (.cells (bvs (four x)).toArray 5))
      go_wp2_with (first
        | (at_builtin; refine wpList_append_byts rfl _ _ rfl w1.heap.size _ _ _ _ _ rfl rfl HOa.out HF.out hb1 HBa.out.size ?_)
        | go_in)
      intro v1 w3 ho1 hg1
      have HB3 : Hid (Below w1.heap.size w1 w3) := HBa.out.grown hg1 HBa.out.size (fun k hk => (HOa.out.lt k hk).1)
      have HO1 : Hid (w3.ownsRow w1.heap.size 5 1 v1 (N.innerTo ks ps (i + 1) 0).length (bvs (N.innerTo ks ps (i + 1) 0))) := by
        show World.ownsRow _ _ _ _ _ _ _
        rw [← innerTo_kid ks ps i (by rw [HP.out]; exact hi), HX.out, Int.toNat_natCast, bvs_append, List.length_append]
        simpa using ho1
      clear ho1 hg1 HF HBa HOa f4
      go_wp2
      go_roundg (n - (i + 1))
      case measure => omega
      case rel => exact ⟨i + 1, by go_num, by omega, by omega, HO1, HB3⟩
    · have hz : ¬ (i : Int) < (n : Int) := by omega
      obtain rfl : i = n := by omega
      clear hz h2 hi
      obtain ⟨k0, k1, k2, k3⟩ := HN.out.below HB.out
      clear k0 k2 k3
      go_wp2_with fail
      go_loopg [3, 37] m (fun g s3 s37 wr => ∃ j : Nat, s37 = .int .i64 (j : Int) ∧ j ≤ m ∧ m - j ≤ g ∧ Hid (wr.ownsRow w1.heap.size 5 1 s3 (N.innerTo ks ps i j).length (bvs (N.innerTo ks ps i j))) ∧ Hid (Below w1.heap.size w1 wr))
      case atStart => exact ⟨0, rfl, by omega, by omega, HO, HB⟩
      case round =>
        obtain ⟨j, rfl, j1, j2, HO2, HB2⟩ := hrel
        clear HO k1
        by_cases hj : j < m
        · have hz : (j : Int) < (m : Int) := by omega
          obtain ⟨b, off, rfl, hcell⟩ := HK.out (by omega)
          obtain ⟨u, c0, hu⟩ := hcell j hj
          replace c0 := kept c0 (btr HA.out HB2.out)
          have HU := Lib.hid (hu.below (btr HA.out HB2.out))
          clear hcell hu
          have hb1 : (N.innerTo ks ps i j).length + (ks.getD j []).length ≤ 1000000 := by
            rw [innerTo_len ks ps s i j HS.out (by rw [HP.out]; omega) (by rw [HL.out]; omega), HS.out _ (N.getD_mem (by rw [HL.out]; exact hj))]
            have : (j + 1) * s ≤ m * s := Nat.mul_le_mul_right _ (by omega)
            have : (j + 1) * s = j * s + s := by rw [Nat.add_mul, Nat.one_mul]
            omega
          go_wp2_with (first
            | (at_builtin; refine wpList_append_byts rfl _ _ rfl w1.heap.size _ _ _ _ _ rfl rfl HO2.out HU.out hb1 HB2.out.size ?_)
            | go_in)
          intro v1 w3 ho1 hg1
          have HB3 : Hid (Below w1.heap.size w1 w3) := HB2.out.grown hg1 HB2.out.size (fun k hk => (HO2.out.lt k hk).1)
          have HO1 : Hid (w3.ownsRow w1.heap.size 5 1 v1 (N.innerTo ks ps i (j + 1)).length (bvs (N.innerTo ks ps i (j + 1)))) := by
            show World.ownsRow _ _ _ _ _ _ _
            rw [← innerTo_key ks ps i j (by rw [HL.out]; exact hj), bvs_append, List.length_append]
            simpa using ho1
          clear ho1 hg1 HU
          go_wp2
          go_roundg (m - (j + 1))
          case measure => omega
          case rel => exact ⟨j + 1, by go_num, by omega, by omega, HO1, HB3⟩
        · have hz : ¬ (j : Int) < (m : Int) := by omega
          obtain rfl : j = m := by omega
          go_wp2
          go_ret
          exact ⟨_, rfl, own_low HO2.out HA.out.size, btr HA.out HB2.out⟩
end Go.Proofs.Ytceoelemlokelaa
