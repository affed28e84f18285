/- NodeReads: the walk. -/
import Derived.Test.YtceoelemlokelaaIc
namespace Go.Proofs.Ytceoelemlokelaa
open Go.RowKit

theorem right_lens {n : N.Nd} {k v : Int} (h : N.right n k v = true) : n.ks.length ≤ 498 ∧ n.vs.length ≤ 498 ∧ n.ps.length ≤ 498 ∧ (∀ b ∈ n.ks, b.length ≤ 24) := by
  obtain ⟨h1, h2, h3, h4, h5⟩ := N.right_parts h
  rcases h5 with ⟨hl, hm, hv, hp⟩ | ⟨hl, hm, hk, hv⟩
  · obtain ⟨m1, m2, m3⟩ := N.may_leaf hm
    have f := N.may_fits hm
    exact ⟨by omega, by omega, by rw [hp]; simp, fun b hb => by rw [h2 b hb]; omega⟩
  · obtain ⟨m1, m2, m3⟩ := N.may_inner hm
    have f := N.may_fits hm
    exact ⟨by omega, by rw [hv]; simp, by omega, fun b hb => by rw [h2 b hb]; omega⟩
theorem reads_law {kd : Nat} {l : List UInt8} {k v : Int} (h : N.readOK kd l k v = true) : N.wE (N.readN kd l k v) k v = 0 ∧ N.wK (N.readN kd l k v) k v = kd ∧ N.wB (N.readN kd l k v) k v = l := by
  have hr := (N.readOK_iff _ _ _ _).1 h
  obtain ⟨e1, _⟩ := read_yes h
  rw [e1]
  obtain ⟨h2, hm, hl, hR⟩ := hr
  obtain ⟨hkd, hc1, _⟩ := may_kd hm
  have hb := N.again (leaf := decide (kd = 3)) h2 hl (fun _ => hc1)
  unfold N.wE N.wK N.wB
  rw [if_pos hR, if_pos hR, if_pos hR, hb]
  refine ⟨rfl, ?_, rfl⟩
  rcases hkd with rfl | rfl <;> rfl
theorem readN_lens (kd : Nat) (l : List UInt8) (k v : Int) : (N.readN kd l k v).ks.length ≤ 498 ∧ (N.readN kd l k v).vs.length ≤ 498 ∧ (N.readN kd l k v).ps.length ≤ 498 ∧ (∀ b ∈ (N.readN kd l k v).ks, b.length ≤ 24) ∧ Rg (N.readN kd l k v).ps := by
  by_cases h : N.readOK kd l k v = true
  · obtain ⟨e1, _⟩ := read_yes h
    have hr := ((N.readOK_iff _ _ _ _).1 h).2.2.2
    rw [e1]
    obtain ⟨a, b, c, d⟩ := right_lens hr
    refine ⟨a, b, c, d, ?_⟩
    unfold N.parse
    split
    · exact fun x hx => by simp at hx
    · exact N.rg_kidsI _ _
  · obtain ⟨e1, _⟩ := read_no (Bool.eq_false_iff.2 h)
    rw [e1]
    exact ⟨Nat.zero_le _, Nat.zero_le _, Nat.zero_le _, fun b hb => by simp [N.zero] at hb, fun x hx => by simp [N.zero] at hx⟩
set_option maxHeartbeats 6400000 in
theorem nreads_core (w : World) (kd n9 d9 : Nat) (A9 : Option Addr) (l : List UInt8) (k v : Int) (hkd : kd < 256) (L9 : Hid (l.length = n9)) (HX : Hid (Byts w (.slice A9 n9 d9) l)) :
    Calls Try.prog 5 #[.int .u8 (kd : Int), .slice A9 n9 d9, .agg #[.int .i64 k, .int .i64 v]] w fun e w' => e = .returned (.bool true) ∧ Below w.heap.size w w' := by
  have HA : Hid (Below w.heap.size w (w.alloc (.cells #[.int .i64 k, .int .i64 v] 34))) := alb _
  have HW : Hid ((w.alloc (.cells #[.int .i64 k, .int .i64 v] 34)).cell? ⟨w.heap.size, 0, none⟩ = some (.int .i64 k) ∧ (w.alloc (.cells #[.int .i64 k, .int .i64 v] 34)).cell? ⟨w.heap.size, 1, none⟩ = some (.int .i64 v)) :=
    ⟨by rw [World.cell?_alloc_at _ _ _ _ rfl]; rfl, by rw [World.cell?_alloc_at _ _ _ _ rfl]; rfl⟩
  go_enter Try.func5, Try.ntmps5
  by_cases h6 : 600 < n9
  · have z6 : 600 < (n9 : Int) := by omega
    go_wp2_with fail
    generalize w.alloc (.cells #[.int .i64 k, .int .i64 v] 34) = w1 at *
    refine (nfixed_any w1).mono ?_
    rintro e w3 ⟨rfl, hb3⟩
    go_wp2
    go_ret
    exact ⟨rfl, btr HA.out hb3⟩
  · have z6 : ¬ 600 < (n9 : Int) := by omega
    obtain ⟨c0, c1⟩ := HW.out
    go_wp2_with fail
    generalize w.alloc (.cells #[.int .i64 k, .int .i64 v] 34) = w1 at *
    have HRD := Lib.hid (nread_any w1 kd _ l k v hkd (HX.out.below HA.out) (by rw [L9.out]; omega))
    have HLN := Lib.hid (readN_lens kd l k v)
    have HYS : Hid (N.readE kd l k v = 0 → N.wE (N.readN kd l k v) k v = 0 ∧ N.wK (N.readN kd l k v) k v = kd ∧ N.wB (N.readN kd l k v) k v = l) := fun q => by
      refine reads_law ?_
      unfold N.readE at q
      split at q
      · assumption
      · omega
    have HRF := Lib.hid (fun W => refread_any W kd l k v (by rw [L9.out]; omega))
    obtain ⟨E, hE⟩ : ∃ E, E = N.readE kd l k v := ⟨_, rfl⟩
    have hE2 : E = 0 ∨ E = 2 := by rw [hE]; unfold N.readE; split <;> omega
    rw [← hE] at HRD HRF HYS
    clear hE
    generalize N.readN kd l k v = n at *
    unfold nodv at HRD
    refine HRD.out.mono ?_
    rintro e w2 ⟨kv, vv, pv, rfl, hnv, hb2⟩
    have HNV := Lib.hid hnv
    have HB2 := Lib.hid (btr HA.out hb2)
    have HW2 : Hid (w2.cell? ⟨w.heap.size, 0, none⟩ = some (.int .i64 k) ∧ w2.cell? ⟨w.heap.size, 1, none⟩ = some (.int .i64 v)) := ⟨kept HW.out.1 hb2, kept HW.out.2 hb2⟩
    obtain ⟨A1, d1, rfl, _⟩ := hnv.keys
    obtain ⟨A2, d2, rfl, _⟩ := hnv.vals
    obtain ⟨A3, d3, rfl, _⟩ := hnv.kids
    clear c0 c1 hnv hb2 HW HA HRD
    have HBa : Hid (Below w2.heap.size w2 (w2.alloc (.cells #[.bool n.leaf, .slice A1 n.ks.length d1, .slice A2 n.vs.length d2, .slice A3 n.ps.length d3] 28))) := alb _
    have HNa := Lib.hid (Nb.made w2 n.leaf (.slice A1 n.ks.length d1) (.slice A2 n.vs.length d2) (.slice A3 n.ps.length d3))
    have HB3 := Lib.hid (btr HB2.out HBa.out)
    have c0 := kept HW2.out.1 HBa.out
    have c1 := kept HW2.out.2 HBa.out
    have HW3 : Hid ((w2.alloc (.cells #[.bool n.leaf, .slice A1 n.ks.length d1, .slice A2 n.vs.length d2, .slice A3 n.ps.length d3] 28)).cell? ⟨w.heap.size, 0, none⟩ = some (.int .i64 k) ∧ (w2.alloc (.cells #[.bool n.leaf, .slice A1 n.ks.length d1, .slice A2 n.vs.length d2, .slice A3 n.ps.length d3] 28)).cell? ⟨w.heap.size, 1, none⟩ = some (.int .i64 v)) := ⟨c0, c1⟩
    have hcv := (HX.out.below HB3.out).conv
    have HN3 := Lib.hid (HNV.out.below HBa.out)
    clear HW2 HB2 HNV HBa
    obtain ⟨sl, hsl⟩ : ∃ sl, sl = str l := ⟨_, rfl⟩
    rw [← hsl] at hcv HRF
    have HSL := Lib.hid hsl
    clear hsl
    go_wp2_with fail
    generalize w2.alloc (.cells #[.bool n.leaf, .slice A1 n.ks.length d1, .slice A2 n.vs.length d2, .slice A3 n.ps.length d3] 28) = w3 at *
    generalize w2.heap.size = b7 at *
    have HRG := Lib.hid (HRF.out w3)
    unfold nodv at HRG
    refine HRG.out.mono ?_
    rintro e w4 ⟨kx, vx, px, rfl, hrv, hb4⟩
    have HRV := Lib.hid hrv
    obtain ⟨E1, f1, rfl, _⟩ := hrv.keys
    obtain ⟨E2, f2, rfl, _⟩ := hrv.vals
    obtain ⟨E3, f3, rfl, _⟩ := hrv.kids
    have HB4 := Lib.hid (btr HB3.out hb4)
    have HW4 : Hid (w4.cell? ⟨w.heap.size, 0, none⟩ = some (.int .i64 k) ∧ w4.cell? ⟨w.heap.size, 1, none⟩ = some (.int .i64 v)) := ⟨kept HW3.out.1 hb4, kept HW3.out.2 hb4⟩
    have HN4 := Lib.hid (HN3.out.below hb4)
    have HNb := Lib.hid (HNa.out.below hb4)
    clear c0 c1 hrv hb4 hcv HRG HRF HW3 HB3 HN3 HNa
    have HBa : Hid (Below w4.heap.size w4 (w4.alloc (.cells #[.bool n.leaf, .slice E1 n.ks.length f1, .slice E2 n.vs.length f2, .slice E3 n.ps.length f3] 38))) := alb _
    have HXa : Hid (Nb (w4.alloc (.cells #[.bool n.leaf, .slice E1 n.ks.length f1, .slice E2 n.vs.length f2, .slice E3 n.ps.length f3] 38)) w4.heap.size n.leaf (.slice E1 n.ks.length f1) (.slice E2 n.vs.length f2) (.slice E3 n.ps.length f3)) :=
      ⟨by rw [World.cell?_alloc_at _ _ _ _ rfl]; rfl, by rw [World.cell?_alloc_at _ _ _ _ rfl]; rfl, by rw [World.cell?_alloc_at _ _ _ _ rfl]; rfl, by rw [World.cell?_alloc_at _ _ _ _ rfl]; rfl⟩
    have HB5 := Lib.hid (btr HB4.out HBa.out)
    have HW5 : Hid ((w4.alloc (.cells #[.bool n.leaf, .slice E1 n.ks.length f1, .slice E2 n.vs.length f2, .slice E3 n.ps.length f3] 38)).cell? ⟨w.heap.size, 0, none⟩ = some (.int .i64 k) ∧ (w4.alloc (.cells #[.bool n.leaf, .slice E1 n.ks.length f1, .slice E2 n.vs.length f2, .slice E3 n.ps.length f3] 38)).cell? ⟨w.heap.size, 1, none⟩ = some (.int .i64 v)) := ⟨kept HW4.out.1 HBa.out, kept HW4.out.2 HBa.out⟩
    have HN5 := Lib.hid (HN4.out.below HBa.out)
    have HNc := Lib.hid (HNb.out.below HBa.out)
    have HRV5 := Lib.hid (HRV.out.below HBa.out)
    clear HW4 HB4 HN4 HNb HRV HBa
    have hEE : ((E : Int) != (E : Int)) = false := by simp
    go_wp2_with fail
    generalize w4.alloc (.cells #[.bool n.leaf, .slice E1 n.ks.length f1, .slice E2 n.vs.length f2, .slice E3 n.ps.length f3] 38) = w5 at *
    generalize w4.heap.size = b9 at *
    refine lin_start 10 rfl (by kernel_rfl) ?_
    have hdr : Below w5.heap.size w5 w5.drew := (Below.refl _ _).drew
    have HB6 := Lib.hid (btr HB5.out hdr)
    have HW6 : Hid (w5.drew.cell? ⟨w.heap.size, 0, none⟩ = some (.int .i64 k) ∧ w5.drew.cell? ⟨w.heap.size, 1, none⟩ = some (.int .i64 v)) := ⟨kept HW5.out.1 hdr, kept HW5.out.2 hdr⟩
    have HN6 := Lib.hid (HN5.out.below hdr)
    obtain ⟨a0, a1, a2, a3⟩ := HNc.out.below hdr
    obtain ⟨x0, x1, x2, x3⟩ := HXa.out.below hdr
    have HRV6 := Lib.hid (HRV5.out.below hdr)
    clear hdr HB5 HW5 HN5 HNc HXa HRV5
    generalize w5.drew = u at *
    refine lin_take 0 39 (v := ?_) rfl rfl (by kernel_rfl) (by kernel_rfl) (by kernel_rfl) (fun _ _ _ _ _ h => h) (by rfl) (fun W hW => ?_) ?_
    rotate_left
    · have k0 := kept a0 hW; have k1 := kept a1 hW; have k2 := kept a2 hW; have k3 := kept a3 hW; have l0 := kept x0 hW; have l1 := kept x1 hW; have l2 := kept x2 hW; have l3 := kept x3 hW; go_simp; try rfl
    try simp only [Act.put, List.setIfInBounds_toArray, List.set_cons_zero, List.set_cons_succ]
    refine lin_take 1 40 (v := ?_) rfl rfl (by kernel_rfl) (by kernel_rfl) (by kernel_rfl) (fun _ _ _ _ _ h => h) (by rfl) (fun W hW => ?_) ?_
    rotate_left
    · have k0 := kept a0 hW; have k1 := kept a1 hW; have k2 := kept a2 hW; have k3 := kept a3 hW; have l0 := kept x0 hW; have l1 := kept x1 hW; have l2 := kept x2 hW; have l3 := kept x3 hW; go_simp; try rfl
    try simp only [Act.put, List.setIfInBounds_toArray, List.set_cons_zero, List.set_cons_succ]
    refine lin_take 2 41 (v := ?_) rfl rfl (by kernel_rfl) (by kernel_rfl) (by kernel_rfl) (fun _ _ _ _ _ h => h) (by rfl) (fun W hW => ?_) ?_
    rotate_left
    · have k0 := kept a0 hW; have k1 := kept a1 hW; have k2 := kept a2 hW; have k3 := kept a3 hW; have l0 := kept x0 hW; have l1 := kept x1 hW; have l2 := kept x2 hW; have l3 := kept x3 hW; go_simp; try rfl
    try simp only [Act.put, List.setIfInBounds_toArray, List.set_cons_zero, List.set_cons_succ]
    refine lin_take 3 42 (v := ?_) rfl rfl (by kernel_rfl) (by kernel_rfl) (by kernel_rfl) (fun _ _ _ _ _ h => h) (by rfl) (fun W hW => ?_) ?_
    rotate_left
    · have k0 := kept a0 hW; have k1 := kept a1 hW; have k2 := kept a2 hW; have k3 := kept a3 hW; have l0 := kept x0 hW; have l1 := kept x1 hW; have l2 := kept x2 hW; have l3 := kept x3 hW; go_simp; try rfl
    try simp only [Act.put, List.setIfInBounds_toArray, List.set_cons_zero, List.set_cons_succ]
    refine lin_take 4 43 (v := ?_) rfl rfl (by kernel_rfl) (by kernel_rfl) (by kernel_rfl) (fun _ _ _ _ _ h => h) (by rfl) (fun W hW => ?_) ?_
    rotate_left
    · have k0 := kept a0 hW; have k1 := kept a1 hW; have k2 := kept a2 hW; have k3 := kept a3 hW; have l0 := kept x0 hW; have l1 := kept x1 hW; have l2 := kept x2 hW; have l3 := kept x3 hW; go_simp; try rfl
    try simp only [Act.put, List.setIfInBounds_toArray, List.set_cons_zero, List.set_cons_succ]
    refine lin_take 6 45 (v := ?_) rfl rfl (by kernel_rfl) (by kernel_rfl) (by kernel_rfl) (fun _ _ _ _ _ h => h) (by rfl) (fun W hW => ?_) ?_
    rotate_left
    · have k0 := kept a0 hW; have k1 := kept a1 hW; have k2 := kept a2 hW; have k3 := kept a3 hW; have l0 := kept x0 hW; have l1 := kept x1 hW; have l2 := kept x2 hW; have l3 := kept x3 hW; go_simp; try rfl
    try simp only [Act.put, List.setIfInBounds_toArray, List.set_cons_zero, List.set_cons_succ]
    have HOF := Lib.hid (refof_any u n _ _ _ HN6.out HLN.out.2.2.2.2 (by have := HLN.out.1; omega) (by have := HLN.out.2.1; omega) (by have := HLN.out.2.2.1; omega))
    unfold nodv at HOF
    refine lin_step 5 rfl (by kernel_rfl) (fun K hK => ?_)
    go_simp
    refine (HOF.out).mono ?_
    rintro e w6 ⟨kv2, vv2, pv2, rfl, hrv2, h2⟩
    refine hK.out _ _ h2 ?_
    clear hK K
    have HX6 : Hid (Nb u b7 n.leaf (.slice A1 n.ks.length d1) (.slice A2 n.vs.length d2) (.slice A3 n.ps.length d3)) := ⟨a0, a1, a2, a3⟩
    have HX7 := Lib.hid (HX6.out.below h2)
    have HRV7 := Lib.hid (HRV6.out.below h2)
    have HRW7 := Lib.hid hrv2
    have HN7 := Lib.hid (HN6.out.below h2)
    have HW7 : Hid (w6.cell? ⟨w.heap.size, 0, none⟩ = some (.int .i64 k) ∧ w6.cell? ⟨w.heap.size, 1, none⟩ = some (.int .i64 v)) := ⟨kept HW6.out.1 h2, kept HW6.out.2 h2⟩
    have HB7 := Lib.hid (btr HB6.out h2)
    clear h2 hrv2 a0 a1 a2 a3 x0 x1 x2 x3 HX6 HRV6 HN6 HW6 HB6
    have HSM := Lib.hid (refsame_any w6 n _ _ _ _ _ _ HRW7.out HRV7.out (by have := HLN.out.1; omega) (by have := HLN.out.2.1; omega) (by have := HLN.out.2.2.1; omega))
    unfold nodv at HSM
    refine lin_step 7 rfl (by kernel_rfl) (fun K hK => ?_)
    go_simp
    refine (HSM.out).mono ?_
    rintro e w7 ⟨rfl, h3⟩
    refine hK.out _ _ h3 ?_
    clear hK K
    have HX8 := Lib.hid (HX7.out.below h3)
    have HN8 := Lib.hid (HN7.out.below h3)
    have HW8 : Hid (w7.cell? ⟨w.heap.size, 0, none⟩ = some (.int .i64 k) ∧ w7.cell? ⟨w.heap.size, 1, none⟩ = some (.int .i64 v)) := ⟨kept HW7.out.1 h3, kept HW7.out.2 h3⟩
    have HB8 := Lib.hid (btr HB7.out h3)
    clear h3 HX7 HRV7 HRW7 HN7 HW7 HB7
    refine lin_take 8 47 (v := ?_) rfl rfl (by kernel_rfl) (by kernel_rfl) (by kernel_rfl) (fun _ _ _ _ _ h => h) (by rfl) (fun W hW => ?_) ?_
    rotate_left
    · go_simp; try rfl
    try simp only [Act.put, List.setIfInBounds_toArray, List.set_cons_zero, List.set_cons_succ]
    refine lin_take 9 48 (v := ?_) rfl rfl (by kernel_rfl) (by kernel_rfl) (by kernel_rfl) (fun _ _ _ _ _ h => h) (by rfl) (fun W hW => ?_) ?_
    rotate_left
    · go_simp; try rfl
    try simp only [Act.put, List.setIfInBounds_toArray, List.set_cons_zero, List.set_cons_succ]
    refine lin_done (by kernel_rfl) ?_
    obtain ⟨c0, c1⟩ := HW8.out
    obtain ⟨a0, a1, a2, a3⟩ := HX8.out
    go_wp2_with fail
    have HWR := Lib.hid (nwrite_any w7 n _ _ _ k v HN8.out HLN.out.2.2.2.2)
    unfold nodv at HWR
    refine HWR.out.mono ?_
    rintro e w8 ⟨xb, rfl, hown, hb8⟩
    have HOW := Lib.hid hown
    have HB9 := Lib.hid (btr HB8.out hb8)
    clear c0 c1 a0 a1 a2 a3 hown hb8 HWR HW8 HX8 HN8 HB8
    go_wp2_with fail
    refine (nfixed_any w8).mono ?_
    rintro e w9 ⟨rfl, hb9⟩
    have HB10 := Lib.hid (btr HB9.out hb9)
    rcases hE2 with rfl | rfl
    · obtain ⟨y1, y2, y3⟩ := HYS.out rfl
      rw [y3] at HOW
      rw [y1, y2]
      clear HYS y1 y2 y3
      have hby := (Byts.own HOW.out).below hb9
      obtain ⟨Ab, cb, hxb⟩ := hby.form
      have hcb := hby.conv
      have hcl := (HX.out.below HB10.out).conv
      rw [← HSL.out] at hcb hcl
      subst hxb
      clear hby hb9 HOW
      have hss : (sl.toList == sl.toList) = true := by simp
      go_wp2
      go_ret
      exact ⟨rfl, HB10.out⟩
    · clear HYS HOW hb9
      go_wp2
      go_ret
      exact ⟨rfl, HB10.out⟩
theorem nreads_any (w : World) (kd : Nat) (xv : Value) (l : List UInt8) (k v : Int) (hkd : kd ≤ 255) (h : Byts w xv l) :
    Calls Try.prog 5 #[.int .u8 (kd : Int), xv, .agg #[.int .i64 k, .int .i64 v]] w fun e w' => e = .returned (.bool true) ∧ Below w.heap.size w w' := by
  have HX := Lib.hid h
  obtain ⟨A9, d9, rfl, _⟩ := h
  exact nreads_core w kd l.length d9 A9 l k v (by omega) (Lib.hid rfl) HX
end Go.Proofs.Ytceoelemlokelaa
