/- ListParses. Printed in part by tools/gen09.py. -/
import Derived.Test.YtnnegglhndllfaaFx
import Derived.Test.YtnnegglhndllfaaLin
namespace Go.Proofs.Ytnnegglhndllfaa
open Go.RowKit

theorem lp_big (w : World) (A : Option Addr) (n c : Nat) (h : 600 < n) :
    Calls Try.prog 5 #[.slice A n c] w fun e w' => e = .returned (.bool true) ∧ Below w.heap.size w w' := by
  have HF := Lib.hid (fun W : World => fixed_any W)
  go_enter Try.func5, Try.ntmps5
  go_wp2_with fail
  refine (HF.out _).mono ?_
  rintro e w2 ⟨rfl, hB⟩
  go_wp2
  go_ret
  exact ⟨rfl, hB⟩

set_option maxRecDepth 100000 in
set_option maxHeartbeats 1600000 in
theorem lp_core (w : World) (A : Option Addr) (n c x : Nat) (b : List UInt8) (sB : ByteArray) (E : Int) (Lo : List Int) (h1 : n ≤ 600) (hx : x < 4294967296) (hE : E = 0 ∨ E = 2) (HV : Hid (Byts w (.slice A n c) b)) (HSB : Hid (sB = str b)) (RL : Hid (Rg Lo))
    (HP : Hid (Calls Try.prog 12 #[.slice A n c] w fun e w' => ∃ u, e = .returned (.tuple #[.int .u32 (x : Int), u, .int .i64 E]) ∧ w'.ownsRow w.heap.size 35 1 u Lo.length (us Lo) ∧ Below w.heap.size w w'))
    (HR : Hid (∀ W : World, Calls Try.prog 13 #[.string sB] W fun e w' => ∃ u, e = .returned (.tuple #[.int .u32 (x : Int), u, .int .i64 E]) ∧ Nums w' u Lo ∧ Below W.heap.size W w'))
    (HA : Hid (E = 0 → ∀ p : List Int, p = (if (x : Int) = 0 then [5] else [5, (x : Int)]) → L.bodiesE Lo p = 0 ∧ L.bodyAt Lo p 0 = b)) :
    Calls Try.prog 5 #[.slice A n c] w fun e w' => e = .returned (.bool true) ∧ Below w.heap.size w w' := by
  have HF := Lib.hid (fun W : World => fixed_any W)
  go_enter Try.func5, Try.ntmps5
  go_wp2_with fail
  refine HP.out.mono ?_
  rintro e w2 ⟨u, rfl, hu, hB⟩
  obtain ⟨A1, c1, e1, _, _⟩ := (Nums.own hu).form
  have HU : Hid (Nums w2 u Lo) := Nums.own hu
  have HV2 := Lib.hid (HV.out.below hB)
  have HB2 := Lib.hid hB
  subst e1
  have hcv : (convert 33 9 (.slice A n c)).run Try.prog w2 = .ok (.string sB) w2 := by
    rw [HSB.out]
    exact HV2.out.conv
  clear hu hB HP HV
  obtain ⟨k, hk⟩ : ∃ k, k = Lo.length := ⟨_, rfl⟩
  rw [← hk] at HU ⊢
  have HK := Lib.hid hk
  clear hk
  go_wp2_with fail
  refine (HR.out _).mono ?_
  rintro e w3 ⟨u3, rfl, hu3, hb3⟩
  obtain ⟨A3, c3, e3, _, _⟩ := hu3.form
  rw [← HK.out] at e3
  subst e3
  have HU3 := Lib.hid hu3
  have HU2 := Lib.hid (HU.out.below hb3)
  have HV3 := Lib.hid (HV2.out.below hb3)
  have HB3 : Hid (Below w.heap.size w w3) := btr HB2.out hb3
  have HSM := Lib.hid (rsame_any w3 _ _ Lo Lo HU2.out HU3.out)
  rw [decide_eq_true rfl] at HSM
  clear hu3 hb3 HU HU3 HV2 HB2 hcv HR
  go_wp2_with fail
  refine (HSM.out).mono ?_
  rintro e w4 ⟨rfl, hb4⟩
  have HLO4 := Lib.hid (HU2.out.below hb4)
  have HV4 := Lib.hid (HV3.out.below hb4)
  have HB4 : Hid (Below w.heap.size w w4) := btr HB3.out hb4
  clear hb4 HU2 HV3 HB3 HSM
  rcases hE with rfl | rfl
  · have HAG := Lib.hid (HA.out rfl)
    clear HA
    have HB5 : Hid (Below w.heap.size w (w4.alloc (.cells #[.int .u32 5] 35))) := bal HB4.out _
    have HV5 : Hid (Byts (w4.alloc (.cells #[.int .u32 5] 35)) (.slice A n c) b) := HV4.out.below (alb _)
    have HLO : Hid (Nums (w4.alloc (.cells #[.int .u32 5] 35)) (.slice A1 k c1) Lo) := HLO4.out.below (alb _)
    have HOW : Hid ((w4.alloc (.cells #[.int .u32 5] 35)).ownsRow w4.heap.size 35 1 (.slice (some ⟨w4.heap.size, 0, none⟩) 1 1) [(5 : Int)].length (us [5])) := World.ownsRow_lit w4 #[.int .u32 5] 1 (Nat.le_refl _) (by unfold maxLen; omega) rfl
    by_cases hx0 : x = 0
    · have q1 : ((x : Int) != 0) = false := by rw [bne_eq_false_iff_eq]; omega
      obtain ⟨p, hp⟩ : ∃ p : List Int, p = [5] := ⟨_, rfl⟩
      have hpl : p.length = 1 := by rw [hp]; rfl
      have AG := Lib.hid (HAG.out p (by rw [if_pos (by omega), hp]))
      have RP : Hid (Rg p) := fun y hy => by rw [hp] at hy; simp at hy; omega
      have HPG : Hid (Nums (w4.alloc (.cells #[.int .u32 5] 35)) (.slice (some ⟨w4.heap.size, 0, none⟩) 1 1) p) := by
        show Nums _ _ p
        rw [hp]
        exact Nums.own HOW.out
      clear hx0 hp HAG HOW HB4 HV4 HLO4
      go_upto_region 12 with fail
      generalize w4.alloc (.cells #[.int .u32 5] 35) = w5 at *
      generalize w4.heap.size = a4 at *
      have HBO := Lib.hid (bodies_any _ _ _ Lo p HLO.out HPG.out RL.out RP.out (by rw [hpl]; omega))
      rw [AG.out.1, show ((0 : Nat) : Int) = 0 from rfl] at HBO
      go_wp2_with fail
      refine HBO.out.mono ?_
      rintro e w6 ⟨ub, rfl, hbo, hb6⟩
      have hbl : (L.bodiesL Lo p).length = 1 := by rw [L.bodiesL_ok AG.out.1]; simp [hpl]
      obtain ⟨g, cap, vi, rfl, c0, hvi⟩ := hbo.at 0 (by rw [hbl]; omega)
      have hvb : (L.bodiesL Lo p)[0]'(by rw [hbl]; omega) = b := by
        have e := AG.out.2
        simp only [L.bodiesL_ok AG.out.1]
        simpa using e
      rw [hvb] at hvi
      rw [hbl]
      have HB6 : Hid (Below w.heap.size w w6) := btr HB5.out hb6
      have C0 := Lib.hid c0
      have HVI := Lib.hid hvi
      have HV6 := Lib.hid (HV5.out.below hb6)
      clear hbo hb6 hbl hvb c0 hvi HBO HPG HLO HV5 HB5 RP AG
      go_wp2_with fail
      refine lin_start 22 rfl (by kernel_rfl) ?_
      have hB : Hid (Below w6.heap.size w6 w6.drew) := (Below.refl _ _).drew
      generalize w6.drew = z6 at *
      refine lin_step 0 rfl (by kernel_rfl) (fun K hK => ?_)
      go_simp
      refine (HF.out _).mono ?_
      rintro e z7 ⟨rfl, h7⟩
      refine hK.out _ _ h7 ?_
      clear hK K
      have HB7 : Hid (Below w6.heap.size w6 z7) := btr hB.out h7
      have C7 := Lib.hid (kept C0.out HB7.out)
      have CV : Hid (Cvs z7 vi sB) := by
        have := (HVI.out.below HB7.out).cvs
        rwa [← HSB.out] at this
      have CW : Hid (Cvs z7 (.slice A n c) sB) := by
        have := (HV6.out.below HB7.out).cvs
        rwa [← HSB.out] at this
      clear hB h7 C0 HVI HV6
      try simp only [Act.put, List.setIfInBounds_toArray, List.set_cons_zero, List.set_cons_succ]
      refine lin_take 1 60 (v := ?_) rfl rfl (by kernel_rfl) (by kernel_rfl) (by kernel_rfl) (fun _ _ _ _ _ h => h) (by rfl) (fun W hW => ?_) ?_
      rotate_left
      · go_simp; try rfl
      try simp only [Act.put, List.setIfInBounds_toArray, List.set_cons_zero, List.set_cons_succ]
      refine lin_take 2 61 (v := ?_) rfl rfl (by kernel_rfl) (by kernel_rfl) (by kernel_rfl) (fun _ _ _ _ _ h => h) (by rfl) (fun W hW => ?_) ?_
      rotate_left
      · go_simp; try rfl
      try simp only [Act.put, List.setIfInBounds_toArray, List.set_cons_zero, List.set_cons_succ]
      refine lin_take 3 62 (v := ?_) rfl rfl (by kernel_rfl) (by kernel_rfl) (by kernel_rfl) (fun _ _ _ _ _ h => h) (by rfl) (fun W hW => ?_) ?_
      rotate_left
      · go_simp; try rfl
      try simp only [Act.put, List.setIfInBounds_toArray, List.set_cons_zero, List.set_cons_succ]
      refine lin_take 4 63 (v := ?_) rfl rfl (by kernel_rfl) (by kernel_rfl) (by kernel_rfl) (fun _ _ _ _ _ h => h) (by rfl) (fun W hW => ?_) ?_
      rotate_left
      · go_simp; try rfl
      try simp only [Act.put, List.setIfInBounds_toArray, List.set_cons_zero, List.set_cons_succ]
      refine lin_take 5 64 (v := ?_) rfl rfl (by kernel_rfl) (by kernel_rfl) (by kernel_rfl) (fun _ _ _ _ _ h => h) (by rfl) (fun W hW => ?_) ?_
      rotate_left
      · go_simp; try rfl
      try simp only [Act.put, List.setIfInBounds_toArray, List.set_cons_zero, List.set_cons_succ]
      refine lin_take 6 65 (v := ?_) rfl rfl (by kernel_rfl) (by kernel_rfl) (by kernel_rfl) (fun _ _ _ _ _ h => h) (by rfl) (fun W hW => ?_) ?_
      rotate_left
      · go_simp; try rfl
      try simp only [Act.put, List.setIfInBounds_toArray, List.set_cons_zero, List.set_cons_succ]
      refine lin_take 7 66 (v := ?_) rfl rfl (by kernel_rfl) (by kernel_rfl) (by kernel_rfl) (fun _ _ _ _ _ h => h) (by rfl) (fun W hW => ?_) ?_
      rotate_left
      · go_simp; try rfl
      try simp only [Act.put, List.setIfInBounds_toArray, List.set_cons_zero, List.set_cons_succ]
      refine lin_take 8 67 (v := ?_) rfl rfl (by kernel_rfl) (by kernel_rfl) (by kernel_rfl) (fun _ _ _ _ _ h => h) (by rfl) (fun W hW => ?_) ?_
      rotate_left
      · go_simp; try rfl
      try simp only [Act.put, List.setIfInBounds_toArray, List.set_cons_zero, List.set_cons_succ]
      refine lin_take 9 68 (v := ?_) rfl rfl (by kernel_rfl) (by kernel_rfl) (by kernel_rfl) (fun _ _ _ _ _ h => h) (by rfl) (fun W hW => ?_) ?_
      rotate_left
      · go_simp; try rfl
      try simp only [Act.put, List.setIfInBounds_toArray, List.set_cons_zero, List.set_cons_succ]
      refine lin_take 10 69 (v := ?_) rfl rfl (by kernel_rfl) (by kernel_rfl) (by kernel_rfl) (fun _ _ _ _ _ h => h) (by rfl) (fun W hW => ?_) ?_
      rotate_left
      · go_simp; try rfl
      try simp only [Act.put, List.setIfInBounds_toArray, List.set_cons_zero, List.set_cons_succ]
      refine lin_take 11 70 (v := ?_) rfl rfl (by kernel_rfl) (by kernel_rfl) (by kernel_rfl) (fun _ _ _ _ _ h => h) (by rfl) (fun W hW => ?_) ?_
      rotate_left
      · go_simp; try rfl
      try simp only [Act.put, List.setIfInBounds_toArray, List.set_cons_zero, List.set_cons_succ]
      refine lin_take 12 71 (v := ?_) rfl rfl (by kernel_rfl) (by kernel_rfl) (by kernel_rfl) (fun _ _ _ _ _ h => h) (by rfl) (fun W hW => ?_) ?_
      rotate_left
      · go_simp; try rfl
      try simp only [Act.put, List.setIfInBounds_toArray, List.set_cons_zero, List.set_cons_succ]
      refine lin_take 13 72 (v := ?_) rfl rfl (by kernel_rfl) (by kernel_rfl) (by kernel_rfl) (fun _ _ _ _ _ h => h) (by rfl) (fun W hW => ?_) ?_
      rotate_left
      · go_simp; try rfl
      try simp only [Act.put, List.setIfInBounds_toArray, List.set_cons_zero, List.set_cons_succ]
      refine lin_take 14 73 (v := ?_) rfl rfl (by kernel_rfl) (by kernel_rfl) (by kernel_rfl) (fun _ _ _ _ _ h => h) (by rfl) (fun W hW => ?_) ?_
      rotate_left
      · go_simp; try rfl
      try simp only [Act.put, List.setIfInBounds_toArray, List.set_cons_zero, List.set_cons_succ]
      refine lin_take 15 74 (v := ?_) rfl rfl (by kernel_rfl) (by kernel_rfl) (by kernel_rfl) (fun _ _ _ _ _ h => h) (by rfl) (fun W hW => ?_) ?_
      rotate_left
      · have q0 := kept C7.out hW; go_simp; try rfl
      try simp only [Act.put, List.setIfInBounds_toArray, List.set_cons_zero, List.set_cons_succ]
      refine lin_take 16 75 (v := ?_) rfl rfl (by kernel_rfl) (by kernel_rfl) (by kernel_rfl) (fun _ _ _ _ _ h => h) (by rfl) (fun W hW => ?_) ?_
      rotate_left
      · have q0 := CV.out W hW; go_simp; try rfl
      try simp only [Act.put, List.setIfInBounds_toArray, List.set_cons_zero, List.set_cons_succ]
      refine lin_take 17 76 (v := ?_) rfl rfl (by kernel_rfl) (by kernel_rfl) (by kernel_rfl) (fun _ _ _ _ _ h => h) (by rfl) (fun W hW => ?_) ?_
      rotate_left
      · go_simp; try rfl
      try simp only [Act.put, List.setIfInBounds_toArray, List.set_cons_zero, List.set_cons_succ]
      refine lin_take 18 77 (v := ?_) rfl rfl (by kernel_rfl) (by kernel_rfl) (by kernel_rfl) (fun _ _ _ _ _ h => h) (by rfl) (fun W hW => ?_) ?_
      rotate_left
      · have q0 := CW.out W hW; go_simp; try rfl
      try simp only [Act.put, List.setIfInBounds_toArray, List.set_cons_zero, List.set_cons_succ]
      refine lin_take 19 78 (v := ?_) rfl rfl (by kernel_rfl) (by kernel_rfl) (by kernel_rfl) (fun _ _ _ _ _ h => h) (by rfl) (fun W hW => ?_) ?_
      rotate_left
      · go_simp; try rfl
      try simp only [Act.put, List.setIfInBounds_toArray, List.set_cons_zero, List.set_cons_succ]
      refine lin_take 20 79 (v := ?_) rfl rfl (by kernel_rfl) (by kernel_rfl) (by kernel_rfl) (fun _ _ _ _ _ h => h) (by rfl) (fun W hW => ?_) ?_
      rotate_left
      · go_simp; try rfl
      try simp only [Act.put, List.setIfInBounds_toArray, List.set_cons_zero, List.set_cons_succ]
      refine lin_take 21 2 (v := ?_) rfl rfl (by kernel_rfl) (by kernel_rfl) (by kernel_rfl) (fun _ _ _ _ _ h => h) (by rfl) (fun W hW => ?_) ?_
      rotate_left
      · go_simp; try rfl
      try simp only [Act.put, List.setIfInBounds_toArray, List.set_cons_zero, List.set_cons_succ]
      refine lin_done (by kernel_rfl) ?_
      go_wp2
      go_ret
      exact ⟨rfl, btr HB6.out HB7.out⟩
    · have q1 : ((x : Int) != 0) = true := by rw [bne_iff_ne]; omega
      obtain ⟨p, hp⟩ : ∃ p : List Int, p = [5, (x : Int)] := ⟨_, rfl⟩
      have hpl : p.length = 2 := by rw [hp]; rfl
      have AG := Lib.hid (HAG.out p (by rw [if_neg (by omega), hp]))
      have RP : Hid (Rg p) := fun y hy => by
        rw [hp] at hy
        simp at hy
        omega
      have HP0 := Lib.hid hp
      have h45 : Below w4.heap.size w4 (w4.alloc (.cells #[.int .u32 5] 35)) := alb _
      clear hx0 hp HAG HB5 HV5 HLO
      go_upto_region 11 with fail
      generalize w4.alloc (.cells #[.int .u32 5] 35) = w5 at *
      have ha4 : w4.heap.size ≤ w5.heap.size := h45.size
      go_upto_region 12 with (first
        | (at_builtin; refine wpList_append_one rfl _ _ 25 rfl Try.underlying25 w4.heap.size _ [5] (x : Int) rfl w5 rfl rfl HOW.out (by simp) ha4 ?_; intro v9 w9 hown9 hb9; obtain ⟨g9, cap9, rfl⟩ := ownsRow_succ (k := 1) hown9)
        | go_in)
      have hb7 : Below w4.heap.size w4 w9 := h45.trans hb9
      have HB5 : Hid (Below w.heap.size w w9) := btr HB4.out hb7
      have HV5 := Lib.hid (HV4.out.below hb7)
      have HLO := Lib.hid (HLO4.out.below hb7)
      have HPG : Hid (Nums w9 (.slice (some ⟨g9, 0, none⟩) 2 cap9) p) := by
        show Nums _ _ p
        rw [HP0.out]
        exact Nums.own hown9
      clear hown9 hb9 hb7 h45 ha4 HOW HB4 HV4 HLO4 HP0
      have HBO := Lib.hid (bodies_any _ _ _ Lo p HLO.out HPG.out RL.out RP.out (by rw [hpl]; omega))
      rw [AG.out.1, show ((0 : Nat) : Int) = 0 from rfl] at HBO
      go_wp2_with fail
      refine HBO.out.mono ?_
      rintro e w6 ⟨ub, rfl, hbo, hb6⟩
      have hbl : (L.bodiesL Lo p).length = 2 := by rw [L.bodiesL_ok AG.out.1]; simp [hpl]
      obtain ⟨g, cap, vi, rfl, c0, hvi⟩ := hbo.at 0 (by rw [hbl]; omega)
      have hvb : (L.bodiesL Lo p)[0]'(by rw [hbl]; omega) = b := by
        have e := AG.out.2
        simp only [L.bodiesL_ok AG.out.1]
        simpa using e
      rw [hvb] at hvi
      rw [hbl]
      have HB6 : Hid (Below w.heap.size w w6) := btr HB5.out hb6
      have C0 := Lib.hid c0
      have HVI := Lib.hid hvi
      have HV6 := Lib.hid (HV5.out.below hb6)
      clear hbo hb6 hbl hvb c0 hvi HBO HPG HLO HV5 HB5 RP AG
      go_wp2_with fail
      refine lin_start 22 rfl (by kernel_rfl) ?_
      have hB : Hid (Below w6.heap.size w6 w6.drew) := (Below.refl _ _).drew
      generalize w6.drew = z6 at *
      refine lin_step 0 rfl (by kernel_rfl) (fun K hK => ?_)
      go_simp
      refine (HF.out _).mono ?_
      rintro e z7 ⟨rfl, h7⟩
      refine hK.out _ _ h7 ?_
      clear hK K
      have HB7 : Hid (Below w6.heap.size w6 z7) := btr hB.out h7
      have C7 := Lib.hid (kept C0.out HB7.out)
      have CV : Hid (Cvs z7 vi sB) := by
        have := (HVI.out.below HB7.out).cvs
        rwa [← HSB.out] at this
      have CW : Hid (Cvs z7 (.slice A n c) sB) := by
        have := (HV6.out.below HB7.out).cvs
        rwa [← HSB.out] at this
      clear hB h7 C0 HVI HV6
      try simp only [Act.put, List.setIfInBounds_toArray, List.set_cons_zero, List.set_cons_succ]
      refine lin_take 1 60 (v := ?_) rfl rfl (by kernel_rfl) (by kernel_rfl) (by kernel_rfl) (fun _ _ _ _ _ h => h) (by rfl) (fun W hW => ?_) ?_
      rotate_left
      · go_simp; try rfl
      try simp only [Act.put, List.setIfInBounds_toArray, List.set_cons_zero, List.set_cons_succ]
      refine lin_take 2 61 (v := ?_) rfl rfl (by kernel_rfl) (by kernel_rfl) (by kernel_rfl) (fun _ _ _ _ _ h => h) (by rfl) (fun W hW => ?_) ?_
      rotate_left
      · go_simp; try rfl
      try simp only [Act.put, List.setIfInBounds_toArray, List.set_cons_zero, List.set_cons_succ]
      refine lin_take 3 62 (v := ?_) rfl rfl (by kernel_rfl) (by kernel_rfl) (by kernel_rfl) (fun _ _ _ _ _ h => h) (by rfl) (fun W hW => ?_) ?_
      rotate_left
      · go_simp; try rfl
      try simp only [Act.put, List.setIfInBounds_toArray, List.set_cons_zero, List.set_cons_succ]
      refine lin_take 4 63 (v := ?_) rfl rfl (by kernel_rfl) (by kernel_rfl) (by kernel_rfl) (fun _ _ _ _ _ h => h) (by rfl) (fun W hW => ?_) ?_
      rotate_left
      · go_simp; try rfl
      try simp only [Act.put, List.setIfInBounds_toArray, List.set_cons_zero, List.set_cons_succ]
      refine lin_take 5 64 (v := ?_) rfl rfl (by kernel_rfl) (by kernel_rfl) (by kernel_rfl) (fun _ _ _ _ _ h => h) (by rfl) (fun W hW => ?_) ?_
      rotate_left
      · go_simp; try rfl
      try simp only [Act.put, List.setIfInBounds_toArray, List.set_cons_zero, List.set_cons_succ]
      refine lin_take 6 65 (v := ?_) rfl rfl (by kernel_rfl) (by kernel_rfl) (by kernel_rfl) (fun _ _ _ _ _ h => h) (by rfl) (fun W hW => ?_) ?_
      rotate_left
      · go_simp; try rfl
      try simp only [Act.put, List.setIfInBounds_toArray, List.set_cons_zero, List.set_cons_succ]
      refine lin_take 7 66 (v := ?_) rfl rfl (by kernel_rfl) (by kernel_rfl) (by kernel_rfl) (fun _ _ _ _ _ h => h) (by rfl) (fun W hW => ?_) ?_
      rotate_left
      · go_simp; try rfl
      try simp only [Act.put, List.setIfInBounds_toArray, List.set_cons_zero, List.set_cons_succ]
      refine lin_take 8 67 (v := ?_) rfl rfl (by kernel_rfl) (by kernel_rfl) (by kernel_rfl) (fun _ _ _ _ _ h => h) (by rfl) (fun W hW => ?_) ?_
      rotate_left
      · go_simp; try rfl
      try simp only [Act.put, List.setIfInBounds_toArray, List.set_cons_zero, List.set_cons_succ]
      refine lin_take 9 68 (v := ?_) rfl rfl (by kernel_rfl) (by kernel_rfl) (by kernel_rfl) (fun _ _ _ _ _ h => h) (by rfl) (fun W hW => ?_) ?_
      rotate_left
      · go_simp; try rfl
      try simp only [Act.put, List.setIfInBounds_toArray, List.set_cons_zero, List.set_cons_succ]
      refine lin_take 10 69 (v := ?_) rfl rfl (by kernel_rfl) (by kernel_rfl) (by kernel_rfl) (fun _ _ _ _ _ h => h) (by rfl) (fun W hW => ?_) ?_
      rotate_left
      · go_simp; try rfl
      try simp only [Act.put, List.setIfInBounds_toArray, List.set_cons_zero, List.set_cons_succ]
      refine lin_take 11 70 (v := ?_) rfl rfl (by kernel_rfl) (by kernel_rfl) (by kernel_rfl) (fun _ _ _ _ _ h => h) (by rfl) (fun W hW => ?_) ?_
      rotate_left
      · go_simp; try rfl
      try simp only [Act.put, List.setIfInBounds_toArray, List.set_cons_zero, List.set_cons_succ]
      refine lin_take 12 71 (v := ?_) rfl rfl (by kernel_rfl) (by kernel_rfl) (by kernel_rfl) (fun _ _ _ _ _ h => h) (by rfl) (fun W hW => ?_) ?_
      rotate_left
      · go_simp; try rfl
      try simp only [Act.put, List.setIfInBounds_toArray, List.set_cons_zero, List.set_cons_succ]
      refine lin_take 13 72 (v := ?_) rfl rfl (by kernel_rfl) (by kernel_rfl) (by kernel_rfl) (fun _ _ _ _ _ h => h) (by rfl) (fun W hW => ?_) ?_
      rotate_left
      · go_simp; try rfl
      try simp only [Act.put, List.setIfInBounds_toArray, List.set_cons_zero, List.set_cons_succ]
      refine lin_take 14 73 (v := ?_) rfl rfl (by kernel_rfl) (by kernel_rfl) (by kernel_rfl) (fun _ _ _ _ _ h => h) (by rfl) (fun W hW => ?_) ?_
      rotate_left
      · go_simp; try rfl
      try simp only [Act.put, List.setIfInBounds_toArray, List.set_cons_zero, List.set_cons_succ]
      refine lin_take 15 74 (v := ?_) rfl rfl (by kernel_rfl) (by kernel_rfl) (by kernel_rfl) (fun _ _ _ _ _ h => h) (by rfl) (fun W hW => ?_) ?_
      rotate_left
      · have q0 := kept C7.out hW; go_simp; try rfl
      try simp only [Act.put, List.setIfInBounds_toArray, List.set_cons_zero, List.set_cons_succ]
      refine lin_take 16 75 (v := ?_) rfl rfl (by kernel_rfl) (by kernel_rfl) (by kernel_rfl) (fun _ _ _ _ _ h => h) (by rfl) (fun W hW => ?_) ?_
      rotate_left
      · have q0 := CV.out W hW; go_simp; try rfl
      try simp only [Act.put, List.setIfInBounds_toArray, List.set_cons_zero, List.set_cons_succ]
      refine lin_take 17 76 (v := ?_) rfl rfl (by kernel_rfl) (by kernel_rfl) (by kernel_rfl) (fun _ _ _ _ _ h => h) (by rfl) (fun W hW => ?_) ?_
      rotate_left
      · go_simp; try rfl
      try simp only [Act.put, List.setIfInBounds_toArray, List.set_cons_zero, List.set_cons_succ]
      refine lin_take 18 77 (v := ?_) rfl rfl (by kernel_rfl) (by kernel_rfl) (by kernel_rfl) (fun _ _ _ _ _ h => h) (by rfl) (fun W hW => ?_) ?_
      rotate_left
      · have q0 := CW.out W hW; go_simp; try rfl
      try simp only [Act.put, List.setIfInBounds_toArray, List.set_cons_zero, List.set_cons_succ]
      refine lin_take 19 78 (v := ?_) rfl rfl (by kernel_rfl) (by kernel_rfl) (by kernel_rfl) (fun _ _ _ _ _ h => h) (by rfl) (fun W hW => ?_) ?_
      rotate_left
      · go_simp; try rfl
      try simp only [Act.put, List.setIfInBounds_toArray, List.set_cons_zero, List.set_cons_succ]
      refine lin_take 20 79 (v := ?_) rfl rfl (by kernel_rfl) (by kernel_rfl) (by kernel_rfl) (fun _ _ _ _ _ h => h) (by rfl) (fun W hW => ?_) ?_
      rotate_left
      · go_simp; try rfl
      try simp only [Act.put, List.setIfInBounds_toArray, List.set_cons_zero, List.set_cons_succ]
      refine lin_take 21 2 (v := ?_) rfl rfl (by kernel_rfl) (by kernel_rfl) (by kernel_rfl) (fun _ _ _ _ _ h => h) (by rfl) (fun W hW => ?_) ?_
      rotate_left
      · go_simp; try rfl
      try simp only [Act.put, List.setIfInBounds_toArray, List.set_cons_zero, List.set_cons_succ]
      refine lin_done (by kernel_rfl) ?_
      go_wp2
      go_ret
      exact ⟨rfl, btr HB6.out HB7.out⟩
  · have HB4' := HB4
    go_wp2_with fail
    refine (HF.out _).mono ?_
    rintro e w5 ⟨rfl, h5⟩
    go_wp2
    go_ret
    exact ⟨rfl, btr HB4'.out h5⟩
theorem parseL_rg (b : List UInt8) : Rg (L.parseL b) := by
  unfold L.parseL
  split
  · exact L.nums_rng b _
  · intro x hx
    simp at hx
theorem parseE_two (b : List UInt8) : L.parseE b = 0 ∨ L.parseE b = 2 := by
  unfold L.parseE
  split
  · exact .inr rfl
  · split
    · exact .inr rfl
    · split
      · exact .inl rfl
      · exact .inr rfl
theorem lp_any (w : World) (v : Value) (b : List UInt8) (h : Byts w v b) :
    Calls Try.prog 5 #[v] w fun e w' => e = .returned (.bool true) ∧ Below w.heap.size w w' := by
  have hp := parse_any w v b h
  obtain ⟨A, c, rfl⟩ := h.form
  by_cases hs : b.length ≤ 600
  · have hr := fun W : World => refparse_any W b (by omega)
    obtain ⟨x, hx, ex⟩ : ∃ x : Nat, x < 4294967296 ∧ L.parseN b = (x : Int) := by
      have hlt := L.numAt_lt b 0
      unfold L.parseN
      split
      · exact ⟨_, hlt, rfl⟩
      · exact ⟨0, by omega, rfl⟩
    rw [ex] at hp hr
    refine lp_core w A b.length c x b (str b) _ (L.parseL b) hs hx ?_ h rfl (parseL_rg b) hp hr (Lib.hid fun q p e => ?_)
    · rcases parseE_two b with q | q <;> rw [q]
      · exact .inl rfl
      · exact .inr rfl
    · have q0 : L.parseE b = 0 := by omega
      have := L.again q0 p (by rw [ex]; exact e)
      exact ⟨this.1, this.2.1⟩
  · exact lp_big w A b.length c (by omega)
end Go.Proofs.Ytnnegglhndllfaa
