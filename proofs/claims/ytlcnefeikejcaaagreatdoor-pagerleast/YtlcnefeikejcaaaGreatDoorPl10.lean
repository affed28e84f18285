/- Contracts that the claim reaches (Ue Wi Wj Wk Wl Dp Dq Dn Do Wm Vl Vm Wn Wo Wp Wq). -/
import Derived.Test.YtlcnefeikejcaaaGreatDoorPl09
namespace Go.Proofs.YtlcnefeikejcaaaGreatDoor
open Go.RowKit
theorem run_build_sup (w : World) : (Instr.build 36 #[]).run Tryz.prog w = .ok (.agg (sva 0 U.none27)) w := by kernel_rfl
theorem none27_len : U.none27.length = 27 := rfl
theorem low_of {B : Nat} {w0 w w1 : World} {b : Nat} (h : Below B w0 w) (hB : B ≤ w.heap.size) (k : Keep (fun k => k = b) w w1) (hb : B ≤ b) : Below B w0 w1 := h.trans (k.below hB (fun k hk => by subst hk; exact hb))
theorem read_out (p : Int) (hp : p < 0 ∨ 1 < p) (v : Value) (w : World) :
    Calls Tryz.prog 98 #[.int .i64 p, v] w fun e w' => e = .returned (.tuple #[.agg (sva 0 U.none27), .int .i64 1]) ∧ Below w.heap.size w w' := by
  have hbz := run_build_sup
  have HR : Hid (Sup (w.alloc (.cells #[.int .u64 0, .int .u32 0, .int .u32 0, .int .u32 0, .int .u32 0, .int .u32 0, .int .u32 0, .int .u32 0, .int .u32 0, .int .u32 0, .int .u32 0, .int .u32 0, .int .u32 0, .int .u32 0, .int .u32 0, .int .u32 0, .int .u32 0, .int .u32 0, .int .u32 0, .int .u32 0, .int .u32 0, .int .u32 0, .int .u32 0, .int .u32 0, .int .u32 0, .int .u32 0, .int .u32 0, .int .u32 0] 36)) w.heap.size 0 U.none27) := Sup.made w 0 U.none27 rfl
  have HB : Hid (Below w.heap.size w (w.alloc (.cells #[.int .u64 0, .int .u32 0, .int .u32 0, .int .u32 0, .int .u32 0, .int .u32 0, .int .u32 0, .int .u32 0, .int .u32 0, .int .u32 0, .int .u32 0, .int .u32 0, .int .u32 0, .int .u32 0, .int .u32 0, .int .u32 0, .int .u32 0, .int .u32 0, .int .u32 0, .int .u32 0, .int .u32 0, .int .u32 0, .int .u32 0, .int .u32 0, .int .u32 0, .int .u32 0, .int .u32 0, .int .u32 0] 36))) := alb _
  have q1 : decide (p < 0) = true ∨ (decide (p < 0) = false ∧ decide (2 ≤ p) = true) := by
    by_cases h : p < 0
    · exact .inl (by simpa using h)
    · exact .inr ⟨by simpa using h, by simp; omega⟩
  clear hp
  rcases q1 with q1 | ⟨q1, q2⟩
  all_goals
    go_enter Tryz.func98, Tryz.ntmps98
    go_wp2_with (first
      | (refine wpList_store_sup rfl (.tmp 4) (.tmp 16) rfl w.heap.size 0 U.none27 rfl rfl none27_len HR.out.2.1 ?_)
      | go_in)
    intro w9 HS hk
    go_wp2
    exact bodyPost_ret (results_sup rfl _ _ w.heap.size 0 U.none27 _ rfl rfl HS.out) rfl ⟨rfl, low_of HB.out HB.out.size hk (Nat.le_refl _)⟩
set_option maxHeartbeats 1600000 in
theorem read_core (pn en kn n2 m sq : Nat) (rr : List Nat) (v : Value) (w : World) (hp : pn < 2) (hq : sq < 18446744073709551616) (hm : (sq : Int) % 2 = (m : Int)) (HRR : Hid (rr.length = 27)) (hkn : kn < 256)
    (HO : Hid (∀ W : World, Below w.heap.size w W → Calls Tryz.prog 69 #[.int .u32 (pn : Int), v] W fun e w' => ∃ A2 c2, e = .returned (.tuple #[.int .u8 (kn : Int), .slice A2 n2 c2, .int .i64 (en : Int)]) ∧ Below W.heap.size W w' ∧
      (n2 = 116 → Calls Tryz.prog 132 #[.slice A2 n2 c2] w' fun e w2 => e = .returned (.agg (sva sq rr)) ∧ Below w'.heap.size w' w2)))
    (E Q : Nat) (R : List Nat) (hc : (en ≠ 0 ∧ E = en ∧ Q = 0 ∧ R = U.none27) ∨ (en = 0 ∧ (kn ≠ 1 ∨ (kn = 1 ∧ n2 ≠ 116)) ∧ E = 2 ∧ Q = 0 ∧ R = U.none27) ∨ (en = 0 ∧ kn = 1 ∧ n2 = 116 ∧ m ≠ pn ∧ E = 2 ∧ Q = 0 ∧ R = U.none27) ∨ (en = 0 ∧ kn = 1 ∧ n2 = 116 ∧ m = pn ∧ E = 0 ∧ Q = sq ∧ R = rr)) :
    Calls Tryz.prog 98 #[.int .i64 (pn : Int), v] w fun e w' => e = .returned (.tuple #[.agg (sva Q R), .int .i64 (E : Int)]) ∧ Below w.heap.size w w' := by
  have hbz := run_build_sup
  have HR : Hid (Sup (w.alloc (.cells #[.int .u64 0, .int .u32 0, .int .u32 0, .int .u32 0, .int .u32 0, .int .u32 0, .int .u32 0, .int .u32 0, .int .u32 0, .int .u32 0, .int .u32 0, .int .u32 0, .int .u32 0, .int .u32 0, .int .u32 0, .int .u32 0, .int .u32 0, .int .u32 0, .int .u32 0, .int .u32 0, .int .u32 0, .int .u32 0, .int .u32 0, .int .u32 0, .int .u32 0, .int .u32 0, .int .u32 0, .int .u32 0] 36)) w.heap.size 0 U.none27) := Sup.made w 0 U.none27 rfl
  have HB : Hid (Below w.heap.size w (w.alloc (.cells #[.int .u64 0, .int .u32 0, .int .u32 0, .int .u32 0, .int .u32 0, .int .u32 0, .int .u32 0, .int .u32 0, .int .u32 0, .int .u32 0, .int .u32 0, .int .u32 0, .int .u32 0, .int .u32 0, .int .u32 0, .int .u32 0, .int .u32 0, .int .u32 0, .int .u32 0, .int .u32 0, .int .u32 0, .int .u32 0, .int .u32 0, .int .u32 0, .int .u32 0, .int .u32 0, .int .u32 0, .int .u32 0] 36))) := alb _
  have q1 : decide ((pn : Int) < 0) = false := by simp
  have q2 : decide (2 ≤ (pn : Int)) = false := by simp; omega
  go_enter Tryz.func98, Tryz.ntmps98
  go_wp2_with fail
  generalize w.alloc (.cells #[.int .u64 0, .int .u32 0, .int .u32 0, .int .u32 0, .int .u32 0, .int .u32 0, .int .u32 0, .int .u32 0, .int .u32 0, .int .u32 0, .int .u32 0, .int .u32 0, .int .u32 0, .int .u32 0, .int .u32 0, .int .u32 0, .int .u32 0, .int .u32 0, .int .u32 0, .int .u32 0, .int .u32 0, .int .u32 0, .int .u32 0, .int .u32 0, .int .u32 0, .int .u32 0, .int .u32 0, .int .u32 0] 36) = wA at *
  refine (HO.out wA HB.out).mono ?_
  rintro e w2 ⟨A2, c2, rfl, hb2, hsd⟩
  have HSD := Lib.hid hsd
  have HR2 := Lib.hid (HR.out.below hb2)
  have HB2 := Lib.hid (btr HB.out hb2)
  clear hb2 HR HB HO hsd q1 q2
  rcases hc with ⟨h1, rfl, rfl, rfl⟩ | ⟨rfl, h2, rfl, rfl, rfl⟩ | ⟨rfl, rfl, rfl, h4, rfl, rfl, rfl⟩ | ⟨rfl, rfl, rfl, rfl, rfl, rfl, rfl⟩
  · have g1 : ((E : Int) == 0) = false := by simp; omega
    have g2 : ((E : Int) != 0) = true := by simp; omega
    clear h1
    go_wp2_with (first
      | (refine wpList_store_sup rfl (.tmp 4) (.tmp 27) rfl w.heap.size 0 U.none27 rfl rfl none27_len HR2.out.2.1 ?_)
      | go_in)
    intro w9 HS hk
    go_wp2
    exact bodyPost_ret (results_sup rfl _ _ w.heap.size 0 U.none27 _ rfl rfl HS.out) rfl ⟨rfl, low_of HB2.out HB2.out.size hk (Nat.le_refl _)⟩
  · have g1 : (((kn : Int) == 1) = false ∧ ((kn : Int) != 1) = true) ∨ (kn = 1 ∧ ((n2 : Int) == 116) = false ∧ ((n2 : Int) != 116) = true) := by
      rcases h2 with h2 | ⟨h2, h3⟩
      · exact .inl ⟨by simp; omega, by simp; omega⟩
      · exact .inr ⟨h2, by simp; omega, by simp; omega⟩
    clear h2
    rcases g1 with ⟨g1, g2⟩ | ⟨rfl, g1, g2⟩
    all_goals
      go_wp2_with (first
        | (refine wpList_store_sup rfl (.tmp 4) (.tmp 36) rfl w.heap.size 0 U.none27 rfl rfl none27_len HR2.out.2.1 ?_)
        | go_in)
      intro w9 HS hk
      go_wp2
      exact bodyPost_ret (results_sup rfl _ _ w.heap.size 0 U.none27 _ rfl rfl HS.out) rfl ⟨rfl, low_of HB2.out HB2.out.size hk (Nat.le_refl _)⟩
  all_goals
    go_wp2_with fail
    refine (HSD.out (by trivial)).mono ?_
    rintro e w3 ⟨rfl, hb3⟩
    have HR3 := Lib.hid (HR2.out.below hb3)
    have HB3 := Lib.hid (btr HB2.out hb3)
    have HT9 : Hid ((w3.alloc (.cells #[.int .u64 0, .int .u32 0, .int .u32 0, .int .u32 0, .int .u32 0, .int .u32 0, .int .u32 0, .int .u32 0, .int .u32 0, .int .u32 0, .int .u32 0, .int .u32 0, .int .u32 0, .int .u32 0, .int .u32 0, .int .u32 0, .int .u32 0, .int .u32 0, .int .u32 0, .int .u32 0, .int .u32 0, .int .u32 0, .int .u32 0, .int .u32 0, .int .u32 0, .int .u32 0, .int .u32 0, .int .u32 0] 36)).there w3.heap.size 0 28) := there_new w3 _ _ 28 rfl
    clear hb3 HR2 HB2 HSD
    go_wp2_with (first
      | (refine wpList_store_sup rfl (.tmp 9) (.tmp 38) rfl w3.heap.size _ _ rfl rfl HRR.out HT9.out ?_)
      | go_in)
    intro w4 HS4 hk4
    have hs3 := HB3.out.size
    have HB4 := Lib.hid (low_of (bal HB3.out _) (by simp; omega) hk4 hs3)
    have hrl := HR3.out.lt
    have HR4 := Lib.hid (Sup.keep (HR3.out.below (alb _)) hk4 (by omega))
    have c0 := HS4.out.cell0
    clear hk4 hs3 hrl HR3 HB3 HT9
  · have g1 : ((m : Int) == (pn : Int)) = false := by simp; omega
    have g2 : ((m : Int) != (pn : Int)) = true := by simp; omega
    clear h4
    go_wp2_with (first
      | (refine wpList_store_sup rfl (.tmp 4) (.tmp 45) rfl w.heap.size 0 U.none27 rfl rfl none27_len HR4.out.2.1 ?_)
      | go_in)
    intro w9 HS hk
    go_wp2
    exact bodyPost_ret (results_sup rfl _ _ w.heap.size 0 U.none27 _ rfl rfl HS.out) rfl ⟨rfl, low_of HB4.out HB4.out.size hk (Nat.le_refl _)⟩
  · go_wp2_with (first
      | (refine wpList_load_sup rfl (.tmp 9) rfl w3.heap.size _ _ rfl HS4.out ?_)
      | (refine wpList_store_sup rfl (.tmp 4) (.tmp 46) rfl w.heap.size _ _ rfl rfl HRR.out HR4.out.2.1 ?_)
      | go_in)
    intro w9 HS hk
    go_wp2
    exact bodyPost_ret (results_sup rfl _ _ w.heap.size _ _ _ rfl rfl HS.out) rfl ⟨rfl, low_of HB4.out HB4.out.size hk (Nat.le_refl _)⟩
theorem read_any (p : Int) (v : Value) (l : List UInt8) (w : World) (h : Byts w v l) (hT : Tab w) :
    Calls Tryz.prog 98 #[.int .i64 p, v] w fun e w' => e = .returned (.tuple #[.agg (sva (U.readQ p l) (U.readR p l)), .int .i64 ((U.readE p l : Nat) : Int)]) ∧ Below w.heap.size w w' := by
  by_cases hp : p < 0 ∨ 1 < p
  · have e : U.readE p l = 1 := if_pos hp
    have e1 : U.readQ p l = 0 := by unfold U.readQ; rw [e]; rfl
    have e2 : U.readR p l = U.none27 := by unfold U.readR; rw [e]; rfl
    rw [e, e1, e2]
    exact read_out p hp v w
  · obtain ⟨pn, rfl⟩ := Int.eq_ofNat_of_zero_le (show 0 ≤ p by omega)
    have hpn : pn < 2 := by omega
    refine read_core pn (G.openE pn l) (G.openK pn l).toNat (G.openB pn l).length (U.seqOf (G.openB pn l) % 2) (U.seqOf (G.openB pn l)) (U.rootsOf (G.openB pn l)) v w hpn (U.seqOf_lt _) (by omega) (U.rootsOf_length _) (C.u8_lt _) ?_ _ _ _ ?_
    · intro W hB
      refine (open_any pn (by omega) v l W (h.below hB) (hT.below hB)).mono fun e w1 ⟨v', k1, k2, k3⟩ => ?_
      obtain ⟨A2, c2, rfl⟩ := k2.form
      exact ⟨A2, c2, k1, k3, fun hl => said_any _ _ w1 k2 hl⟩
    · have hz := U.readE_zero pn l hpn
      have e0 : U.readE (pn : Int) l = if G.openE pn l ≠ 0 then G.openE pn l else if G.openK pn l ≠ 1 ∨ (G.openB pn l).length ≠ 116 then 2 else if U.seqOf (G.openB pn l) % 2 ≠ pn then 2 else 0 := if_neg hp
      have no : U.readE (pn : Int) l ≠ 0 → U.readQ (pn : Int) l = 0 ∧ U.readR (pn : Int) l = U.none27 := fun h => ⟨if_neg h, if_neg h⟩
      by_cases h1 : G.openE pn l = 0
      · rw [if_neg (by simpa using h1)] at e0
        by_cases h2 : G.openK pn l = 1
        · by_cases h3 : (G.openB pn l).length = 116
          · rw [if_neg (by simp [h2, h3])] at e0
            by_cases h4 : U.seqOf (G.openB pn l) % 2 = pn
            · rw [if_neg (by simpa using h4)] at e0
              refine .inr (.inr (.inr ⟨h1, by rw [h2]; rfl, h3, h4, e0, ?_, ?_⟩))
              · unfold U.readQ; rw [if_pos e0, Int.toNat_natCast]
              · unfold U.readR; rw [if_pos e0, Int.toNat_natCast]
            · rw [if_pos h4] at e0
              obtain ⟨k1, k2⟩ := no (by omega)
              exact .inr (.inr (.inl ⟨h1, by rw [h2]; rfl, h3, h4, e0, k1, k2⟩))
          · rw [if_pos (.inr h3)] at e0
            obtain ⟨k1, k2⟩ := no (by omega)
            exact .inr (.inl ⟨h1, .inr ⟨by rw [h2]; rfl, h3⟩, e0, k1, k2⟩)
        · rw [if_pos (.inl h2)] at e0
          obtain ⟨k1, k2⟩ := no (by omega)
          exact .inr (.inl ⟨h1, .inl (fun e => h2 (UInt8.toNat_inj.1 e)), e0, k1, k2⟩)
      · rw [if_pos h1] at e0
        obtain ⟨k1, k2⟩ := no (by omega)
        exact .inl ⟨h1, e0, k1, k2⟩
set_option maxHeartbeats 1600000 in
theorem newest_core (e0 e1 q0 q1 : Nat) (r0 r1 : List Nat) (va vb : Value) (w : World) (HL0 : Hid (r0.length = 27)) (HL1 : Hid (r1.length = 27)) (hq0 : q0 < 18446744073709551616) (hq1 : q1 < 18446744073709551616)
    (H0 : Hid (∀ W : World, Below w.heap.size w W → Calls Tryz.prog 98 #[.int .i64 0, va] W fun e w' => e = .returned (.tuple #[.agg (sva q0 r0), .int .i64 (e0 : Int)]) ∧ Below W.heap.size W w'))
    (H1 : Hid (∀ W : World, Below w.heap.size w W → Calls Tryz.prog 98 #[.int .i64 1, vb] W fun e w' => e = .returned (.tuple #[.agg (sva q1 r1), .int .i64 (e1 : Int)]) ∧ Below W.heap.size W w'))
    (E Q : Nat) (R : List Nat) (hc : (e0 ≠ 0 ∧ e1 ≠ 0 ∧ E = 5 ∧ Q = 0 ∧ R = U.none27) ∨ (e0 = 0 ∧ (e1 ≠ 0 ∨ (e1 = 0 ∧ q1 < q0)) ∧ E = 0 ∧ Q = q0 ∧ R = r0) ∨ (e1 = 0 ∧ (e0 ≠ 0 ∨ (e0 = 0 ∧ ¬ q1 < q0)) ∧ E = 0 ∧ Q = q1 ∧ R = r1)) :
    Calls Tryz.prog 56 #[va, vb] w fun e w' => e = .returned (.tuple #[.agg (sva Q R), .int .i64 (E : Int)]) ∧ Below w.heap.size w w' := by
  have hbz := run_build_sup
  have HR : Hid (Sup (w.alloc (.cells #[.int .u64 0, .int .u32 0, .int .u32 0, .int .u32 0, .int .u32 0, .int .u32 0, .int .u32 0, .int .u32 0, .int .u32 0, .int .u32 0, .int .u32 0, .int .u32 0, .int .u32 0, .int .u32 0, .int .u32 0, .int .u32 0, .int .u32 0, .int .u32 0, .int .u32 0, .int .u32 0, .int .u32 0, .int .u32 0, .int .u32 0, .int .u32 0, .int .u32 0, .int .u32 0, .int .u32 0, .int .u32 0] 36)) w.heap.size 0 U.none27) := Sup.made w 0 U.none27 rfl
  have HB : Hid (Below w.heap.size w (w.alloc (.cells #[.int .u64 0, .int .u32 0, .int .u32 0, .int .u32 0, .int .u32 0, .int .u32 0, .int .u32 0, .int .u32 0, .int .u32 0, .int .u32 0, .int .u32 0, .int .u32 0, .int .u32 0, .int .u32 0, .int .u32 0, .int .u32 0, .int .u32 0, .int .u32 0, .int .u32 0, .int .u32 0, .int .u32 0, .int .u32 0, .int .u32 0, .int .u32 0, .int .u32 0, .int .u32 0, .int .u32 0, .int .u32 0] 36))) := alb _
  go_enter Tryz.func56, Tryz.ntmps56
  go_wp2_with fail
  generalize w.alloc (.cells #[.int .u64 0, .int .u32 0, .int .u32 0, .int .u32 0, .int .u32 0, .int .u32 0, .int .u32 0, .int .u32 0, .int .u32 0, .int .u32 0, .int .u32 0, .int .u32 0, .int .u32 0, .int .u32 0, .int .u32 0, .int .u32 0, .int .u32 0, .int .u32 0, .int .u32 0, .int .u32 0, .int .u32 0, .int .u32 0, .int .u32 0, .int .u32 0, .int .u32 0, .int .u32 0, .int .u32 0, .int .u32 0] 36) = wA at *
  refine (H0.out wA HB.out).mono ?_
  rintro e w2 ⟨rfl, hb2⟩
  have HR2 := Lib.hid (HR.out.below hb2)
  have HB2 := Lib.hid (btr HB.out hb2)
  have HT2 : Hid ((w2.alloc (.cells #[.int .u64 0, .int .u32 0, .int .u32 0, .int .u32 0, .int .u32 0, .int .u32 0, .int .u32 0, .int .u32 0, .int .u32 0, .int .u32 0, .int .u32 0, .int .u32 0, .int .u32 0, .int .u32 0, .int .u32 0, .int .u32 0, .int .u32 0, .int .u32 0, .int .u32 0, .int .u32 0, .int .u32 0, .int .u32 0, .int .u32 0, .int .u32 0, .int .u32 0, .int .u32 0, .int .u32 0, .int .u32 0] 36)).there w2.heap.size 0 28) := there_new w2 _ _ 28 rfl
  clear hb2 HR HB H0
  go_wp2_with (first
    | (refine wpList_store_sup rfl (.tmp 6) (.tmp 13) rfl w2.heap.size q0 r0 rfl rfl HL0.out HT2.out ?_)
    | go_in)
  intro w3 HS3 hk3
  have hs2 := HB2.out.size
  have HB3 := Lib.hid (low_of (bal HB2.out _) (by simp; omega) hk3 hs2)
  have hrl := HR2.out.lt
  have HR3 := Lib.hid (Sup.keep (HR2.out.below (alb _)) hk3 (by omega))
  have HN3 : Hid (w.heap.size < w2.heap.size) := hrl
  clear hk3 hs2 hrl HR2 HB2 HT2
  generalize w2.heap.size = b6 at *
  go_wp2_with fail
  refine (H1.out w3 HB3.out).mono ?_
  rintro e w4 ⟨rfl, hb4⟩
  have HR4 := Lib.hid (HR3.out.below hb4)
  have HS4 := Lib.hid (HS3.out.below hb4)
  have HB4 := Lib.hid (btr HB3.out hb4)
  have HT4 : Hid ((w4.alloc (.cells #[.int .u64 0, .int .u32 0, .int .u32 0, .int .u32 0, .int .u32 0, .int .u32 0, .int .u32 0, .int .u32 0, .int .u32 0, .int .u32 0, .int .u32 0, .int .u32 0, .int .u32 0, .int .u32 0, .int .u32 0, .int .u32 0, .int .u32 0, .int .u32 0, .int .u32 0, .int .u32 0, .int .u32 0, .int .u32 0, .int .u32 0, .int .u32 0, .int .u32 0, .int .u32 0, .int .u32 0, .int .u32 0] 36)).there w4.heap.size 0 28) := there_new w4 _ _ 28 rfl
  clear hb4 HR3 HS3 HB3 H1
  go_wp2_with (first
    | (refine wpList_store_sup rfl (.tmp 8) (.tmp 18) rfl w4.heap.size q1 r1 rfl rfl HL1.out HT4.out ?_)
    | go_in)
  intro w5 HX5 hk5
  have hs4 := HB4.out.size
  have HB5 := Lib.hid (low_of (bal HB4.out _) (by simp; omega) hk5 hs4)
  have hrl := HR4.out.lt
  have hsl := HS4.out.lt
  have HR5 := Lib.hid (Sup.keep (HR4.out.below (alb _)) hk5 (by omega))
  have HS5 := Lib.hid (Sup.keep (HS4.out.below (alb _)) hk5 (by omega))
  clear hk5 hs4 hrl hsl HR4 HS4 HB4 HT4
  generalize w4.heap.size = b8 at *
  have c6 := HS5.out.cell0
  have c8 := HX5.out.cell0
  rcases hc with ⟨h1, h2, rfl, rfl, rfl⟩ | ⟨rfl, h2, rfl, rfl, rfl⟩ | ⟨rfl, h2, rfl, rfl, rfl⟩
  · have g1 : ((e0 : Int) == 0) = false := by simp; omega
    have g2 : ((e0 : Int) != 0) = true := by simp; omega
    have g3 : ((e1 : Int) == 0) = false := by simp; omega
    have g4 : ((e1 : Int) != 0) = true := by simp; omega
    clear h1 h2
    go_wp2_with (first
      | (refine wpList_store_sup rfl (.tmp 4) (.tmp 26) rfl w.heap.size 0 U.none27 rfl rfl none27_len HR5.out.2.1 ?_)
      | go_in)
    intro w9 HS hk
    go_wp2
    exact bodyPost_ret (results_sup rfl _ _ w.heap.size 0 U.none27 _ rfl rfl HS.out) rfl ⟨rfl, low_of HB5.out HB5.out.size hk (Nat.le_refl _)⟩
  · have g1 : (((e1 : Int) == 0) = false ∧ ((e1 : Int) != 0) = true) ∨ (e1 = 0 ∧ decide (q1 < Q) = true ∧ q1 < Q) := by
      rcases h2 with h2 | ⟨h2, h3⟩
      · exact .inl ⟨by simp; omega, by simp; omega⟩
      · exact .inr ⟨h2, by simp; omega, h3⟩
    clear h2
    rcases g1 with ⟨g1, g2⟩ | ⟨rfl, g1, g2⟩
    all_goals
      go_wp2_with (first
        | (refine wpList_load_sup rfl (.tmp 6) rfl b6 Q R rfl HS5.out ?_)
        | (refine wpList_store_sup rfl (.tmp 4) (.tmp 40) rfl w.heap.size Q R rfl rfl HL0.out HR5.out.2.1 ?_)
        | go_in)
      intro w9 HS hk
      go_wp2
      exact bodyPost_ret (results_sup rfl _ _ w.heap.size Q R _ rfl rfl HS.out) rfl ⟨rfl, low_of HB5.out HB5.out.size hk (Nat.le_refl _)⟩
  · have g1 : (((e0 : Int) == 0) = false ∧ ((e0 : Int) != 0) = true) ∨ (e0 = 0 ∧ decide (Q < q0) = false ∧ ¬ Q < q0) := by
      rcases h2 with h2 | ⟨h2, h3⟩
      · exact .inl ⟨by simp; omega, by simp; omega⟩
      · exact .inr ⟨h2, by simp; omega, h3⟩
    clear h2
    rcases g1 with ⟨g1, g2⟩ | ⟨rfl, g1, g2⟩
    all_goals
      go_wp2_with (first
        | (refine wpList_load_sup rfl (.tmp 8) rfl b8 Q R rfl HX5.out ?_)
        | (refine wpList_store_sup rfl (.tmp 4) (.tmp 41) rfl w.heap.size Q R rfl rfl HL1.out HR5.out.2.1 ?_)
        | go_in)
      intro w9 HS hk
      go_wp2
      exact bodyPost_ret (results_sup rfl _ _ w.heap.size Q R _ rfl rfl HS.out) rfl ⟨rfl, low_of HB5.out HB5.out.size hk (Nat.le_refl _)⟩
theorem newest_any (va vb : Value) (a b : List UInt8) (w : World) (ha : Byts w va a) (hb : Byts w vb b) (hT : Tab w) :
    Calls Tryz.prog 56 #[va, vb] w fun e w' => e = .returned (.tuple #[.agg (sva (U.newQ a b) (U.newR a b)), .int .i64 ((U.newE a b : Nat) : Int)]) ∧ Below w.heap.size w w' := by
  refine newest_core (U.readE 0 a) (U.readE 1 b) (U.readQ 0 a) (U.readQ 1 b) (U.readR 0 a) (U.readR 1 b) va vb w (U.readR_length _ _) (U.readR_length _ _) (U.readQ_lt _ _) (U.readQ_lt _ _)
    (fun W h => read_any 0 va a W (ha.below h) (hT.below h)) (fun W h => read_any 1 vb b W (hb.below h) (hT.below h)) _ _ _ (U.new_cases a b)
end Go.Proofs.YtlcnefeikejcaaaGreatDoor
namespace Go.Proofs.YtlcnefeikejcaaaGreatDoor
open Go.RowKit Go.Sort Go.Maps
open D (St)
set_option maxRecDepth 100000
theorem rlist_ok {d : St} : ∀ (f : Nat) (n : Int) (P N : List Int) (y : List Int × List Int), rlist d f n P N = some y → (∀ x ∈ P, 2 ≤ x ∧ x < (d.safe.length : Int)) → (∀ x ∈ y.1, 2 ≤ x ∧ x < (d.safe.length : Int)) ∧ y.1.length + 1 ≤ P.length + f
  | 0, n, P, N, y, h, _ => by simp [rlist] at h
  | f + 1, n, P, N, y, h, hP => by
    unfold rlist at h
    split at h
    · simp only [Option.some.injEq] at h
      subst h
      exact ⟨hP, by show P.length + 1 ≤ _; omega⟩
    · split at h
      · simp at h
      · rename_i h1
        split at h
        · simp at h
        · rename_i z l hz
          obtain ⟨a1, _, _, _, _⟩ := rpart_some hz
          have h2 : ¬ n < 2 := fun e => h1 (.inl e)
          have ih := rlist_ok f z (P ++ [n]) (N ++ l) y h (fun x hx => by
            rcases List.mem_append.1 hx with e | e
            · exact hP x e
            · rw [List.mem_singleton.1 e]
              omega)
          refine ⟨ih.1, ?_⟩
          have h3 := ih.2
          simp only [List.length_append, List.length_singleton] at h3
          omega
theorem rl_ok {d : St} {r : List Nat} {y : List Int × List Int} (h : rl d r = some y) : rlist d (d.safe.length + 1) ((r.getD 1 0 : Nat) : Int) [] [] = some y ∧ rgood r y = true := by
  unfold rl rchk at h
  split at h
  · simp at h
  · rename_i y0 e
    split at h
    · rename_i hg
      simp only [Option.some.injEq] at h
      subst h
      exact ⟨e, hg⟩
    · simp at h
def popE (d : St) : Nat := if d.down = true then 7 else if U.newE (readB d 0) (readB d 1) ≠ 0 then 5 else if (U.newR (readB d 0) (readB d 1)).getD 0 0 ≠ d.safe.length then 2 else if (rl d (U.newR (readB d 0) (readB d 1))).isSome = true then 0 else 2
def popS (d : St) : Pm := ⟨U.newQ (readB d 0) (readB d 1), U.newR (readB d 0) (readB d 1), ((rl d (U.newR (readB d 0) (readB d 1))).getD ([], [])).1, ((rl d (U.newR (readB d 0) (readB d 1))).getD ([], [])).2,
  (U.newR (readB d 0) (readB d 1)).drop 3, ⟨((rl d (U.newR (readB d 0) (readB d 1))).getD ([], [])).2, [], []⟩, 0 + 1, false⟩
theorem popen_ok {d : St} {q : Nat} {r : List Nat} (hq : q < 18446744073709551616) (hr : r.length = 27) (hlt : ∀ x ∈ r, x < 4294967296) (hB : d.safe.length ≤ 4096) (h0 : r.getD 0 0 = d.safe.length) {P N : List Int} (h : rl d r = some (P, N)) :
    POk ⟨q, r, P, N, r.drop 3, ⟨N, [], []⟩, 0 + 1, false⟩ := by
  obtain ⟨h1, h2⟩ := rl_ok h
  obtain ⟨h3, h4⟩ := rlist_ok _ _ _ _ _ h1 (by simp)
  unfold rgood at h2
  simp only [Bool.and_eq_true] at h2
  obtain ⟨_, h5, _⟩ := h2
  rw [h0] at h5
  obtain ⟨h6, h7⟩ := risB_true.1 h5
  have hN : Ris N := ⟨h6, fun x hx => by have := h7 x hx; omega⟩
  have hNp : Pgn (r.getD 0 0) N := fun x hx => by
    have := h7 x hx
    rw [h0]
    omega
  refine ⟨hq, hr, hlt, by show r.getD 0 0 ≤ 4096; omega, by simp [hr], fun x hx => hlt x (List.mem_of_mem_drop hx), fun x hx => ?_, ?_, hN, hNp, hN, hNp, Ris.nil, fun x hx => by simp at hx, Ris.nil, fun x hx => by simp [nums] at hx, fun f hf => by simp at hf, by show 0 + 1 ≤ _; omega⟩
  · show 2 ≤ x ∧ x < ((r.getD 0 0 : Nat) : Int)
    rw [h0]
    exact h3 x hx
  · show P.length ≤ 4096
    simp only [List.length_nil] at h4
    omega
def Opened (w w' : World) (col : Nat → Nat) (dp : Nat) (d : St) (pv : Value) : Prop :=
  (popE d ≠ 0 → pv = .pointer none) ∧ (popE d = 0 → ∃ p col', pv = .pointer (some ⟨p, 0, none⟩) ∧ (∀ b, b < w.heap.size → col' b = col b) ∧ Pgr w' col' p (.pointer (some ⟨dp, 0, none⟩)) (popS d))
theorem none_opened {w w' : World} {col : Nat → Nat} {dp : Nat} {d : St} (h : popE d ≠ 0) : Opened w w' col dp d (.pointer none) := ⟨fun _ => rfl, fun q => absurd q h⟩
set_option maxHeartbeats 6400000 in
theorem popen_any (w : World) (col : Nat → Nat) (dp g : Nat) (wv : Value) (d : St) (hd : Dsk w dp g wv d) (hT : Tab w) :
    Calls Tryz.prog 15 #[.pointer (some ⟨dp, 0, none⟩)] w fun e w' => ∃ pv, e = .returned (.tuple #[pv, .int .i64 ((popE d : Nat) : Int)]) ∧ Opened w w' col dp d pv ∧ Below w.heap.size w w' := by
  have hz := (zero_of_info Tryz.zero121).1
  have hz2 := (zero_of_info Tryz.zeroZ36).1
  have hzs := Lib.hid zsup_size
  have HPE : Hid (popE d = if d.down = true then 7 else if U.newE (readB d 0) (readB d 1) ≠ 0 then 5 else if (U.newR (readB d 0) (readB d 1)).getD 0 0 ≠ d.safe.length then 2 else if (rl d (U.newR (readB d 0) (readB d 1))).isSome = true then 0 else 2) := Lib.hid rfl
  have HPS : Hid (∀ P N, rl d (U.newR (readB d 0) (readB d 1)) = some (P, N) → popS d = ⟨U.newQ (readB d 0) (readB d 1), U.newR (readB d 0) (readB d 1), P, N, (U.newR (readB d 0) (readB d 1)).drop 3, ⟨N, [], []⟩, 0 + 1, false⟩) := Lib.hid (fun P N h => by unfold popS; rw [h]; rfl)
  have HOK : Hid (∀ P N, rl d (U.newR (readB d 0) (readB d 1)) = some (P, N) → (U.newR (readB d 0) (readB d 1)).getD 0 0 = d.safe.length → POk ⟨U.newQ (readB d 0) (readB d 1), U.newR (readB d 0) (readB d 1), P, N, (U.newR (readB d 0) (readB d 1)).drop 3, ⟨N, [], []⟩, 0 + 1, false⟩) :=
    Lib.hid (fun P N h h0 => popen_ok (U.newQ_lt _ _) (U.newR_length _ _) (U.newR_lt _ _) hd.ok.many h0 h)
  have HDN : Hid (Calls Tryz.prog 55 #[.pointer (some ⟨dp, 0, none⟩)] w fun e w' => e = .returned (.bool d.down) ∧ w = w') := Lib.hid ((ddown_any hd).mono (by rintro e w' ⟨h1, rfl⟩; exact ⟨h1, rfl⟩))
  have HR0 : Hid (∀ W, Below w.heap.size w W → Calls Tryz.prog 28 #[.pointer (some ⟨dp, 0, none⟩), .int .i64 0] W fun e w' => ∃ v x, e = .returned (.tuple #[v, .int .i64 x]) ∧ Byts w' v (readB d 0) ∧ Below W.heap.size W w') := fun W hW =>
    (dread_any (hd.below hW) 0).mono (by rintro e w' ⟨v, rfl, o, b⟩; exact ⟨v, _, rfl, Byts.own o, b⟩)
  have HR1 : Hid (∀ W, Below w.heap.size w W → Calls Tryz.prog 28 #[.pointer (some ⟨dp, 0, none⟩), .int .i64 1] W fun e w' => ∃ v x, e = .returned (.tuple #[v, .int .i64 x]) ∧ Byts w' v (readB d 1) ∧ Below W.heap.size W w') := fun W hW =>
    (dread_any (hd.below hW) 1).mono (by rintro e w' ⟨v, rfl, o, b⟩; exact ⟨v, _, rfl, Byts.own o, b⟩)
  have HNW : Hid (∀ W va vb, Below w.heap.size w W → Byts W va (readB d 0) → Byts W vb (readB d 1) → Calls Tryz.prog 56 #[va, vb] W fun e w' => e = .returned (.tuple #[.agg (sva (U.newQ (readB d 0) (readB d 1)) (U.newR (readB d 0) (readB d 1))), .int .i64 ((U.newE (readB d 0) (readB d 1) : Nat) : Int)]) ∧ Below W.heap.size W w') :=
    fun W va vb hW ha hb => newest_any va vb _ _ W ha hb (hT.below hW)
  have HBK : Hid (∀ W, Below w.heap.size w W → Calls Tryz.prog 57 #[.pointer (some ⟨dp, 0, none⟩)] W fun e w' => e = .returned (.int .i64 (d.safe.length : Int)) ∧ W = w') := fun W hW => (blocks_any (hd.below hW)).mono (by rintro e w' ⟨h1, rfl⟩; exact ⟨h1, rfl⟩)
  have HRL : Hid (∀ W, Below w.heap.size w W → Calls Tryz.prog 58 #[.pointer (some ⟨dp, 0, none⟩), .agg (sva (U.newQ (readB d 0) (readB d 1)) (U.newR (readB d 0) (readB d 1)))] W fun e w' => (∃ A0 n0 c0 A1 n1 c1, e = .returned (.tuple #[.agg #[.slice A0 n0 c0, .slice A1 n1 c1], .bool (rl d (U.newR (readB d 0) (readB d 1))).isSome]) ∧
      ∀ y, rl d (U.newR (readB d 0) (readB d 1)) = some y → Nums w' (.slice A0 n0 c0) y.1 ∧ Real (.slice A0 n0 c0) ∧ Nums w' (.slice A1 n1 c1) y.2 ∧ Real (.slice A1 n1 c1) ∧ (∀ b, (Value.slice A0 n0 c0).ownBlock = some b → W.heap.size ≤ b) ∧ (∀ b, (Value.slice A1 n1 c1).ownBlock = some b → W.heap.size ≤ b)) ∧ Below W.heap.size W w') :=
    fun W hW => readlist_any W dp g wv d (hd.below hW) (hT.below hW) _ _ (U.newR_length _ _) (U.newR_lt _ _)
  have HB4 : Hid (d.safe.length ≤ 4096) := Lib.hid hd.ok.many
  have HR27 := Lib.hid (U.newR_length (readB d 0) (readB d 1))
  obtain ⟨E, hE⟩ : ∃ z, z = popE d := ⟨_, rfl⟩
  rw [← hE] at HPE ⊢
  have HEP := Lib.hid hE
  clear hE hd hT
  generalize rl d (U.newR (readB d 0) (readB d 1)) = RL at *
  generalize U.newE (readB d 0) (readB d 1) = E5 at *
  generalize U.newQ (readB d 0) (readB d 1) = sq at *
  generalize U.newR (readB d 0) (readB d 1) = r at *
  generalize readB d 0 = RB0 at *
  generalize readB d 1 = RB1 at *
  generalize d.safe.length = B at *
  generalize d.down = dn at *
  obtain ⟨n0, hn0⟩ : ∃ z, z = r.getD 0 0 := ⟨_, rfl⟩
  rw [← hn0] at HPE HOK
  have HN0 := Lib.hid hn0
  clear hn0
  generalize zsup = Z at *
  go_enter Tryz.func15, Tryz.ntmps15
  go_wp2_with fail
  refine HDN.out.mono ?_
  rintro e w1 ⟨rfl, rfl⟩
  cases dn with
  | true =>
    have H7 : Hid (E = 7) := Lib.hid (by rw [HPE.out]; rfl)
    go_wp2
    go_ret2
    exact ⟨_, by rw [H7.out]; rfl, none_opened (by rw [← HEP.out, H7.out]; decide), Below.refl _ _⟩
  | false =>
    go_wp2_with fail
    refine (HR0.out _ (Below.refl _ _)).mono ?_
    rintro e w2 ⟨va, x0, rfl, y2, b2⟩
    have B2 := Lib.hid b2
    have Y2 := Lib.hid y2
    clear b2 y2
    go_wp2_with fail
    refine (HR1.out _ B2.out).mono ?_
    rintro e w3 ⟨vb, x1, rfl, y3, b3⟩
    have B3 := Lib.hid (btr B2.out b3)
    have Y3 := Lib.hid y3
    have Y23 := Lib.hid (Y2.out.below b3)
    clear b3 y3 Y2
    go_wp2_with fail
    refine (HNW.out _ va vb B3.out Y23.out Y3.out).mono ?_
    rintro e w4 ⟨rfl, b4⟩
    have B4 := Lib.hid (btr B3.out b4)
    clear b4
    go_wp2_with (refine wpList_store_sup rfl (.tmp 8) (.tmp 29) rfl w4.heap.size sq r rfl rfl HR27.out (there_newN w4 Z 36 28 hzs.out) ?_)
    intro w5 HS5 k5
    have s4 := B4.out.size
    have al4 : (w4.alloc (.cells Z 36)).heap.size = w4.heap.size + 1 := by simp
    have B5 : Hid (Below w.heap.size w w5) := (btr B4.out (alb _)).trans (k5.below (by omega) (fun b hb => by subst hb; exact s4))
    clear s4 al4 k5
    by_cases hE5 : E5 = 0
    · subst hE5
      have HP2 : Hid (E = if n0 ≠ B then 2 else if RL.isSome = true then 0 else 2) := Lib.hid (by rw [HPE.out]; simp)
      go_wp2_with fail
      have HSu : Hid (Sup w5.drew w4.heap.size sq r) := HS5.out.keep (F := fun _ => False) (Keep.refl _ _).drew (fun q => q)
      have BU : Hid (Below w.heap.size w w5.drew) := B5.out.drew
      refine lin_start 6 rfl (by kernel_rfl) ?_
      generalize w5.drew = u at *
      have CB : Hid (u.cell? ⟨w4.heap.size, 1, none⟩ = some (.int .u32 ((n0 : Nat) : Int))) := Lib.hid (by rw [HN0.out]; exact HSu.out.cell 0 (by omega))
      have HWR : Hid (IntKind.u32.wrap ((B : Nat) : Int) = ((B : Nat) : Int)) := Lib.hid (by rw [IntKind.wrap_u32]; have := HB4.out; omega)
      refine lin_take 0 33 (v := ?_) rfl rfl (by kernel_rfl) (by kernel_rfl) (by kernel_rfl) (fun _ _ _ _ _ h => h) (by rfl) (fun W hW => ?_) ?_
      rotate_left
      · go_simp; try rfl
      try simp only [Act.put, List.setIfInBounds_toArray, List.set_cons_zero, List.set_cons_succ]
      refine lin_take 1 34 (v := ?_) rfl rfl (by kernel_rfl) (by kernel_rfl) (by kernel_rfl) (fun _ _ _ _ _ h => h) (by rfl) (fun W hW => ?_) ?_
      rotate_left
      · have q := kept CB.out hW; go_simp; try rfl
      try simp only [Act.put, List.setIfInBounds_toArray, List.set_cons_zero, List.set_cons_succ]
      refine lin_take 2 35 (v := ?_) rfl rfl (by kernel_rfl) (by kernel_rfl) (by kernel_rfl) (fun _ _ _ _ _ h => h) (by rfl) (fun W hW => ?_) ?_
      rotate_left
      · go_simp; try rfl
      try simp only [Act.put, List.setIfInBounds_toArray, List.set_cons_zero, List.set_cons_succ]
      refine lin_step 3 rfl (by kernel_rfl) (fun K hK => ?_)
      go_simp
      refine (HBK.out _ BU.out).mono ?_
      rintro e w6 ⟨rfl, rfl⟩
      refine hK.out _ _ (Below.refl _ _) ?_
      clear hK K
      try simp only [Act.put, List.setIfInBounds_toArray, List.set_cons_zero, List.set_cons_succ]
      refine lin_take 4 37 (v := ?_) rfl rfl (by kernel_rfl) (by kernel_rfl) (by kernel_rfl) (fun _ _ _ _ _ h => h) (by rfl) (fun W hW => ?_) ?_
      rotate_left
      · have q := HWR.out; go_simp; try rfl
      try simp only [Act.put, List.setIfInBounds_toArray, List.set_cons_zero, List.set_cons_succ]
      refine lin_take 5 38 (v := ?_) rfl rfl (by kernel_rfl) (by kernel_rfl) (by kernel_rfl) (fun _ _ _ _ _ h => h) (by rfl) (fun W hW => ?_) ?_
      rotate_left
      · go_simp; try rfl
      try simp only [Act.put, List.setIfInBounds_toArray, List.set_cons_zero, List.set_cons_succ]
      refine lin_done (by kernel_rfl) ?_
      by_cases hnB : n0 = B
      · have HNB := Lib.hid hnB
        have HP3 : Hid (E = if RL.isSome = true then 0 else 2) := Lib.hid (by rw [HP2.out, if_neg (by simpa using hnB)])
        subst hnB
        go_wp2_with (first
          | (refine wpList_store_list rfl (.tmp 10) (.tmp 43) rfl w7.heap.size A0 A1 m0 c0 m1 c1 rfl rfl (there_newN w7 zlist 121 2 rfl) ?_)
          | (go_at_call 58; refine (HRL.out _ BU.out).mono ?_; rintro e w7 ⟨⟨A0, m0, c0, A1, m1, c1, rfl, hy⟩, b7⟩; have HY := Lib.hid hy; have B7 := Lib.hid b7; clear hy b7)
          | (refine wpList_load_sup rfl (.tmp 8) rfl w4.heap.size sq r rfl HSu.out ?_))
        intro w8 HW8 k8
        have s4 := HSu.out.lt
        have s7 := B7.out.size
        have s1 := BU.out.size
        have al7 : (w7.alloc (.cells zlist 121)).heap.size = w7.heap.size + 1 := by simp
        have s8 := k8.size
        have B8 : Hid (Below w.heap.size w w8) := (btr (btr BU.out B7.out) (alb _)).trans (k8.below (by omega) (fun b hb => by subst hb; omega))
        have HS8 : Hid (Sup w8 w4.heap.size sq r) := ((HSu.out.below B7.out).below (alb _)).keep k8 (by omega)
        cases RL with
        | none =>
          have H2 : Hid (E = 2) := Lib.hid (by rw [HP3.out]; rfl)
          clear s4 s7 s1 al7 s8
          go_wp2
          go_ret2
          exact ⟨_, by rw [H2.out]; rfl, none_opened (by rw [← HEP.out, H2.out]; decide), B8.out⟩
        | some y =>
          obtain ⟨P, N⟩ := y
          have H0 : Hid (E = 0) := Lib.hid (by rw [HP3.out]; rfl)
          obtain ⟨V0, X0, V1, X1, O0, O1⟩ := HY.out _ rfl
          have lt0 : 0 < P.length → ∀ b, (Value.slice A0 m0 c0).ownBlock = some b → b < w7.heap.size := fun h0 b hb => nlt V0 h0 b hb
          have lt1 : 0 < N.length → ∀ b, (Value.slice A1 m1 c1).ownBlock = some b → b < w7.heap.size := fun h0 b hb => nlt V1 h0 b hb
          have N0 : Nums w8 (.slice A0 m0 c0) P := nkeep (V0.below (alb _)) k8 (fun h0 b hb e => by have := lt0 h0 b hb; omega)
          have N1 : Nums w8 (.slice A1 m1 c1) N := nkeep (V1.below (alb _)) k8 (fun h0 b hb e => by have := lt1 h0 b hb; omega)
          obtain ⟨cc, hcc⟩ : ∃ cc : Nat → Nat, cc = (fun b => if b < w.heap.size then col b else if b = w8.heap.size then 1 else 2) := ⟨_, rfl⟩
          have cold : Hid (∀ b, b < w.heap.size → cc b = col b) := fun b hb => by rw [hcc]; exact if_pos hb
          have cp : cc w8.heap.size = 1 := by
            rw [hcc]
            simp only
            rw [if_neg (by omega), if_pos trivial]
          have c2 : 0 < P.length → ∀ b, (Value.slice A0 m0 c0).ownBlock = some b → cc b = 2 := fun h0 b hb => by
            have h1 := lt0 h0 b hb
            have h2 := O0 b hb
            rw [hcc]
            simp only
            rw [if_neg (by omega), if_neg (by omega)]
          have BG := Lib.hid (begin_any (w8.alloc (.cells (pnew dp) 129)) cc w8.heap.size _ 0 U.none27 (.slice none 0 0) zst.toList zst.toList 0 false (pgc_new w8 dp) cp sq r (.slice A0 m0 c0) (.slice A1 m1 c1) P N (N0.below (alb _)) X0 c2 (N1.below (alb _)) (fun h0 b hb => by have := lt1 h0 b hb; omega) (HOK.out P N rfl trivial))
          have HLB : Hid ((w8.alloc (.cells (pnew dp) 129)).rangeAt w7.heap.size 0 [.slice A0 m0 c0, .slice A1 m1 c1]) := World.rangeAt_alloc HW8.out _
          have HS9 : Hid (Sup (w8.alloc (.cells (pnew dp) 129)) w4.heap.size sq r) := HS8.out.below (alb _)
          have HB9 : Hid (Below w.heap.size w (w8.alloc (.cells (pnew dp) 129))) := btr B8.out (alb _)
          have HL8 := Lib.hid B8.out.size
          have hb2 := run_build_pager dp
          clear s4 s7 s1 al7 s8 V0 X0 V1 X1 O0 O1 lt0 lt1 N0 N1 hcc cp c2 k8
          go_wp2_with (first
            | (go_at_call 59; refine BG.out.mono ?_; rintro e w12 ⟨rfl, col', ag, P12, K12⟩)
            | (refine wpList_load_mid rfl 121 (.tmp 10) rfl w7.heap.size 0 rfl [.slice A0 m0 c0, .slice A1 m1 c1] _ HLB.out Tryz.underlying121 rfl Tryz.sizeL ?_)
            | (refine wpList_load_sup rfl (.tmp 8) rfl w4.heap.size sq r rfl HS9.out ?_))
          go_ret2
          have s9 := HB9.out.size
          have hl8 := HL8.out
          refine ⟨_, by rw [H0.out]; rfl, ⟨fun h => absurd (by rw [← HEP.out, H0.out]) h, fun _ => ⟨w8.heap.size, col', rfl, fun b hb => (ag b (by omega)).trans (cold.out b hb), ?_⟩⟩, HB9.out.trans (K12.below s9 (fun b hb => by omega))⟩
          rw [HPS.out P N rfl]
          exact P12
      · have H2 : Hid (E = 2) := Lib.hid (by rw [HP2.out, if_pos hnB])
        have q1 : (((n0 : Nat) : Int) == ((B : Nat) : Int)) = false := beq_eq_false_iff_ne.2 (by omega)
        have q2 : (((n0 : Nat) : Int) != ((B : Nat) : Int)) = true := bne_iff_ne.2 (by omega)
        go_wp2
        go_ret2
        exact ⟨_, by rw [H2.out]; rfl, none_opened (by rw [← HEP.out, H2.out]; decide), BU.out⟩
    · have H5 : Hid (E = 5) := Lib.hid (by rw [HPE.out]; simp [hE5])
      have q1 : (((E5 : Nat) : Int) == 0) = false := by simpa using hE5
      have q2 : (((E5 : Nat) : Int) != 0) = true := by simpa using hE5
      go_wp2
      go_ret2
      exact ⟨_, by rw [H5.out]; rfl, none_opened (by rw [← HEP.out, H5.out]; decide), B5.out⟩
end Go.Proofs.YtlcnefeikejcaaaGreatDoor
namespace Go.Proofs.YtlcnefeikejcaaaGreatDoor
open D (St)
theorem rpart_page {d : St} {n : Nat} {b : List UInt8} (hE : readE d (n : Int) = 0) (hB : readB d (n : Int) = G.page n 2 b) (hl : b.length ≤ 500) (hp : L.parseE b = 0) : rpart d n = some (L.parseN b, L.parseL b) := by
  obtain ⟨k1, k2⟩ := G.page_back n 2 b hl
  unfold rpart
  rw [if_neg (by rw [hE]; simp), hB, k2, k1, G.page_open_self n 2 b hl, if_neg (by simp), if_neg (by rw [hp]; simp)]
theorem rlist_chain {d : St} {l p : List Int} (h : L.bodiesE l p = 0) (hl : ∀ x ∈ l, 0 ≤ x ∧ x < 4294967296) (hp : ∀ x ∈ p, 0 ≤ x ∧ x < 4294967296) (hn : p.Nodup)
    (hE : ∀ i, i < p.length → readE d (p.getD i 0) = 0) (hB : ∀ i, i < p.length → readB d (p.getD i 0) = G.page (p.getD i 0).toNat 2 (L.bodyAt l p i)) :
    ∀ (k i f : Nat), i + k = p.length → k + 1 ≤ f → rlist d f (p.getD i 0) (p.take i) (l.take (123 * i)) = some (p, l)
  | 0, i, f, h1, h2 => by
    obtain ⟨h3, h4, h5⟩ := L.bodiesE_zero h
    obtain ⟨g, rfl⟩ : ∃ g, f = g + 1 := ⟨f - 1, by omega⟩
    have e : p.getD i 0 = 0 := by
      rw [List.getD_eq_getElem?_getD, List.getElem?_eq_none (by omega)]
      rfl
    rw [rlist, if_pos e, List.take_of_length_le (by omega), List.take_of_length_le (by omega)]
  | k + 1, i, f, h1, h2 => by
    obtain ⟨h3, h4, h5⟩ := L.bodiesE_zero h
    obtain ⟨g, rfl⟩ : ∃ g, f = g + 1 := ⟨f - 1, by omega⟩
    have hi : i < p.length := by omega
    have e : p.getD i 0 = p[i] := by
      rw [List.getD_eq_getElem?_getD, List.getElem?_eq_getElem hi]
      rfl
    have hm : p.getD i 0 ∈ p := by
      rw [e]
      exact List.getElem_mem hi
    have hge := L.onD_ge h4 hm
    have hni : p.getD i 0 ∉ p.take i := fun q => by
      have hq : (p.take i ++ p.drop i).Pairwise (· ≠ ·) := by
        rw [List.take_append_drop]
        exact hn
      refine (List.pairwise_append.1 hq).2.2 _ q _ ?_ rfl
      rw [List.drop_eq_getElem_cons hi, e]
      exact List.mem_cons_self
    obtain ⟨b1, b2, b3⟩ := L.back h hl hp i
    have hc : (((p.getD i 0).toNat : Nat) : Int) = p.getD i 0 := Int.toNat_of_nonneg (by omega)
    have hr : rpart d (p.getD i 0).toNat = some (L.nextOf p i, L.part l i) := by
      have := rpart_page (d := d) (n := (p.getD i 0).toNat) (b := L.bodyAt l p i) (by rw [hc]; exact hE i hi) (by rw [hc]; exact hB i hi) (by
        show (L.bodyL _ _).length ≤ 500
        rw [L.bodyL_length]
        have := L.part_le l i
        omega) b1
      rw [b2, b3] at this
      exact this
    have ih := rlist_chain h hl hp hn hE hB k (i + 1) g (by omega) (by omega)
    rw [← L.part_take, List.take_succ_eq_append_getElem hi, ← e] at ih
    rw [rlist, if_neg (by omega), if_neg (by
      rintro (q | q)
      · omega
      · exact hni q), hr]
    exact ih
theorem lay_lk (n : Nat) : ∀ (ss : List (List UInt8)) (l : List (Nat × List UInt8)), n < ss.length → (D.lay ss l).getD n [] = D.lk n (ss.getD n []) l
  | ss, [], _ => rfl
  | ss, x :: r, h => by
    have e : (ss.set x.1 x.2).getD n [] = if x.1 = n then x.2 else ss.getD n [] := by
      rw [List.getD_eq_getElem?_getD, List.getD_eq_getElem?_getD, List.getElem?_set]
      by_cases q : x.1 = n
      · rw [if_pos q, if_pos q, if_pos (by omega)]
        rfl
      · rw [if_neg q, if_neg q]
    simp only [D.lay, D.lk]
    rw [lay_lk n (ss.set x.1 x.2) r (by simpa using h), e]
theorem lk_append (n : Nat) : ∀ (b : List UInt8) (l m : List (Nat × List UInt8)), D.lk n b (l ++ m) = D.lk n (D.lk n b l) m
  | _, [], _ => rfl
  | b, x :: r, m => by
    simp only [List.cons_append, D.lk]
    exact lk_append n _ r m
theorem lk_keep (n : Nat) (b : List UInt8) : ∀ (l : List (Nat × List UInt8)), (∀ y ∈ l, y.1 = n → y.2 = b) → D.lk n b l = b
  | [], _ => rfl
  | x :: r, h => by
    have e : (if x.1 = n then x.2 else b) = b := by
      split
      · rename_i q
        exact h x (by simp) q
      · rfl
    simp only [D.lk]
    rw [e]
    exact lk_keep n b r (fun y hy => h y (by simp [hy]))
theorem lk_once (n : Nat) (b : List UInt8) : ∀ (l : List (Nat × List UInt8)) (c : List UInt8), (n, b) ∈ l → (∀ y ∈ l, y.1 = n → y.2 = b) → D.lk n c l = b
  | [], _, hm, _ => by simp at hm
  | x :: r, c, hm, h => by
    simp only [D.lk]
    rcases List.mem_cons.1 hm with q | q
    · subst q
      rw [if_pos rfl]
      exact lk_keep n b r (fun y hy => h y (by simp [hy]))
    · exact lk_once n b r _ q (fun y hy => h y (by simp [hy]))
theorem act_up {s : St} (h : s.fuse ≠ 0) : (D.act s).down = s.down := by
  unfold D.act
  rw [if_neg h]
  split <;> rfl
theorem ans_zero {s : St} (h : D.ans s = 0) : s.fuse ≠ 0 := fun e => by
  unfold D.ans at h
  rw [if_pos e] at h
  omega
theorem bad_zero {s : St} {n : Int} {k : Nat} (h : D.bad s n k = 0) : s.down = false ∧ 0 ≤ n ∧ n < (s.safe.length : Int) ∧ k = 512 := by
  unfold D.bad at h
  split at h
  · omega
  · rename_i h1
    split at h
    · omega
    · split at h
      · omega
      · exact ⟨by simpa using h1, by omega, by omega, by omega⟩
theorem write_zero {d : St} {n : Int} {b : List UInt8} (h : D.writeE d n b = 0) : d.down = false ∧ 0 ≤ n ∧ n < (d.safe.length : Int) ∧ b.length = 512 ∧ (D.write d n b).safe = d.safe ∧ (D.write d n b).waits = d.waits ++ [(n.toNat, b)] ∧ (D.write d n b).down = false := by
  unfold D.writeE at h
  split at h
  · rename_i hb
    obtain ⟨h1, h2, h3, h4⟩ := bad_zero hb
    have hf := ans_zero h
    unfold D.write
    rw [if_pos hb, D.act_safe, D.act_waits, act_up (s := D.put d n.toNat b) hf]
    exact ⟨h1, h2, h3, h4, rfl, rfl, h1⟩
  · rename_i hb
    exact absurd h hb
theorem wrL_zero : ∀ (J : List (Nat × List UInt8)) (d : St), (wrL d J).2 = 0 → (wrL d J).1.safe = d.safe ∧ (wrL d J).1.waits = d.waits ++ J ∧ (wrL d J).1.down = d.down ∧ ∀ x ∈ J, x.1 < d.safe.length
  | [], d, _ => ⟨rfl, by simp [wrL], rfl, by simp⟩
  | x :: r, d, h => by
    simp only [wrL] at h ⊢
    split at h
    · rename_i h1
      obtain ⟨w1, w2, w3, w4, w5, w6, w7⟩ := write_zero h1
      obtain ⟨i1, i2, i3, i4⟩ := wrL_zero r _ h
      rw [if_pos h1]
      refine ⟨i1.trans w5, ?_, i3.trans (w7.trans w1.symm), fun y hy => ?_⟩
      · rw [i2, w6]
        simp
      · rcases List.mem_cons.1 hy with q | q
        · subst q
          omega
        · have := i4 y q
          rw [w5] at this
          exact this
    · rename_i h1
      exact absurd h h1
theorem sync_zero {d : St} (h : D.syncE d = 0) : d.down = false ∧ (D.sync d).safe = D.lay d.safe d.waits ∧ (D.sync d).waits = [] ∧ (D.sync d).down = false := by
  unfold D.syncE at h
  split at h
  · omega
  · rename_i h1
    have hf := ans_zero h
    have hd : d.down = false := by simpa using h1
    unfold D.sync
    rw [if_neg h1, if_neg hf]
    exact ⟨hd, rfl, rfl, by rw [← hd]; exact act_up hf⟩
theorem comm_zero {d : St} {J : List (Nat × List UInt8)} {m : Nat} {B : List UInt8} (h : (comm d J m B).2 = 0) :
    d.down = false ∧ (comm d J m B).1.down = false ∧ (comm d J m B).1.safe = (D.lay d.safe (d.waits ++ J)).set m B ∧ (comm d J m B).1.waits = [] ∧ m < d.safe.length ∧ ∀ x ∈ J, x.1 < d.safe.length := by
  unfold comm at h ⊢
  split at h
  · rename_i h1
    exact absurd h h1
  · rename_i h1
    rw [if_neg h1]
    split at h
    · rename_i h2
      exact absurd h h2
    · rename_i h2
      rw [if_neg h2]
      split at h
      · rename_i h3
        exact absurd h h3
      · rename_i h3
        rw [if_neg h3]
        obtain ⟨a1, a2, a3, a4⟩ := wrL_zero J d (by omega)
        obtain ⟨b1, b2, b3, b4⟩ := sync_zero (d := (wrL d J).1) (by omega)
        obtain ⟨c1, c2, c3, c4, c5, c6, c7⟩ := write_zero (d := D.sync (wrL d J).1) (n := (m : Int)) (b := B) (by omega)
        obtain ⟨e1, e2, e3, e4⟩ := sync_zero (d := D.write (D.sync (wrL d J).1) (m : Int) B) h
        have hl : (D.sync (wrL d J).1).safe.length = d.safe.length := by rw [b2, D.lay_length, a1]
        refine ⟨a3 ▸ b1, e4, ?_, e3, by omega, a4⟩
        rw [e2, c5, c6, b3, b2, a1, a2]
        simp [D.lay]
theorem comm_read {d : St} {J : List (Nat × List UInt8)} {m : Nat} {B : List UInt8} (h : (comm d J m B).2 = 0) (n : Nat) (hn : n < d.safe.length) :
    readE (comm d J m B).1 (n : Int) = 0 ∧ readB (comm d J m B).1 (n : Int) = if n = m then B else D.lk n (D.look d n) J := by
  obtain ⟨_, h1, h2, h3, h4, _⟩ := comm_zero h
  have hl : (comm d J m B).1.safe.length = d.safe.length := by rw [h2, List.length_set, D.lay_length]
  have hh : hasB (comm d J m B).1 (n : Int) = true := by
    unfold hasB
    simp
    omega
  unfold readE readB
  rw [h1, hh]
  refine ⟨rfl, ?_⟩
  show D.look (comm d J m B).1 n = _
  unfold D.look
  rw [h2, h3]
  show ((D.lay d.safe (d.waits ++ J)).set m B).getD n [] = _
  rw [List.getD_eq_getElem?_getD, List.getElem?_set]
  by_cases q : n = m
  · rw [if_pos q, if_pos q.symm, if_pos (by rw [D.lay_length]; omega)]
    rfl
  · rw [if_neg q, if_neg (fun z => q z.symm), ← List.getD_eq_getElem?_getD, lay_lk n _ _ hn, lk_append]
end Go.Proofs.YtlcnefeikejcaaaGreatDoor
namespace Go.Proofs.YtlcnefeikejcaaaGreatDoor
open D (St)
theorem lris_of : ∀ (l : List Int) (a : Int), l.Pairwise (· < ·) → (∀ x ∈ l, a < x) → L.ris a l = true
  | [], _, _, _ => rfl
  | y :: r, a, h, hr => by
    obtain ⟨h1, h2⟩ := List.pairwise_cons.1 h
    simp only [L.ris, Bool.and_eq_true, decide_eq_true_eq]
    exact ⟨hr y (by simp), lris_of r y h2 h1⟩
theorem names_bodies {s : Pm} (ok : POk s) (hj : Dj s) (hn : s.need ≤ s.x.free.length) : L.bodiesE s.names s.pages = 0 := by
  have hp := pages_pgn ok
  have hl : s.names.length = (s.x.free.length - s.need) + (s.lists.length + s.x.defd.length) := by
    rw [Pm.names, sortP_length (hj.nodup ok _)]
    simp
  have hpl : s.pages.length = s.need := by
    simp only [Pm.pages, List.length_take]
    omega
  have e := need_eq (s := s)
  have f1 := ok.freep.len ok.free ok.bl
  have f2 := ok.llen
  have f3 := ok.defdp.len ok.defd ok.bl
  have hz := L.need_law ((s.x.free.length + (s.lists.length + s.x.defd.length) : Nat) : Int) (by omega)
  rw [e] at hz
  unfold L.bodiesE
  refine if_pos ⟨lris_of _ _ (names_ris ok).up (fun x hx => by have := names_pgn ok x hx; omega), ?_, ?_⟩
  · unfold L.onD
    rw [List.all_eq_true]
    intro x hx
    have := (hp x hx).1
    simpa using this
  · omega
theorem pages_up {s : Pm} (ok : POk s) : s.pages.Pairwise (· < ·) := ok.free.up.sublist (List.take_sublist _ _)
theorem pages_nodup {s : Pm} (ok : POk s) : s.pages.Nodup := (pages_up ok).imp (fun h => by omega)
theorem pages_getD {s : Pm} (ok : POk s) {i : Nat} (hi : i < s.pages.length) : s.pages.getD i 0 = s.pages[i] ∧ s.pages.getD i 0 ∈ s.x.free ∧ 2 ≤ s.pages.getD i 0 ∧ s.pages.getD i 0 < ((s.r.getD 0 0 : Nat) : Int) := by
  have e : s.pages.getD i 0 = s.pages[i] := by
    rw [List.getD_eq_getElem?_getD, List.getElem?_eq_getElem hi]
    rfl
  have hm : s.pages.getD i 0 ∈ s.pages := by
    rw [e]
    exact List.getElem_mem hi
  have := pages_pgn ok _ hm
  exact ⟨e, List.mem_of_mem_take hm, this.1, this.2⟩
theorem jobs_lists {s : Pm} (h : L.bodiesE s.names s.pages = 0) : jobsL s.pages (L.bodiesL s.names s.pages) = (List.range s.pages.length).map fun i => ((s.pages.getD i 0).toNat, G.page (s.pages.getD i 0).toNat 2 (L.bodyAt s.names s.pages i)) := by
  unfold jobsL
  rw [L.bodiesL_ok h, List.length_map, List.length_range]
  refine List.map_congr_left (fun i hi => ?_)
  have hi := List.mem_range.1 hi
  have e : ((List.range s.pages.length).map (L.bodyAt s.names s.pages)).getD i [] = L.bodyAt s.names s.pages i := by simp [List.getD, hi]
  rw [e]
  unfold G.sealL
  rw [if_pos]
  show (L.bodyL _ _).length ≤ 500
  rw [L.bodyL_length]
  have := L.part_le s.names i
  omega
theorem jobs_page {s : Pm} (ok : POk s) (hj : Dj s) (h : L.bodiesE s.names s.pages = 0) {i : Nat} (hi : i < s.pages.length) :
    ((s.pages.getD i 0).toNat, G.page (s.pages.getD i 0).toNat 2 (L.bodyAt s.names s.pages i)) ∈ s.jobs ∧ ∀ y ∈ s.jobs, y.1 = (s.pages.getD i 0).toNat → y.2 = G.page (s.pages.getD i 0).toNat 2 (L.bodyAt s.names s.pages i) := by
  obtain ⟨e1, e2, e3, e4⟩ := pages_getD ok hi
  unfold Pm.jobs
  rw [jobs_lists h]
  refine ⟨List.mem_append.2 (.inr (List.mem_map.2 ⟨i, List.mem_range.2 hi, rfl⟩)), fun y hy hyn => ?_⟩
  rcases List.mem_append.1 hy with q | q
  · unfold jobsF at q
    obtain ⟨f, hf, rfl⟩ := List.mem_map.1 q
    have hfn : f.n ∈ nums s.x.fresh := List.mem_map.2 ⟨f, hf, rfl⟩
    have h2 := ok.freshp f.n hfn
    have h3 : f.n = s.pages.getD i 0 := by
      have : f.n.toNat = (s.pages.getD i 0).toNat := hyn
      omega
    rw [h3] at hfn
    exact absurd hfn (hj.fl _ e2).2.2
  · obtain ⟨j, hj2, rfl⟩ := List.mem_map.1 q
    have hj3 := List.mem_range.1 hj2
    obtain ⟨g1, g2, g3, g4⟩ := pages_getD ok hj3
    have h3 : s.pages.getD j 0 = s.pages.getD i 0 := by
      have : (s.pages.getD j 0).toNat = (s.pages.getD i 0).toNat := hyn
      omega
    have h4 : j = i := by
      have hp := List.pairwise_iff_getElem.1 (pages_up ok)
      rw [g1, e1] at h3
      rcases Nat.lt_trichotomy j i with z | z | z
      · have := hp j i hj3 hi z; omega
      · exact z
      · have := hp i j hi hj3 z; omega
    subst h4
    rfl
theorem jobs_ge {s : Pm} (ok : POk s) (h : L.bodiesE s.names s.pages = 0) : ∀ y ∈ s.jobs, 2 ≤ y.1 := by
  unfold Pm.jobs
  rw [jobs_lists h]
  intro y hy
  rcases List.mem_append.1 hy with q | q
  · unfold jobsF at q
    obtain ⟨f, hf, rfl⟩ := List.mem_map.1 q
    have h2 := ok.freshp f.n (List.mem_map.2 ⟨f, hf, rfl⟩)
    show 2 ≤ f.n.toNat
    omega
  · obtain ⟨j, hj2, rfl⟩ := List.mem_map.1 q
    obtain ⟨g1, g2, g3, g4⟩ := pages_getD ok (List.mem_range.1 hj2)
    show 2 ≤ (s.pages.getD j 0).toNat
    omega
theorem comm_list {s : Pm} {d : St} (ok : POk s) (hj : Dj s) (hn : s.need ≤ s.x.free.length) (hB : s.r.getD 0 0 = d.safe.length) (h : (s.comm d).2 = 0) : rl (s.comm d).1 s.r1 = some (s.pages, s.names) := by
  have hb := names_bodies ok hj hn
  have hbl := ok.bl
  have hsl : (s.comm d).1.safe.length = d.safe.length := by
    obtain ⟨_, _, h3, _⟩ := comm_zero h
    show (comm d s.jobs (s.q1 % 2) (U.wr s.q1 s.r1)).1.safe.length = _
    rw [h3, List.length_set, D.lay_length]
  have hlen : s.pages.length ≤ d.safe.length := by
    have := (pages_pgn ok)
    have h2 := ris_len (a := 2) (B := ((s.r.getD 0 0 : Nat) : Int)) (pages_up ok) (fun x hx => this x hx)
    rcases Nat.lt_or_ge (s.r.getD 0 0) 2 with q | q
    · cases hp : s.pages with
      | nil => simp
      | cons y r =>
        have := this y (by rw [hp]; simp)
        omega
    · have := h2 (by omega)
      omega
  have hrd : ∀ i, i < s.pages.length → readE (s.comm d).1 (s.pages.getD i 0) = 0 ∧ readB (s.comm d).1 (s.pages.getD i 0) = G.page (s.pages.getD i 0).toNat 2 (L.bodyAt s.names s.pages i) := fun i hi => by
    obtain ⟨e1, e2, e3, e4⟩ := pages_getD ok hi
    have hc : (((s.pages.getD i 0).toNat : Nat) : Int) = s.pages.getD i 0 := Int.toNat_of_nonneg (by omega)
    obtain ⟨r1, r2⟩ := comm_read h (s.pages.getD i 0).toNat (by omega)
    obtain ⟨j1, j2⟩ := jobs_page ok hj hb hi
    rw [hc] at r1 r2
    rw [if_neg (by omega), lk_once _ _ _ _ j1 j2] at r2
    exact ⟨r1, r2⟩
  have ch := rlist_chain (d := (s.comm d).1) hb (fun x hx => (names_ris ok).rng x hx) (fun x hx => ok.free.rng x (List.mem_of_mem_take hx)) (pages_nodup ok) (fun i hi => (hrd i hi).1) (fun i hi => (hrd i hi).2) s.pages.length 0 ((s.comm d).1.safe.length + 1) (by omega) (by omega)
  have p0 := page0 ok
  have e0 : ((s.r1.getD 1 0 : Nat) : Int) = s.pages.getD 0 0 := by
    show (((s.pages.getD 0 0).toNat : Nat) : Int) = _
    omega
  unfold rl
  rw [e0]
  simp only [Nat.mul_zero, List.take_zero] at ch
  rw [ch]
  show (if rgood s.r1 (s.pages, s.names) then some (s.pages, s.names) else none) = _
  rw [if_pos]
  unfold rgood
  have g1 : risB ((s.r1.getD 0 0 : Nat) : Int) 1 s.names = true := risB_true.2 ⟨(names_ris ok).up, fun x hx => by
    have := names_pgn ok x hx
    have e : s.r1.getD 0 0 = s.r.getD 0 0 := rfl
    rw [e]
    omega⟩
  have g2 : ¬ ∃ x ∈ s.names, x ∈ s.pages := by
    rintro ⟨x, hx, hxp⟩
    have hf : x ∈ s.x.free := List.mem_of_mem_take hxp
    rw [Pm.names, mem_sortP, List.mem_append, List.mem_append] at hx
    rcases hx with q | q | q
    · have hq : (s.x.free.take s.need ++ s.x.free.drop s.need).Pairwise (· < ·) := by
        rw [List.take_append_drop]
        exact ok.free.up
      have := (List.pairwise_append.1 hq).2.2 x hxp x q
      omega
    · exact (hj.fl x hf).1 q
    · exact (hj.fl x hf).2.1 q
  rw [g1, decide_eq_false g2]
  simp [Pm.r1]
theorem comm_open {s : Pm} {d : St} (ok : POk s) (hj : Dj s) (hn : s.need ≤ s.x.free.length) (ho : s.o = false) (h8 : 8 ≤ d.safe.length) (hB : s.r.getD 0 0 = d.safe.length) (hq : s.q + 1 < 18446744073709551616)
    (hold : D.look d (s.q % 2) = U.wr s.q s.r ∨ U.readE ((s.q % 2 : Nat) : Int) (D.look d (s.q % 2)) ≠ 0) (h : (s.comm d).2 = 0) : popE (s.comm d).1 = 0 ∧ popS (s.comm d).1 = { s.next with e := 1 } := by
  have hb := names_bodies ok hj hn
  have hl := comm_list ok hj hn hB h
  have hq1 : s.q1 = s.q + 1 := by
    unfold Pm.q1
    omega
  obtain ⟨_, h2, h3, _⟩ := comm_zero h
  have hdn : (s.comm d).1.down = false := h2
  have hsl : (s.comm d).1.safe.length = d.safe.length := by
    show (comm d s.jobs (s.q1 % 2) (U.wr s.q1 s.r1)).1.safe.length = _
    rw [h3, List.length_set, D.lay_length]
  have hge := jobs_ge ok hb
  have hr1 : s.r1.length = 27 := by simp [Pm.r1, ok.rtl]
  have hlt := r1_lt ok
  have rd : ∀ n : Nat, n < 2 → readB (s.comm d).1 (n : Int) = if n = s.q1 % 2 then U.wr s.q1 s.r1 else D.look d n := fun n hn2 => by
    obtain ⟨_, r2⟩ := comm_read h n (by omega)
    have e : readB (s.comm d).1 (n : Int) = if n = s.q1 % 2 then U.wr s.q1 s.r1 else D.lk n (D.look d n) s.jobs := r2
    rw [e, D.lk_none n _ _ (fun x hx => by have := hge x hx; omega)]
  have r0 := rd 0 (by omega)
  have r1 := rd 1 (by omega)
  have hnew : U.newE (readB (s.comm d).1 0) (readB (s.comm d).1 1) = 0 ∧ U.newQ (readB (s.comm d).1 0) (readB (s.comm d).1 1) = s.q1 ∧ U.newR (readB (s.comm d).1 0) (readB (s.comm d).1 1) = s.r1 := by
    have c0 : ((0 : Nat) : Int) = 0 := rfl
    have c1 : ((1 : Nat) : Int) = 1 := rfl
    rw [c0] at r0
    rw [c1] at r1
    rcases Nat.mod_two_eq_zero_or_one s.q with z | z
    · rw [if_neg (by omega)] at r0
      rw [if_pos (by omega)] at r1
      rw [z] at hold
      rw [r0, r1]
      rcases hold with k | k
      · rw [k]
        exact (U.turn_new s.q s.q1 s.r s.r1 ok.rl hr1 ok.rlt hlt hq1 (by omega)).2 (by omega)
      · exact (U.turn_old s.q1 s.r1 _ hr1 hlt (by omega)).1 (by omega) k
    · rw [if_pos (by omega)] at r0
      rw [if_neg (by omega)] at r1
      rw [z] at hold
      rw [r0, r1]
      rcases hold with k | k
      · rw [k]
        exact (U.turn_new s.q s.q1 s.r s.r1 ok.rl hr1 ok.rlt hlt hq1 (by omega)).1 (by omega)
      · exact (U.turn_old s.q1 s.r1 _ hr1 hlt (by omega)).2 (by omega) k
  obtain ⟨n1, n2, n3⟩ := hnew
  constructor
  · unfold popE
    rw [hdn, n1, n3, hl, if_neg (by simp), if_neg (by simp), if_neg (by
      show ¬ (s.r.getD 0 0 ≠ _)
      rw [hsl, hB]
      simp)]
    rfl
  · unfold popS
    rw [n2, n3, hl]
    unfold Pm.next
    rw [ho]
    rfl
end Go.Proofs.YtlcnefeikejcaaaGreatDoor
namespace Go.Proofs.YtlcnefeikejcaaaGreatDoor
open D (St)
theorem zero_no (p : Nat) (hp : p < 2) : U.readE (p : Int) D.zero ≠ 0 := fun h => by
  have h2 := ((U.readE_zero p D.zero hp).1 h).2.1
  unfold G.openK at h2
  split at h2
  · have e : D.zero.getD 8 0 = 0 := by decide
    rw [e] at h2
    exact absurd h2 (by decide)
  · exact absurd h2 (by decide)
theorem fmt_opens {d : St} (h8 : 8 ≤ d.safe.length) (hB : d.safe.length ≤ 4096) (h : (pfmt d).2 = 0) : popE (pfmt d).1 = 0 ∧ popS (pfmt d).1 = { (Pm.fmt d.safe.length).next with e := 1 } := by
  unfold pfmt at h ⊢
  split at h
  · rename_i h1
    exact absurd h h1
  · rename_i h1
    rw [if_neg h1]
    split at h
    · rename_i h2
      exact absurd h h2
    · rename_i h2
      rw [if_neg h2]
      obtain ⟨a1, a2, a3, a4⟩ := wrL_zero Z2 d (by omega)
      obtain ⟨b1, b2, b3, b4⟩ := sync_zero (d := (wrL d Z2).1) (by omega)
      have hl : (D.sync (wrL d Z2).1).safe.length = d.safe.length := by rw [b2, D.lay_length, a1]
      have hz : D.look (D.sync (wrL d Z2).1) 0 = D.zero := by
        unfold D.look
        rw [b3, b2, a1, a2]
        show (D.lay d.safe (d.waits ++ Z2)).getD 0 [] = _
        rw [lay_lk 0 _ _ (by omega), lk_append]
        rfl
      refine comm_open (fmt_ok hB) (fmt_dj _) fmt_need rfl (by omega) (by rw [hl]; rfl) (by show 0 + 1 < _; omega) (.inr ?_) h
      show U.readE ((0 : Nat) : Int) (D.look _ 0) ≠ 0
      rw [hz]
      exact zero_no 0 (by omega)
def NoFuse (d : St) : Prop := d.down = false ∧ d.fuse = -1
theorem act_free {d : St} (h : NoFuse d) : D.act d = d := by
  unfold D.act
  rw [if_neg (by rw [h.2]; omega), if_neg (by rw [h.2]; omega)]
theorem write_free {d : St} (h : NoFuse d) {n : Nat} {b : List UInt8} (hn : n < d.safe.length) (hb : b.length = 512) : D.writeE d (n : Int) b = 0 ∧ D.write d (n : Int) b = D.put d n b := by
  have hbad : D.bad d (n : Int) b.length = 0 := by
    unfold D.bad
    rw [h.1, if_neg (by simp), if_neg (by omega), if_neg (by omega)]
  unfold D.writeE D.write
  rw [if_pos hbad, if_pos hbad]
  refine ⟨?_, act_free (d := D.put d n b) h⟩
  unfold D.ans
  rw [if_neg (by rw [h.2]; omega)]
theorem wrL_free : ∀ (J : List (Nat × List UInt8)) (d : St), NoFuse d → (∀ x ∈ J, x.1 < d.safe.length ∧ x.2.length = 512) → (wrL d J).2 = 0 ∧ NoFuse (wrL d J).1 ∧ (wrL d J).1.safe = d.safe
  | [], d, h, _ => ⟨rfl, h, rfl⟩
  | x :: r, d, h, hJ => by
    obtain ⟨h1, h2⟩ := hJ x (by simp)
    obtain ⟨e1, e2⟩ := write_free h h1 h2
    simp only [wrL]
    rw [if_pos e1, e2]
    exact wrL_free r (D.put d x.1 x.2) h (fun y hy => hJ y (by simp [hy]))
theorem sync_free {d : St} (h : NoFuse d) : D.syncE d = 0 ∧ NoFuse (D.sync d) ∧ (D.sync d).safe.length = d.safe.length := by
  have hf : ¬ d.fuse = 0 := by rw [h.2]; omega
  unfold D.syncE D.sync D.ans
  rw [h.1, if_neg (by simp), if_neg hf, if_neg (by simp), if_neg hf, act_free h]
  exact ⟨rfl, ⟨h.1, h.2⟩, D.lay_length _ _⟩
theorem comm_free {d : St} (h : NoFuse d) {J : List (Nat × List UInt8)} (hJ : ∀ x ∈ J, x.1 < d.safe.length ∧ x.2.length = 512) {m : Nat} (hm : m < d.safe.length) {B : List UInt8} (hB : B.length = 512) : (comm d J m B).2 = 0 ∧ NoFuse (comm d J m B).1 := by
  obtain ⟨a1, a2, a3⟩ := wrL_free J d h hJ
  obtain ⟨b1, b2, b3⟩ := sync_free a2
  obtain ⟨c1, c2⟩ := write_free b2 (n := m) (b := B) (by rw [b3, a3]; exact hm) hB
  have c3 : NoFuse (D.put (D.sync (wrL d J).1) m B) := b2
  obtain ⟨e1, e2, _⟩ := sync_free c3
  unfold comm
  rw [if_neg (by omega), if_neg (by omega), if_neg (by omega), c2]
  exact ⟨e1, e2⟩
theorem jobs_fit {s : Pm} (ok : POk s) (h : L.bodiesE s.names s.pages = 0) : ∀ y ∈ s.jobs, y.1 < s.r.getD 0 0 ∧ y.2.length = 512 := by
  unfold Pm.jobs
  rw [jobs_lists h]
  intro y hy
  rcases List.mem_append.1 hy with q | q
  · unfold jobsF at q
    obtain ⟨f, hf, rfl⟩ := List.mem_map.1 q
    have h2 := ok.freshp f.n (List.mem_map.2 ⟨f, hf, rfl⟩)
    have h3 := ok.body f hf
    refine ⟨?_, ?_⟩
    · show f.n.toNat < _
      omega
    · show (G.sealL _ _ _).length = 512
      unfold G.sealL
      rw [if_pos h3]
      exact G.page_length _ _ _ h3
  · obtain ⟨j, hj2, rfl⟩ := List.mem_map.1 q
    obtain ⟨g1, g2, g3, g4⟩ := pages_getD ok (List.mem_range.1 hj2)
    refine ⟨?_, ?_⟩
    · show (s.pages.getD j 0).toNat < _
      omega
    · refine G.page_length _ _ _ ?_
      show (L.bodyL _ _).length ≤ 500
      rw [L.bodyL_length]
      have := L.part_le s.names j
      omega
theorem scomm_free {s : Pm} {d : St} (ok : POk s) (hj : Dj s) (hn : s.need ≤ s.x.free.length) (h8 : 8 ≤ d.safe.length) (hB : s.r.getD 0 0 = d.safe.length) (h : NoFuse d) : (s.comm d).2 = 0 ∧ NoFuse (s.comm d).1 := by
  have hb := names_bodies ok hj hn
  refine comm_free h (fun x hx => ?_) (by omega) (U.wr_length _ _ (by simp [Pm.r1, ok.rtl]))
  have := jobs_fit ok hb x hx
  rw [hB] at this
  exact this
theorem fmt_free {d : St} (h8 : 8 ≤ d.safe.length) (hB : d.safe.length ≤ 4096) (h : NoFuse d) : (pfmt d).2 = 0 ∧ NoFuse (pfmt d).1 := by
  obtain ⟨a1, a2, a3⟩ := wrL_free Z2 d h (fun x hx => by
    simp only [Z2, List.mem_cons, List.not_mem_nil, or_false] at hx
    rcases hx with rfl | rfl
    · exact ⟨by show 0 < _; omega, List.length_replicate⟩
    · exact ⟨by show 1 < _; omega, List.length_replicate⟩)
  obtain ⟨b1, b2, b3⟩ := sync_free a2
  unfold pfmt
  rw [if_neg (by omega), if_neg (by omega)]
  exact scomm_free (fmt_ok hB) (fmt_dj _) fmt_need (by rw [b3, a3]; exact h8) (by rw [b3, a3]; rfl) b2
end Go.Proofs.YtlcnefeikejcaaaGreatDoor
namespace Go.Proofs.YtlcnefeikejcaaaGreatDoor
open Go.RowKit
open D (St)
def Losses (w : World) (v : Value) (l : List (Int × Int)) : Prop :=
  ∃ A c, v = .slice A l.length c ∧ l.length ≤ c ∧ (0 < l.length → ∃ b off, A = some ⟨b, off, none⟩ ∧ ∀ j (h : j < l.length), w.cell? ⟨b, off + j * 2, none⟩ = some (.int .i64 l[j].1) ∧ w.cell? ⟨b, off + j * 2 + 1, none⟩ = some (.int .i64 l[j].2))
theorem Losses.keep {F : Nat → Prop} {w w1 : World} {v : Value} {l : List (Int × Int)} (h : Losses w v l) (hb : Keep F w w1) (hf : 0 < l.length → ∀ k, v.ownBlock = some k → ¬ F k) : Losses w1 v l := by
  obtain ⟨A, c, rfl, hc, h⟩ := h
  refine ⟨A, c, rfl, hc, fun hl => ?_⟩
  obtain ⟨b, off, rfl, h2⟩ := h hl
  exact ⟨b, off, rfl, fun j hj => ⟨hb.cell (h2 j hj).1 (hf hl b rfl), hb.cell (h2 j hj).2 (hf hl b rfl)⟩⟩
theorem Losses.none (w : World) : Losses w (.slice none 0 0) [] := ⟨_, _, rfl, Nat.le_refl _, fun h => by simp at h⟩
end Go.Proofs.YtlcnefeikejcaaaGreatDoor
namespace Go.Proofs.YtlcnefeikejcaaaGreatDoor
open Go.RowKit
open D (St)
def gone (s : St) (l : List (Int × Int)) (k : Nat) : St := { s with safe := D.left s.safe (s.waits.take k) (l.take k) }
end Go.Proofs.YtlcnefeikejcaaaGreatDoor
namespace Go.Proofs.YtlcnefeikejcaaaGreatDoor
open Go.RowKit
open D (St)
def sall (l : List (List UInt8)) : List Value := l.flatMap bvs
theorem sall_length : ∀ (l : List (List UInt8)), (∀ x ∈ l, x.length = 512) → (sall l).length = l.length * 512
  | [], _ => rfl
  | x :: r, h => by
    simp only [sall, List.flatMap_cons, List.length_append, List.length_cons]
    have := sall_length r (fun y hy => h y (by simp [hy]))
    rw [bvs_length, h x (by simp)]
    simp only [sall] at this
    rw [this]
    omega
theorem sall_get : ∀ (l : List (List UInt8)), (∀ x ∈ l, x.length = 512) → ∀ i (hi : i < l.length) j, j < 512 → (sall l)[i * 512 + j]? = (bvs l[i])[j]?
  | x :: r, h, 0, _, j, hj => by
    have := h x (by simp)
    simp only [sall, List.flatMap_cons, Nat.zero_mul, Nat.zero_add]
    rw [List.getElem?_append_left (by rw [bvs_length]; omega)]
    rfl
  | x :: r, h, i + 1, hi, j, hj => by
    have := h x (by simp)
    simp only [sall, List.flatMap_cons]
    rw [List.getElem?_append_right (by rw [bvs_length]; omega), bvs_length, this, show (i + 1) * 512 + j - 512 = i * 512 + j by omega]
    exact sall_get r (fun y hy => h y (by simp [hy])) i (by simpa using hi) j hj
theorem made_blocks (n : Nat) : (madeCells zb (n * 512)).toList = sall (List.replicate n D.zero) := by
  have hf : ∀ x ∈ List.replicate n D.zero, x.length = 512 := fun x hx => by rw [(List.mem_replicate.1 hx).2]; exact List.length_replicate
  apply List.ext_getElem?
  intro k
  by_cases h : k < n * 512
  · have e : k = k / 512 * 512 + k % 512 := by omega
    have hi : k / 512 < (List.replicate n D.zero).length := by simp; omega
    have e1 : (sall (List.replicate n D.zero))[k]? = (bvs D.zero)[k % 512]? := by
      have := sall_get _ hf (k / 512) hi (k % 512) (by omega)
      rw [← e] at this
      rw [this]
      simp
    rw [e1]
    have e2 : (madeCells zb (n * 512)).toList[k]? = some (zb[k % zb.size]!) := by simp [madeCells, h]
    rw [e2, zb_size]
    have hm : k % 512 < zb.size := by rw [zb_size]; omega
    rw [getElem!_pos zb (k % 512) hm]
    have : (bvs D.zero)[k % 512]? = zb[k % 512]? := by simp [zb]
    rw [this]
    simp [hm]
  · rw [List.getElem?_eq_none (by simp [size_madeCells]; omega), List.getElem?_eq_none (by rw [sall_length _ hf]; simp; omega)]
theorem blocks_own {w : World} {base g n cap : Nat} {ss : List (List UInt8)} (h : w.ownsRow base 112 512 (.slice (some ⟨g, 0, none⟩) n cap) n (sall ss)) (hn : ss.length = n) (hf : ∀ x ∈ ss, x.length = 512) :
    (∀ i (hi : i < ss.length), w.rangeAt g (i * 512) (bvs ss[i])) ∧ (∀ i, i < ss.length → w.there g (i * 512) 512) := by
  have key : ∀ i (hi : i < ss.length) j, j < 512 → w.cell? ⟨g, i * 512 + j, none⟩ = (bvs ss[i])[j]? := fun i hi j hj => by
    rw [h.cellAt (i * 512 + j) (by have : (i + 1) * 512 ≤ n * 512 := Nat.mul_le_mul_right _ (by omega); omega), sall_get ss hf i hi j hj]
  refine ⟨fun i hi j v hv => ?_, fun i hi j hj => ⟨?_, h.frozenAt _⟩⟩
  · have hj : j < 512 := by
      have := (List.getElem?_eq_some_iff.1 hv).1
      rw [bvs_length, hf _ (List.getElem_mem hi)] at this
      exact this
    rw [key i hi j hj]
    exact hv
  · rw [key i hi j hj]
    simp [bvs, hf _ (List.getElem_mem hi), hj]
theorem Tryz.infoZ112 : (Tryz.prog.info? 112).map (fun i => (i.zero, i.size, i.bytes)) = some (some (.agg zb), 512, 512) := by kernel_rfl
theorem Tryz.zero109 : (Tryz.prog.info? 109).map (fun i => (i.zero, i.size)) = some (some (.agg #[.slice none 0 0, .slice none 0 0, .int .i64 0, .bool false, .int .i64 0]), 5) := by kernel_rfl
theorem new_dsk {w : World} {g n cap : Nat} {wv : Value} {s : St} {fu wr : Int} {dn : Bool} (ho : w.ownsRow 0 112 512 (.slice (some ⟨g, 0, none⟩) n cap) n (sall s.safe)) (hn : s.safe.length = n) (hok : D.Ok s) (hw : w.ownsRow 0 114 513 wv s.waits.length (wall s.waits)) (hne : wv.ownBlock ≠ some g)
    (e1 : s.fuse = fu) (e2 : s.down = dn) (e3 : (s.writes : Int) = wr) :
    Dsk (w.alloc (.cells #[.slice (some ⟨g, 0, none⟩) n cap, wv, .int .i64 fu, .bool dn, .int .i64 wr] 109)) w.heap.size g wv s := by
  subst hn e1 e2 e3
  have hk : ∀ o, Keep (fun _ => False) w (w.alloc o) := fun o => Keep.of_below (alb o)
  obtain ⟨h1, h2⟩ := blocks_own ho rfl hok.full
  have hg : g < w.heap.size := (ho.lt g rfl).2
  refine ⟨hok, ⟨cap, ?_⟩, ?_, ?_, ?_, ?_, fun i => ?_, fun i hi => range_keep (h1 i hi) (hk _) (fun h => h), fun i hi => there_keep (h2 i hi) (hk _) (fun h => h), own_keep hw (hk _) (fun _ _ h => h), by omega, fun e => ?_, hne⟩
  · rw [World.cell?_alloc_at _ _ _ _ rfl]; rfl
  · rw [World.cell?_alloc_at _ _ _ _ rfl]; rfl
  · rw [World.cell?_alloc_at _ _ _ _ rfl]; rfl
  · rw [World.cell?_alloc_at _ _ _ _ rfl]; rfl
  · rw [World.cell?_alloc_at _ _ _ _ rfl]; rfl
  · simp
  · have := (hw.lt _ e).2
    omega
end Go.Proofs.YtlcnefeikejcaaaGreatDoor
namespace Go.Proofs.YtlcnefeikejcaaaGreatDoor
open Go.RowKit
open D (St)
def Own (w : World) (p g : Nat) (wv : Value) (s : St) (B : Nat) : Prop := Dsk w p g wv s ∧ ∀ b, dfp p g wv b → B ≤ b
theorem dnew_any (n : Nat) (w : World) (h1 : 8 ≤ n) (h2 : n ≤ 4096) :
    Calls Tryz.prog 70 #[.int .i64 (n : Int)] w fun e w' => ∃ p g, e = .returned (.tuple #[.pointer (some ⟨p, 0, none⟩), .int .i64 0]) ∧ Own w' p g (.slice none 0 0) (D.new n) w.heap.size ∧ Below w.heap.size w w' := by
  obtain ⟨i0, hi0, hz0, hz1, hz2⟩ := info_parts Tryz.infoZ112
  have hz := (zero_of_info Tryz.zero109).1
  have q1 : decide ((n : Int) < 8) = false := by simp; omega
  have q2 : decide (4096 < (n : Int)) = false := by simp; omega
  have HM := Lib.hid (made_blocks n)
  generalize zb = Z at *
  go_enter Tryz.func70, Tryz.ntmps70
  go_wp2_with (first
    | (refine wpList_make_full _ rfl _ _ 106 rfl w.heap.size 112 i0 _ 512 Tryz.underlying106 hi0 hz0 hz1 .i64 .i64 _ _ n rfl rfl rfl rfl ?b1 ?b2 (Nat.le_refl _) ?_)
    | fail)
  case b1 => rw [hz2]; omega
  case b2 => unfold maxLen; omega
  intro w1 ho hg
  have HO := Lib.hid ho
  have HB : Hid (Below w.heap.size w w1) := (Below.refl _ _).grown hg (Nat.le_refl _) (fun k h => by cases h)
  clear ho hg
  go_wp2
  go_ret2
  refine ⟨_, w.heap.size, rfl, ⟨new_dsk (s := D.new n) ?_ (by simp [D.new]) (D.new_ok h1 h2) (World.ownsRow_nil _ _ _ _) (by simp [Value.ownBlock]) rfl rfl rfl, ?_⟩, HB.out.alloc HB.out.size _⟩
  · have := HO.out
    rw [HM.out] at this
    exact Go.Joins.ownsRow_le this (Nat.zero_le _)
  · rintro b (rfl | rfl | q)
    · exact HB.out.size
    · exact Nat.le_refl _
    · simp [Value.ownBlock] at q
end Go.Proofs.YtlcnefeikejcaaaGreatDoor
namespace Go.Proofs.YtlcnefeikejcaaaGreatDoor
open Go.RowKit Go.Sort Go.Maps
open D (St)
set_option maxRecDepth 100000
def Pm.born (n : Nat) : Pm := { (Pm.fmt n).next with e := 1 }
def dborn (n : Nat) : St := (pfmt (D.new n)).1
theorem born_facts {n : Nat} (h8 : 8 ≤ n) (h4 : n ≤ 4096) : (pfmt (D.new n)).2 = 0 ∧ NoFuse (dborn n) ∧ popE (dborn n) = 0 ∧ popS (dborn n) = Pm.born n := by
  have hl : (D.new n).safe.length = n := by simp [D.new]
  obtain ⟨f1, f2⟩ := fmt_free (d := D.new n) (by omega) (by omega) ⟨rfl, rfl⟩
  obtain ⟨o1, o2⟩ := fmt_opens (d := D.new n) (by omega) (by omega) f1
  rw [hl] at o2
  exact ⟨f1, f2, o1, o2⟩
def Made (w w' : World) (col : Nat → Nat) (dp p n : Nat) : Prop := ∃ g col', (∀ b, b < w.heap.size → col' b = col b) ∧ Pgd w' col' p dp g (Pm.born n) (dborn n)
open Classical in
set_option maxHeartbeats 3200000 in
theorem lmade_any (w : World) (col : Nat → Nat) (n : Nat) (h8 : 8 ≤ n) (h4 : n ≤ 4096) (hT : Tab w) (h99 : col 0 = 99) (hw0 : 0 < w.heap.size) :
    Calls Tryz.prog 24 #[.int .i64 (n : Int)] w fun e w' => ∃ dp p, e = .returned (.tuple #[.pointer (some ⟨dp, 0, none⟩), .pointer (some ⟨p, 0, none⟩)]) ∧ Made w w' col dp p n ∧ Below w.heap.size w w' := by
  have HN := Lib.hid (dnew_any n w h8 h4)
  have HT := Lib.hid hT
  have HF := Lib.hid (born_facts h8 h4)
  have H0 := Lib.hid hw0
  have H9 := Lib.hid h99
  clear hT h99 hw0
  go_enter Tryz.func24, Tryz.ntmps24
  go_wp2_with fail
  refine HN.out.mono ?_
  rintro e w1 ⟨dp, g, rfl, o1, b1⟩
  have HO := Lib.hid o1
  have B1 := Lib.hid b1
  clear o1 b1
  have n0 : Hid (¬ dfp dp g (.slice none 0 0) 0) := fun q => by
    have := HO.out.2 0 q
    have := H0.out
    omega
  have HFM := Lib.hid (format_any w1 dp g _ (D.new n) HO.out.1 (HT.out.below B1.out) n0.out (by simp [D.new]) (by simp [D.new]))
  rw [HF.out.1] at HFM
  go_wp2_with fail
  refine HFM.out.mono ?_
  rintro e w2 ⟨rfl, t2⟩
  obtain ⟨wv2, D2, K2, f2⟩ := t2
  have HD2 := Lib.hid D2
  have HK2 := Lib.hid K2
  have HF2 := Lib.hid f2
  clear D2 K2 f2
  have T2 : Hid (Tab w2) := (HT.out.below B1.out).keep HK2.out n0.out
  have low : Hid (∀ b, dfp dp g wv2 b → w.heap.size ≤ b) := fun b hb => by
    have hs := B1.out.size
    rcases hb with q | q | q
    · exact HO.out.2 b (.inl q)
    · exact HO.out.2 b (.inr (.inl q))
    · rcases HF2.out b q with z | z
      · simp [Value.ownBlock] at z
      · omega
  have B2 : Hid (Below w.heap.size w w2) := B1.out.trans (HK2.out.below B1.out.size (fun k hk => HO.out.2 k hk))
  obtain ⟨cc, hcc⟩ : ∃ cc : Nat → Nat, cc = (fun b => if dfp dp g wv2 b then 30 else col b) := ⟨_, rfl⟩
  have c30 : Hid (∀ b, dfp dp g wv2 b → cc b = 30) := fun b hb => by rw [hcc]; exact if_pos hb
  have cold : Hid (∀ b, b < w.heap.size → cc b = col b) := fun b hb => by
    rw [hcc]
    exact if_neg (fun q => by have := low.out b q; omega)
  clear hcc
  have PO := Lib.hid (popen_any w2 cc dp g wv2 (dborn n) HD2.out T2.out)
  have HPS := Lib.hid HF.out.2.2.2
  have HPE := Lib.hid HF.out.2.2.1
  rw [HPE.out] at PO
  go_wp2_with fail
  refine PO.out.mono ?_
  rintro e w3 ⟨pv, rfl, o3, b3⟩
  obtain ⟨p, col3, rfl, ag, P3⟩ := o3.2 HPE.out
  have B3 := Lib.hid b3
  have AG := Lib.hid ag
  have HP3 := Lib.hid P3
  clear o3 b3 ag P3
  go_wp2
  go_ret2
  have s2 := B2.out.size
  have h0 := H0.out
  refine ⟨dp, p, rfl, ⟨g, col3, fun b hb => (AG.out b (by omega)).trans (cold.out b hb), ?_⟩, btr B2.out B3.out⟩
  have P4 := HP3.out
  rw [HPS.out] at P4
  exact ⟨P4, ⟨wv2, HD2.out.below B3.out, fun b hb => (AG.out b (HD2.out.lt b hb)).trans (c30.out b hb)⟩, T2.out.below B3.out, ((AG.out 0 (by omega)).trans (cold.out 0 h0)).trans H9.out⟩
end Go.Proofs.YtlcnefeikejcaaaGreatDoor
namespace Go.Proofs.YtlcnefeikejcaaaGreatDoor
open Go.RowKit Go.Sort Go.Maps
set_option maxRecDepth 100000
def Pm.put (s : Pm) (n : Int) (k : UInt8) (l : List UInt8) : Pm × Int :=
  if s.o then (s, 7) else if n ∈ nums s.x.fresh then (if 500 < l.length then (s, 3) else ({ s with x := ⟨s.x.free, s.x.defd, putF ⟨n, k, l⟩ s.x.fresh⟩ }, 0)) else (s, 10)
end Go.Proofs.YtlcnefeikejcaaaGreatDoor
namespace Go.Proofs.YtlcnefeikejcaaaGreatDoor
open Go.RowKit Go.Sort Go.Maps
set_option maxRecDepth 100000
theorem wpList_del_fresh {w : World} {ops : Array Oper} {rest : List Oper} {o : Oper} {a : Act} {Q : Exit → Act → World → Prop} (hg : o.guard = none) (m x : Operand) (hop : o.op = Op.call { callee := Callee.builtin Builtin.delete, args := #[m, x], argTypes := #[125, 31] })
    (col : Nat → Nat) (mb : Nat) (fs : List Fr) (D : DataW Value) (M : Mc w col mb fs D) (n : Int) (hn : n ∈ nums fs) (h7 : col mb ≠ 7) (hm : a.eval m = .map (some mb)) (hx : a.eval x = .int .u32 n)
    (h : ∀ w' D', Hid (Mc w' col mb (delF n fs) D') → Keep (fun b => b = mb) w w' → wpList Tryz.prog ops Q rest (a.put o.dst (.tuple #[])) w') : wpList Tryz.prog ops Q (o :: rest) a w := by
  obtain ⟨n0, n1⟩ := M.ris.rng n hn
  refine wpList_delete_own w hg m x _ 31 hop 140 klaw Tryz.underlying125 allE mb fs.length D hm M.own _ (.int .u32 n) hx (key_u32 n0 n1) (fun w' r1 r2 => ?_)
  have kt := turned_keep r2
  exact h w' _ (M.del (F := fun b => b = mb) n n0 n1 hn kt (fun b hb e => h7 (by rw [← e]; exact hb)) r1) kt
def Pm.drop (s : Pm) (n : Int) : Pm × Int :=
  if s.o then (s, 7) else if n ∈ nums s.x.fresh then ({ s with x := ⟨putS n s.x.free, s.x.defd, delF n s.x.fresh⟩ }, 0) else if s.used n then ({ s with x := ⟨s.x.free, putS n s.x.defd, s.x.fresh⟩ }, 0) else (s, 10)
set_option maxHeartbeats 1600000 in
theorem drop_fresh (w : World) (col : Nat → Nat) (p pf mb : Nat) (n : Int) (n0 : 0 ≤ n) (n1 : n < 4294967296) (s : List Int) (F : Nat → Prop) (P : Po w pf F s) (hF : ∀ b, F b → col b = 20) (hs : s.length < 65535) (fs : List Fr) (D : DataW Value) (M : Mc w col mb fs D) (hmb : col mb = 22)
    (cp : col p = 1) (c81 : w.cell? ⟨p, 81, none⟩ = some (.pointer (some ⟨pf, 0, none⟩))) (c83 : w.cell? ⟨p, 83, none⟩ = some (.map (some mb))) (c85 : w.cell? ⟨p, 85, none⟩ = some (.bool false)) (hn : n ∈ nums fs) :
    Calls Tryz.prog 35 #[.pointer (some ⟨p, 0, none⟩), .int .u32 n] w fun e w' => e = .returned (.int .i64 0) ∧ ∃ col' F' D', (∀ b, b < w.heap.size → col' b = col b) ∧ Po w' pf F' (putS n s) ∧ (∀ b, F' b → col' b = 20) ∧ Mc w' col' mb (delF n fs) D' ∧
      Keep (fun b => col b = 20 ∨ col b = 22) w w' := by
  have hz := zero_cont
  have HT := Lib.hid (there_newN w zcont 140 2 rfl)
  have HB : Hid (Below w.heap.size w (w.alloc (.cells zcont 140))) := alb _
  obtain ⟨c2, hc2⟩ : ∃ c2, c2 = upd col w.heap.size 20 := ⟨_, rfl⟩
  have HCL : Hid (∀ b, b < w.heap.size → c2 b = col b) := fun b hb => by rw [hc2, upd_old hb]
  have H20 : Hid (∀ b, w.heap.size ≤ b → c2 b = 20) := fun b h1 => by rw [hc2, upd_new h1]
  have HM : Hid (Mc w c2 mb fs D) := M.recol HCL.out
  have HMB2 : Hid (c2 mb = 22) := (HCL.out mb M.lt).trans hmb
  have HP := Lib.hid P
  have HF := Lib.hid hF
  have HFL := Lib.hid P.lt
  have HML := Lib.hid M.lt
  have HMB := Lib.hid hmb
  have HCP := Lib.hid cp
  have HC81 := Lib.hid c81
  have HC83 := Lib.hid c83
  have hpl := Lib.hid (World.block_lt_of_cell? w _ c83)
  have HN := Lib.hid hn
  have HS := Lib.hid hs
  have N0 := Lib.hid n0
  have N1 := Lib.hid n1
  clear M P hF hmb cp hn hs n0 n1 c81 hc2
  go_enter Tryz.func35, Tryz.ntmps35
  go_wp2_with (first
    | (at_lookup; refine wpList_look_any rfl (.tmp 16) (.tmp 17) rfl c2 mb fs D HM.out n N0.out N1.out true (decide_eq_true HN.out) rfl rfl ?_; rintro kk vv ⟨A3, m3, c3, rfl⟩)
    | (refine wpList_store_cont rfl (.tmp 5) (.tmp 19) rfl w.heap.size kk A3 m3 c3 rfl rfl HT.out ?_))
  intro w1 hc1 k1
  have HB1 : Hid (Below w.heap.size w w1) := HB.out.trans (k1.below HB.out.size (fun k hk => by subst hk; exact Nat.le_refl _))
  have HM1 : Hid (Mc w1 c2 mb fs D) := HM.out.keep (F := fun _ => False) (Keep.of_below HB1.out) (fun h => h) (fun _ _ h => h)
  have HP1 := Lib.hid (HP.out.below HB1.out)
  have c83 := kept HC83.out HB1.out
  clear k1 HB HT HM HP hc1
  go_wp2_with (at_delete; refine wpList_del_fresh rfl (.tmp 26) (.tmp 27) rfl c2 mb fs D HM1.out n HN.out (by have := HMB2.out; omega) rfl rfl ?_)
  intro w2 D2 HM2 k2
  have HK2 := Lib.hid k2
  have c81 := k2.cell (kept HC81.out HB1.out) (fun e => by have h1 := HMB.out; have h2 := HCP.out; have e2 : p = mb := e; rw [e2] at h2; omega)
  have HP2 : Hid (Po w2 pf F s) := HP1.out.keep k2 (fun b hb e => by have h1 := HF.out b hb; have h2 := HMB.out; rw [e] at h1; omega)
  have CP := Lib.hid (put_any w2 pf F s n HP2.out N0.out N1.out HS.out)
  clear k2 HM1 HP1 c83
  go_wp2_with (go_at_call 89; refine CP.out.mono ?_; rintro en w3 ⟨rfl, F3, P3, k3, f3⟩)
  go_ret
  refine ⟨rfl, c2, F3, D2, HCL.out, P3, fun b hb => ?_, ?_, ?_⟩
  · rcases f3 b hb with q | q
    · rw [HCL.out b (HFL.out b q)]; exact HF.out b q
    · have := HB1.out.size
      have := HK2.out.size
      exact H20.out b (by omega)
  · exact HM2.out.keep k3 (fun q => by have h1 := HF.out mb q; have h2 := HMB.out; omega) (fun b hb q => by have h1 := HF.out b q; have h2 := HCL.out b (HFL.out b q); omega)
  · exact (((Keep.of_below HB1.out).trans HK2.out (fun i hi => .inl (.inr (by rw [hi]; exact HMB.out))))).trans k3 (fun i hi => .inl (.inl (HF.out i hi)))
set_option maxHeartbeats 1600000 in
theorem drop_other (w : World) (col : Nat → Nat) (p pd mb : Nat) (n : Int) (n0 : 0 ≤ n) (n1 : n < 4294967296) (s : List Int) (G : Nat → Prop) (P : Po w pd G s) (hG : ∀ b, G b → col b = 21) (hs : s.length < 65535) (fs : List Fr) (D : DataW Value) (M : Mc w col mb fs D)
    (c82 : w.cell? ⟨p, 82, none⟩ = some (.pointer (some ⟨pd, 0, none⟩))) (c83 : w.cell? ⟨p, 83, none⟩ = some (.map (some mb))) (c85 : w.cell? ⟨p, 85, none⟩ = some (.bool false)) (hn : n ∉ nums fs) (u : Bool)
    (HU : Hid (∀ W, Below w.heap.size w W → Calls Tryz.prog 68 #[.pointer (some ⟨p, 0, none⟩), .int .u32 n] W fun e w' => e = .returned (.bool u) ∧ Below W.heap.size W w')) :
    Calls Tryz.prog 35 #[.pointer (some ⟨p, 0, none⟩), .int .u32 n] w fun e w' => e = .returned (.int .i64 (if u then 0 else 10)) ∧ (u = false → Below w.heap.size w w') ∧
      (u = true → ∃ (col' : Nat → Nat) (G' : Nat → Prop), (∀ b, b < w.heap.size → col' b = col b) ∧ Po w' pd G' (putS n s) ∧ (∀ b, G' b → col' b = 21) ∧ Keep (fun b => col b = 21) w w') := by
  have hz := zero_cont
  have HT := Lib.hid (there_newN w zcont 140 2 rfl)
  have HB : Hid (Below w.heap.size w (w.alloc (.cells zcont 140))) := alb _
  have HM := Lib.hid M
  have HP := Lib.hid P
  have HG := Lib.hid hG
  have HGL := Lib.hid P.lt
  have HC82 := Lib.hid c82
  have HN := Lib.hid hn
  have HS := Lib.hid hs
  have N0 := Lib.hid n0
  have N1 := Lib.hid n1
  clear M P hG hn hs n0 n1 c82
  cases u with
  | false =>
    go_enter Tryz.func35, Tryz.ntmps35
    go_wp2_with (first
      | (at_lookup; refine wpList_look_any rfl (.tmp 16) (.tmp 17) rfl col mb fs D HM.out n N0.out N1.out false (decide_eq_false HN.out) rfl rfl ?_; rintro kk vv ⟨A3, m3, c3, rfl⟩)
      | (refine wpList_store_cont rfl (.tmp 5) (.tmp 19) rfl w.heap.size kk A3 m3 c3 rfl rfl HT.out ?_))
    intro w1 hc1 k1
    have HB1 : Hid (Below w.heap.size w w1) := HB.out.trans (k1.below HB.out.size (fun k hk => by subst hk; exact Nat.le_refl _))
    clear k1 HB HT HM HP hc1
    go_wp2_with (go_at_call 68; refine (HU.out _ HB1.out).mono ?_; rintro e w2 ⟨rfl, hb2⟩)
    go_ret
    exact ⟨rfl, btr HB1.out hb2⟩
  | true =>
    go_enter Tryz.func35, Tryz.ntmps35
    go_wp2_with (first
      | (at_lookup; refine wpList_look_any rfl (.tmp 16) (.tmp 17) rfl col mb fs D HM.out n N0.out N1.out false (decide_eq_false HN.out) rfl rfl ?_; rintro kk vv ⟨A3, m3, c3, rfl⟩)
      | (refine wpList_store_cont rfl (.tmp 5) (.tmp 19) rfl w.heap.size kk A3 m3 c3 rfl rfl HT.out ?_))
    intro w1 hc1 k1
    have HB1 : Hid (Below w.heap.size w w1) := HB.out.trans (k1.below HB.out.size (fun k hk => by subst hk; exact Nat.le_refl _))
    clear k1 HB HT HM hc1
    go_wp2_with (first
      | (go_at_call 89; refine CP.out.mono ?_; rintro en w3 ⟨rfl, F3, P3, k3, f3⟩)
      | (go_at_call 68; refine (HU.out _ HB1.out).mono ?_; rintro e w2 ⟨rfl, hb2⟩; have HB2 := Lib.hid (btr HB1.out hb2); have c82 := kept HC82.out HB2.out; have CP := Lib.hid (put_any w2 pd G s n (HP.out.below HB2.out) N0.out N1.out HS.out)))
    go_ret
    refine ⟨rfl, upd col w.heap.size 21, fun b hb => upd_old hb, F3, P3, fun b hb => ?_, (Keep.of_below HB2.out).trans k3 (fun i hi => .inl (HG.out i hi))⟩
    rcases f3 b hb with q | q
    · rw [upd_old (HGL.out b q)]; exact HG.out b q
    · have := HB2.out.size
      rw [upd_new (by omega)]
theorem drop_any (w : World) (col : Nat → Nat) (p : Nat) (dv : Value) (s : Pm) (h : Pgr w col p dv s) (n : Int) (n0 : 0 ≤ n) (n1 : n < 4294967296) :
    Calls Tryz.prog 35 #[.pointer (some ⟨p, 0, none⟩), .int .u32 n] w fun e w' => e = .returned (.int .i64 (s.drop n).2) ∧ Chg w w' col p dv (s.drop n).1 := by
  obtain ⟨ok, cp, lv, pf0, pd0, m0, pf, pd, mb, C, S0, S, N, R, L⟩ := id h
  obtain ⟨D, M⟩ := S.map
  obtain ⟨F, P, hF⟩ := S.free
  obtain ⟨G, P2, hG⟩ := S.defd
  have c85 := C.co
  have c83 : w.cell? ⟨p, 83, none⟩ = some (.map (some mb)) := scs_map C.rn ok.rtl
  have c82 : w.cell? ⟨p, 82, none⟩ = some (.pointer (some ⟨pd, 0, none⟩)) := scs_defd C.rn ok.rtl
  have c81 : w.cell? ⟨p, 81, none⟩ = some (.pointer (some ⟨pf, 0, none⟩)) := scs_free C.rn ok.rtl
  cases ho : s.o with
  | true =>
    have e1 : s.drop n = (s, 7) := by simp [Pm.drop, ho]
    rw [e1]
    rw [ho] at c85
    have HH := Lib.hid h
    clear e1 C S0 S N R L M P hF P2 hG h
    go_enter Tryz.func35, Tryz.ntmps35
    go_wp2
    go_ret
    exact ⟨rfl, Chg.same HH.out (Below.refl _ _)⟩
  | false =>
    rw [ho] at c85
    by_cases hn : n ∈ nums s.x.fresh
    · have e1 : s.drop n = ({ s with x := ⟨putS n s.x.free, s.x.defd, delF n s.x.fresh⟩ }, 0) := by simp [Pm.drop, ho, hn]
      rw [e1]
      have hnp := ok.freshp n hn
      refine (drop_fresh w col p pf mb n n0 n1 s.x.free F P hF ok.fl s.x.fresh D M S.cm cp c81 c83 c85 hn).mono ?_
      rintro e w' ⟨rfl, col', F', D', hc, P', hF', M', K⟩
      have okx := ok.setx ⟨putS n s.x.free, s.x.defd, delF n s.x.fresh⟩ (ok.free.put n0 n1) (fun x hx => by
        rcases (mem_putS n x _).1 hx with rfl | hx
        · exact hnp
        · exact ok.freep x hx) ok.defd ok.defdp (by rw [nums_del]; exact ok.fresh.filter _) (fun x hx => by
        rw [nums_del] at hx
        exact ok.freshp x (List.mem_filter.1 hx).1) (fun f hf => ok.body f ((mem_delF n f _).1 hf).1)
      refine ⟨rfl, col', hc, ?_, K.mono (fun b _ q => ⟨by omega, by omega⟩)⟩
      have k' : Keep (fun b => col' b = 20 ∨ col' b = 22) w w' := K.mono (fun b hb q => by rw [hc b hb]; exact q)
      exact ⟨okx, (hc p C.lt).trans cp, lv, pf0, pd0, m0, pf, pd, mb, C.keep k' (fun q => by have := hc p C.lt; omega), (S0.recol hc).keep k' (fun b hb => by omega), ⟨⟨F', P', hF'⟩, ⟨G, P2.keep k' (fun b hb => by have := hc b (P2.lt b hb); have := hG b hb; omega), fun b hb => (hc b (P2.lt b hb)).trans (hG b hb)⟩, ⟨D', M'⟩, (hc mb M.lt).trans S.cm⟩,
        nkeep N k' (fun h0 b hb => by have := hc b (nlt N h0 b hb); have := L h0 b hb; omega), R, fun h0 b hb => (hc b (nlt N h0 b hb)).trans (L h0 b hb)⟩
    · have H := drop_other w col p pd mb n n0 n1 s.x.defd G P2 hG ok.del s.x.fresh D M c82 c83 c85 hn (s.used n) (Lib.hid fun W hW => inuse_any W col p _ s (h.below hW) n n0 n1)
      cases hu : s.used n with
      | false =>
        rw [hu] at H
        have e1 : s.drop n = (s, 10) := by simp [Pm.drop, ho, hn, hu]
        rw [e1]
        refine H.mono ?_
        rintro e w' ⟨rfl, hb, _⟩
        exact ⟨rfl, Chg.same h (hb rfl)⟩
      | true =>
        rw [hu] at H
        have e1 : s.drop n = ({ s with x := ⟨s.x.free, putS n s.x.defd, s.x.fresh⟩ }, 0) := by simp [Pm.drop, ho, hn, hu]
        rw [e1]
        refine H.mono ?_
        rintro e w' ⟨rfl, _, hb⟩
        obtain ⟨col', G', hc, P', hG', K⟩ := hb rfl
        have hnp : 2 ≤ n ∧ n < ((s.r.getD 0 0 : Nat) : Int) := by
          simp only [Pm.used, Bool.and_eq_true, decide_eq_true_eq] at hu
          exact hu.1
        have okx := ok.setx ⟨s.x.free, putS n s.x.defd, s.x.fresh⟩ ok.free ok.freep (ok.defd.put n0 n1) (fun x hx => by
          rcases (mem_putS n x _).1 hx with rfl | hx
          · exact hnp
          · exact ok.defdp x hx) ok.fresh ok.freshp ok.body
        refine ⟨rfl, col', hc, ?_, K.mono (fun b _ q => ⟨by omega, by omega⟩)⟩
        have k' : Keep (fun b => col' b = 21) w w' := K.mono (fun b hb q => by rw [hc b hb]; exact q)
        exact ⟨okx, (hc p C.lt).trans cp, lv, pf0, pd0, m0, pf, pd, mb, C.keep k' (fun q => by have := hc p C.lt; omega), (S0.recol hc).keep k' (fun b hb => by omega), ⟨⟨F, P.keep k' (fun b hb => by have := hc b (P.lt b hb); have := hF b hb; omega), fun b hb => (hc b (P.lt b hb)).trans (hF b hb)⟩, ⟨G', P', hG'⟩, ⟨D, (M.recol hc).keep k' (by have := hc mb M.lt; have := S.cm; omega) (fun b hb => by omega)⟩, (hc mb M.lt).trans S.cm⟩,
          nkeep N k' (fun h0 b hb => by have := hc b (nlt N h0 b hb); have := L h0 b hb; omega), R, fun h0 b hb => (hc b (nlt N h0 b hb)).trans (L h0 b hb)⟩
end Go.Proofs.YtlcnefeikejcaaaGreatDoor
namespace Go.Proofs.YtlcnefeikejcaaaGreatDoor
open D (St)
theorem Dj.make {s : Pm} (h : Dj s) (ok : POk s) (k : UInt8) (l : List UInt8) : Dj (s.make k l).1 := by
  unfold Pm.make
  split
  · exact h
  · split
    · exact h
    · split
      · exact h
      · rename_i n r hf
        have hr := ok.free
        rw [hf] at hr
        have hn := h.fl n (by rw [hf]; simp)
        refine ⟨h.ll, fun x hx => ?_, fun x hx => ?_, fun x hx => ?_, h.nl⟩
        · have hx : x ∈ r := hx
          have h2 := h.fl x (by rw [hf]; simp [hx])
          refine ⟨h2.1, h2.2.1, fun q => ?_⟩
          have q : x ∈ nums (putF ⟨n, k, l⟩ s.x.fresh) := q
          rw [nums_put, mem_putS] at q
          rcases q with q | q
          · have h3 := hr.lt x hx
            have q : x = n := q
            omega
          · exact h2.2.2 q
        · have h2 := h.dl x hx
          refine ⟨h2.1, fun q => ?_⟩
          have q : x ∈ nums (putF ⟨n, k, l⟩ s.x.fresh) := q
          rw [nums_put, mem_putS] at q
          rcases q with q | q
          · have q : x = n := q
            subst q
            exact hn.2.1 hx
          · exact h2.2 q
        · have q : x ∈ nums (putF ⟨n, k, l⟩ s.x.fresh) := hx
          rw [nums_put, mem_putS] at q
          rcases q with q | q
          · have q : x = n := q
            subst q
            exact hn.1
          · exact h.frl x q
theorem Dj.setRoot {s : Pm} (h : Dj s) (t : Int) (x y z : Nat) : Dj (s.setRoot t x y z) := by
  unfold Pm.setRoot
  split
  · exact h
  · split
    · exact ⟨h.ll, h.fl, h.dl, h.frl, h.nl⟩
    · exact h
theorem Dj.put {s : Pm} (h : Dj s) (ok : POk s) (n : Int) (k : UInt8) (l : List UInt8) : Dj (s.put n k l).1 := by
  unfold Pm.put
  split
  · exact h
  · split
    · rename_i hn
      split
      · exact h
      · have e : nums (putF ⟨n, k, l⟩ s.x.fresh) = nums s.x.fresh := by
          rw [nums_put]
          exact putS_in ok.fresh hn
        refine ⟨h.ll, fun x hx => ?_, fun x hx => ?_, fun x hx => ?_, h.nl⟩
        · have h2 := h.fl x hx
          refine ⟨h2.1, h2.2.1, ?_⟩
          show x ∉ nums (putF ⟨n, k, l⟩ s.x.fresh)
          rw [e]
          exact h2.2.2
        · have h2 := h.dl x hx
          refine ⟨h2.1, ?_⟩
          show x ∉ nums (putF ⟨n, k, l⟩ s.x.fresh)
          rw [e]
          exact h2.2
        · have q : x ∈ nums (putF ⟨n, k, l⟩ s.x.fresh) := hx
          rw [e] at q
          exact h.frl x q
    · exact h
theorem mem_nums_del {n x : Int} {fs : List Fr} : x ∈ nums (delF n fs) ↔ x ∈ nums fs ∧ x ≠ n := by
  rw [nums_del, List.mem_filter]
  simp
theorem Dj.drop {s : Pm} (h : Dj s) (n : Int) : Dj (s.drop n).1 := by
  unfold Pm.drop
  split
  · exact h
  · split
    · rename_i hn
      refine ⟨h.ll, fun x hx => ?_, fun x hx => ?_, fun x hx => ?_, h.nl⟩
      · have hx : x ∈ putS n s.x.free := hx
        rcases (mem_putS _ _ _).1 hx with q | q
        · subst q
          exact ⟨h.frl x hn, fun z => (h.dl x z).2 hn, fun z => (mem_nums_del.1 z).2 rfl⟩
        · have h2 := h.fl x q
          exact ⟨h2.1, h2.2.1, fun z => h2.2.2 (mem_nums_del.1 z).1⟩
      · have h2 := h.dl x hx
        exact ⟨h2.1, fun z => h2.2 (mem_nums_del.1 z).1⟩
      · exact h.frl x (mem_nums_del.1 hx).1
    · split
      · rename_i hn hu
        unfold Pm.used at hu
        simp only [Bool.and_eq_true, Bool.not_eq_true', decide_eq_false_iff_not, decide_eq_true_eq] at hu
        obtain ⟨_, u1, u2, u3, u4⟩ := hu
        refine ⟨h.ll, fun x hx => ?_, fun x hx => ?_, h.frl, h.nl⟩
        · have h2 := h.fl x hx
          refine ⟨h2.1, fun z => ?_, h2.2.2⟩
          have z : x ∈ putS n s.x.defd := z
          rcases (mem_putS _ _ _).1 z with q | q
          · subst q
            exact u2 hx
          · exact h2.2.1 q
        · have hx : x ∈ putS n s.x.defd := hx
          rcases (mem_putS _ _ _).1 hx with q | q
          · subst q
            exact ⟨u4, u1⟩
          · exact h.dl x q
      · exact h
theorem Dj.abort {s : Pm} (h : Dj s) : Dj s.abort :=
  ⟨h.ll, fun x hx => ⟨h.nl x hx, by simp [Pm.abort], by simp [Pm.abort, nums]⟩, fun x hx => by simp [Pm.abort] at hx, fun x hx => by simp [Pm.abort, nums] at hx, h.nl⟩
theorem names_pages {s : Pm} (ok : POk s) (hj : Dj s) {x : Int} (hx : x ∈ s.names) : x ∉ s.pages := fun hxp => by
  have hf : x ∈ s.x.free := List.mem_of_mem_take hxp
  rw [Pm.names, mem_sortP, List.mem_append, List.mem_append] at hx
  rcases hx with q | q | q
  · have hq : (s.x.free.take s.need ++ s.x.free.drop s.need).Pairwise (· < ·) := by
      rw [List.take_append_drop]
      exact ok.free.up
    have := (List.pairwise_append.1 hq).2.2 x hxp x q
    omega
  · exact (hj.fl x hf).1 q
  · exact (hj.fl x hf).2.1 q
theorem Dj.next {s : Pm} (h : Dj s) (ok : POk s) : Dj s.next :=
  ⟨pages_nodup ok, fun x hx => ⟨names_pages ok h hx, by simp [Pm.next], by simp [Pm.next, nums]⟩, fun x hx => by simp [Pm.next] at hx, fun x hx => by simp [Pm.next, nums] at hx, fun x hx => names_pages ok h hx⟩
theorem born_dj {n : Nat} (h4 : n ≤ 4096) : Dj (Pm.born n) := by
  have h := (fmt_dj n).next (fmt_ok h4)
  exact ⟨h.ll, h.fl, h.dl, h.frl, h.nl⟩
end Go.Proofs.YtlcnefeikejcaaaGreatDoor
namespace Go.Proofs.YtlcnefeikejcaaaGreatDoor
open Go.RowKit Go.Sort Go.Maps
open D (St)
set_option maxRecDepth 100000
theorem nums_lits (w : World) (l : List Int) (hl : l.length ≤ 1000) : Nums (w.alloc (.cells (us l).toArray 31)) (.slice (some ⟨w.heap.size, 0, none⟩) l.length l.length) l :=
  ⟨_, l.length, rfl, Nat.le_refl _, by unfold maxLen; omega, fun _ => ⟨w.heap.size, 0, rfl, fun j hj => by
    rw [World.cell?_alloc_at _ _ _ _ rfl]
    simp [us, hj]⟩⟩
def Pm.ex : Pm := ((Pm.born 8).make 3 [120]).1
theorem ex_facts : (Pm.born 8).lists = [2] ∧ (Pm.born 8).x.free = [3, 4, 5, 6, 7] ∧ ((Pm.born 8).make 3 [120]).2 = (3, 0) ∧ Pm.ex.o = false ∧ Pm.ex.chd = true ∧ Pm.ex.need ≤ Pm.ex.x.free.length ∧ Pm.ex.e < 1000000000 ∧ Pm.ex.next.q = 2 ∧ Pm.ex.next.lists = [4] ∧ Pm.ex.next.x.free = [2, 5, 6, 7] ∧ Pm.ex.r.getD 0 0 = 8 := by
  refine ⟨by decide, by decide, by decide, by decide, by decide, by decide, by decide, by decide, by decide, by decide, by decide⟩
theorem popE_len {d : St} (h : popE d = 0) : (popS d).r.getD 0 0 = d.safe.length := by
  unfold popE at h
  split at h
  · omega
  · split at h
    · omega
    · split at h
      · omega
      · rename_i h3
        exact Decidable.not_not.1 h3
theorem born_len {n : Nat} (h8 : 8 ≤ n) (h4 : n ≤ 4096) : (dborn n).safe.length = n := by
  obtain ⟨_, _, h1, h2⟩ := born_facts h8 h4
  have := popE_len h1
  rw [h2] at this
  exact this.symm
theorem popS_ok {d : St} (hB : d.safe.length ≤ 4096) (h : popE d = 0) : POk (popS d) := by
  have hl := popE_len h
  have e : (rl d (U.newR (readB d 0) (readB d 1))).isSome = true := by
    unfold popE at h
    split at h
    · omega
    · split at h
      · omega
      · split at h
        · omega
        · split at h
          · rename_i h4
            exact h4
          · omega
  obtain ⟨⟨P, N⟩, hy⟩ := Option.isSome_iff_exists.1 e
  have h2 := popen_ok (U.newQ_lt (readB d 0) (readB d 1)) (U.newR_length _ _) (U.newR_lt _ _) hB hl hy
  unfold popS
  rw [hy]
  exact h2
theorem born_ok {n : Nat} (h8 : 8 ≤ n) (h4 : n ≤ 4096) : POk (Pm.born n) := by
  obtain ⟨_, _, h1, h2⟩ := born_facts h8 h4
  rw [← h2]
  exact popS_ok (by rw [born_len h8 h4]; exact h4) h1
theorem comm_wr (d : St) (J : List (Nat × List UInt8)) (m : Nat) (B : List UInt8) : (comm d J m B).1.waits.length ≤ d.waits.length + J.length + 1 ∧ (comm d J m B).1.writes ≤ d.writes + J.length + 1 := by
  have a := wrL_len J d
  have b := sync_len (wrL d J).1
  have c := write_len (D.sync (wrL d J).1) (m : Int) B
  have e := sync_len (D.write (D.sync (wrL d J).1) (m : Int) B)
  unfold comm
  split
  · exact ⟨by omega, by omega⟩
  · split
    · exact ⟨by show (D.sync (wrL d J).1).waits.length ≤ _; omega, by show (D.sync (wrL d J).1).writes ≤ _; omega⟩
    · split
      · exact ⟨by show (D.write (D.sync (wrL d J).1) (m : Int) B).waits.length ≤ _; omega, by show (D.write (D.sync (wrL d J).1) (m : Int) B).writes ≤ _; omega⟩
      · exact ⟨by show (D.sync (D.write (D.sync (wrL d J).1) (m : Int) B)).waits.length ≤ _; omega, by show (D.sync (D.write (D.sync (wrL d J).1) (m : Int) B)).writes ≤ _; omega⟩
theorem born_writes {n : Nat} (h4 : n ≤ 4096) : (dborn n).waits.length ≤ 20000 ∧ (dborn n).writes ≤ 20000 := by
  have hl : (D.new n).safe.length = n := by simp [D.new]
  have a := wrL_len Z2 (D.new n)
  have hz : Z2.length = 2 := rfl
  have hn : (D.new n).waits.length = 0 ∧ (D.new n).writes = 0 := ⟨rfl, rfl⟩
  have b := sync_len (wrL (D.new n) Z2).1
  have hj := jobs_len (fmt_ok (B := (D.new n).safe.length) (by omega))
  have c := comm_wr (D.sync (wrL (D.new n) Z2).1) (Pm.fmt (D.new n).safe.length).jobs ((Pm.fmt (D.new n).safe.length).q1 % 2) (U.wr (Pm.fmt (D.new n).safe.length).q1 (Pm.fmt (D.new n).safe.length).r1)
  unfold dborn pfmt
  split
  · exact ⟨by omega, by omega⟩
  · split
    · exact ⟨by show (D.sync (wrL (D.new n) Z2).1).waits.length ≤ _; omega, by show (D.sync (wrL (D.new n) Z2).1).writes ≤ _; omega⟩
    · unfold Pm.comm
      exact ⟨by omega, by omega⟩
theorem ex_commit (ok : POk Pm.ex) : (Pm.ex.commit (dborn 8)).1 = Pm.ex.next ∧ (Pm.ex.commit (dborn 8)).2.2 = 0 := by
  obtain ⟨_, _, _, f4, f5, f6, _, _, _, _, f11⟩ := ex_facts
  have hj : Dj Pm.ex := (born_dj (n := 8) (by omega)).make (born_ok (by omega) (by omega)) 3 [120]
  obtain ⟨c1, c2⟩ := scomm_free (d := dborn 8) ok hj f6 (by rw [born_len (by omega) (by omega)]; omega) (by rw [born_len (by omega) (by omega), f11]) (born_facts (by omega) (by omega)).2.1
  have e : Pm.ex.commit (dborn 8) = (Pm.ex.res (dborn 8), Pm.ex.comm (dborn 8)) := by
    unfold Pm.commit
    rw [f4, f5, if_neg (by simp), if_pos rfl, if_neg (by omega)]
  rw [e]
  refine ⟨?_, c1⟩
  unfold Pm.res
  rw [if_neg (by omega)]
end Go.Proofs.YtlcnefeikejcaaaGreatDoor
namespace Go.Proofs.YtlcnefeikejcaaaGreatDoor
open Go.RowKit Go.Sort Go.Maps
open D (St)
set_option maxRecDepth 100000
theorem x_cells (w : World) (fr : Nat × Nat) : Byts (w.alloc (.cells #[.int .u8 120] 5 fr)) (.slice (some ⟨w.heap.size, 0, none⟩) 1 1) [120] := by
  refine ⟨_, _, rfl, Nat.le_refl _, fun _ => ⟨w.heap.size, 0, rfl, fun j hj => ?_⟩⟩
  rw [Nat.zero_add, Go.Joins.cell_alloc_mark_at w #[.int .u8 120] _ fr _ j rfl]
  have e : (#[.int .u8 120] : Array Value) = (bvs [120]).toArray := rfl
  rw [e, List.getElem?_toArray, bvs_get [120] j hj]
set_option maxHeartbeats 3200000 in
theorem lfixed_any (w : World) (hT : Tab w) (hw0 : 0 < w.heap.size) :
    Calls Tryz.prog 8 #[] w fun e w' => e = .returned (.bool true) ∧ Below w.heap.size w w' := by
  have HM := Lib.hid (lmade_any w (fun _ => 99) 8 (by omega) (by omega) hT rfl hw0)
  obtain ⟨f1, f2, f3, f4, f5, f6, f7, f8, f9, f10, f11⟩ := ex_facts
  have F1 := Lib.hid f1
  have F2 := Lib.hid f2
  have F3 := Lib.hid f3
  have F4 := Lib.hid f4
  have F7 := Lib.hid f7
  have F8 := Lib.hid f8
  have F9 := Lib.hid f9
  have F10 := Lib.hid f10
  clear f1 f2 f3 f4 f5 f6 f7 f8 f9 f10 f11 hT hw0
  go_enter Tryz.func8, Tryz.ntmps8
  go_wp2_with fail
  refine HM.out.mono ?_
  rintro e w1 ⟨dp, p, rfl, m1, b1⟩
  obtain ⟨g, c1, a1, P1⟩ := m1
  have HP1 := Lib.hid P1
  have A1 := Lib.hid a1
  clear a1
  have B1 := Lib.hid b1
  clear P1 b1
  go_wp2_with fail
  refine (lists_any HP1.out.pg).mono ?_
  rintro e w2 ⟨v2, rfl, o2, b2⟩
  have N2 := Lib.hid (Nums.own o2)
  rw [F1.out] at N2
  have HP2 := Lib.hid (HP1.out.below b2)
  have B2 := Lib.hid (btr B1.out b2)
  clear o2 b2
  go_wp2_with fail
  have S3 := rsame_any _ v2 _ [2] [2] (N2.out.below (alb _)) (nums_one w2 2)
  rw [decide_eq_true rfl] at S3
  refine S3.mono ?_
  clear S3
  rintro e w3 ⟨rfl, b3⟩
  have HP3 := Lib.hid ((HP2.out.below (alb _)).below b3)
  have B3 := Lib.hid (btr (btr B2.out (alb _)) b3)
  clear b3
  go_wp2_with fail
  refine (free_any HP3.out.pg).mono ?_
  rintro e w4 ⟨v4, rfl, o4, b4⟩
  have N4 := Lib.hid (Nums.own o4)
  rw [F2.out] at N4
  have HP4 := Lib.hid (HP3.out.below b4)
  have B4 := Lib.hid (btr B3.out b4)
  clear o4 b4
  go_wp2_with fail
  have S5 := rsame_any _ v4 _ [3, 4, 5, 6, 7] [3, 4, 5, 6, 7] (N4.out.below (alb _)) (nums_lits w4 [3, 4, 5, 6, 7] (by simp))
  rw [decide_eq_true rfl] at S5
  refine S5.mono ?_
  clear S5
  rintro e w5 ⟨rfl, b5⟩
  have HP5 := Lib.hid ((HP4.out.below (alb _)).below b5)
  have B5 := Lib.hid (btr (btr B4.out (alb _)) b5)
  clear b5
  obtain ⟨cc, hcc⟩ : ∃ cc : Nat → Nat, cc = (fun b => if b < w5.heap.size then c1 b else 0) := ⟨_, rfl⟩
  have cold : Hid (∀ b, b < w5.heap.size → cc b = c1 b) := fun b hb => by rw [hcc]; exact if_pos hb
  have cnew : Hid (cc w5.heap.size = 0) := Lib.hid (by rw [hcc]; exact if_neg (by omega))
  clear hcc
  have kc := Lib.run_convert_bytes_const (P := Tryz.prog) w5 48 5 #[.int .u8 120] 1 1 Tryz.underlying48 Tryz.underlying5
  go_wp2_with fail
  have K6 := pmake_any _ cc p _ (Pm.born 8) ((HP5.out.pg.recol cold.out).below (alb (.cells #[.int .u8 120] 5 (1, 2)))) 3 _ [120] (x_cells w5 (1, 2)) (fun _ b hb => by
    simp only [Value.ownBlock, Option.some.injEq] at hb
    subst hb
    rw [cnew.out]
    omega)
  rw [F3.out] at K6
  refine K6.mono ?_
  clear K6
  rintro e w6 ⟨rfl, c6, a6, P6, k6⟩
  have s5 := B5.out.size
  have al5 : (w5.alloc (.cells #[.int .u8 120] 5 (1, 2))).heap.size = w5.heap.size + 1 := by simp
  have BU : Hid (Below w.heap.size w (w5.alloc (.cells #[.int .u8 120] 5 (1, 2)))) := btr B5.out (alb _)
  have old : Hid (∀ b, b < w.heap.size → cc b = 99) := fun b hb => (cold.out b (by omega)).trans (A1.out b hb)
  have B6 : Hid (Below w.heap.size w w6) := BU.out.trans (k6.below BU.out.size (fun k hk => by
    rcases Nat.lt_or_ge k w.heap.size with q | q
    · have h1 := old.out k q
      have h2 := hk.2
      omega
    · exact q))
  obtain ⟨wv, D5, c30⟩ := HP5.out.dk
  have h05 : 0 < w5.heap.size := World.block_lt_of_cell? w5 ⟨0, 0, none⟩ (HP5.out.tab 0 (by omega))
  have z0 : cc 0 = 99 := (cold.out 0 h05).trans HP5.out.t99
  have PD6 : Hid (Pgd w6 c6 p dp g Pm.ex (dborn 8)) := by
    refine ⟨?_, ⟨wv, (D5.below (alb _)).keep k6 (fun b hb q => ?_), fun b hb => ?_⟩, (HP5.out.tab.below (alb _)).keep k6 (fun q => ?_), ?_⟩
    · rw [F4.out]
      exact P6
    · have h1 := D5.lt b hb
      have h2 := (cold.out b h1).trans (c30 b hb)
      have h3 := q.2
      omega
    · have h1 := D5.lt b hb
      exact (a6 b (by omega)).trans ((cold.out b h1).trans (c30 b hb))
    · have h3 := q.2
      omega
    · exact (a6 0 (by omega)).trans z0
  have O6 : Hid (∀ b, b < w.heap.size → c6 b = 99) := fun b hb => (a6 b (by omega)).trans (old.out b hb)
  clear P6 k6 D5 c30 h05 z0 a6 al5 s5 kc
  have EX := Lib.hid (ex_commit PD6.out.pg.ok)
  have C7 := Lib.hid (commit_any w6 c6 p dp g Pm.ex (dborn 8) PD6.out (fun _ => (born_dj (n := 8) (by omega)).make (born_ok (by omega) (by omega)) 3 [120]) F7.out (by have := (born_writes (n := 8) (by omega)).1; omega) (by have := (born_writes (n := 8) (by omega)).2; omega))
  rw [EX.out.2, EX.out.1] at C7
  go_wp2_with fail
  refine C7.out.mono ?_
  rintro e w7 ⟨rfl, h7⟩
  obtain ⟨c7, a7, P7, k7⟩ := h7
  have HP7 := Lib.hid P7
  have B7 : Hid (Below w.heap.size w w7) := B6.out.trans (k7.below B6.out.size (fun k hk => by
    rcases Nat.lt_or_ge k w.heap.size with q | q
    · have h1 := O6.out k q
      have h2 := hk.2
      omega
    · exact q))
  clear P7 k7 a7
  go_wp2_with fail
  have SQ := seq_any HP7.out.pg
  rw [F8.out] at SQ
  refine SQ.mono ?_
  clear SQ
  rintro e w8 ⟨rfl, rfl⟩
  go_wp2_with fail
  refine (lists_any HP7.out.pg).mono ?_
  rintro e w8 ⟨v8, rfl, o8, b8⟩
  have N8 := Lib.hid (Nums.own o8)
  rw [F9.out] at N8
  have HP8 := Lib.hid (HP7.out.below b8)
  have B8 := Lib.hid (btr B7.out b8)
  clear o8 b8
  go_wp2_with fail
  have S9 := rsame_any _ v8 _ [4] [4] (N8.out.below (alb _)) (nums_one w8 4)
  rw [decide_eq_true rfl] at S9
  refine S9.mono ?_
  clear S9
  rintro e w9 ⟨rfl, b9⟩
  have HP9 := Lib.hid ((HP8.out.below (alb _)).below b9)
  have B9 := Lib.hid (btr (btr B8.out (alb _)) b9)
  clear b9
  go_wp2_with fail
  refine (free_any HP9.out.pg).mono ?_
  rintro e w10 ⟨v10, rfl, o10, b10⟩
  have N10 := Lib.hid (Nums.own o10)
  rw [F10.out] at N10
  have B10 := Lib.hid (btr B9.out b10)
  clear o10 b10
  go_wp2_with fail
  have S11 := rsame_any _ v10 _ [2, 5, 6, 7] [2, 5, 6, 7] (N10.out.below (alb _)) (nums_lits w10 [2, 5, 6, 7] (by simp))
  rw [decide_eq_true rfl] at S11
  refine S11.mono ?_
  clear S11
  rintro e w11 ⟨rfl, b11⟩
  go_wp2
  go_ret
  exact ⟨rfl, btr (btr B10.out (alb _)) b11⟩
end Go.Proofs.YtlcnefeikejcaaaGreatDoor
namespace Go.Proofs.YtlcnefeikejcaaaGreatDoor
open D (St)
structure Lst (s : Pm) (f : List Int) (P : Int → Prop) : Prop where
  o : s.o = false
  f : s.x.free = f
  m : ∀ x, x ∈ nums s.x.fresh ↔ P x
theorem Lst.made {s : Pm} {n : Int} {r : List Int} {P : Int → Prop} (h : Lst s (n :: r) P) (k : UInt8) {l : List UInt8} (hl : l.length ≤ 500) :
    (s.make k l).2 = (n, 0) ∧ Lst (s.make k l).1 r (fun x => x = n ∨ P x) := by
  have e : s.make k l = ({ s with x := ⟨r, s.x.defd, putF ⟨n, k, l⟩ s.x.fresh⟩ }, n, 0) := by
    unfold Pm.make
    rw [h.o, h.f]
    simp [show ¬ 500 < l.length by omega]
  rw [e]
  refine ⟨rfl, h.o, rfl, fun x => ?_⟩
  show x ∈ nums (putF ⟨n, k, l⟩ s.x.fresh) ↔ _
  rw [nums_put, mem_putS, h.m]
theorem Lst.none {s : Pm} {P : Int → Prop} (h : Lst s [] P) (k : UInt8) {l : List UInt8} (hl : l.length ≤ 500) : s.make k l = (s, 0, 6) := by
  unfold Pm.make
  rw [h.o, h.f]
  simp [show ¬ 500 < l.length by omega]
theorem Lst.drop {s : Pm} {f : List Int} {P : Int → Prop} (h : Lst s f P) {x : Int} (hx : P x) :
    (s.drop x).2 = 0 ∧ Lst (s.drop x).1 (putS x f) (fun y => P y ∧ y ≠ x) := by
  have e : s.drop x = ({ s with x := ⟨putS x s.x.free, s.x.defd, delF x s.x.fresh⟩ }, 0) := by
    unfold Pm.drop
    rw [h.o]
    simp [(h.m x).2 hx]
  rw [e]
  refine ⟨rfl, h.o, ?_, fun y => ?_⟩
  · show putS x s.x.free = putS x f
    rw [h.f]
  · show y ∈ nums (delF x s.x.fresh) ↔ _
    rw [mem_nums_del, h.m]
theorem Lst.kept {s : Pm} {f : List Int} {P : Int → Prop} (h : Lst s f P) {x : Int} (hx : ¬ P x) (hf : x ∈ f) : s.drop x = (s, 10) := by
  have hu : s.used x = false := by
    unfold Pm.used
    rw [h.f]
    simp [hf]
  unfold Pm.drop
  have hn : x ∉ nums s.x.fresh := fun q => hx ((h.m x).1 q)
  rw [h.o, hu]
  simp [hn]
theorem Lst.turn {s : Pm} {F back : List Int} (h : Lst s back (fun x => x ∈ F ∧ x ∉ back)) (hr : Ris back) {x : Int} (hx : x ∈ F) :
    (s.drop x).2 = (if x ∈ back then 10 else 0) ∧ Lst (s.drop x).1 (putS x back) (fun y => y ∈ F ∧ y ∉ putS x back) := by
  by_cases hb : x ∈ back
  · rw [h.kept (fun q => q.2 hb) hb, if_pos hb, putS_in hr hb]
    exact ⟨rfl, h⟩
  · obtain ⟨e, q⟩ := h.drop (x := x) ⟨hx, hb⟩
    refine ⟨by rw [e, if_neg hb], q.o, q.f, fun y => ?_⟩
    rw [q.m, mem_putS]
    constructor
    · rintro ⟨⟨a, b⟩, c⟩
      exact ⟨a, fun z => z.elim c b⟩
    · rintro ⟨a, b⟩
      exact ⟨⟨a, fun z => b (.inr z)⟩, fun z => b (.inl z)⟩
theorem Lst.next {s : Pm} {F : List Int} {i : Nat} (h : Lst s (F.drop i) (fun x => x ∈ F.take i)) (hi : i < F.length) (k : UInt8) {l : List UInt8} (hl : l.length ≤ 500) :
    (s.make k l).2 = (F[i]!, 0) ∧ Lst (s.make k l).1 (F.drop (i + 1)) (fun x => x ∈ F.take (i + 1)) := by
  have e : F.drop i = F[i]! :: F.drop (i + 1) := by
    rw [List.drop_eq_getElem_cons hi]
    simp [hi]
  rw [e] at h
  obtain ⟨h1, h2⟩ := h.made k hl
  refine ⟨h1, h2.o, h2.f, fun x => ?_⟩
  have e3 : F[i]! = F[i] := by simp [hi]
  rw [h2.m, List.take_add_one, List.getElem?_eq_getElem hi, e3, List.mem_append, Option.toList_some, List.mem_singleton, or_comm]
theorem Lst.again {s : Pm} {F : List Int} {i : Nat} {P : Int → Prop} (h : Lst s (F.drop i) P) (hi : i < F.length) (k : UInt8) {l : List UInt8} (hl : l.length ≤ 500) :
    (s.make k l).2 = (F[i]!, 0) ∧ ∃ P', Lst (s.make k l).1 (F.drop (i + 1)) P' := by
  have e : F.drop i = F[i]! :: F.drop (i + 1) := by
    rw [List.drop_eq_getElem_cons hi]
    simp [hi]
  rw [e] at h
  obtain ⟨h1, h2⟩ := h.made k hl
  exact ⟨h1, _, h2⟩
theorem born_lst (n : Nat) : Lst (Pm.born n) (Pm.born n).x.free (fun x => x ∈ (Pm.born n).x.free.take 0) := ⟨rfl, rfl, fun x => by simp [Pm.born, Pm.next, nums]⟩
theorem born_free {n : Nat} (h8 : 8 ≤ n) (h : n ≤ 40) : (Pm.born n).x.free.length = n - 3 := by
  have hl := from2_length n
  have e : (Pm.fmt n).need = 1 := by
    unfold Pm.need L.needZ
    have e1 : (Pm.fmt n).x.free.length = n - 2 := hl
    have e2 : (Pm.fmt n).lists.length = 0 := rfl
    have e3 : (Pm.fmt n).x.defd.length = 0 := rfl
    rw [e1, e2, e3]
    split <;> omega
  show (Pm.fmt n).names.length = n - 3
  unfold Pm.names
  rw [sortP_length ((fmt_dj n).nodup (fmt_ok (by omega)) _), e]
  have e1 : (Pm.fmt n).x.free.length = n - 2 := hl
  have e2 : (Pm.fmt n).lists.length = 0 := rfl
  have e3 : (Pm.fmt n).x.defd.length = 0 := rfl
  rw [List.length_append, List.length_append, List.length_drop, e1, e2, e3]
  omega
end Go.Proofs.YtlcnefeikejcaaaGreatDoor
