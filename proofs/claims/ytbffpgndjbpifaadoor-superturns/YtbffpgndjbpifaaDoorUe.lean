/- super.Read and super.Newest. -/
import Derived.Test.YtbffpgndjbpifaaDoorUd
namespace Go.Proofs.YtbffpgndjbpifaaDoor
open Go.RowKit

theorem run_build_sup (w : World) : (Instr.build 28 #[]).run Tryd.prog w = .ok (.agg (sva 0 U.none27)) w := by kernel_rfl
theorem none27_len : U.none27.length = 27 := rfl
theorem low_of {B : Nat} {w0 w w1 : World} {b : Nat} (h : Below B w0 w) (hB : B ≤ w.heap.size) (k : Keep (fun k => k = b) w w1) (hb : B ≤ b) : Below B w0 w1 := h.trans (k.below hB (fun k hk => by subst hk; exact hb))
/-- A place that isn't one. -/
theorem read_out (p : Int) (hp : p < 0 ∨ 1 < p) (v : Value) (w : World) :
    Calls Tryd.prog 8 #[.int .i64 p, v] w fun e w' => e = .returned (.tuple #[.agg (sva 0 U.none27), .int .i64 1]) ∧ Below w.heap.size w w' := by
  have hbz := run_build_sup
  have HR : Hid (Sup (w.alloc (.cells #[.int .u64 0, .int .u32 0, .int .u32 0, .int .u32 0, .int .u32 0, .int .u32 0, .int .u32 0, .int .u32 0, .int .u32 0, .int .u32 0, .int .u32 0, .int .u32 0, .int .u32 0, .int .u32 0, .int .u32 0, .int .u32 0, .int .u32 0, .int .u32 0, .int .u32 0, .int .u32 0, .int .u32 0, .int .u32 0, .int .u32 0, .int .u32 0, .int .u32 0, .int .u32 0, .int .u32 0, .int .u32 0] 28)) w.heap.size 0 U.none27) := Sup.made w 0 U.none27 rfl
  have HB : Hid (Below w.heap.size w (w.alloc (.cells #[.int .u64 0, .int .u32 0, .int .u32 0, .int .u32 0, .int .u32 0, .int .u32 0, .int .u32 0, .int .u32 0, .int .u32 0, .int .u32 0, .int .u32 0, .int .u32 0, .int .u32 0, .int .u32 0, .int .u32 0, .int .u32 0, .int .u32 0, .int .u32 0, .int .u32 0, .int .u32 0, .int .u32 0, .int .u32 0, .int .u32 0, .int .u32 0, .int .u32 0, .int .u32 0, .int .u32 0, .int .u32 0] 28))) := alb _
  have q1 : decide (p < 0) = true ∨ (decide (p < 0) = false ∧ decide (2 ≤ p) = true) := by
    by_cases h : p < 0
    · exact .inl (by simpa using h)
    · exact .inr ⟨by simpa using h, by simp; omega⟩
  clear hp
  rcases q1 with q1 | ⟨q1, q2⟩
  all_goals
    go_enter Tryd.func8, Tryd.ntmps8
    go_wp2_with (first
      | (refine wpList_store_sup rfl (.tmp 4) (.tmp 16) rfl w.heap.size 0 U.none27 rfl rfl none27_len HR.out.2.1 ?_)
      | go_in)
    intro w9 HS hk
    go_wp2
    exact bodyPost_ret (results_sup rfl _ _ w.heap.size 0 U.none27 _ rfl rfl HS.out) rfl ⟨rfl, low_of HB.out HB.out.size hk (Nat.le_refl _)⟩

set_option maxHeartbeats 1600000 in
theorem read_core (pn en kn n2 m sq : Nat) (rr : List Nat) (v : Value) (w : World) (hp : pn < 2) (hq : sq < 18446744073709551616) (hm : (sq : Int) % 2 = (m : Int)) (HRR : Hid (rr.length = 27)) (hkn : kn < 256)
    (HO : Hid (∀ W : World, Below w.heap.size w W → Calls Tryd.prog 18 #[.int .u32 (pn : Int), v] W fun e w' => ∃ A2 c2, e = .returned (.tuple #[.int .u8 (kn : Int), .slice A2 n2 c2, .int .i64 (en : Int)]) ∧ Below W.heap.size W w' ∧
      (n2 = 116 → Calls Tryd.prog 19 #[.slice A2 n2 c2] w' fun e w2 => e = .returned (.agg (sva sq rr)) ∧ Below w'.heap.size w' w2)))
    (E Q : Nat) (R : List Nat) (hc : (en ≠ 0 ∧ E = en ∧ Q = 0 ∧ R = U.none27) ∨ (en = 0 ∧ (kn ≠ 1 ∨ (kn = 1 ∧ n2 ≠ 116)) ∧ E = 2 ∧ Q = 0 ∧ R = U.none27) ∨ (en = 0 ∧ kn = 1 ∧ n2 = 116 ∧ m ≠ pn ∧ E = 2 ∧ Q = 0 ∧ R = U.none27) ∨ (en = 0 ∧ kn = 1 ∧ n2 = 116 ∧ m = pn ∧ E = 0 ∧ Q = sq ∧ R = rr)) :
    Calls Tryd.prog 8 #[.int .i64 (pn : Int), v] w fun e w' => e = .returned (.tuple #[.agg (sva Q R), .int .i64 (E : Int)]) ∧ Below w.heap.size w w' := by
  have hbz := run_build_sup
  have HR : Hid (Sup (w.alloc (.cells #[.int .u64 0, .int .u32 0, .int .u32 0, .int .u32 0, .int .u32 0, .int .u32 0, .int .u32 0, .int .u32 0, .int .u32 0, .int .u32 0, .int .u32 0, .int .u32 0, .int .u32 0, .int .u32 0, .int .u32 0, .int .u32 0, .int .u32 0, .int .u32 0, .int .u32 0, .int .u32 0, .int .u32 0, .int .u32 0, .int .u32 0, .int .u32 0, .int .u32 0, .int .u32 0, .int .u32 0, .int .u32 0] 28)) w.heap.size 0 U.none27) := Sup.made w 0 U.none27 rfl
  have HB : Hid (Below w.heap.size w (w.alloc (.cells #[.int .u64 0, .int .u32 0, .int .u32 0, .int .u32 0, .int .u32 0, .int .u32 0, .int .u32 0, .int .u32 0, .int .u32 0, .int .u32 0, .int .u32 0, .int .u32 0, .int .u32 0, .int .u32 0, .int .u32 0, .int .u32 0, .int .u32 0, .int .u32 0, .int .u32 0, .int .u32 0, .int .u32 0, .int .u32 0, .int .u32 0, .int .u32 0, .int .u32 0, .int .u32 0, .int .u32 0, .int .u32 0] 28))) := alb _
  have q1 : decide ((pn : Int) < 0) = false := by simp
  have q2 : decide (2 ≤ (pn : Int)) = false := by simp; omega
  go_enter Tryd.func8, Tryd.ntmps8
  go_wp2_with fail
  generalize w.alloc (.cells #[.int .u64 0, .int .u32 0, .int .u32 0, .int .u32 0, .int .u32 0, .int .u32 0, .int .u32 0, .int .u32 0, .int .u32 0, .int .u32 0, .int .u32 0, .int .u32 0, .int .u32 0, .int .u32 0, .int .u32 0, .int .u32 0, .int .u32 0, .int .u32 0, .int .u32 0, .int .u32 0, .int .u32 0, .int .u32 0, .int .u32 0, .int .u32 0, .int .u32 0, .int .u32 0, .int .u32 0, .int .u32 0] 28) = wA at *
  refine (HO.out wA HB.out).mono ?_
  rintro e w2 ⟨A2, c2, rfl, hb2, hsd⟩
  have HSD := Lib.hid hsd
  have HR2 := Lib.hid (HR.out.below hb2)
  have HB2 := Lib.hid (btr HB.out hb2)
  clear hb2 HR HB HO hsd q1 q2
  rcases hc with ⟨h1, rfl, rfl, rfl⟩ | ⟨rfl, h2, rfl, rfl, rfl⟩ | ⟨rfl, rfl, rfl, h4, rfl, rfl, rfl⟩ | ⟨rfl, rfl, rfl, rfl, rfl, rfl, rfl⟩
  · have g1 : ((E : Int) == 0) = false := by simp; omega
    have g2 : ((E : Int) != 0) = true := by simp; omega
    clear h1
    go_wp2_with (first
      | (refine wpList_store_sup rfl (.tmp 4) (.tmp 27) rfl w.heap.size 0 U.none27 rfl rfl none27_len HR2.out.2.1 ?_)
      | go_in)
    intro w9 HS hk
    go_wp2
    exact bodyPost_ret (results_sup rfl _ _ w.heap.size 0 U.none27 _ rfl rfl HS.out) rfl ⟨rfl, low_of HB2.out HB2.out.size hk (Nat.le_refl _)⟩
  · have g1 : (((kn : Int) == 1) = false ∧ ((kn : Int) != 1) = true) ∨ (kn = 1 ∧ ((n2 : Int) == 116) = false ∧ ((n2 : Int) != 116) = true) := by
      rcases h2 with h2 | ⟨h2, h3⟩
      · exact .inl ⟨by simp; omega, by simp; omega⟩
      · exact .inr ⟨h2, by simp; omega, by simp; omega⟩
    clear h2
    rcases g1 with ⟨g1, g2⟩ | ⟨rfl, g1, g2⟩
    all_goals
      go_wp2_with (first
        | (refine wpList_store_sup rfl (.tmp 4) (.tmp 36) rfl w.heap.size 0 U.none27 rfl rfl none27_len HR2.out.2.1 ?_)
        | go_in)
      intro w9 HS hk
      go_wp2
      exact bodyPost_ret (results_sup rfl _ _ w.heap.size 0 U.none27 _ rfl rfl HS.out) rfl ⟨rfl, low_of HB2.out HB2.out.size hk (Nat.le_refl _)⟩
  all_goals
    go_wp2_with fail
    refine (HSD.out (by trivial)).mono ?_
    rintro e w3 ⟨rfl, hb3⟩
    have HR3 := Lib.hid (HR2.out.below hb3)
    have HB3 := Lib.hid (btr HB2.out hb3)
    have HT9 : Hid ((w3.alloc (.cells #[.int .u64 0, .int .u32 0, .int .u32 0, .int .u32 0, .int .u32 0, .int .u32 0, .int .u32 0, .int .u32 0, .int .u32 0, .int .u32 0, .int .u32 0, .int .u32 0, .int .u32 0, .int .u32 0, .int .u32 0, .int .u32 0, .int .u32 0, .int .u32 0, .int .u32 0, .int .u32 0, .int .u32 0, .int .u32 0, .int .u32 0, .int .u32 0, .int .u32 0, .int .u32 0, .int .u32 0, .int .u32 0] 28)).there w3.heap.size 0 28) := there_new w3 _ _ 28 rfl
    clear hb3 HR2 HB2 HSD
    go_wp2_with (first
      | (refine wpList_store_sup rfl (.tmp 9) (.tmp 38) rfl w3.heap.size _ _ rfl rfl HRR.out HT9.out ?_)
      | go_in)
    intro w4 HS4 hk4
    have hs3 := HB3.out.size
    have HB4 := Lib.hid (low_of (bal HB3.out _) (by simp; omega) hk4 hs3)
    have hrl := HR3.out.lt
    have HR4 := Lib.hid (Sup.keep (HR3.out.below (alb _)) hk4 (by omega))
    have c0 := HS4.out.cell0
    clear hk4 hs3 hrl HR3 HB3 HT9
  · have g1 : ((m : Int) == (pn : Int)) = false := by simp; omega
    have g2 : ((m : Int) != (pn : Int)) = true := by simp; omega
    clear h4
    go_wp2_with (first
      | (refine wpList_store_sup rfl (.tmp 4) (.tmp 45) rfl w.heap.size 0 U.none27 rfl rfl none27_len HR4.out.2.1 ?_)
      | go_in)
    intro w9 HS hk
    go_wp2
    exact bodyPost_ret (results_sup rfl _ _ w.heap.size 0 U.none27 _ rfl rfl HS.out) rfl ⟨rfl, low_of HB4.out HB4.out.size hk (Nat.le_refl _)⟩
  · go_wp2_with (first
      | (refine wpList_load_sup rfl (.tmp 9) rfl w3.heap.size _ _ rfl HS4.out ?_)
      | (refine wpList_store_sup rfl (.tmp 4) (.tmp 46) rfl w.heap.size _ _ rfl rfl HRR.out HR4.out.2.1 ?_)
      | go_in)
    intro w9 HS hk
    go_wp2
    exact bodyPost_ret (results_sup rfl _ _ w.heap.size _ _ _ rfl rfl HS.out) rfl ⟨rfl, low_of HB4.out HB4.out.size hk (Nat.le_refl _)⟩

theorem read_any (p : Int) (v : Value) (l : List UInt8) (w : World) (h : Byts w v l) (hT : Tab w) :
    Calls Tryd.prog 8 #[.int .i64 p, v] w fun e w' => e = .returned (.tuple #[.agg (sva (U.readQ p l) (U.readR p l)), .int .i64 ((U.readE p l : Nat) : Int)]) ∧ Below w.heap.size w w' := by
  by_cases hp : p < 0 ∨ 1 < p
  · have e : U.readE p l = 1 := if_pos hp
    have e1 : U.readQ p l = 0 := by unfold U.readQ; rw [e]; rfl
    have e2 : U.readR p l = U.none27 := by unfold U.readR; rw [e]; rfl
    rw [e, e1, e2]
    exact read_out p hp v w
  · obtain ⟨pn, rfl⟩ := Int.eq_ofNat_of_zero_le (show 0 ≤ p by omega)
    have hpn : pn < 2 := by omega
    refine read_core pn (G.openE pn l) (G.openK pn l).toNat (G.openB pn l).length (U.seqOf (G.openB pn l) % 2) (U.seqOf (G.openB pn l)) (U.rootsOf (G.openB pn l)) v w hpn (U.seqOf_lt _) (by omega) (U.rootsOf_length _) (C.u8_lt _) ?_ _ _ _ ?_
    · intro W hB
      refine (open_any pn (by omega) v l W (h.below hB) (hT.below hB)).mono fun e w1 ⟨v', k1, k2, k3⟩ => ?_
      obtain ⟨A2, c2, rfl⟩ := k2.form
      exact ⟨A2, c2, k1, k3, fun hl => said_any _ _ w1 k2 hl⟩
    · have hz := U.readE_zero pn l hpn
      have e0 : U.readE (pn : Int) l = if G.openE pn l ≠ 0 then G.openE pn l else if G.openK pn l ≠ 1 ∨ (G.openB pn l).length ≠ 116 then 2 else if U.seqOf (G.openB pn l) % 2 ≠ pn then 2 else 0 := if_neg hp
      have no : U.readE (pn : Int) l ≠ 0 → U.readQ (pn : Int) l = 0 ∧ U.readR (pn : Int) l = U.none27 := fun h => ⟨if_neg h, if_neg h⟩
      by_cases h1 : G.openE pn l = 0
      · rw [if_neg (by simpa using h1)] at e0
        by_cases h2 : G.openK pn l = 1
        · by_cases h3 : (G.openB pn l).length = 116
          · rw [if_neg (by simp [h2, h3])] at e0
            by_cases h4 : U.seqOf (G.openB pn l) % 2 = pn
            · rw [if_neg (by simpa using h4)] at e0
              refine .inr (.inr (.inr ⟨h1, by rw [h2]; rfl, h3, h4, e0, ?_, ?_⟩))
              · unfold U.readQ; rw [if_pos e0, Int.toNat_natCast]
              · unfold U.readR; rw [if_pos e0, Int.toNat_natCast]
            · rw [if_pos h4] at e0
              obtain ⟨k1, k2⟩ := no (by omega)
              exact .inr (.inr (.inl ⟨h1, by rw [h2]; rfl, h3, h4, e0, k1, k2⟩))
          · rw [if_pos (.inr h3)] at e0
            obtain ⟨k1, k2⟩ := no (by omega)
            exact .inr (.inl ⟨h1, .inr ⟨by rw [h2]; rfl, h3⟩, e0, k1, k2⟩)
        · rw [if_pos (.inl h2)] at e0
          obtain ⟨k1, k2⟩ := no (by omega)
          exact .inr (.inl ⟨h1, .inl (fun e => h2 (UInt8.toNat_inj.1 e)), e0, k1, k2⟩)
      · rw [if_pos h1] at e0
        obtain ⟨k1, k2⟩ := no (by omega)
        exact .inl ⟨h1, e0, k1, k2⟩

set_option maxHeartbeats 1600000 in
theorem newest_core (e0 e1 q0 q1 : Nat) (r0 r1 : List Nat) (va vb : Value) (w : World) (HL0 : Hid (r0.length = 27)) (HL1 : Hid (r1.length = 27)) (hq0 : q0 < 18446744073709551616) (hq1 : q1 < 18446744073709551616)
    (H0 : Hid (∀ W : World, Below w.heap.size w W → Calls Tryd.prog 8 #[.int .i64 0, va] W fun e w' => e = .returned (.tuple #[.agg (sva q0 r0), .int .i64 (e0 : Int)]) ∧ Below W.heap.size W w'))
    (H1 : Hid (∀ W : World, Below w.heap.size w W → Calls Tryd.prog 8 #[.int .i64 1, vb] W fun e w' => e = .returned (.tuple #[.agg (sva q1 r1), .int .i64 (e1 : Int)]) ∧ Below W.heap.size W w'))
    (E Q : Nat) (R : List Nat) (hc : (e0 ≠ 0 ∧ e1 ≠ 0 ∧ E = 5 ∧ Q = 0 ∧ R = U.none27) ∨ (e0 = 0 ∧ (e1 ≠ 0 ∨ (e1 = 0 ∧ q1 < q0)) ∧ E = 0 ∧ Q = q0 ∧ R = r0) ∨ (e1 = 0 ∧ (e0 ≠ 0 ∨ (e0 = 0 ∧ ¬ q1 < q0)) ∧ E = 0 ∧ Q = q1 ∧ R = r1)) :
    Calls Tryd.prog 14 #[va, vb] w fun e w' => e = .returned (.tuple #[.agg (sva Q R), .int .i64 (E : Int)]) ∧ Below w.heap.size w w' := by
  have hbz := run_build_sup
  have HR : Hid (Sup (w.alloc (.cells #[.int .u64 0, .int .u32 0, .int .u32 0, .int .u32 0, .int .u32 0, .int .u32 0, .int .u32 0, .int .u32 0, .int .u32 0, .int .u32 0, .int .u32 0, .int .u32 0, .int .u32 0, .int .u32 0, .int .u32 0, .int .u32 0, .int .u32 0, .int .u32 0, .int .u32 0, .int .u32 0, .int .u32 0, .int .u32 0, .int .u32 0, .int .u32 0, .int .u32 0, .int .u32 0, .int .u32 0, .int .u32 0] 28)) w.heap.size 0 U.none27) := Sup.made w 0 U.none27 rfl
  have HB : Hid (Below w.heap.size w (w.alloc (.cells #[.int .u64 0, .int .u32 0, .int .u32 0, .int .u32 0, .int .u32 0, .int .u32 0, .int .u32 0, .int .u32 0, .int .u32 0, .int .u32 0, .int .u32 0, .int .u32 0, .int .u32 0, .int .u32 0, .int .u32 0, .int .u32 0, .int .u32 0, .int .u32 0, .int .u32 0, .int .u32 0, .int .u32 0, .int .u32 0, .int .u32 0, .int .u32 0, .int .u32 0, .int .u32 0, .int .u32 0, .int .u32 0] 28))) := alb _
  go_enter Tryd.func14, Tryd.ntmps14
  go_wp2_with fail
  generalize w.alloc (.cells #[.int .u64 0, .int .u32 0, .int .u32 0, .int .u32 0, .int .u32 0, .int .u32 0, .int .u32 0, .int .u32 0, .int .u32 0, .int .u32 0, .int .u32 0, .int .u32 0, .int .u32 0, .int .u32 0, .int .u32 0, .int .u32 0, .int .u32 0, .int .u32 0, .int .u32 0, .int .u32 0, .int .u32 0, .int .u32 0, .int .u32 0, .int .u32 0, .int .u32 0, .int .u32 0, .int .u32 0, .int .u32 0] 28) = wA at *
  refine (H0.out wA HB.out).mono ?_
  rintro e w2 ⟨rfl, hb2⟩
  have HR2 := Lib.hid (HR.out.below hb2)
  have HB2 := Lib.hid (btr HB.out hb2)
  have HT2 : Hid ((w2.alloc (.cells #[.int .u64 0, .int .u32 0, .int .u32 0, .int .u32 0, .int .u32 0, .int .u32 0, .int .u32 0, .int .u32 0, .int .u32 0, .int .u32 0, .int .u32 0, .int .u32 0, .int .u32 0, .int .u32 0, .int .u32 0, .int .u32 0, .int .u32 0, .int .u32 0, .int .u32 0, .int .u32 0, .int .u32 0, .int .u32 0, .int .u32 0, .int .u32 0, .int .u32 0, .int .u32 0, .int .u32 0, .int .u32 0] 28)).there w2.heap.size 0 28) := there_new w2 _ _ 28 rfl
  clear hb2 HR HB H0
  go_wp2_with (first
    | (refine wpList_store_sup rfl (.tmp 6) (.tmp 13) rfl w2.heap.size q0 r0 rfl rfl HL0.out HT2.out ?_)
    | go_in)
  intro w3 HS3 hk3
  have hs2 := HB2.out.size
  have HB3 := Lib.hid (low_of (bal HB2.out _) (by simp; omega) hk3 hs2)
  have hrl := HR2.out.lt
  have HR3 := Lib.hid (Sup.keep (HR2.out.below (alb _)) hk3 (by omega))
  have HN3 : Hid (w.heap.size < w2.heap.size) := hrl
  clear hk3 hs2 hrl HR2 HB2 HT2
  generalize w2.heap.size = b6 at *
  go_wp2_with fail
  refine (H1.out w3 HB3.out).mono ?_
  rintro e w4 ⟨rfl, hb4⟩
  have HR4 := Lib.hid (HR3.out.below hb4)
  have HS4 := Lib.hid (HS3.out.below hb4)
  have HB4 := Lib.hid (btr HB3.out hb4)
  have HT4 : Hid ((w4.alloc (.cells #[.int .u64 0, .int .u32 0, .int .u32 0, .int .u32 0, .int .u32 0, .int .u32 0, .int .u32 0, .int .u32 0, .int .u32 0, .int .u32 0, .int .u32 0, .int .u32 0, .int .u32 0, .int .u32 0, .int .u32 0, .int .u32 0, .int .u32 0, .int .u32 0, .int .u32 0, .int .u32 0, .int .u32 0, .int .u32 0, .int .u32 0, .int .u32 0, .int .u32 0, .int .u32 0, .int .u32 0, .int .u32 0] 28)).there w4.heap.size 0 28) := there_new w4 _ _ 28 rfl
  clear hb4 HR3 HS3 HB3 H1
  go_wp2_with (first
    | (refine wpList_store_sup rfl (.tmp 8) (.tmp 18) rfl w4.heap.size q1 r1 rfl rfl HL1.out HT4.out ?_)
    | go_in)
  intro w5 HX5 hk5
  have hs4 := HB4.out.size
  have HB5 := Lib.hid (low_of (bal HB4.out _) (by simp; omega) hk5 hs4)
  have hrl := HR4.out.lt
  have hsl := HS4.out.lt
  have HR5 := Lib.hid (Sup.keep (HR4.out.below (alb _)) hk5 (by omega))
  have HS5 := Lib.hid (Sup.keep (HS4.out.below (alb _)) hk5 (by omega))
  clear hk5 hs4 hrl hsl HR4 HS4 HB4 HT4
  generalize w4.heap.size = b8 at *
  have c6 := HS5.out.cell0
  have c8 := HX5.out.cell0
  rcases hc with ⟨h1, h2, rfl, rfl, rfl⟩ | ⟨rfl, h2, rfl, rfl, rfl⟩ | ⟨rfl, h2, rfl, rfl, rfl⟩
  · have g1 : ((e0 : Int) == 0) = false := by simp; omega
    have g2 : ((e0 : Int) != 0) = true := by simp; omega
    have g3 : ((e1 : Int) == 0) = false := by simp; omega
    have g4 : ((e1 : Int) != 0) = true := by simp; omega
    clear h1 h2
    go_wp2_with (first
      | (refine wpList_store_sup rfl (.tmp 4) (.tmp 26) rfl w.heap.size 0 U.none27 rfl rfl none27_len HR5.out.2.1 ?_)
      | go_in)
    intro w9 HS hk
    go_wp2
    exact bodyPost_ret (results_sup rfl _ _ w.heap.size 0 U.none27 _ rfl rfl HS.out) rfl ⟨rfl, low_of HB5.out HB5.out.size hk (Nat.le_refl _)⟩
  · have g1 : (((e1 : Int) == 0) = false ∧ ((e1 : Int) != 0) = true) ∨ (e1 = 0 ∧ decide (q1 < Q) = true ∧ q1 < Q) := by
      rcases h2 with h2 | ⟨h2, h3⟩
      · exact .inl ⟨by simp; omega, by simp; omega⟩
      · exact .inr ⟨h2, by simp; omega, h3⟩
    clear h2
    rcases g1 with ⟨g1, g2⟩ | ⟨rfl, g1, g2⟩
    all_goals
      go_wp2_with (first
        | (refine wpList_load_sup rfl (.tmp 6) rfl b6 Q R rfl HS5.out ?_)
        | (refine wpList_store_sup rfl (.tmp 4) (.tmp 40) rfl w.heap.size Q R rfl rfl HL0.out HR5.out.2.1 ?_)
        | go_in)
      intro w9 HS hk
      go_wp2
      exact bodyPost_ret (results_sup rfl _ _ w.heap.size Q R _ rfl rfl HS.out) rfl ⟨rfl, low_of HB5.out HB5.out.size hk (Nat.le_refl _)⟩
  · have g1 : (((e0 : Int) == 0) = false ∧ ((e0 : Int) != 0) = true) ∨ (e0 = 0 ∧ decide (Q < q0) = false ∧ ¬ Q < q0) := by
      rcases h2 with h2 | ⟨h2, h3⟩
      · exact .inl ⟨by simp; omega, by simp; omega⟩
      · exact .inr ⟨h2, by simp; omega, h3⟩
    clear h2
    rcases g1 with ⟨g1, g2⟩ | ⟨rfl, g1, g2⟩
    all_goals
      go_wp2_with (first
        | (refine wpList_load_sup rfl (.tmp 8) rfl b8 Q R rfl HX5.out ?_)
        | (refine wpList_store_sup rfl (.tmp 4) (.tmp 41) rfl w.heap.size Q R rfl rfl HL1.out HR5.out.2.1 ?_)
        | go_in)
      intro w9 HS hk
      go_wp2
      exact bodyPost_ret (results_sup rfl _ _ w.heap.size Q R _ rfl rfl HS.out) rfl ⟨rfl, low_of HB5.out HB5.out.size hk (Nat.le_refl _)⟩
theorem newest_any (va vb : Value) (a b : List UInt8) (w : World) (ha : Byts w va a) (hb : Byts w vb b) (hT : Tab w) :
    Calls Tryd.prog 14 #[va, vb] w fun e w' => e = .returned (.tuple #[.agg (sva (U.newQ a b) (U.newR a b)), .int .i64 ((U.newE a b : Nat) : Int)]) ∧ Below w.heap.size w w' := by
  refine newest_core (U.readE 0 a) (U.readE 1 b) (U.readQ 0 a) (U.readQ 1 b) (U.readR 0 a) (U.readR 1 b) va vb w (U.readR_length _ _) (U.readR_length _ _) (U.readQ_lt _ _) (U.readQ_lt _ _)
    (fun W h => read_any 0 va a W (ha.below h) (hT.below h)) (fun W h => read_any 1 vb b W (hb.below h) (hT.below h)) _ _ _ (U.new_cases a b)
end Go.Proofs.YtbffpgndjbpifaaDoor
