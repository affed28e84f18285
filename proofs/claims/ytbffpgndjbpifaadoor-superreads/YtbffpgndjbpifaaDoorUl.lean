/- The document's own Read whole, Newest; the walk of the law SuperNewest. -/
import Derived.Test.YtbffpgndjbpifaaDoorUf
import Derived.Test.YtbffpgndjbpifaaDoorUk
namespace Go.Proofs.YtbffpgndjbpifaaDoor
open Go.RowKit
open U (val)

theorem cut_str (l : List UInt8) (a b : Nat) (h : a ≤ b) (hb : b ≤ l.length) (x y : Int) (hx : x = (a : Int)) (hy : y = (b : Int)) (w : World) :
    (Instr.slice 9 (.string (str l)) (some (.int .i64 x)) (some (.int .i64 y)) none).run Tryd.prog w = .ok (.string (str ((l.drop a).take (b - a)))) w := by
  subst hx hy
  rw [run_slice_string_if (w := w) 9 (str l) .i64 .i64 (a : Int) (b : Int) Tryd.underlying9, if_pos (by rw [str_size]; omega), if_pos (by omega), Int.toNat_natCast, Int.toNat_natCast, str_extract]
theorem num_str (l : List UInt8) (hl : l.length ≤ 4) (x : Nat) (hx : val l = x) (w : World) : Calls Tryd.prog 24 #[.string (str l)] w fun e w' => e = .returned (.int .u32 (x : Int)) ∧ w = w' := by
  subst hx
  exact (refnumber_any l hl w).mono fun e w' ⟨h1, h2⟩ => ⟨h1, h2.symm⟩
theorem take4 (l : List UInt8) (i : Nat) : ((l.drop i).take 4).length ≤ 4 := by rw [List.length_take]; omega
theorem val4_lt (l : List UInt8) (i : Nat) : val ((l.drop i).take 4) < 4294967296 := by
  have h := U.val_lt ((l.drop i).take 4)
  have := Nat.pow_le_pow_right (n := 256) (by omega) (take4 l i)
  omega
theorem rnd_any (l : List UInt8) (hl : l.length = 116) (k : Nat) (hk : k < 8) : Rnd l (str l) k := by
  refine ⟨20 + 12 * k, U.rootAt l (3 + 3 * k), U.rootAt l (3 + 3 * k + 1), U.rootAt l (3 + 3 * k + 2), str ((l.drop (20 + 12 * k)).take 4), str ((l.drop (20 + 12 * k + 4)).take 4), str ((l.drop (20 + 12 * k + 8)).take 4), by omega, by omega,
    U.rootAt_lt _ _, U.rootAt_lt _ _, U.rootAt_lt _ _, rfl, rfl, rfl, fun w => ?_, fun w => ?_, fun w => ?_, num_str _ (take4 _ _) _ ?_, num_str _ (take4 _ _) _ ?_, num_str _ (take4 _ _) _ ?_⟩
  · have := cut_str l (20 + 12 * k) (20 + 12 * k + 4) (by omega) (by omega) ((20 + 12 * k : Nat) : Int) (((20 + 12 * k : Nat) : Int) + 4) rfl (by omega) w
    rw [show 20 + 12 * k + 4 - (20 + 12 * k) = 4 by omega] at this
    exact this
  · have := cut_str l (20 + 12 * k + 4) (20 + 12 * k + 8) (by omega) (by omega) (((20 + 12 * k : Nat) : Int) + 4) (((20 + 12 * k : Nat) : Int) + 8) (by omega) (by omega) w
    rw [show 20 + 12 * k + 8 - (20 + 12 * k + 4) = 4 by omega] at this
    exact this
  · have := cut_str l (20 + 12 * k + 8) (20 + 12 * k + 12) (by omega) (by omega) (((20 + 12 * k : Nat) : Int) + 8) (((20 + 12 * k : Nat) : Int) + 12) (by omega) (by omega) w
    rw [show 20 + 12 * k + 12 - (20 + 12 * k + 8) = 4 by omega] at this
    exact this
  · unfold U.rootAt
    rw [show 8 + 4 * (3 + 3 * k) = 20 + 12 * k by omega]
  · unfold U.rootAt
    rw [show 8 + 4 * (3 + 3 * k + 1) = 20 + 12 * k + 4 by omega]
  · unfold U.rootAt
    rw [show 8 + 4 * (3 + 3 * k + 2) = 20 + 12 * k + 8 by omega]
theorem refread_any (p : Int) (l : List UInt8) (w : World) :
    Calls Tryd.prog 13 #[.int .i64 p, .string (str l)] w fun e w' => e = .returned (.tuple #[.agg (sva (U.readQ p l) (U.readR p l)), .int .i64 ((U.readE p l : Nat) : Int)]) ∧ Below w.heap.size w w' := by
  by_cases hp : p < 0 ∨ 1 < p
  · have e : U.readE p l = 1 := if_pos hp
    have e1 : U.readQ p l = 0 := by unfold U.readQ; rw [e]; rfl
    have e2 : U.readR p l = U.none27 := by unfold U.readR; rw [e]; rfl
    rw [e, e1, e2]
    exact refread_out p hp _ w
  · obtain ⟨pn, rfl⟩ := Int.eq_ofNat_of_zero_le (show 0 ≤ p by omega)
    have hpn : pn < 2 := by omega
    have e0 : U.readE (pn : Int) l = if G.openE pn l ≠ 0 then G.openE pn l else if G.openK pn l ≠ 1 ∨ (G.openB pn l).length ≠ 116 then 2 else if U.seqOf (G.openB pn l) % 2 ≠ pn then 2 else 0 := if_neg hp
    have no : U.readE (pn : Int) l ≠ 0 → U.readQ (pn : Int) l = 0 ∧ U.readR (pn : Int) l = U.none27 := fun h => ⟨if_neg h, if_neg h⟩
    have yes : U.readE (pn : Int) l = 0 → U.readQ (pn : Int) l = U.seqOf (G.openB pn l) ∧ U.readR (pn : Int) l = U.rootsOf (G.openB pn l) := fun h => ⟨if_pos h, if_pos h⟩
    refine refread_core pn (G.openE pn l) (G.openK pn l).toNat (G.openB pn l).length (U.seqOf (G.openB pn l) % 2) (U.seqOf (G.openB pn l)) (val (((G.openB pn l).drop 0).take 4)) (val (((G.openB pn l).drop 4).take 4)) (val (((G.openB pn l).drop 0).take 4) * 4294967296)
      (U.rootAt (G.openB pn l) 0) (U.rootAt (G.openB pn l) 1) (U.rootAt (G.openB pn l) 2) (G.openB pn l) (str l) (str (G.openB pn l)) (str (((G.openB pn l).drop 0).take 4)) (str (((G.openB pn l).drop 4).take 4)) (str (((G.openB pn l).drop 8).take 4)) (str (((G.openB pn l).drop 12).take 4)) (str (((G.openB pn l).drop 16).take 4))
      w hpn (U.seqOf_lt _) (by omega) (C.u8_lt _) (str_size _) (fun W => refopen_any pn (by omega) l W) ?_ _ _ _ ?_
    · intro hl
      have h0 := val4_lt (G.openB pn l) 0
      have h1 := val4_lt (G.openB pn l) 4
      have hs := U.seqOf_two (G.openB pn l) hl
      refine ⟨str_extract _ _ _, str_extract _ _ _, str_extract _ _ _, str_extract _ _ _, str_extract _ _ _, by omega, ?_, h0, h1, by omega, num_str _ (take4 _ _) _ rfl, num_str _ (take4 _ _) _ rfl, num_str _ (take4 _ _) _ rfl, num_str _ (take4 _ _) _ rfl, num_str _ (take4 _ _) _ rfl, rowOf_three _, fun k hk => rnd_any _ hl k hk⟩
      rw [hs, List.drop_zero]
      omega
    · by_cases h1 : G.openE pn l = 0
      · rw [if_neg (by simpa using h1)] at e0
        by_cases h2 : G.openK pn l = 1
        · by_cases h3 : (G.openB pn l).length = 116
          · rw [if_neg (by simp [h2, h3])] at e0
            refine .inr (.inr ⟨h1, by rw [h2]; rfl, h3, ?_⟩)
            by_cases h4 : U.seqOf (G.openB pn l) % 2 = pn
            · rw [if_neg (by simpa using h4)] at e0
              exact .inr ⟨h4, e0, (yes e0).1, (yes e0).2⟩
            · rw [if_pos h4] at e0
              obtain ⟨k1, k2⟩ := no (by omega)
              exact .inl ⟨h4, e0, k1, k2⟩
          · rw [if_pos (.inr h3)] at e0
            obtain ⟨k1, k2⟩ := no (by omega)
            exact .inr (.inl ⟨h1, .inr ⟨by rw [h2]; rfl, h3⟩, e0, k1, k2⟩)
        · rw [if_pos (.inl h2)] at e0
          obtain ⟨k1, k2⟩ := no (by omega)
          exact .inr (.inl ⟨h1, .inl (fun e => h2 (UInt8.toNat_inj.1 e)), e0, k1, k2⟩)
      · rw [if_pos h1] at e0
        obtain ⟨k1, k2⟩ := no (by omega)
        exact .inl ⟨h1, e0, k1, k2⟩

set_option maxHeartbeats 1600000 in
theorem refnewest_core (e0 e1 q0 q1 : Nat) (r0 r1 : List Nat) (sa sb : ByteArray) (w : World) (HL0 : Hid (r0.length = 27)) (HL1 : Hid (r1.length = 27)) (hq0 : q0 < 18446744073709551616) (hq1 : q1 < 18446744073709551616)
    (H0 : Hid (∀ W : World, Calls Tryd.prog 13 #[.int .i64 0, .string sa] W fun e w' => e = .returned (.tuple #[.agg (sva q0 r0), .int .i64 (e0 : Int)]) ∧ Below W.heap.size W w'))
    (H1 : Hid (∀ W : World, Calls Tryd.prog 13 #[.int .i64 1, .string sb] W fun e w' => e = .returned (.tuple #[.agg (sva q1 r1), .int .i64 (e1 : Int)]) ∧ Below W.heap.size W w'))
    (E Q : Nat) (R : List Nat) (hc : (e0 = 0 ∧ e1 = 0 ∧ q0 < q1 ∧ E = 0 ∧ Q = q1 ∧ R = r1) ∨ (e0 = 0 ∧ e1 = 0 ∧ ¬ q0 < q1 ∧ E = 0 ∧ Q = q0 ∧ R = r0) ∨ (e0 = 0 ∧ e1 ≠ 0 ∧ E = 0 ∧ Q = q0 ∧ R = r0) ∨ (e0 ≠ 0 ∧ e1 = 0 ∧ E = 0 ∧ Q = q1 ∧ R = r1) ∨ (e0 ≠ 0 ∧ e1 ≠ 0 ∧ E = 5 ∧ Q = 0 ∧ R = U.none27)) :
    Calls Tryd.prog 15 #[.string sa, .string sb] w fun e w' => e = .returned (.tuple #[.agg (sva Q R), .int .i64 (E : Int)]) ∧ Below w.heap.size w w' := by
  have hbz := run_build_sup
  have HR : Hid (Sup (w.alloc (.cells #[.int .u64 0, .int .u32 0, .int .u32 0, .int .u32 0, .int .u32 0, .int .u32 0, .int .u32 0, .int .u32 0, .int .u32 0, .int .u32 0, .int .u32 0, .int .u32 0, .int .u32 0, .int .u32 0, .int .u32 0, .int .u32 0, .int .u32 0, .int .u32 0, .int .u32 0, .int .u32 0, .int .u32 0, .int .u32 0, .int .u32 0, .int .u32 0, .int .u32 0, .int .u32 0, .int .u32 0, .int .u32 0] 28)) w.heap.size 0 U.none27) := Sup.made w 0 U.none27 rfl
  have HB : Hid (Below w.heap.size w (w.alloc (.cells #[.int .u64 0, .int .u32 0, .int .u32 0, .int .u32 0, .int .u32 0, .int .u32 0, .int .u32 0, .int .u32 0, .int .u32 0, .int .u32 0, .int .u32 0, .int .u32 0, .int .u32 0, .int .u32 0, .int .u32 0, .int .u32 0, .int .u32 0, .int .u32 0, .int .u32 0, .int .u32 0, .int .u32 0, .int .u32 0, .int .u32 0, .int .u32 0, .int .u32 0, .int .u32 0, .int .u32 0, .int .u32 0] 28))) := alb _
  go_enter Tryd.func15, Tryd.ntmps15
  go_wp2_with fail
  generalize w.alloc (.cells #[.int .u64 0, .int .u32 0, .int .u32 0, .int .u32 0, .int .u32 0, .int .u32 0, .int .u32 0, .int .u32 0, .int .u32 0, .int .u32 0, .int .u32 0, .int .u32 0, .int .u32 0, .int .u32 0, .int .u32 0, .int .u32 0, .int .u32 0, .int .u32 0, .int .u32 0, .int .u32 0, .int .u32 0, .int .u32 0, .int .u32 0, .int .u32 0, .int .u32 0, .int .u32 0, .int .u32 0, .int .u32 0] 28) = wA at *
  refine (H0.out wA).mono ?_
  rintro e w2 ⟨rfl, hx⟩
  replace HR := Lib.hid (HR.out.below hx)
  replace HB := Lib.hid (btr HB.out hx)
  clear hx H0
  have HT9 : Hid ((w2.alloc (.cells #[.int .u64 0, .int .u32 0, .int .u32 0, .int .u32 0, .int .u32 0, .int .u32 0, .int .u32 0, .int .u32 0, .int .u32 0, .int .u32 0, .int .u32 0, .int .u32 0, .int .u32 0, .int .u32 0, .int .u32 0, .int .u32 0, .int .u32 0, .int .u32 0, .int .u32 0, .int .u32 0, .int .u32 0, .int .u32 0, .int .u32 0, .int .u32 0, .int .u32 0, .int .u32 0, .int .u32 0, .int .u32 0] 28)).there w2.heap.size 0 28) := there_new w2 _ _ 28 rfl
  go_wp2_with (first
    | (refine wpList_store_sup rfl (.tmp 6) (.tmp 13) rfl w2.heap.size q0 r0 rfl rfl HL0.out HT9.out ?_)
    | go_in)
  intro w3 HS hk
  have hs := HB.out.size
  replace HR := Lib.hid (Sup.keep (HR.out.below (alb _)) hk (by have := HR.out.lt; omega))
  replace HB := Lib.hid (low_of (bal HB.out _) (by simp; omega) hk hs)
  clear hk HT9 hs
  generalize w2.heap.size = b6 at *
  go_wp2_with fail
  refine (H1.out w3).mono ?_
  rintro e w4 ⟨rfl, hx⟩
  replace HR := Lib.hid (HR.out.below hx)
  replace HS := Lib.hid (HS.out.below hx)
  replace HB := Lib.hid (btr HB.out hx)
  clear hx H1
  have HT9 : Hid ((w4.alloc (.cells #[.int .u64 0, .int .u32 0, .int .u32 0, .int .u32 0, .int .u32 0, .int .u32 0, .int .u32 0, .int .u32 0, .int .u32 0, .int .u32 0, .int .u32 0, .int .u32 0, .int .u32 0, .int .u32 0, .int .u32 0, .int .u32 0, .int .u32 0, .int .u32 0, .int .u32 0, .int .u32 0, .int .u32 0, .int .u32 0, .int .u32 0, .int .u32 0, .int .u32 0, .int .u32 0, .int .u32 0, .int .u32 0] 28)).there w4.heap.size 0 28) := there_new w4 _ _ 28 rfl
  go_wp2_with (first
    | (refine wpList_store_sup rfl (.tmp 8) (.tmp 18) rfl w4.heap.size q1 r1 rfl rfl HL1.out HT9.out ?_)
    | go_in)
  intro w5 HX hk
  have hs := HB.out.size
  replace HR := Lib.hid (Sup.keep (HR.out.below (alb _)) hk (by have := HR.out.lt; omega))
  replace HS := Lib.hid (Sup.keep (HS.out.below (alb _)) hk (by have := HS.out.lt; omega))
  replace HB := Lib.hid (low_of (bal HB.out _) (by simp; omega) hk hs)
  clear hk HT9 hs
  generalize w4.heap.size = b8 at *
  have c6 := HS.out.cell0
  have c8 := HX.out.cell0
  rcases hc with ⟨rfl, rfl, g0, rfl, rfl, rfl⟩ | ⟨rfl, rfl, g0, rfl, rfl, rfl⟩ | ⟨rfl, h1, rfl, rfl, rfl⟩ | ⟨h0, rfl, rfl, rfl, rfl⟩ | ⟨h0, h1, rfl, rfl, rfl⟩
  · have g1 : decide (q0 < Q) = true := by simpa using g0
    go_wp2_with (first
      | (refine wpList_load_sup rfl (.tmp 8) rfl b8 Q R rfl HX.out ?_)
      | (refine wpList_store_sup rfl (.tmp 4) (.tmp 31) rfl w.heap.size Q R rfl rfl HL1.out HR.out.2.1 ?_)
      | go_in)
    intro w9 HS9 hk
    go_wp2
    exact bodyPost_ret (results_sup rfl _ _ w.heap.size Q R _ rfl rfl HS9.out) rfl ⟨rfl, low_of HB.out HB.out.size hk (Nat.le_refl _)⟩
  · have g1 : decide (Q < q1) = false := by simpa using g0
    go_wp2_with (first
      | (refine wpList_load_sup rfl (.tmp 6) rfl b6 Q R rfl HS.out ?_)
      | (refine wpList_store_sup rfl (.tmp 4) (.tmp 32) rfl w.heap.size Q R rfl rfl HL0.out HR.out.2.1 ?_)
      | go_in)
    intro w9 HS9 hk
    go_wp2
    exact bodyPost_ret (results_sup rfl _ _ w.heap.size Q R _ rfl rfl HS9.out) rfl ⟨rfl, low_of HB.out HB.out.size hk (Nat.le_refl _)⟩
  · have k2 : ((e1 : Int) == 0) = false := by simp; omega
    clear h1
    go_wp2_with (first
      | (refine wpList_load_sup rfl (.tmp 6) rfl b6 Q R rfl HS.out ?_)
      | (refine wpList_store_sup rfl (.tmp 4) (.tmp 35) rfl w.heap.size Q R rfl rfl HL0.out HR.out.2.1 ?_)
      | go_in)
    intro w9 HS9 hk
    go_wp2
    exact bodyPost_ret (results_sup rfl _ _ w.heap.size Q R _ rfl rfl HS9.out) rfl ⟨rfl, low_of HB.out HB.out.size hk (Nat.le_refl _)⟩
  · have k1 : ((e0 : Int) == 0) = false := by simp; omega
    clear h0
    go_wp2_with (first
      | (refine wpList_load_sup rfl (.tmp 8) rfl b8 Q R rfl HX.out ?_)
      | (refine wpList_store_sup rfl (.tmp 4) (.tmp 38) rfl w.heap.size Q R rfl rfl HL1.out HR.out.2.1 ?_)
      | go_in)
    intro w9 HS9 hk
    go_wp2
    exact bodyPost_ret (results_sup rfl _ _ w.heap.size Q R _ rfl rfl HS9.out) rfl ⟨rfl, low_of HB.out HB.out.size hk (Nat.le_refl _)⟩
  · have k1 : ((e0 : Int) == 0) = false := by simp; omega
    clear h0
    have k2 : ((e1 : Int) == 0) = false := by simp; omega
    clear h1
    go_wp2_with (first
      | (refine wpList_store_sup rfl (.tmp 4) (.tmp 39) rfl w.heap.size 0 U.none27 rfl rfl none27_len HR.out.2.1 ?_)
      | go_in)
    intro w9 HS9 hk
    go_wp2
    exact bodyPost_ret (results_sup rfl _ _ w.heap.size 0 U.none27 _ rfl rfl HS9.out) rfl ⟨rfl, low_of HB.out HB.out.size hk (Nat.le_refl _)⟩
theorem refnewest_any (a b : List UInt8) (w : World) :
    Calls Tryd.prog 15 #[.string (str a), .string (str b)] w fun e w' => e = .returned (.tuple #[.agg (sva (U.newQ a b) (U.newR a b)), .int .i64 ((U.newE a b : Nat) : Int)]) ∧ Below w.heap.size w w' := by
  refine refnewest_core (U.readE 0 a) (U.readE 1 b) (U.readQ 0 a) (U.readQ 1 b) (U.readR 0 a) (U.readR 1 b) (str a) (str b) w (U.readR_length _ _) (U.readR_length _ _) (U.readQ_lt _ _) (U.readQ_lt _ _) (fun W => refread_any 0 a W) (fun W => refread_any 1 b W) _ _ _ ?_
  have m0 : U.readE 0 a = 0 → U.readQ 0 a % 2 = 0 := U.readQ_mod 0 a (by omega)
  have m1 : U.readE 1 b = 0 → U.readQ 1 b % 2 = 1 := U.readQ_mod 1 b (by omega)
  rcases U.new_cases a b with ⟨h0, h1, k1, k2, k3⟩ | ⟨h0, h1, k1, k2, k3⟩ | ⟨h0, h1, k1, k2, k3⟩
  · exact .inr (.inr (.inr (.inr ⟨h0, h1, k1, k2, k3⟩)))
  · rcases h1 with h1 | ⟨h1, h2⟩
    · exact .inr (.inr (.inl ⟨h0, h1, k1, k2, k3⟩))
    · exact .inr (.inl ⟨h0, h1, by omega, k1, k2, k3⟩)
  · rcases h1 with h1 | ⟨h1, h2⟩
    · exact .inr (.inr (.inr (.inl ⟨h1, h0, k1, k2, k3⟩)))
    · have := m0 h1
      have := m1 h0
      exact .inl ⟨h1, h0, by omega, k1, k2, k3⟩
theorem Byts.away {w w5 w6 : World} {v : Value} {l : List UInt8} {b : Nat} (h : Byts w v l) (h5 : Byts w5 v l) (k : Keep (fun k => k = b) w5 w6) (hb : w.heap.size ≤ b) : Byts w6 v l := by
  obtain ⟨A, c, rfl, hc, q⟩ := h
  by_cases hl : 0 < l.length
  · obtain ⟨b', off, rfl, q2⟩ := q hl
    have hlt : b' < w.heap.size := World.block_lt_of_cell? w _ (q2 0 hl)
    exact h5.keep k (fun k' hk' => by cases hk'; show ¬ b' = b; omega)
  · exact ⟨A, c, rfl, hc, fun h => absurd h hl⟩

set_option maxHeartbeats 1600000 in
theorem newestlaw_core (n n2 c c2 : Nat) (A A2 : Option Addr) (la lb : List UInt8) (sa sb : ByteArray) (E Q : Nat) (R : List Nat) (w : World) (hn : n ≤ 600) (hn2 : n2 ≤ 600) (HRL : Hid (R.length = 27))
    (HVA : Hid (Byts w (.slice A n c) la)) (HVB : Hid (Byts w (.slice A2 n2 c2) lb)) (HSA : Hid (str la = sa)) (HSB : Hid (str lb = sb)) (HT : Hid (Tab w))
    (HN : Hid (Calls Tryd.prog 14 #[.slice A n c, .slice A2 n2 c2] w fun e w' => e = .returned (.tuple #[.agg (sva Q R), .int .i64 (E : Int)]) ∧ Below w.heap.size w w'))
    (HM : Hid (∀ W : World, Calls Tryd.prog 15 #[.string sa, .string sb] W fun e w' => e = .returned (.tuple #[.agg (sva Q R), .int .i64 (E : Int)]) ∧ Below W.heap.size W w')) :
    Calls Tryd.prog 5 #[.slice A n c, .slice A2 n2 c2] w fun e w' => e = .returned (.bool true) ∧ Below w.heap.size w w' := by
  have hd : decide ((600 : Int) < (n : Int)) = false := by simp; omega
  have hd2 : decide ((600 : Int) < (n2 : Int)) = false := by simp; omega
  go_enter Tryd.func5, Tryd.ntmps5
  go_wp2_with fail
  refine HN.out.mono ?_
  rintro e w2 ⟨rfl, hx⟩
  have HB := Lib.hid hx
  clear hx HN hd hd2
  have HT9 : Hid ((w2.alloc (.cells #[.int .u64 0, .int .u32 0, .int .u32 0, .int .u32 0, .int .u32 0, .int .u32 0, .int .u32 0, .int .u32 0, .int .u32 0, .int .u32 0, .int .u32 0, .int .u32 0, .int .u32 0, .int .u32 0, .int .u32 0, .int .u32 0, .int .u32 0, .int .u32 0, .int .u32 0, .int .u32 0, .int .u32 0, .int .u32 0, .int .u32 0, .int .u32 0, .int .u32 0, .int .u32 0, .int .u32 0, .int .u32 0] 28)).there w2.heap.size 0 28) := there_new w2 _ _ 28 rfl
  go_wp2_with (first
    | (refine wpList_store_sup rfl (.tmp 5) (.tmp 22) rfl w2.heap.size Q R rfl rfl HRL.out HT9.out ?_)
    | go_in)
  intro w3 HS hk
  have hs := HB.out.size
  replace HB := Lib.hid (low_of (bal HB.out _) (by simp; omega) hk hs)
  clear hk HT9 hs
  generalize w2.heap.size = b5 at *
  have y1 := (HVA.out.below HB.out).conv
  have y2 := (HVB.out.below HB.out).conv
  rw [HSA.out] at y1
  rw [HSB.out] at y2
  go_wp2_with fail
  refine (HM.out w3).mono ?_
  rintro e w4 ⟨rfl, hx⟩
  replace HS := Lib.hid (HS.out.below hx)
  replace HB := Lib.hid (btr HB.out hx)
  clear hx HM y1 y2
  have HT9 : Hid ((w4.alloc (.cells #[.int .u64 0, .int .u32 0, .int .u32 0, .int .u32 0, .int .u32 0, .int .u32 0, .int .u32 0, .int .u32 0, .int .u32 0, .int .u32 0, .int .u32 0, .int .u32 0, .int .u32 0, .int .u32 0, .int .u32 0, .int .u32 0, .int .u32 0, .int .u32 0, .int .u32 0, .int .u32 0, .int .u32 0, .int .u32 0, .int .u32 0, .int .u32 0, .int .u32 0, .int .u32 0, .int .u32 0, .int .u32 0] 28)).there w4.heap.size 0 28) := there_new w4 _ _ 28 rfl
  go_wp2_with (first
    | (refine wpList_store_sup rfl (.tmp 7) (.tmp 30) rfl w4.heap.size Q R rfl rfl HRL.out HT9.out ?_)
    | go_in)
  intro w5 HX hk
  have hs := HB.out.size
  replace HS := Lib.hid (Sup.keep (HS.out.below (alb _)) hk (by have := HS.out.lt; omega))
  replace HB := Lib.hid (low_of (bal HB.out _) (by simp; omega) hk hs)
  clear hk HT9 hs
  generalize w4.heap.size = b7 at *
  go_wp2_with fail
  refine (fixed_any w5 (HT.out.below HB.out)).mono ?_
  rintro e w6 ⟨rfl, hx⟩
  replace HS := Lib.hid (HS.out.below hx)
  replace HX := Lib.hid (HX.out.below hx)
  replace HB := Lib.hid (btr HB.out hx)
  clear hx
  go_wp2_with (first
    | (refine wpList_load_supG rfl (.tmp 5) rfl b5 Q R rfl HS.out ?_)
    | (refine wpList_load_supG rfl (.tmp 7) rfl b7 Q R rfl HX.out ?_)
    | (refine wpList_eql_sup rfl (.tmp 34) (.tmp 35) rfl Q R rfl rfl HRL.out ?_)
    | go_in)
  go_ret
  exact ⟨rfl, HB.out⟩
theorem newestlaw_big (n n2 c c2 : Nat) (A A2 : Option Addr) (w : World) (h : 600 < n ∨ (n ≤ 600 ∧ 600 < n2)) (hT : Tab w) :
    Calls Tryd.prog 5 #[.slice A n c, .slice A2 n2 c2] w fun e w' => e = .returned (.bool true) ∧ Below w.heap.size w w' := by
  have HF := Lib.hid (fixed_any w hT)
  have k : (decide ((600 : Int) < (n : Int)) = true) ∨ (decide ((600 : Int) < (n : Int)) = false ∧ decide ((600 : Int) < (n2 : Int)) = true) := by
    rcases h with h | ⟨h, h2⟩
    · exact .inl (by simp; omega)
    · exact .inr ⟨by simp; omega, by simp; omega⟩
  clear h hT
  rcases k with k | ⟨k, k2⟩
  all_goals
    go_enter Tryd.func5, Tryd.ntmps5
    go_wp2_with fail
    refine HF.out.mono ?_
    rintro e w4 ⟨rfl, h4⟩
    go_wp2
    go_ret
    exact ⟨rfl, h4⟩
theorem newestlaw_any (va vb : Value) (a b : List UInt8) (w : World) (ha : Byts w va a) (hb : Byts w vb b) (hT : Tab w) :
    Calls Tryd.prog 5 #[va, vb] w fun e w' => e = .returned (.bool true) ∧ Below w.heap.size w w' := by
  obtain ⟨A, c, rfl⟩ := ha.form
  obtain ⟨A2, c2, rfl⟩ := hb.form
  by_cases h : a.length ≤ 600
  · by_cases h2 : b.length ≤ 600
    · exact newestlaw_core _ _ c c2 A A2 a b (str a) (str b) (U.newE a b) (U.newQ a b) (U.newR a b) w h h2 (U.newR_length a b) ha hb rfl rfl hT (newest_any _ _ a b w ha hb hT) (fun W => refnewest_any a b W)
    · exact newestlaw_big _ _ c c2 A A2 w (.inr ⟨h, by omega⟩) hT
  · exact newestlaw_big _ _ c c2 A A2 w (.inl (by omega)) hT
end Go.Proofs.YtbffpgndjbpifaaDoor
