/- The document's own Read of a super. -/
import Derived.Test.YtbffpgndjbpifaaDoorUh
import Derived.Test.YtbffpgndjbpifaaDoorLr
namespace Go.Proofs.YtbffpgndjbpifaaDoor
open Go.RowKit
open U (val)

/-- One of two may come up. -/
theorem lz_pair {P : Program} {ops : Array Oper} {Q : Exit → Act → World → Prop} {z : Nat} (i j : Nat) {S : World → Prop} {oi oj : Oper} {fuel : Nat} {listed : Array Bool} {a : Act} {w : World} (ho : ops[i]? = some oi) (ho2 : ops[j]? = some oj) (hg : oi.guard = none) (hg2 : oj.guard = none) (hr : Region.ready .any ops listed = [i, j])
    (h : ∀ K : Act → World → Prop, Shut (∀ a' w', S w' → Lz P ops Q z S fuel (listed.setIfInBounds i true) a' w' → K a' w') → Oper.wp P oi a w K Q)
    (h2 : ∀ K : Act → World → Prop, Shut (∀ a' w', S w' → Lz P ops Q z S fuel (listed.setIfInBounds j true) a' w' → K a' w') → Oper.wp P oj a w K Q) :
    Lz P ops Q z S (fuel + 1) listed a w := by
  refine ⟨fun h0 => (by rw [hr] at h0; cases h0), fun k hk => ?_⟩
  rw [hr] at hk
  rcases List.mem_cons.1 hk with rfl | hk
  · exact wpOp_step ho (fun K hK => by rw [if_pos (by simp [Region.wanted, hg])]; exact h K (fun a' w' hb hl => hK a' w' ⟨.inr hb, hl⟩))
  · obtain rfl := List.mem_singleton.1 hk
    exact wpOp_step ho2 (fun K hK => by rw [if_pos (by simp [Region.wanted, hg2])]; exact h2 K (fun a' w' hb hl => hK a' w' ⟨.inr hb, hl⟩))
/-- The last store of a region, and what stands behind it, told once for all orders. -/
theorem once {A : World → Prop} {G : World → Prop} {goal : Prop} (h : (∀ w, A w → G w) → goal) (k : ∀ w, A w → G w) : goal := h k
theorem wp_store_sup {op : Oper} {a : Act} {w : World} {K : Act → World → Prop} {Q : Exit → Act → World → Prop} (x y : Operand) (ho : op.op = .store 28 x y)
    (b q : Nat) (r : List Nat) (hx : a.eval x = .pointer (some ⟨b, 0, none⟩)) (hy : a.eval y = .agg (sva q r)) (hr : r.length = 27) (ht : w.there b 0 28)
    (h : ∀ w', Hid (Sup w' b q r) ∧ Hid (Keep (fun k => k = b) w w') → K (a.put op.dst undef) w') : Oper.wp Tryd.prog op a w K Q :=
  wp_store_mid 28 x y ho b 0 (sva q r) hx hy (by rw [sva_size hr]; exact ht) (info_sva hr) (one_sva q r)
    (h _ ⟨Sup.stored ht hr, Keep.setCells (F := fun k => k = b) (Keep.refl _ _) (.inl rfl) 0 _⟩)
theorem wp_store_root {op : Oper} {a : Act} {w : World} {K : Act → World → Prop} {Q : Exit → Act → World → Prop} (x y : Operand) (ho : op.op = .store 25 x y)
    (b j q x0 x1 x2 : Nat) (r : List Nat) (hx : a.eval x = .pointer (some ⟨b, j + 1, none⟩)) (hy : a.eval y = .agg #[.int .u32 (x0 : Int), .int .u32 (x1 : Int), .int .u32 (x2 : Int)]) (hj : j + 2 < 27) (hs : Sup w b q r)
    (h : ∀ w', Hid (Sup w' b q (((r.set j x0).set (j + 1) x1).set (j + 2) x2)) → Keep (fun k => k = b) w w' → K (a.put op.dst undef) w') : Oper.wp Tryd.prog op a w K Q :=
  wp_store_mid 25 x y ho b (j + 1) #[.int .u32 (x0 : Int), .int .u32 (x1 : Int), .int .u32 (x2 : Int)] hx hy (fun k hk => by have := hs.2.1 (j + 1 + k) (by simp at hk; omega); rwa [Nat.zero_add] at this) Tryd.sizeRI
    (all_oneCell_toArray (cs := [.int .u32 (x0 : Int), .int .u32 (x1 : Int), .int .u32 (x2 : Int)]) (by intro v hv; simp only [List.mem_cons, List.not_mem_nil, or_false] at hv; rcases hv with rfl | rfl | rfl <;> rfl))
    (h _ (((hs.set j x0 (by omega)).set (j + 1) x1 (by omega)).set (j + 2) x2 (by omega)) (Keep.setCells (F := fun k => k = b) (Keep.refl _ _) (.inl rfl) (j + 1) [.int .u32 (x0 : Int), .int .u32 (x1 : Int), .int .u32 (x2 : Int)]))
theorem wrap_plus (n : Nat) (d : Int) (h : n ≤ 104) (h0 : 0 ≤ d) (hd : d ≤ 12) : IntKind.i64.wrap ((n : Int) + d) = (n : Int) + d := by
  simp [IntKind.wrap, IntKind.signed, IntKind.bits]
  omega
def row3 (m0 m1 m2 : Nat) : List Nat := m0 :: m1 :: m2 :: List.replicate 24 0
theorem run_build4 (sq m0 m1 m2 : Nat) (w : World) : (Instr.build 28 #[(0, .int .u64 (sq : Int)), (1, .int .u32 (m0 : Int)), (2, .int .u32 (m1 : Int)), (3, .int .u32 (m2 : Int))]).run Tryd.prog w = .ok (.agg (sva sq (row3 m0 m1 m2))) w := by kernel_rfl
theorem rowOf_three (l : List UInt8) : rowOf l 3 = row3 (U.rootAt l 0) (U.rootAt l 1) (U.rootAt l 2) := by
  have e := rowOf_next l 2 (by omega)
  have e1 := rowOf_next l 1 (by omega)
  have e0 := rowOf_next l 0 (by omega)
  rw [← e, ← e1, ← e0, rowOf_zero]
  rfl
theorem rowOf_round (l : List UInt8) (j : Nat) (h : j + 2 < 27) : ((((rowOf l j).set j (U.rootAt l j)).set (j + 1) (U.rootAt l (j + 1))).set (j + 2) (U.rootAt l (j + 2))) = rowOf l (j + 3) := by
  rw [rowOf_next l j (by omega), rowOf_next l (j + 1) (by omega), rowOf_next l (j + 2) (by omega)]
/-- A place that isn't one. -/
theorem refread_out (p : Int) (hp : p < 0 ∨ 1 < p) (s : ByteArray) (w : World) :
    Calls Tryd.prog 13 #[.int .i64 p, .string s] w fun e w' => e = .returned (.tuple #[.agg (sva 0 U.none27), .int .i64 1]) ∧ Below w.heap.size w w' := by
  have hbz := run_build_sup
  have HR : Hid (Sup (w.alloc (.cells #[.int .u64 0, .int .u32 0, .int .u32 0, .int .u32 0, .int .u32 0, .int .u32 0, .int .u32 0, .int .u32 0, .int .u32 0, .int .u32 0, .int .u32 0, .int .u32 0, .int .u32 0, .int .u32 0, .int .u32 0, .int .u32 0, .int .u32 0, .int .u32 0, .int .u32 0, .int .u32 0, .int .u32 0, .int .u32 0, .int .u32 0, .int .u32 0, .int .u32 0, .int .u32 0, .int .u32 0, .int .u32 0] 28)) w.heap.size 0 U.none27) := Sup.made w 0 U.none27 rfl
  have HB : Hid (Below w.heap.size w (w.alloc (.cells #[.int .u64 0, .int .u32 0, .int .u32 0, .int .u32 0, .int .u32 0, .int .u32 0, .int .u32 0, .int .u32 0, .int .u32 0, .int .u32 0, .int .u32 0, .int .u32 0, .int .u32 0, .int .u32 0, .int .u32 0, .int .u32 0, .int .u32 0, .int .u32 0, .int .u32 0, .int .u32 0, .int .u32 0, .int .u32 0, .int .u32 0, .int .u32 0, .int .u32 0, .int .u32 0, .int .u32 0, .int .u32 0] 28))) := alb _
  have q1 : decide (p < 0) = true ∨ (decide (p < 0) = false ∧ decide (1 < p) = true) := by
    by_cases h : p < 0
    · exact .inl (by simpa using h)
    · exact .inr ⟨by simpa using h, by simp; omega⟩
  clear hp
  rcases q1 with q1 | ⟨q1, q2⟩
  all_goals
    go_enter Tryd.func13, Tryd.ntmps13
    go_wp2_with (first
      | (refine wpList_store_sup rfl (.tmp 4) (.tmp 18) rfl w.heap.size 0 U.none27 rfl rfl none27_len HR.out.2.1 ?_)
      | go_in)
    intro w9 HS hk
    go_wp2
    exact bodyPost_ret (results_sup rfl _ _ w.heap.size 0 U.none27 _ rfl rfl HS.out) rfl ⟨rfl, low_of HB.out HB.out.size hk (Nat.le_refl _)⟩
/-- What one round reads. -/
def Rnd (l : List UInt8) (sB : ByteArray) (k : Nat) : Prop := ∃ (n x0 x1 x2 : Nat) (t0 t1 t2 : ByteArray), (20 : Int) + 12 * (k : Int) = (n : Int) ∧ n ≤ 104 ∧ x0 < 4294967296 ∧ x1 < 4294967296 ∧ x2 < 4294967296 ∧ U.rootAt l (3 + 3 * k) = x0 ∧ U.rootAt l (3 + 3 * k + 1) = x1 ∧ U.rootAt l (3 + 3 * k + 2) = x2 ∧
    Hid (∀ w : World, (Instr.slice 9 (.string sB) (some (.int .i64 (n : Int))) (some (.int .i64 ((n : Int) + 4))) none).run Tryd.prog w = .ok (.string t0) w) ∧
    Hid (∀ w : World, (Instr.slice 9 (.string sB) (some (.int .i64 ((n : Int) + 4))) (some (.int .i64 ((n : Int) + 8))) none).run Tryd.prog w = .ok (.string t1) w) ∧
    Hid (∀ w : World, (Instr.slice 9 (.string sB) (some (.int .i64 ((n : Int) + 8))) (some (.int .i64 ((n : Int) + 12))) none).run Tryd.prog w = .ok (.string t2) w) ∧
    Hid (∀ w : World, Calls Tryd.prog 24 #[.string t0] w fun e w' => e = .returned (.int .u32 (x0 : Int)) ∧ w = w') ∧ Hid (∀ w : World, Calls Tryd.prog 24 #[.string t1] w fun e w' => e = .returned (.int .u32 (x1 : Int)) ∧ w = w') ∧ Hid (∀ w : World, Calls Tryd.prog 24 #[.string t2] w fun e w' => e = .returned (.int .u32 (x2 : Int)) ∧ w = w')

set_option maxHeartbeats 6400000 in
theorem refread_core (pn en kn n2 m sq h0 h1 hh m0 m1 m2 : Nat) (l : List UInt8) (sl sB s0 s1 s2 s3 s4 : ByteArray) (w : World) (hp : pn < 2) (hq : sq < 18446744073709551616) (hm : (sq : Int) % 2 = (m : Int)) (hkn : kn < 256) (hz : sB.size = n2)
    (HO : Hid (∀ W : World, Calls Tryd.prog 23 #[.int .u32 (pn : Int), .string sl] W fun e w' => e = .returned (.tuple #[.int .u8 (kn : Int), .string sB, .int .i64 (en : Int)]) ∧ Below W.heap.size W w'))
    (HM : Hid (n2 = 116 → sB.extract 0 4 = s0 ∧ sB.extract 4 8 = s1 ∧ sB.extract 8 12 = s2 ∧ sB.extract 12 16 = s3 ∧ sB.extract 16 20 = s4 ∧ (h0 : Int) * 4294967296 = (hh : Int) ∧ (hh : Int) + (h1 : Int) = (sq : Int) ∧ h0 < 4294967296 ∧ h1 < 4294967296 ∧ hh < 18446744073709551616 ∧
      Hid (∀ w : World, Calls Tryd.prog 24 #[.string s0] w fun e w' => e = .returned (.int .u32 (h0 : Int)) ∧ w = w') ∧ Hid (∀ w : World, Calls Tryd.prog 24 #[.string s1] w fun e w' => e = .returned (.int .u32 (h1 : Int)) ∧ w = w') ∧ Hid (∀ w : World, Calls Tryd.prog 24 #[.string s2] w fun e w' => e = .returned (.int .u32 (m0 : Int)) ∧ w = w') ∧ Hid (∀ w : World, Calls Tryd.prog 24 #[.string s3] w fun e w' => e = .returned (.int .u32 (m1 : Int)) ∧ w = w') ∧ Hid (∀ w : World, Calls Tryd.prog 24 #[.string s4] w fun e w' => e = .returned (.int .u32 (m2 : Int)) ∧ w = w') ∧ Hid (rowOf l 3 = row3 m0 m1 m2) ∧ Hid (∀ k, k < 8 → Rnd l sB k)))
    (E Q : Nat) (R : List Nat) (hc : (en ≠ 0 ∧ E = en ∧ Q = 0 ∧ R = U.none27) ∨ (en = 0 ∧ (kn ≠ 1 ∨ (kn = 1 ∧ n2 ≠ 116)) ∧ E = 2 ∧ Q = 0 ∧ R = U.none27) ∨ (en = 0 ∧ kn = 1 ∧ n2 = 116 ∧ ((m ≠ pn ∧ E = 2 ∧ Q = 0 ∧ R = U.none27) ∨ (m = pn ∧ E = 0 ∧ Q = sq ∧ R = U.rootsOf l)))) :
    Calls Tryd.prog 13 #[.int .i64 (pn : Int), .string sl] w fun e w' => e = .returned (.tuple #[.agg (sva Q R), .int .i64 (E : Int)]) ∧ Below w.heap.size w w' := by
  have hbz := run_build_sup
  have HR : Hid (Sup (w.alloc (.cells #[.int .u64 0, .int .u32 0, .int .u32 0, .int .u32 0, .int .u32 0, .int .u32 0, .int .u32 0, .int .u32 0, .int .u32 0, .int .u32 0, .int .u32 0, .int .u32 0, .int .u32 0, .int .u32 0, .int .u32 0, .int .u32 0, .int .u32 0, .int .u32 0, .int .u32 0, .int .u32 0, .int .u32 0, .int .u32 0, .int .u32 0, .int .u32 0, .int .u32 0, .int .u32 0, .int .u32 0, .int .u32 0] 28)) w.heap.size 0 U.none27) := Sup.made w 0 U.none27 rfl
  have HB : Hid (Below w.heap.size w (w.alloc (.cells #[.int .u64 0, .int .u32 0, .int .u32 0, .int .u32 0, .int .u32 0, .int .u32 0, .int .u32 0, .int .u32 0, .int .u32 0, .int .u32 0, .int .u32 0, .int .u32 0, .int .u32 0, .int .u32 0, .int .u32 0, .int .u32 0, .int .u32 0, .int .u32 0, .int .u32 0, .int .u32 0, .int .u32 0, .int .u32 0, .int .u32 0, .int .u32 0, .int .u32 0, .int .u32 0, .int .u32 0, .int .u32 0] 28))) := alb _
  have q1 : decide ((pn : Int) < 0) = false := by simp
  have q2 : decide (1 < (pn : Int)) = false := by simp; omega
  go_enter Tryd.func13, Tryd.ntmps13
  go_wp2_with fail
  generalize w.alloc (.cells #[.int .u64 0, .int .u32 0, .int .u32 0, .int .u32 0, .int .u32 0, .int .u32 0, .int .u32 0, .int .u32 0, .int .u32 0, .int .u32 0, .int .u32 0, .int .u32 0, .int .u32 0, .int .u32 0, .int .u32 0, .int .u32 0, .int .u32 0, .int .u32 0, .int .u32 0, .int .u32 0, .int .u32 0, .int .u32 0, .int .u32 0, .int .u32 0, .int .u32 0, .int .u32 0, .int .u32 0, .int .u32 0] 28) = wA at *
  refine (HO.out wA).mono ?_
  rintro e w2 ⟨rfl, hx⟩
  replace HR := Lib.hid (HR.out.below hx)
  replace HB := Lib.hid (btr HB.out hx)
  clear hx HO q1 q2
  rcases hc with ⟨h1, rfl, rfl, rfl⟩ | ⟨rfl, h2, rfl, rfl, rfl⟩ | ⟨rfl, rfl, rfl, hcc⟩
  · have g1 : ((E : Int) == 0) = false := by simp; omega
    have g2 : ((E : Int) != 0) = true := by simp; omega
    clear h1
    go_wp2_with (first
      | (refine wpList_store_sup rfl (.tmp 4) (.tmp 29) rfl w.heap.size 0 U.none27 rfl rfl none27_len HR.out.2.1 ?_)
      | go_in)
    intro w9 HS hk
    go_wp2
    exact bodyPost_ret (results_sup rfl _ _ w.heap.size 0 U.none27 _ rfl rfl HS.out) rfl ⟨rfl, low_of HB.out HB.out.size hk (Nat.le_refl _)⟩
  · have g1 : (((kn : Int) == 1) = false ∧ ((kn : Int) != 1) = true) ∨ (kn = 1 ∧ ((n2 : Int) == 116) = false ∧ ((n2 : Int) != 116) = true) := by
      rcases h2 with h2 | ⟨h2, h3⟩
      · exact .inl ⟨by simp; omega, by simp; omega⟩
      · exact .inr ⟨h2, by simp; omega, by simp; omega⟩
    clear h2
    rcases g1 with ⟨g1, g2⟩ | ⟨rfl, g1, g2⟩
    all_goals
      go_wp2_with (first
        | (refine wpList_store_sup rfl (.tmp 4) (.tmp 38) rfl w.heap.size 0 U.none27 rfl rfl none27_len HR.out.2.1 ?_)
        | go_in)
      intro w9 HS hk
      go_wp2
      exact bodyPost_ret (results_sup rfl _ _ w.heap.size 0 U.none27 _ rfl rfl HS.out) rfl ⟨rfl, low_of HB.out HB.out.size hk (Nat.le_refl _)⟩
  · obtain ⟨x0, x1, x2, x3, x4, eh, es, bh0, bh1, bhh, N0, N1, N2, N3, N4, HW3, HRN⟩ := HM.out rfl
    clear HM
    have HRL : Hid ((row3 m0 m1 m2).length = 27) := by
      show (row3 m0 m1 m2).length = 27
      rfl
    go_wp2_with fail
    refine lz_start 22 21 (fun _ => True) rfl (by kernel_rfl) ?_
    have hdr : Hid (Below w2.heap.size w2 w2.drew) := (Below.refl _ _).drew
    replace HR := Lib.hid (HR.out.below hdr.out)
    replace HB := Lib.hid (btr HB.out hdr.out)
    clear hdr
    generalize w2.drew = u at *
    have e1 : IntKind.u64.wrap (h0 : Int) = (h0 : Int) := wrap_u64_nat h0 (by omega)
    have e2 : IntKind.u64.wrap (h1 : Int) = (h1 : Int) := wrap_u64_nat h1 (by omega)
    have e3 : IntKind.u64.wrap (hh : Int) = (hh : Int) := wrap_u64_nat hh bhh
    have e4 : IntKind.u64.wrap (sq : Int) = (sq : Int) := wrap_u64_nat sq hq
    have HTH : Hid ((u.alloc (.cells #[.int .u64 0, .int .u32 0, .int .u32 0, .int .u32 0, .int .u32 0, .int .u32 0, .int .u32 0, .int .u32 0, .int .u32 0, .int .u32 0, .int .u32 0, .int .u32 0, .int .u32 0, .int .u32 0, .int .u32 0, .int .u32 0, .int .u32 0, .int .u32 0, .int .u32 0, .int .u32 0, .int .u32 0, .int .u32 0, .int .u32 0, .int .u32 0, .int .u32 0, .int .u32 0, .int .u32 0, .int .u32 0] 28)).there u.heap.size 0 28) := there_new u _ _ 28 rfl
    refine lz_take 0 39 (v := ?_) rfl rfl (by kernel_rfl) (by kernel_rfl) (by kernel_rfl) (by kernel_rfl) (fun _ _ _ _ _ h => h) (by rfl) trivial (fun W hW => ?_) ?_
    rotate_left
    · go_simp; try rfl
    try simp only [Act.put, List.setIfInBounds_toArray, List.set_cons_zero, List.set_cons_succ]
    refine lz_take 1 40 (v := .string s0) rfl rfl (by kernel_rfl) (by kernel_rfl) (by kernel_rfl) (by kernel_rfl) (fun _ _ _ _ _ h => h) (by rfl) trivial (fun W hW => ?_) ?_
    · go_simp; try rfl
    try simp only [Act.put, List.setIfInBounds_toArray, List.set_cons_zero, List.set_cons_succ]
    refine lz_take 5 44 (v := ?_) rfl rfl (by kernel_rfl) (by kernel_rfl) (by kernel_rfl) (by kernel_rfl) (fun _ _ _ _ _ h => h) (by rfl) trivial (fun W hW => ?_) ?_
    rotate_left
    · go_simp; try rfl
    try simp only [Act.put, List.setIfInBounds_toArray, List.set_cons_zero, List.set_cons_succ]
    refine lz_take 6 45 (v := .string s1) rfl rfl (by kernel_rfl) (by kernel_rfl) (by kernel_rfl) (by kernel_rfl) (fun _ _ _ _ _ h => h) (by rfl) trivial (fun W hW => ?_) ?_
    · go_simp; try rfl
    try simp only [Act.put, List.setIfInBounds_toArray, List.set_cons_zero, List.set_cons_succ]
    refine lz_take 10 49 (v := ?_) rfl rfl (by kernel_rfl) (by kernel_rfl) (by kernel_rfl) (by kernel_rfl) (fun _ _ _ _ _ h => h) (by rfl) trivial (fun W hW => ?_) ?_
    rotate_left
    · go_simp; try rfl
    try simp only [Act.put, List.setIfInBounds_toArray, List.set_cons_zero, List.set_cons_succ]
    refine lz_take 11 50 (v := .string s2) rfl rfl (by kernel_rfl) (by kernel_rfl) (by kernel_rfl) (by kernel_rfl) (fun _ _ _ _ _ h => h) (by rfl) trivial (fun W hW => ?_) ?_
    · go_simp; try rfl
    try simp only [Act.put, List.setIfInBounds_toArray, List.set_cons_zero, List.set_cons_succ]
    refine lz_take 13 52 (v := ?_) rfl rfl (by kernel_rfl) (by kernel_rfl) (by kernel_rfl) (by kernel_rfl) (fun _ _ _ _ _ h => h) (by rfl) trivial (fun W hW => ?_) ?_
    rotate_left
    · go_simp; try rfl
    try simp only [Act.put, List.setIfInBounds_toArray, List.set_cons_zero, List.set_cons_succ]
    refine lz_take 14 53 (v := .string s3) rfl rfl (by kernel_rfl) (by kernel_rfl) (by kernel_rfl) (by kernel_rfl) (fun _ _ _ _ _ h => h) (by rfl) trivial (fun W hW => ?_) ?_
    · go_simp; try rfl
    try simp only [Act.put, List.setIfInBounds_toArray, List.set_cons_zero, List.set_cons_succ]
    refine lz_take 16 55 (v := ?_) rfl rfl (by kernel_rfl) (by kernel_rfl) (by kernel_rfl) (by kernel_rfl) (fun _ _ _ _ _ h => h) (by rfl) trivial (fun W hW => ?_) ?_
    rotate_left
    · go_simp; try rfl
    try simp only [Act.put, List.setIfInBounds_toArray, List.set_cons_zero, List.set_cons_succ]
    refine lz_take 17 56 (v := .string s4) rfl rfl (by kernel_rfl) (by kernel_rfl) (by kernel_rfl) (by kernel_rfl) (fun _ _ _ _ _ h => h) (by rfl) trivial (fun W hW => ?_) ?_
    · go_simp; try rfl
    try simp only [Act.put, List.setIfInBounds_toArray, List.set_cons_zero, List.set_cons_succ]
    clear x0 x1 x2 x3 x4
    have HLT := Lib.hid HR.out.lt
    apply once (A := fun w7 => Hid (Sup w7 u.heap.size sq (row3 m0 m1 m2)) ∧ Hid (Keep (fun k => k = u.heap.size) (u.alloc (.cells #[.int .u64 0, .int .u32 0, .int .u32 0, .int .u32 0, .int .u32 0, .int .u32 0, .int .u32 0, .int .u32 0, .int .u32 0, .int .u32 0, .int .u32 0, .int .u32 0, .int .u32 0, .int .u32 0, .int .u32 0, .int .u32 0, .int .u32 0, .int .u32 0, .int .u32 0, .int .u32 0, .int .u32 0, .int .u32 0, .int .u32 0, .int .u32 0, .int .u32 0, .int .u32 0, .int .u32 0, .int .u32 0] 28)) w7))
    · intro tail
      refine lz_pair 2 20 rfl rfl rfl rfl (by kernel_rfl) (fun K hK => ?_) (fun K hK => ?_)
      · go_simp
        refine (N0.out _).mono ?_
        rintro e w9 ⟨rfl, rfl⟩
        refine hK.out _ _ trivial ?_
        clear hK K
        try simp only [Act.put, List.setIfInBounds_toArray, List.set_cons_zero, List.set_cons_succ]
        refine lz_take 3 42 (v := .int .u64 (h0 : Int)) rfl rfl (by kernel_rfl) (by kernel_rfl) (by kernel_rfl) (by kernel_rfl) (fun _ _ _ _ _ h => h) (by rfl) trivial (fun W hW => ?_) ?_
        · have y := e1; go_simp; try rfl
        try simp only [Act.put, List.setIfInBounds_toArray, List.set_cons_zero, List.set_cons_succ]
        refine lz_take 4 43 (v := .int .u64 (hh : Int)) rfl rfl (by kernel_rfl) (by kernel_rfl) (by kernel_rfl) (by kernel_rfl) (fun _ _ _ _ _ h => h) (by rfl) trivial (fun W hW => ?_) ?_
        · have y := eh; have y2 := e3; go_simp; try rfl
        try simp only [Act.put, List.setIfInBounds_toArray, List.set_cons_zero, List.set_cons_succ]
        refine lz_pair 7 20 rfl rfl rfl rfl (by kernel_rfl) (fun K hK => ?_) (fun K hK => ?_)
        · go_simp
          refine (N1.out _).mono ?_
          rintro e w9 ⟨rfl, rfl⟩
          refine hK.out _ _ trivial ?_
          clear hK K
          try simp only [Act.put, List.setIfInBounds_toArray, List.set_cons_zero, List.set_cons_succ]
          refine lz_take 8 47 (v := .int .u64 (h1 : Int)) rfl rfl (by kernel_rfl) (by kernel_rfl) (by kernel_rfl) (by kernel_rfl) (fun _ _ _ _ _ h => h) (by rfl) trivial (fun W hW => ?_) ?_
          · have y := e2; go_simp; try rfl
          try simp only [Act.put, List.setIfInBounds_toArray, List.set_cons_zero, List.set_cons_succ]
          refine lz_take 9 48 (v := .int .u64 (sq : Int)) rfl rfl (by kernel_rfl) (by kernel_rfl) (by kernel_rfl) (by kernel_rfl) (fun _ _ _ _ _ h => h) (by rfl) trivial (fun W hW => ?_) ?_
          · have y := es; have y2 := e4; go_simp; try rfl
          try simp only [Act.put, List.setIfInBounds_toArray, List.set_cons_zero, List.set_cons_succ]
          refine lz_pair 12 20 rfl rfl rfl rfl (by kernel_rfl) (fun K hK => ?_) (fun K hK => ?_)
          · go_simp
            refine (N2.out _).mono ?_
            rintro e w9 ⟨rfl, rfl⟩
            refine hK.out _ _ trivial ?_
            clear hK K
            try simp only [Act.put, List.setIfInBounds_toArray, List.set_cons_zero, List.set_cons_succ]
            refine lz_pair 15 20 rfl rfl rfl rfl (by kernel_rfl) (fun K hK => ?_) (fun K hK => ?_)
            · go_simp
              refine (N3.out _).mono ?_
              rintro e w9 ⟨rfl, rfl⟩
              refine hK.out _ _ trivial ?_
              clear hK K
              try simp only [Act.put, List.setIfInBounds_toArray, List.set_cons_zero, List.set_cons_succ]
              refine lz_pair 18 20 rfl rfl rfl rfl (by kernel_rfl) (fun K hK => ?_) (fun K hK => ?_)
              · go_simp
                refine (N4.out _).mono ?_
                rintro e w9 ⟨rfl, rfl⟩
                refine hK.out _ _ trivial ?_
                clear hK K
                try simp only [Act.put, List.setIfInBounds_toArray, List.set_cons_zero, List.set_cons_succ]
                refine lz_take 19 58 (v := .agg (sva sq (row3 m0 m1 m2))) rfl rfl (by kernel_rfl) (by kernel_rfl) (by kernel_rfl) (by kernel_rfl) (fun _ _ _ _ _ h => h) (by rfl) trivial (fun W hW => ?_) ?_
                · have y := run_build4 sq m0 m1 m2 W; go_simp; try rfl
                try simp only [Act.put, List.setIfInBounds_toArray, List.set_cons_zero, List.set_cons_succ]
                refine lz_op 20 rfl rfl (by kernel_rfl) (fun K hK => ?_)
                go_simp
                refine hK.out _ _ trivial ?_
                clear hK K
                try simp only [Act.put, List.setIfInBounds_toArray, List.set_cons_zero, List.set_cons_succ]
                refine lz_end rfl rfl (by kernel_rfl) (by kernel_rfl) (fun K hK => ?_)
                refine wp_store_sup (.tmp 9) (.tmp 58) rfl u.heap.size sq (row3 m0 m1 m2) rfl rfl HRL.out HTH.out (fun w7 h7 => ?_)
                refine hK.out _ _ ?_
                exact tail w7 h7
              · go_simp
                refine hK.out _ _ trivial ?_
                clear hK K
                try simp only [Act.put, List.setIfInBounds_toArray, List.set_cons_zero, List.set_cons_succ]
                refine lz_op 18 rfl rfl (by kernel_rfl) (fun K hK => ?_)
                go_simp
                refine (N4.out _).mono ?_
                rintro e w9 ⟨rfl, rfl⟩
                refine hK.out _ _ trivial ?_
                clear hK K
                try simp only [Act.put, List.setIfInBounds_toArray, List.set_cons_zero, List.set_cons_succ]
                refine lz_take 19 58 (v := .agg (sva sq (row3 m0 m1 m2))) rfl rfl (by kernel_rfl) (by kernel_rfl) (by kernel_rfl) (by kernel_rfl) (fun _ _ _ _ _ h => h) (by rfl) trivial (fun W hW => ?_) ?_
                · have y := run_build4 sq m0 m1 m2 W; go_simp; try rfl
                try simp only [Act.put, List.setIfInBounds_toArray, List.set_cons_zero, List.set_cons_succ]
                refine lz_end rfl rfl (by kernel_rfl) (by kernel_rfl) (fun K hK => ?_)
                refine wp_store_sup (.tmp 9) (.tmp 58) rfl u.heap.size sq (row3 m0 m1 m2) rfl rfl HRL.out HTH.out (fun w7 h7 => ?_)
                refine hK.out _ _ ?_
                exact tail w7 h7
            · go_simp
              refine hK.out _ _ trivial ?_
              clear hK K
              try simp only [Act.put, List.setIfInBounds_toArray, List.set_cons_zero, List.set_cons_succ]
              refine lz_op 15 rfl rfl (by kernel_rfl) (fun K hK => ?_)
              go_simp
              refine (N3.out _).mono ?_
              rintro e w9 ⟨rfl, rfl⟩
              refine hK.out _ _ trivial ?_
              clear hK K
              try simp only [Act.put, List.setIfInBounds_toArray, List.set_cons_zero, List.set_cons_succ]
              refine lz_op 18 rfl rfl (by kernel_rfl) (fun K hK => ?_)
              go_simp
              refine (N4.out _).mono ?_
              rintro e w9 ⟨rfl, rfl⟩
              refine hK.out _ _ trivial ?_
              clear hK K
              try simp only [Act.put, List.setIfInBounds_toArray, List.set_cons_zero, List.set_cons_succ]
              refine lz_take 19 58 (v := .agg (sva sq (row3 m0 m1 m2))) rfl rfl (by kernel_rfl) (by kernel_rfl) (by kernel_rfl) (by kernel_rfl) (fun _ _ _ _ _ h => h) (by rfl) trivial (fun W hW => ?_) ?_
              · have y := run_build4 sq m0 m1 m2 W; go_simp; try rfl
              try simp only [Act.put, List.setIfInBounds_toArray, List.set_cons_zero, List.set_cons_succ]
              refine lz_end rfl rfl (by kernel_rfl) (by kernel_rfl) (fun K hK => ?_)
              refine wp_store_sup (.tmp 9) (.tmp 58) rfl u.heap.size sq (row3 m0 m1 m2) rfl rfl HRL.out HTH.out (fun w7 h7 => ?_)
              refine hK.out _ _ ?_
              exact tail w7 h7
          · go_simp
            refine hK.out _ _ trivial ?_
            clear hK K
            try simp only [Act.put, List.setIfInBounds_toArray, List.set_cons_zero, List.set_cons_succ]
            refine lz_op 12 rfl rfl (by kernel_rfl) (fun K hK => ?_)
            go_simp
            refine (N2.out _).mono ?_
            rintro e w9 ⟨rfl, rfl⟩
            refine hK.out _ _ trivial ?_
            clear hK K
            try simp only [Act.put, List.setIfInBounds_toArray, List.set_cons_zero, List.set_cons_succ]
            refine lz_op 15 rfl rfl (by kernel_rfl) (fun K hK => ?_)
            go_simp
            refine (N3.out _).mono ?_
            rintro e w9 ⟨rfl, rfl⟩
            refine hK.out _ _ trivial ?_
            clear hK K
            try simp only [Act.put, List.setIfInBounds_toArray, List.set_cons_zero, List.set_cons_succ]
            refine lz_op 18 rfl rfl (by kernel_rfl) (fun K hK => ?_)
            go_simp
            refine (N4.out _).mono ?_
            rintro e w9 ⟨rfl, rfl⟩
            refine hK.out _ _ trivial ?_
            clear hK K
            try simp only [Act.put, List.setIfInBounds_toArray, List.set_cons_zero, List.set_cons_succ]
            refine lz_take 19 58 (v := .agg (sva sq (row3 m0 m1 m2))) rfl rfl (by kernel_rfl) (by kernel_rfl) (by kernel_rfl) (by kernel_rfl) (fun _ _ _ _ _ h => h) (by rfl) trivial (fun W hW => ?_) ?_
            · have y := run_build4 sq m0 m1 m2 W; go_simp; try rfl
            try simp only [Act.put, List.setIfInBounds_toArray, List.set_cons_zero, List.set_cons_succ]
            refine lz_end rfl rfl (by kernel_rfl) (by kernel_rfl) (fun K hK => ?_)
            refine wp_store_sup (.tmp 9) (.tmp 58) rfl u.heap.size sq (row3 m0 m1 m2) rfl rfl HRL.out HTH.out (fun w7 h7 => ?_)
            refine hK.out _ _ ?_
            exact tail w7 h7
        · go_simp
          refine hK.out _ _ trivial ?_
          clear hK K
          try simp only [Act.put, List.setIfInBounds_toArray, List.set_cons_zero, List.set_cons_succ]
          refine lz_op 7 rfl rfl (by kernel_rfl) (fun K hK => ?_)
          go_simp
          refine (N1.out _).mono ?_
          rintro e w9 ⟨rfl, rfl⟩
          refine hK.out _ _ trivial ?_
          clear hK K
          try simp only [Act.put, List.setIfInBounds_toArray, List.set_cons_zero, List.set_cons_succ]
          refine lz_take 8 47 (v := .int .u64 (h1 : Int)) rfl rfl (by kernel_rfl) (by kernel_rfl) (by kernel_rfl) (by kernel_rfl) (fun _ _ _ _ _ h => h) (by rfl) trivial (fun W hW => ?_) ?_
          · have y := e2; go_simp; try rfl
          try simp only [Act.put, List.setIfInBounds_toArray, List.set_cons_zero, List.set_cons_succ]
          refine lz_take 9 48 (v := .int .u64 (sq : Int)) rfl rfl (by kernel_rfl) (by kernel_rfl) (by kernel_rfl) (by kernel_rfl) (fun _ _ _ _ _ h => h) (by rfl) trivial (fun W hW => ?_) ?_
          · have y := es; have y2 := e4; go_simp; try rfl
          try simp only [Act.put, List.setIfInBounds_toArray, List.set_cons_zero, List.set_cons_succ]
          refine lz_op 12 rfl rfl (by kernel_rfl) (fun K hK => ?_)
          go_simp
          refine (N2.out _).mono ?_
          rintro e w9 ⟨rfl, rfl⟩
          refine hK.out _ _ trivial ?_
          clear hK K
          try simp only [Act.put, List.setIfInBounds_toArray, List.set_cons_zero, List.set_cons_succ]
          refine lz_op 15 rfl rfl (by kernel_rfl) (fun K hK => ?_)
          go_simp
          refine (N3.out _).mono ?_
          rintro e w9 ⟨rfl, rfl⟩
          refine hK.out _ _ trivial ?_
          clear hK K
          try simp only [Act.put, List.setIfInBounds_toArray, List.set_cons_zero, List.set_cons_succ]
          refine lz_op 18 rfl rfl (by kernel_rfl) (fun K hK => ?_)
          go_simp
          refine (N4.out _).mono ?_
          rintro e w9 ⟨rfl, rfl⟩
          refine hK.out _ _ trivial ?_
          clear hK K
          try simp only [Act.put, List.setIfInBounds_toArray, List.set_cons_zero, List.set_cons_succ]
          refine lz_take 19 58 (v := .agg (sva sq (row3 m0 m1 m2))) rfl rfl (by kernel_rfl) (by kernel_rfl) (by kernel_rfl) (by kernel_rfl) (fun _ _ _ _ _ h => h) (by rfl) trivial (fun W hW => ?_) ?_
          · have y := run_build4 sq m0 m1 m2 W; go_simp; try rfl
          try simp only [Act.put, List.setIfInBounds_toArray, List.set_cons_zero, List.set_cons_succ]
          refine lz_end rfl rfl (by kernel_rfl) (by kernel_rfl) (fun K hK => ?_)
          refine wp_store_sup (.tmp 9) (.tmp 58) rfl u.heap.size sq (row3 m0 m1 m2) rfl rfl HRL.out HTH.out (fun w7 h7 => ?_)
          refine hK.out _ _ ?_
          exact tail w7 h7
      · go_simp
        refine hK.out _ _ trivial ?_
        clear hK K
        try simp only [Act.put, List.setIfInBounds_toArray, List.set_cons_zero, List.set_cons_succ]
        refine lz_op 2 rfl rfl (by kernel_rfl) (fun K hK => ?_)
        go_simp
        refine (N0.out _).mono ?_
        rintro e w9 ⟨rfl, rfl⟩
        refine hK.out _ _ trivial ?_
        clear hK K
        try simp only [Act.put, List.setIfInBounds_toArray, List.set_cons_zero, List.set_cons_succ]
        refine lz_take 3 42 (v := .int .u64 (h0 : Int)) rfl rfl (by kernel_rfl) (by kernel_rfl) (by kernel_rfl) (by kernel_rfl) (fun _ _ _ _ _ h => h) (by rfl) trivial (fun W hW => ?_) ?_
        · have y := e1; go_simp; try rfl
        try simp only [Act.put, List.setIfInBounds_toArray, List.set_cons_zero, List.set_cons_succ]
        refine lz_take 4 43 (v := .int .u64 (hh : Int)) rfl rfl (by kernel_rfl) (by kernel_rfl) (by kernel_rfl) (by kernel_rfl) (fun _ _ _ _ _ h => h) (by rfl) trivial (fun W hW => ?_) ?_
        · have y := eh; have y2 := e3; go_simp; try rfl
        try simp only [Act.put, List.setIfInBounds_toArray, List.set_cons_zero, List.set_cons_succ]
        refine lz_op 7 rfl rfl (by kernel_rfl) (fun K hK => ?_)
        go_simp
        refine (N1.out _).mono ?_
        rintro e w9 ⟨rfl, rfl⟩
        refine hK.out _ _ trivial ?_
        clear hK K
        try simp only [Act.put, List.setIfInBounds_toArray, List.set_cons_zero, List.set_cons_succ]
        refine lz_take 8 47 (v := .int .u64 (h1 : Int)) rfl rfl (by kernel_rfl) (by kernel_rfl) (by kernel_rfl) (by kernel_rfl) (fun _ _ _ _ _ h => h) (by rfl) trivial (fun W hW => ?_) ?_
        · have y := e2; go_simp; try rfl
        try simp only [Act.put, List.setIfInBounds_toArray, List.set_cons_zero, List.set_cons_succ]
        refine lz_take 9 48 (v := .int .u64 (sq : Int)) rfl rfl (by kernel_rfl) (by kernel_rfl) (by kernel_rfl) (by kernel_rfl) (fun _ _ _ _ _ h => h) (by rfl) trivial (fun W hW => ?_) ?_
        · have y := es; have y2 := e4; go_simp; try rfl
        try simp only [Act.put, List.setIfInBounds_toArray, List.set_cons_zero, List.set_cons_succ]
        refine lz_op 12 rfl rfl (by kernel_rfl) (fun K hK => ?_)
        go_simp
        refine (N2.out _).mono ?_
        rintro e w9 ⟨rfl, rfl⟩
        refine hK.out _ _ trivial ?_
        clear hK K
        try simp only [Act.put, List.setIfInBounds_toArray, List.set_cons_zero, List.set_cons_succ]
        refine lz_op 15 rfl rfl (by kernel_rfl) (fun K hK => ?_)
        go_simp
        refine (N3.out _).mono ?_
        rintro e w9 ⟨rfl, rfl⟩
        refine hK.out _ _ trivial ?_
        clear hK K
        try simp only [Act.put, List.setIfInBounds_toArray, List.set_cons_zero, List.set_cons_succ]
        refine lz_op 18 rfl rfl (by kernel_rfl) (fun K hK => ?_)
        go_simp
        refine (N4.out _).mono ?_
        rintro e w9 ⟨rfl, rfl⟩
        refine hK.out _ _ trivial ?_
        clear hK K
        try simp only [Act.put, List.setIfInBounds_toArray, List.set_cons_zero, List.set_cons_succ]
        refine lz_take 19 58 (v := .agg (sva sq (row3 m0 m1 m2))) rfl rfl (by kernel_rfl) (by kernel_rfl) (by kernel_rfl) (by kernel_rfl) (fun _ _ _ _ _ h => h) (by rfl) trivial (fun W hW => ?_) ?_
        · have y := run_build4 sq m0 m1 m2 W; go_simp; try rfl
        try simp only [Act.put, List.setIfInBounds_toArray, List.set_cons_zero, List.set_cons_succ]
        refine lz_end rfl rfl (by kernel_rfl) (by kernel_rfl) (fun K hK => ?_)
        refine wp_store_sup (.tmp 9) (.tmp 58) rfl u.heap.size sq (row3 m0 m1 m2) rfl rfl HRL.out HTH.out (fun w7 h7 => ?_)
        refine hK.out _ _ ?_
        exact tail w7 h7
    · intro w7 h7
      obtain ⟨HV, hk⟩ := h7
      replace HR := Lib.hid (Sup.keep (HR.out.below (alb _)) hk.out (by have := HR.out.lt; omega))
      have hs := HB.out.size
      have hrl := HR.out.lt
      replace HB := Lib.hid (low_of (bal HB.out _) (by simp; omega) hk.out hs)
      rw [← HW3.out] at HV
      clear hk N0 N1 N2 N3 N4 eh es e1 e2 e3 e4 HTH HRL HW3 bh0 bh1 bhh
      have HNE : Hid (w.heap.size < u.heap.size) := HLT.out
      generalize u.heap.size = b9 at *
      clear hs hrl
      go_wp2
      go_loopw [10] (fun i wr => ∃ k : Nat, k ≤ 8 ∧ i = .int .i64 (k : Int) ∧ Hid (Sup wr w.heap.size 0 U.none27) ∧ Hid (Sup wr b9 sq (rowOf l (3 + 3 * k))) ∧ Hid (Below w.heap.size w wr)) (fun i _ => (8 - intOf i).toNat)
      case atStart => exact ⟨0, by omega, rfl, HR, HV, HB⟩
      case round =>
        clear HR HV HB
        obtain ⟨k, hk, rfl, HR, HV, HB⟩ := hrel
        by_cases h8 : k < 8
        · obtain ⟨n, x0, x1, x2, t0, t1, t2, en, hn, d0, d1, d2, r0, r1, r2, C0, C1, C2, M0, M1, M2⟩ := HRN.out k h8
          have q1 : decide ((k : Int) < 8) = true := by simp; omega
          have hk7 : (k : Int) < 8 := by omega
          have H8 := Lib.hid h8
          have R0 := Lib.hid r0
          have R1 := Lib.hid r1
          have R2 := Lib.hid r2
          clear r0 r1 r2 h8 d0 d1 d2
          go_wp2_with fail
          refine lz_start 25 24 (fun _ => True) rfl (by kernel_rfl) ?_
          have hdr : Hid (Below wr.heap.size wr wr.drew) := (Below.refl _ _).drew
          replace HR := Lib.hid (HR.out.below hdr.out)
          replace HV := Lib.hid (HV.out.below hdr.out)
          replace HB := Lib.hid (btr HB.out hdr.out)
          clear hdr
          generalize wr.drew = u9 at *
          have f4 := wrap_plus n 4 hn (by omega) (by omega)
          have f8 := wrap_plus n 8 hn (by omega) (by omega)
          have f12 := wrap_plus n 12 hn (by omega) (by omega)
          refine lz_take 0 66 (v := ?_) rfl rfl (by kernel_rfl) (by kernel_rfl) (by kernel_rfl) (by kernel_rfl) (fun _ _ _ _ _ h => h) (by rfl) trivial (fun W hW => ?_) ?_
          rotate_left
          · go_simp; try rfl
          try simp only [Act.put, List.setIfInBounds_toArray, List.set_cons_zero, List.set_cons_succ]
          refine lz_take 1 67 (v := ?_) rfl rfl (by kernel_rfl) (by kernel_rfl) (by kernel_rfl) (by kernel_rfl) (fun _ _ _ _ _ h => h) (by rfl) trivial (fun W hW => ?_) ?_
          rotate_left
          · go_simp; try rfl
          try simp only [Act.put, List.setIfInBounds_toArray, List.set_cons_zero, List.set_cons_succ]
          refine lz_take 2 68 (v := ?_) rfl rfl (by kernel_rfl) (by kernel_rfl) (by kernel_rfl) (by kernel_rfl) (fun _ _ _ _ _ h => h) (by rfl) trivial (fun W hW => ?_) ?_
          rotate_left
          · go_simp; try rfl
          try simp only [Act.put, List.setIfInBounds_toArray, List.set_cons_zero, List.set_cons_succ]
          refine lz_take 3 69 (v := ?_) rfl rfl (by kernel_rfl) (by kernel_rfl) (by kernel_rfl) (by kernel_rfl) (fun _ _ _ _ _ h => h) (by rfl) trivial (fun W hW => ?_) ?_
          rotate_left
          · go_simp; try rfl
          try simp only [Act.put, List.setIfInBounds_toArray, List.set_cons_zero, List.set_cons_succ]
          refine lz_take 4 70 (v := .int .i64 ((n : Int) + 4)) rfl rfl (by kernel_rfl) (by kernel_rfl) (by kernel_rfl) (by kernel_rfl) (fun _ _ _ _ _ h => h) (by rfl) trivial (fun W hW => ?_) ?_
          · have y := f4; go_simp; try rfl
          try simp only [Act.put, List.setIfInBounds_toArray, List.set_cons_zero, List.set_cons_succ]
          refine lz_take 5 71 (v := .string t0) rfl rfl (by kernel_rfl) (by kernel_rfl) (by kernel_rfl) (by kernel_rfl) (fun _ _ _ _ _ h => h) (by rfl) trivial (fun W hW => ?_) ?_
          · have y := C0.out W; go_simp; try rfl
          try simp only [Act.put, List.setIfInBounds_toArray, List.set_cons_zero, List.set_cons_succ]
          refine lz_take 7 73 (v := ?_) rfl rfl (by kernel_rfl) (by kernel_rfl) (by kernel_rfl) (by kernel_rfl) (fun _ _ _ _ _ h => h) (by rfl) trivial (fun W hW => ?_) ?_
          rotate_left
          · go_simp; try rfl
          try simp only [Act.put, List.setIfInBounds_toArray, List.set_cons_zero, List.set_cons_succ]
          refine lz_take 8 74 (v := ?_) rfl rfl (by kernel_rfl) (by kernel_rfl) (by kernel_rfl) (by kernel_rfl) (fun _ _ _ _ _ h => h) (by rfl) trivial (fun W hW => ?_) ?_
          rotate_left
          · go_simp; try rfl
          try simp only [Act.put, List.setIfInBounds_toArray, List.set_cons_zero, List.set_cons_succ]
          refine lz_take 9 75 (v := .int .i64 ((n : Int) + 4)) rfl rfl (by kernel_rfl) (by kernel_rfl) (by kernel_rfl) (by kernel_rfl) (fun _ _ _ _ _ h => h) (by rfl) trivial (fun W hW => ?_) ?_
          · have y := f4; go_simp; try rfl
          try simp only [Act.put, List.setIfInBounds_toArray, List.set_cons_zero, List.set_cons_succ]
          refine lz_take 10 76 (v := ?_) rfl rfl (by kernel_rfl) (by kernel_rfl) (by kernel_rfl) (by kernel_rfl) (fun _ _ _ _ _ h => h) (by rfl) trivial (fun W hW => ?_) ?_
          rotate_left
          · go_simp; try rfl
          try simp only [Act.put, List.setIfInBounds_toArray, List.set_cons_zero, List.set_cons_succ]
          refine lz_take 11 77 (v := .int .i64 ((n : Int) + 8)) rfl rfl (by kernel_rfl) (by kernel_rfl) (by kernel_rfl) (by kernel_rfl) (fun _ _ _ _ _ h => h) (by rfl) trivial (fun W hW => ?_) ?_
          · have y := f8; go_simp; try rfl
          try simp only [Act.put, List.setIfInBounds_toArray, List.set_cons_zero, List.set_cons_succ]
          refine lz_take 12 78 (v := .string t1) rfl rfl (by kernel_rfl) (by kernel_rfl) (by kernel_rfl) (by kernel_rfl) (fun _ _ _ _ _ h => h) (by rfl) trivial (fun W hW => ?_) ?_
          · have y := C1.out W; go_simp; try rfl
          try simp only [Act.put, List.setIfInBounds_toArray, List.set_cons_zero, List.set_cons_succ]
          refine lz_take 14 80 (v := ?_) rfl rfl (by kernel_rfl) (by kernel_rfl) (by kernel_rfl) (by kernel_rfl) (fun _ _ _ _ _ h => h) (by rfl) trivial (fun W hW => ?_) ?_
          rotate_left
          · go_simp; try rfl
          try simp only [Act.put, List.setIfInBounds_toArray, List.set_cons_zero, List.set_cons_succ]
          refine lz_take 15 81 (v := ?_) rfl rfl (by kernel_rfl) (by kernel_rfl) (by kernel_rfl) (by kernel_rfl) (fun _ _ _ _ _ h => h) (by rfl) trivial (fun W hW => ?_) ?_
          rotate_left
          · go_simp; try rfl
          try simp only [Act.put, List.setIfInBounds_toArray, List.set_cons_zero, List.set_cons_succ]
          refine lz_take 16 82 (v := .int .i64 ((n : Int) + 8)) rfl rfl (by kernel_rfl) (by kernel_rfl) (by kernel_rfl) (by kernel_rfl) (fun _ _ _ _ _ h => h) (by rfl) trivial (fun W hW => ?_) ?_
          · have y := f8; go_simp; try rfl
          try simp only [Act.put, List.setIfInBounds_toArray, List.set_cons_zero, List.set_cons_succ]
          refine lz_take 17 83 (v := ?_) rfl rfl (by kernel_rfl) (by kernel_rfl) (by kernel_rfl) (by kernel_rfl) (fun _ _ _ _ _ h => h) (by rfl) trivial (fun W hW => ?_) ?_
          rotate_left
          · go_simp; try rfl
          try simp only [Act.put, List.setIfInBounds_toArray, List.set_cons_zero, List.set_cons_succ]
          refine lz_take 18 84 (v := .int .i64 ((n : Int) + 12)) rfl rfl (by kernel_rfl) (by kernel_rfl) (by kernel_rfl) (by kernel_rfl) (fun _ _ _ _ _ h => h) (by rfl) trivial (fun W hW => ?_) ?_
          · have y := f12; go_simp; try rfl
          try simp only [Act.put, List.setIfInBounds_toArray, List.set_cons_zero, List.set_cons_succ]
          refine lz_take 19 85 (v := .string t2) rfl rfl (by kernel_rfl) (by kernel_rfl) (by kernel_rfl) (by kernel_rfl) (fun _ _ _ _ _ h => h) (by rfl) trivial (fun W hW => ?_) ?_
          · have y := C2.out W; go_simp; try rfl
          try simp only [Act.put, List.setIfInBounds_toArray, List.set_cons_zero, List.set_cons_succ]
          refine lr_take 22 88 (v := ?_) rfl rfl (by kernel_rfl) (by kernel_rfl) (by kernel_rfl) (by kernel_rfl) (by kernel_rfl) (fun _ _ _ _ _ h => h) (by rfl) trivial (fun W hW => ?_) ?_
          rotate_left
          · go_simp; try rfl
          try simp only [Act.put, List.setIfInBounds_toArray, List.set_cons_zero, List.set_cons_succ]
          refine lz_op 6 rfl rfl (by kernel_rfl) (fun K hK => ?_)
          go_simp
          refine (M0.out _).mono ?_
          rintro e w9 ⟨rfl, rfl⟩
          refine hK.out _ _ trivial ?_
          clear hK K
          try simp only [Act.put, List.setIfInBounds_toArray, List.set_cons_zero, List.set_cons_succ]
          refine lz_op 13 rfl rfl (by kernel_rfl) (fun K hK => ?_)
          go_simp
          refine (M1.out _).mono ?_
          rintro e w9 ⟨rfl, rfl⟩
          refine hK.out _ _ trivial ?_
          clear hK K
          try simp only [Act.put, List.setIfInBounds_toArray, List.set_cons_zero, List.set_cons_succ]
          refine lz_op 20 rfl rfl (by kernel_rfl) (fun K hK => ?_)
          go_simp
          refine (M2.out _).mono ?_
          rintro e w9 ⟨rfl, rfl⟩
          refine hK.out _ _ trivial ?_
          clear hK K
          try simp only [Act.put, List.setIfInBounds_toArray, List.set_cons_zero, List.set_cons_succ]
          refine lz_take 21 87 (v := .agg #[.int .u32 (x0 : Int), .int .u32 (x1 : Int), .int .u32 (x2 : Int)]) rfl rfl (by kernel_rfl) (by kernel_rfl) (by kernel_rfl) (by kernel_rfl) (fun _ _ _ _ _ h => h) (by rfl) trivial (fun W hW => ?_) ?_
          · go_simp; try rfl
          try simp only [Act.put, List.setIfInBounds_toArray, List.set_cons_zero, List.set_cons_succ]
          refine lz_take 23 89 (v := .pointer (some ⟨b9, 3 + 3 * k + 1, none⟩)) rfl rfl (by kernel_rfl) (by kernel_rfl) (by kernel_rfl) (by kernel_rfl) (fun _ _ _ _ _ h => h) (by rfl) trivial (fun W hW => ?_) ?_
          · have e : 4 + k * 3 = 3 + 3 * k + 1 := (by omega); go_simp; try rfl
          try simp only [Act.put, List.setIfInBounds_toArray, List.set_cons_zero, List.set_cons_succ]
          refine lz_end rfl rfl (by kernel_rfl) (by kernel_rfl) (fun K hK => ?_)
          refine wp_store_root (.tmp 89) (.tmp 87) rfl b9 (3 + 3 * k) sq x0 x1 x2 _ rfl rfl (by have := H8.out; omega) HV.out ?_
          intro w8 HV8 hk8
          refine hK.out _ _ ?_
          clear hK K
          rw [← R0.out, ← R1.out, ← R2.out, rowOf_round l (3 + 3 * k) (by have := H8.out; omega)] at HV8
          have hne := HNE.out
          replace HR := Lib.hid (HR.out.keep hk8 (by omega))
          replace HB := Lib.hid (low_of HB.out HB.out.size hk8 (by omega))
          clear HV hk8 hne
          go_wp2
          go_roundw
          case rel =>
            refine ⟨k + 1, by have := H8.out; omega, by go_num, HR, ?_, HB⟩
            rw [show 3 + 3 * (k + 1) = 3 + 3 * k + 3 by omega]
            exact HV8
          case measure =>
            simp [intOf]
            omega
        · obtain rfl : k = 8 := by omega
          have q1 : decide (((8 : Nat) : Int) < 8) = false := by decide
          clear hk h8
          have HE : Hid (rowOf l (3 + 3 * 8) = U.rootsOf l) := rowOf_all l
          rw [HE.out] at HV
          have HRL := Lib.hid (U.rootsOf_length l)
          generalize U.rootsOf l = rr at *
          have c0 := HV.out.cell0
          rcases hcc with ⟨h4, rfl, rfl, rfl⟩ | ⟨rfl, rfl, rfl, rfl⟩
          · have g1 : ((m : Int) == (pn : Int)) = false := by simp; omega
            have g2 : ((m : Int) != (pn : Int)) = true := by simp; omega
            clear h4
            go_wp2_with (first
              | (refine wpList_store_sup rfl (.tmp 4) (.tmp 96) rfl w.heap.size 0 U.none27 rfl rfl none27_len HR.out.2.1 ?_)
              | go_in)
            intro w9 HS hk
            go_wp2
            exact bodyPost_ret (results_sup rfl _ _ w.heap.size 0 U.none27 _ rfl rfl HS.out) rfl ⟨rfl, low_of HB.out HB.out.size hk (Nat.le_refl _)⟩
          · go_wp2_with (first
              | (refine wpList_load_sup rfl (.tmp 9) rfl b9 _ _ rfl HV.out ?_)
              | (refine wpList_store_sup rfl (.tmp 4) (.tmp 97) rfl w.heap.size _ _ rfl rfl HRL.out HR.out.2.1 ?_)
              | go_in)
            intro w9 HS hk
            go_wp2
            exact bodyPost_ret (results_sup rfl _ _ w.heap.size _ _ _ rfl rfl HS.out) rfl ⟨rfl, low_of HB.out HB.out.size hk (Nat.le_refl _)⟩
end Go.Proofs.YtbffpgndjbpifaaDoor
