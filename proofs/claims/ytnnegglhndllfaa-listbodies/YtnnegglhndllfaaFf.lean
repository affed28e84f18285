/- freelist.Bodies. -/
import Derived.Test.YtnnegglhndllfaaFe
namespace Go.Proofs.Ytnnegglhndllfaa
open Go.RowKit
attribute [local go_sem] Oper.semAt_some

set_option maxHeartbeats 1600000 in
theorem bodies_bad (w : World) (A A2 : Option Addr) (n c m c2 : Nat) (r1 r2 : Bool) (h : r1 = false ∨ (r1 = true ∧ r2 = false) ∨ (r1 = true ∧ r2 = true ∧ 123 * m < n)) (hm : m ≤ 70368744177664)
    (H1 : Hid (∀ W : World, Below w.heap.size w W → Calls Try.prog 15 #[.slice A n c] W fun e w' => e = .returned (.bool r1) ∧ W = w'))
    (H2 : Hid (∀ W : World, Below w.heap.size w W → Calls Try.prog 16 #[.slice A2 m c2] W fun e w' => e = .returned (.bool r2) ∧ W = w')) :
    Calls Try.prog 10 #[.slice A n c, .slice A2 m c2] w fun e w' => e = .returned (.tuple #[.slice none 0 0, .int .i64 1]) ∧ Below w.heap.size w w' := by
  rcases h with rfl | ⟨rfl, rfl⟩ | ⟨rfl, rfl, h⟩
  · go_enter Try.func10, Try.ntmps10
    go_wp2_with fail
    refine (H1.out _ (alb _)).mono ?_
    rintro e w1 ⟨rfl, rfl⟩
    go_wp2
    go_ret2
    exact ⟨rfl, alb _⟩
  · go_enter Try.func10, Try.ntmps10
    go_wp2_with fail
    refine (H1.out _ (alb _)).mono ?_
    rintro e w1 ⟨rfl, rfl⟩
    go_wp2_with fail
    refine (H2.out _ (alb _)).mono ?_
    rintro e w1 ⟨rfl, rfl⟩
    go_wp2
    go_ret2
    exact ⟨rfl, alb _⟩
  · have h1 : 123 * (m : Int) < (n : Int) := by omega
    go_enter Try.func10, Try.ntmps10
    go_wp2_with fail
    refine (H1.out _ (alb _)).mono ?_
    rintro e w1 ⟨rfl, rfl⟩
    go_wp2_with fail
    refine (H2.out _ (alb _)).mono ?_
    rintro e w1 ⟨rfl, rfl⟩
    go_wp2
    go_ret2
    exact ⟨rfl, alb _⟩

/-- Between two rounds: the row of bodies in its box, the pages in theirs. -/
def Inv (w : World) (l p : List Int) (k : Nat) (pv : Value) (pre : List (Part w l k)) (W : World) : Prop :=
  (∃ v, Boxed W (w.heap.size + 1) 26 v ∧ Bods W w.heap.size v (pre.map fun x => L.bodyAt l p x.at)) ∧ Boxed W w.heap.size 25 pv ∧ Below w.heap.size w W
theorem inv_own {w W0 : World} (l p : List Int) (k : Nat) (pv : Value) (h0 : w.heap.size ≤ W0.heap.size) : OwnFrom W0.heap.size (Inv w l p k pv) := by
  rintro s X Y row ⟨⟨v, hv, hb⟩, hp, hB⟩ hg hr
  have ne : ∀ {b : Nat} {cur : Array Value} {e : TypeId}, X.heap[b]? = some (Obj.cells cur e (0, 0)) → some b ≠ row := fun {b} {cur} {e} hx q => by
    obtain ⟨_, o, ho, hc⟩ := hr b q.symm
    rw [hx] at ho
    cases ho
    cases hc
  refine ⟨⟨v, hv.kept hg (ne hv), hb.lets (fun b cur e _ hx => (hg.block b (Array.getElem?_eq_some_iff.1 hx).1 (ne hx)).trans hx)⟩, hp.kept hg (ne hp), ?_⟩
  exact hB.grown hg hB.size (fun b q => by have := (hr b q).1; omega)

set_option maxRecDepth 100000 in
set_option maxHeartbeats 1000000 in
theorem bodies_ok (w : World) (A A2 : Option Addr) (n k c c2 : Nat) (l p : List Int) (hle : n ≤ 123 * k) (hm : k ≤ 1000000) (HL : Hid (l.length = n)) (HK : Hid (p.length = k))
    (HN : Hid (Nums w (.slice A n c) l)) (HP : Hid (Nums w (.slice A2 k c2) p)) (RL : Hid (Rg l)) (RP : Hid (Rg p))
    (H1 : Hid (∀ W : World, Below w.heap.size w W → Calls Try.prog 15 #[.slice A n c] W fun e w' => e = .returned (.bool true) ∧ W = w'))
    (H2 : Hid (∀ W : World, Below w.heap.size w W → Calls Try.prog 16 #[.slice A2 k c2] W fun e w' => e = .returned (.bool true) ∧ W = w')) :
    Calls Try.prog 10 #[.slice A n c, .slice A2 k c2] w fun e w' => ∃ v, e = .returned (.tuple #[v, .int .i64 0]) ∧ Bods w' w.heap.size v ((List.range k).map (L.bodyAt l p)) ∧ Below w.heap.size w w' := by
  have hle2 : decide (123 * (k : Int) < (n : Int)) = false := by simp; omega
  obtain ⟨i0, hi0, hz0, hz1, hz2⟩ := info_parts Try.info33
  refine (callsIn_wide (n := 6)).1 ?_
  refine callsIn_of_wp_marks Try.func10 rfl trivial ?_ rfl
  simp only [Try.ntmps10, List.size_toArray, List.length_cons, List.length_nil, Nat.reduceAdd, Nat.reduceSub, Array.replicate_succ, Array.replicate_zero, List.push_toArray, List.append_toArray, List.nil_append, List.cons_append]
  gi_wp2_with fail
  refine ⟨trivial, ?_⟩
  refine (callsIn_wide.2 (H1.out _ (alb _))).mono ?_
  rintro e w1 ⟨rfl, rfl⟩
  gi_wp2_with fail
  refine ⟨trivial, ?_⟩
  refine (callsIn_wide.2 (H2.out _ (alb _))).mono ?_
  rintro e w1 ⟨rfl, rfl⟩
  gi_wp2_with fail
  refine ⟨trivial, ?_⟩
  refine (callsIn_wide.2 (parts_any _ _ _ _ _)).mono ?_
  rintro e w1 ⟨rfl, rfl⟩
  gi_wp2_with fail
  obtain ⟨W0, hW0⟩ : ∃ W0, ((((w.alloc (.cells #[.slice A2 k c2] 25)).alloc (.cells #[.slice none 0 0] 26)).alloc (.cells #[.slice A n c] 25)).alloc (.cells #[.int .i64 (k : Int)] 3)) = W0 := ⟨_, rfl⟩
  have hp0 : Boxed W0 w.heap.size 25 (.slice A2 k c2) := by
    rw [← hW0]
    exact (((Boxed.new w _ _).alloc _).alloc _).alloc _
  have hv0 : Boxed W0 (w.heap.size + 1) 26 (.slice none 0 0) := by
    rw [← hW0]
    have := Boxed.new (w.alloc (.cells #[.slice A2 k c2] 25)) 26 (.slice none 0 0)
    rw [World.size_alloc] at this
    exact (this.alloc _).alloc _
  have hn0 : W0.cell? ⟨w.heap.size + 1 + 1, 0, none⟩ = some (.slice A n c) := by
    rw [← hW0]
    have := Boxed.new ((w.alloc (.cells #[.slice A2 k c2] 25)).alloc (.cells #[.slice none 0 0] 26)) 25 (.slice A n c)
    rw [World.size_alloc, World.size_alloc] at this
    exact (this.alloc _).cell
  have hk0 : W0.cell? ⟨w.heap.size + 1 + 1 + 1, 0, none⟩ = some (.int .i64 (k : Int)) := by
    rw [← hW0]
    have := Boxed.new (((w.alloc (.cells #[.slice A2 k c2] 25)).alloc (.cells #[.slice none 0 0] 26)).alloc (.cells #[.slice A n c] 25)) 3 (.int .i64 (k : Int))
    rw [World.size_alloc, World.size_alloc, World.size_alloc] at this
    exact this.cell
  have hB0 : Below w.heap.size w W0 := by
    rw [← hW0]
    exact bal (bal (bal (alb _) _) _) _
  rw [hW0]
  clear hW0
  have hst := parts_stops w W0 A c k (w.heap.size + 1 + 1) (w.heap.size + 1 + 1 + 1) 5 l (by omega) (by omega) (by rw [HL.out]; exact HN.out) (by rw [HL.out]; exact hn0) hk0
  clear hn0 hk0
  refine wpIn_rangeFunc_ownF rfl (by omega) (gf := 25) (lb := #[.pointer (some ⟨w.heap.size + 1 + 1, 0, none⟩), .pointer (some ⟨w.heap.size + 1 + 1 + 1, 0, none⟩)]) rfl trivial (enters_of Try.func25 (by kernel_rfl) rfl)
    hst (fun _ _ => trivial) (fun _ _ _ _ _ _ _ _ => trivial) (Below.refl _ _) (fun _ => rfl)
    (Inv w l p k (.slice A2 k c2)) (fun _ _ _ => False) (inv_own l p k _ hB0.size) (fun _ _ _ _ _ hs _ _ => hs)
    ⟨⟨_, hv0, Bods.nil _ _⟩, hp0, hB0⟩
    (fun x => { tmps := #[.slice A n c, .slice A2 k c2, undef, .pointer (some ⟨w.heap.size, 0, none⟩), .slice none 0 0, .int .i64 0, .pointer (some ⟨w.heap.size + 1, 0, none⟩), .int .i64 ((x.1.1 : Nat) : Int), x.1.2, .slice A n c, .bool true, .bool false, .bool false, .slice A2 k c2, .bool true, .bool false, .bool false, .bool false, .slice A n c, .int .i64 (n : Int), .slice A2 k c2, .int .i64 (k : Int), .int .i64 (123 * (k : Int)), .bool false, .bool false, .slice A n c, .slice A2 k c2, .int .i64 (k : Int), .func (.func 25) #[] #[.pointer (some ⟨w.heap.size + 1 + 1, 0, none⟩), .pointer (some ⟨w.heap.size + 1 + 1 + 1, 0, none⟩)], .int .i64 ((x.1.1 : Nat) : Int), x.1.2, undef, undef, undef, undef, undef, undef, undef, undef, undef], defers := [] }) ?assign ?body ?done ?stop
  case assign =>
    rintro g ⟨⟨i, xv⟩, hi, hx⟩ W K hK
    obtain ⟨A', c', e, _⟩ := hx.form
    dsimp only at e hK ⊢
    subst e
    simp only [Part.encs]
    gi_wp2
    exact hK
  case stop =>
    rintro D c pre W _ _ h _
    exact h.elim
  case done =>
    rintro D xs W hD hS ⟨⟨v, hv, hb⟩, hp, hB⟩ hK
    have hc6 := hv.cell
    gi_wp2
    refine ⟨by simp, .inl ⟨_, _, rfl, run_takeDeferred hK, ?_⟩⟩
    refine ⟨_, results_tmp2 rfl _ _ _, v, rfl, ?_, ?_⟩
    · have e : (xs.map fun x => L.bodyAt l p x.at) = (List.range k).map (L.bodyAt l p) := by
        rw [← hS, List.map_map]
        rfl
      rw [e] at hb
      refine hb.lets (fun b cur e _ hx => ?_)
      exact ((grownBy_putObj' W D (.deferred none)).block b (Array.getElem?_eq_some_iff.1 hx).1 (fun q => by
        cases q
        rw [hK] at hx
        cases hx)).trans hx
    · exact hB.trans (belowK_b (w := w) (Nat.le_refl _) W D _ _ (Nat.le_trans hB0.size hD) hK rfl rfl)
  case body =>
    rintro g pre x W ⟨⟨v, hv, hb⟩, hp, hB⟩ hlt
    have hi := x.2.1
    have hx := x.2.2
    obtain ⟨i, hxi⟩ : ∃ i, i = x.1.1 := ⟨_, rfl⟩
    obtain ⟨xv, hxv⟩ : ∃ xv, xv = x.1.2 := ⟨_, rfl⟩
    dsimp only
    rw [← hxi] at hi hx ⊢
    rw [← hxv] at hx ⊢
    obtain ⟨A', c', e, hcc, hcm⟩ := hx.form
    obtain ⟨q, hq⟩ : ∃ q, q = L.part l i := ⟨_, rfl⟩
    obtain ⟨m, hmq⟩ : ∃ m, m = (L.part l i).length := ⟨_, rfl⟩
    have hqm : Hid (q.length = m) := by show q.length = m; rw [hq, hmq]
    have hm123 : m ≤ 123 := by rw [hmq]; exact L.part_le l i
    rw [← hmq] at e hcc
    rw [e] at hx ⊢
    rw [← hq] at hx
    have hrq : Hid (Rg q) := fun y hy => RL.out y (L.part_mem (by rw [← hq]; exact hy))
    have HQ := Lib.hid hq
    have HXI : Hid (i = Part.at x) := hxi
    clear hq hmq e hxv hxi
    obtain ⟨vs, hrow, hin⟩ := hb
    have hvl : vs.length = pre.length := by
      have := hrow.1
      simpa using this
    have C6 := Lib.hid hv.cell
    have C3 := Lib.hid hp.cell
    have HV := Lib.hid hv
    have HPG := Lib.hid hp
    have HB := Lib.hid hB
    have HX := Lib.hid (hx.below hB)
    have HR := Lib.hid hrow
    have HIN := Lib.hid hin
    have N6 : Hid (¬ v.ownBlock = some (w.heap.size + 1)) := fun e => hv.not_row (by decide) hrow e.symm
    have N3 : Hid (¬ v.ownBlock = some w.heap.size) := fun e => hp.not_row (by decide) hrow e.symm
    have hpl : pre.length < k := hlt
    clear hv hp hB hx hrow hin hlt hcm
    gi_wp2_with fail
    have hS : Hid (Keep (fun b => v.ownBlock = some b) W W.drew) := (Keep.refl _ _).drew
    refine lz_round (z := 8) (m := 9) (fun W' => Keep (fun b => v.ownBlock = some b) W W') rfl (by kernel_rfl) (by kernel_rfl) (by rintro ⟨a, w, h⟩; exact h) ?_
    refine lz_take 0 31 (v := ?_) rfl rfl (by kernel_rfl) (by kernel_rfl) (by kernel_rfl) (by kernel_rfl) (fun _ _ _ _ _ h => h) (by rfl) hS.out (fun W' hW => ?_) ?_
    rotate_left
    · have z := hW.cell C6.out N6.out; go_simp; try rfl
    try simp only [Act.put, List.setIfInBounds_toArray, List.set_cons_zero, List.set_cons_succ]
    refine lz_take 1 32 (v := ?_) rfl rfl (by kernel_rfl) (by kernel_rfl) (by kernel_rfl) (by kernel_rfl) (fun _ _ _ _ _ h => h) (by rfl) hS.out (fun W' hW => ?_) ?_
    rotate_left
    · have z := hW.cell C3.out N3.out; go_simp; try rfl
    try simp only [Act.put, List.setIfInBounds_toArray, List.set_cons_zero, List.set_cons_succ]
    refine lz_take 2 33 (v := ?_) rfl rfl (by kernel_rfl) (by kernel_rfl) (by kernel_rfl) (by kernel_rfl) (fun _ _ _ _ _ h => h) (by rfl) hS.out (fun W' hW => ?_) ?_
    rotate_left
    · go_simp; try rfl
    try simp only [Act.put, List.setIfInBounds_toArray, List.set_cons_zero, List.set_cons_succ]
    refine lz_take 4 35 (v := ?_) rfl rfl (by kernel_rfl) (by kernel_rfl) (by kernel_rfl) (by kernel_rfl) (fun _ _ _ _ _ h => h) (by rfl) hS.out (fun W' hW => ?_) ?_
    rotate_left
    · go_simp; try rfl
    try simp only [Act.put, List.setIfInBounds_toArray, List.set_cons_zero, List.set_cons_succ]
    have hBd : Hid (Below w.heap.size w W.drew) := HB.out.drew
    have hWd : Hid (Below W.heap.size W W.drew) := (Below.refl _ _).drew
    clear hS
    generalize W.drew = u at *
    refine lz_op 3 rfl rfl (by kernel_rfl) (fun K hK => ?_)
    go_simp
    refine (behind_any u _ p i (HP.out.below hBd.out) (by rw [HK.out]; exact hi)).mono ?_
    rintro e u1 ⟨rfl, rfl⟩
    refine hK.out _ _ (Keep.of_below hWd.out) ?_
    clear hK K
    try simp only [Act.put, List.setIfInBounds_toArray, List.set_cons_zero, List.set_cons_succ]
    refine lz_op 5 rfl rfl (by kernel_rfl) (fun K hK => ?_)
    go_simp
    have hnr := L.nextOf_rng RP.out i
    have hbo := bodyof_any u (.slice A' m c') (L.nextOf p i) q (HX.out.below hWd.out) hrq.out hnr.1 hnr.2 (by rw [hqm.out]; omega)
    rw [hqm.out] at hbo
    refine hbo.mono ?_
    rintro e w2 ⟨rfl, hbk, hb2⟩
    clear hbo hnr
    obtain ⟨nx, hnx⟩ : ∃ nx, nx = L.nextOf p i := ⟨_, rfl⟩
    have HNX := Lib.hid hnx
    rw [← hnx] at hbk ⊢
    clear hnx
    have hW2 : Hid (Below W.heap.size W w2) := btr hWd.out hb2
    have hB2 : Hid (Below w.heap.size w w2) := btr hBd.out hb2
    have hg2 : Hid (w.heap.size ≤ u.heap.size) := hBd.out.size
    have HBK := Lib.hid hbk
    clear hbk hb2
    generalize u.heap.size = g2 at *
    refine hK.out _ _ (Keep.of_below hW2.out) ?_
    clear hK K hWd hBd
    try simp only [Act.put, List.setIfInBounds_toArray, List.set_cons_zero, List.set_cons_succ]
    refine lz_op 6 rfl rfl (by kernel_rfl) (fun K hK => ?_)
    go_simp
    have hW3 : Hid (Below W.heap.size W (w2.alloc (.cells #[.slice (some ⟨g2, 0, none⟩) (6 + 4 * m) (6 + 4 * m)] 33))) := bal hW2.out _
    have hB3 : Hid (Below w.heap.size w (w2.alloc (.cells #[.slice (some ⟨g2, 0, none⟩) (6 + 4 * m) (6 + 4 * m)] 33))) := bal hB2.out _
    have HBK3 : Hid (Bk (w2.alloc (.cells #[.slice (some ⟨g2, 0, none⟩) (6 + 4 * m) (6 + 4 * m)] 33)) g2 (L.bodyL nx q)) := HBK.out.below (alb _)
    have hcell : Hid ((w2.alloc (.cells #[.slice (some ⟨g2, 0, none⟩) (6 + 4 * m) (6 + 4 * m)] 33)).cell? ⟨w2.heap.size, 0, none⟩ = some (.slice (some ⟨g2, 0, none⟩) (6 + 4 * m) (6 + 4 * m))) := (Boxed.new _ _ _).cell
    clear hW2 hB2 HBK
    generalize hw3 : w2.alloc (.cells #[.slice (some ⟨g2, 0, none⟩) (6 + 4 * m) (6 + 4 * m)] 33) = w3 at *
    clear hw3
    generalize w2.heap.size = a2 at *
    refine hK.out _ _ (Keep.of_below hW3.out) ?_
    clear hK K
    try simp only [Act.put, List.setIfInBounds_toArray, List.set_cons_zero, List.set_cons_succ]
    refine lz_op 7 rfl rfl (by kernel_rfl) (fun K hK => ?_)
    have hrow3 : w3.ownsRow w.heap.size 33 1 v pre.length vs := by
      have := HR.out
      rw [List.length_map] at this
      exact own_keep this (Keep.of_below (F := fun _ => False) hW3.out) (fun _ _ q => q)
    have HR3 := Lib.hid hrow3
    clear hrow3
    refine wp_append_base _ _ 26 rfl w.heap.size 33 i0 _ 1 24 Try.underlying26 hi0 hz0 hz1 hz2 rfl (by decide) v pre.length vs rfl HR3.out ⟨a2, 0, none⟩ 1 1 [.slice (some ⟨g2, 0, none⟩) (6 + 4 * m) (6 + 4 * m)] rfl rfl ?c2 ?c3 ?c4 ?c5 ?c6 ?_
    case c2 =>
      intro j y hj
      have hj0 : j = 0 := by
        have := (List.getElem?_eq_some_iff.1 hj).1
        simp at this
        omega
      subst hj0
      simp at hj
      rw [← hj]
      exact hcell.out
    case c3 =>
      intro y hy
      rw [List.mem_singleton.1 hy]
      rfl
    case c4 => unfold maxLen; omega
    case c5 => omega
    case c6 => exact hB3.out.size
    intro v2 w4 hown hgrow
    obtain ⟨g4, cap4, rfl⟩ := ownsRow_succ hown
    have hk4 : Hid (Keep (fun b => v.ownBlock = some b) W w4) := Keep.grown (Keep.of_below hW3.out) hgrow (fun k hk => .inl hk)
    have HO4 := Lib.hid hown
    have HG4 := Lib.hid hgrow
    refine hK.out _ _ hk4.out ?_
    clear hK K hown hgrow
    show Lz _ _ _ _ _ _ _ (Act.put _ (some 38) _) _
    try simp only [Act.put, List.setIfInBounds_toArray, List.set_cons_zero, List.set_cons_succ]
    have q4 := hk4.out.cell C6.out N6.out
    have f4 := (hk4.out.frozen C6.out N6.out).trans HV.out.frozen
    refine lz_end rfl rfl (by kernel_rfl) (by kernel_rfl) (fun K hK => ?_)
    go_simp
    refine hK.out _ _ ?_
    clear hK K q4 f4
    have hbx := boxed_keep HV.out hk4.out N6.out
    have hpx := boxed_keep HPG.out hk4.out N3.out
    obtain ⟨cur4, hc4, hg4⟩ := own_block HO4.out (b := g4) rfl
    have hne4 : g4 ≠ w.heap.size + 1 := fun e => by
      rw [e] at hc4
      have := (show w4.heap[w.heap.size + 1]? = _ from hbx).symm.trans hc4
      simp at this
    have hvb : ∀ b, v.ownBlock = some b → ∃ cur, w3.heap[b]? = some (.cells cur 33 (0, 0)) ∧ w.heap.size ≤ b := fun b hb => own_block HR3.out hb
    refine ⟨(keep_others hk4.out (fun b o hb ho => ?_)).trans (KeepsOthers.setCell _ _ _), trivial, ⟨_, hbx.set _, ?_⟩, hpx.kept (grownBy_setCell' _ _ _) (fun e => by simp at e), ?_⟩
    · obtain ⟨cur, hc, _⟩ := own_block HR.out hb
      rw [hc] at ho
      cases ho
      rfl
    · have eb : (pre ++ [x]).map (fun x => L.bodyAt l p x.at) = pre.map (fun x => L.bodyAt l p x.at) ++ [L.bodyL nx q] := by
        rw [List.map_append, HNX.out, HQ.out, HXI.out]
        rfl
      rw [eb]
      have el : (L.bodyL nx q).length = 6 + 4 * m := by rw [L.bodyL_length, hqm.out]
      refine Bods.snoc (W := w3) (g := g2) (vs := vs) (fun i' hi' => ?_) (by rw [List.length_map]; exact hvl) (fun g' cur hx => ?_) ?_ HBK3.out hg2.out
      · obtain ⟨g', e, hb', hk'⟩ := HIN.out i' hi'
        exact ⟨g', e, hb', hk'.below hW3.out⟩
      · have h4 : w4.heap[g']? = some (.cells cur 5 (0, 0)) := (HG4.out.block g' (Array.getElem?_eq_some_iff.1 hx).1 (fun e => by
          obtain ⟨cur', hc', _⟩ := hvb g' e.symm
          rw [hx] at hc'
          simp at hc')).trans hx
        refine (Below.heap_setCell _ _ _ g' (fun e => ?_)).trans h4
        have e' : g' = w.heap.size + 1 := e
        rw [e'] at h4
        have := (show w4.heap[w.heap.size + 1]? = _ from hbx).symm.trans h4
        simp at this
      · rw [el, List.length_map]
        exact own_keep HO4.out (Keep.setCell (F := fun b => b = w.heap.size + 1) (Keep.refl _ w4) (p := ⟨w.heap.size + 1, 0, none⟩) (.inl rfl) _) (fun b hb e => by
          have : g4 = b := by simpa [Value.ownBlock] using hb
          omega)
    · refine (hB3.out.grown HG4.out hB3.out.size (fun b hb => (hvb b hb).choose_spec.2)).setCell (p := ⟨w.heap.size + 1, 0, none⟩) ?_ _
      show w.heap.size ≤ w.heap.size + 1
      omega
theorem bodies_any (w : World) (v v2 : Value) (l p : List Int) (h : Nums w v l) (h2 : Nums w v2 p) (rl : Rg l) (rp : Rg p) (hm : p.length ≤ 1000000) :
    Calls Try.prog 10 #[v, v2] w fun e w' => ∃ u, e = .returned (.tuple #[u, .int .i64 ((L.bodiesE l p : Nat) : Int)]) ∧ Bods w' w.heap.size u (L.bodiesL l p) ∧ Below w.heap.size w w' := by
  obtain ⟨A, c, e, _, _⟩ := h.form
  obtain ⟨A2, c2, e2, _, _⟩ := h2.form
  subst e e2
  have H1 : Hid (∀ W : World, Below w.heap.size w W → Calls Try.prog 15 #[.slice A l.length c] W fun e w' => e = .returned (.bool (L.ris 1 l)) ∧ W = w') := fun W hW => rising_any W _ l (h.below hW)
  have H2 : Hid (∀ W : World, Below w.heap.size w W → Calls Try.prog 16 #[.slice A2 p.length c2] W fun e w' => e = .returned (.bool (L.onD p)) ∧ W = w') := fun W hW => ondisk_any W _ p (h2.below hW)
  by_cases q : L.bodiesE l p = 0
  · obtain ⟨q1, q2, q3⟩ := L.bodiesE_zero q
    rw [q1] at H1
    rw [q2] at H2
    rw [L.bodiesL_ok q, q]
    exact bodies_ok w A A2 l.length p.length c c2 l p q3 hm rfl rfl h h2 rl rp H1 H2
  · have q1 : L.bodiesE l p = 1 := (L.bodiesE_cases l p).resolve_left q
    rw [L.bodiesL_no q, q1]
    refine (bodies_bad w A A2 l.length c p.length c2 _ _ ?_ (by omega) H1 H2).mono ?_
    · unfold L.bodiesE at q
      by_cases a1 : L.ris 1 l = true
      · by_cases a2 : L.onD p = true
        · refine .inr (.inr ⟨a1, a2, ?_⟩)
          have : ¬ l.length ≤ 123 * p.length := fun a3 => q (if_pos ⟨a1, a2, a3⟩)
          omega
        · exact .inr (.inl ⟨a1, by simpa using a2⟩)
      · exact .inl (by simpa using a1)
    · rintro e w' ⟨rfl, hB⟩
      exact ⟨_, rfl, Bods.nil _ _, hB⟩
end Go.Proofs.Ytnnegglhndllfaa
