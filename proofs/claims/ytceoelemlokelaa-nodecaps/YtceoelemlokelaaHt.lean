/- The document's own Of: a node as texts. -/
import Derived.Test.YtceoelemlokelaaHs
namespace Go.Proofs.Ytceoelemlokelaa
open Go.RowKit

/-- A node as texts that grows, beside a node that is read. -/
structure Od (w wr : World) (lf : Bool) (iv jv hv : Value) (kv vv pv : Value) (ks vs : List (List UInt8)) (ps : List Int) : Prop where
  gx : Gx (w.heap.size + 3) wr (w.heap.size + 2) 38 9 lf kv vv pv (svs ks) (svs vs) (us ps)
  rb : wr.heap[w.heap.size + 1]? = some (.cells #[.bool false, .slice none 0 0, .slice none 0 0, .slice none 0 0] 38 (0, 0))
  nb : Nb wr w.heap.size lf iv jv hv
  kp : Below w.heap.size w wr
theorem Od.size {w wr : World} {lf : Bool} {iv jv hv kv vv pv : Value} {ks vs : List (List UInt8)} {ps : List Int} (h : Od w wr lf iv jv hv kv vv pv ks vs ps) : w.heap.size + 3 ≤ wr.heap.size := by
  have := h.gx.blt
  omega
theorem Od.below {w wr w2 : World} {lf : Bool} {iv jv hv kv vv pv : Value} {ks vs : List (List UInt8)} {ps : List Int} (h : Od w wr lf iv jv hv kv vv pv ks vs ps) (k : Below wr.heap.size wr w2) : Od w w2 lf iv jv hv kv vv pv ks vs ps :=
  ⟨h.gx.below k, (k.block _ (by have := h.size; omega)).trans h.rb, h.nb.below k, btr h.kp k⟩
theorem nb_keep {F : Nat → Prop} {w w1 : World} {b : Nat} {lf : Bool} {kv vv pv : Value} (h : Nb w b lf kv vv pv) (k : Keep F w w1) (hF : ¬ F b) : Nb w1 b lf kv vv pv := ⟨k.cell h.c0 hF, k.cell h.c1 hF, k.cell h.c2 hF, k.cell h.c3 hF⟩
theorem svs_snoc (ks : List (List UInt8)) (l : List UInt8) : svs (ks ++ [l]) = svs ks ++ [.string (str l)] := by simp [svs]
theorem svs_length (ks : List (List UInt8)) : (svs ks).length = ks.length := by simp [svs]
theorem Od.key {w wr w5 : World} {lf : Bool} {iv jv hv kv vv pv v5 : Value} {ks vs : List (List UInt8)} {ps : List Int} {l : List UInt8} {ob : Obj} (h : Od w wr lf iv jv hv kv vv pv ks vs ps)
    (g5 : (wr.alloc ob).grownBy w5 kv.ownBlock) (o5 : w5.ownsRow 0 9 1 v5 (svs ks ++ [Value.string (str l)]).length (svs ks ++ [Value.string (str l)]))
    (f5 : ∀ k, v5.ownBlock = some k → kv.ownBlock = some k ∨ (wr.alloc ob).heap.size ≤ k) :
    Nb w5 (w.heap.size + 2) lf kv vv pv ∧ (∀ i, w5.frozen? ⟨w.heap.size + 2, i, none⟩ = false) ∧ Od w (w5.setCell ⟨w.heap.size + 2, 1, none⟩ v5) lf iv jv hv v5 vv pv (ks ++ [l]) vs ps := by
  have hsz := h.size
  obtain ⟨a1, a2, a3, a4⟩ := h.gx.app0 hsz g5 o5 f5
  have lo : ∀ i, (i = w.heap.size + 2 ∨ kv.ownBlock = some i) → w.heap.size + 2 ≤ i := fun i q => by
    rcases q with q | q
    · omega
    · have := h.gx.l0 i q; omega
  refine ⟨a1, a2, ⟨by rw [svs_snoc]; exact a3, (a4.block _ (by omega) (fun q => by have := lo _ q; omega)).trans h.rb, nb_keep h.nb a4 (fun q => by have := lo _ q; omega), h.kp.trans (a4.below h.kp.size (fun i q => by have := lo _ q; omega))⟩⟩
theorem Od.far0 {w wr : World} {lf : Bool} {iv jv hv kv vv pv : Value} {ks vs : List (List UInt8)} {ps : List Int} (h : Od w wr lf iv jv hv kv vv pv ks vs ps) :
    ∀ W', Keep (fun i => kv.ownBlock = some i) wr W' → Nb W' w.heap.size lf iv jv hv ∧ Nb W' (w.heap.size + 2) lf kv vv pv ∧ Below w.heap.size w W' := fun W' hW => by
  have lo : ∀ i, kv.ownBlock = some i → w.heap.size + 3 ≤ i := fun i q => h.gx.l0 i q
  exact ⟨nb_keep h.nb hW (fun q => by have := lo _ q; omega), nb_keep h.gx.nb hW (fun q => by have := lo _ q; omega), h.kp.trans (hW.below h.kp.size (fun i q => by have := lo _ q; omega))⟩
theorem Od.val {w wr w5 : World} {lf : Bool} {iv jv hv kv vv pv v5 : Value} {ks vs : List (List UInt8)} {ps : List Int} {l : List UInt8} {ob : Obj} (h : Od w wr lf iv jv hv kv vv pv ks vs ps)
    (g5 : (wr.alloc ob).grownBy w5 vv.ownBlock) (o5 : w5.ownsRow 0 9 1 v5 (svs vs ++ [Value.string (str l)]).length (svs vs ++ [Value.string (str l)]))
    (f5 : ∀ k, v5.ownBlock = some k → vv.ownBlock = some k ∨ (wr.alloc ob).heap.size ≤ k) :
    Nb w5 (w.heap.size + 2) lf kv vv pv ∧ (∀ i, w5.frozen? ⟨w.heap.size + 2, i, none⟩ = false) ∧ Od w (w5.setCell ⟨w.heap.size + 2, 2, none⟩ v5) lf iv jv hv kv v5 pv ks (vs ++ [l]) ps := by
  have hsz := h.size
  obtain ⟨a1, a2, a3, a4⟩ := h.gx.app1 hsz g5 o5 f5
  have lo : ∀ i, (i = w.heap.size + 2 ∨ vv.ownBlock = some i) → w.heap.size + 2 ≤ i := fun i q => by
    rcases q with q | q
    · omega
    · have := h.gx.l1 i q; omega
  refine ⟨a1, a2, ⟨by rw [svs_snoc]; exact a3, (a4.block _ (by omega) (fun q => by have := lo _ q; omega)).trans h.rb, nb_keep h.nb a4 (fun q => by have := lo _ q; omega), h.kp.trans (a4.below h.kp.size (fun i q => by have := lo _ q; omega))⟩⟩
theorem Od.far1 {w wr : World} {lf : Bool} {iv jv hv kv vv pv : Value} {ks vs : List (List UInt8)} {ps : List Int} (h : Od w wr lf iv jv hv kv vv pv ks vs ps) :
    ∀ W', Keep (fun i => vv.ownBlock = some i) wr W' → Nb W' w.heap.size lf iv jv hv ∧ Nb W' (w.heap.size + 2) lf kv vv pv ∧ Below w.heap.size w W' := fun W' hW => by
  have lo : ∀ i, vv.ownBlock = some i → w.heap.size + 3 ≤ i := fun i q => h.gx.l1 i q
  exact ⟨nb_keep h.nb hW (fun q => by have := lo _ q; omega), nb_keep h.gx.nb hW (fun q => by have := lo _ q; omega), h.kp.trans (hW.below h.kp.size (fun i q => by have := lo _ q; omega))⟩
theorem Od.kid {w wr w5 : World} {lf : Bool} {iv jv hv kv vv pv v5 : Value} {ks vs : List (List UInt8)} {ps : List Int} {z : Int} {ob : Obj} (h : Od w wr lf iv jv hv kv vv pv ks vs ps)
    (g5 : (wr.alloc ob).grownBy w5 pv.ownBlock) (o5 : w5.ownsRow 0 63 1 v5 (us ps ++ [Value.int .u32 z]).length (us ps ++ [Value.int .u32 z]))
    (f5 : ∀ k, v5.ownBlock = some k → pv.ownBlock = some k ∨ (wr.alloc ob).heap.size ≤ k) :
    Nb w5 (w.heap.size + 2) lf kv vv pv ∧ (∀ i, w5.frozen? ⟨w.heap.size + 2, i, none⟩ = false) ∧ Od w (w5.setCell ⟨w.heap.size + 2, 3, none⟩ v5) lf iv jv hv kv vv v5 ks vs (ps ++ [z]) := by
  have hsz := h.size
  obtain ⟨a1, a2, a3, a4⟩ := h.gx.app2 hsz g5 o5 f5
  have lo : ∀ i, (i = w.heap.size + 2 ∨ pv.ownBlock = some i) → w.heap.size + 2 ≤ i := fun i q => by
    rcases q with q | q
    · omega
    · have := h.gx.l2 i q; omega
  refine ⟨a1, a2, ⟨by rw [show us (ps ++ [z]) = us ps ++ [Value.int .u32 z] by simp [us]]; exact a3, (a4.block _ (by omega) (fun q => by have := lo _ q; omega)).trans h.rb, nb_keep h.nb a4 (fun q => by have := lo _ q; omega), h.kp.trans (a4.below h.kp.size (fun i q => by have := lo _ q; omega))⟩⟩
theorem Od.far2 {w wr : World} {lf : Bool} {iv jv hv kv vv pv : Value} {ks vs : List (List UInt8)} {ps : List Int} (h : Od w wr lf iv jv hv kv vv pv ks vs ps) :
    ∀ W', Keep (fun i => pv.ownBlock = some i) wr W' → Nb W' w.heap.size lf iv jv hv ∧ Nb W' (w.heap.size + 2) lf kv vv pv ∧ Below w.heap.size w W' := fun W' hW => by
  have lo : ∀ i, pv.ownBlock = some i → w.heap.size + 3 ≤ i := fun i q => h.gx.l2 i q
  exact ⟨nb_keep h.nb hW (fun q => by have := lo _ q; omega), nb_keep h.gx.nb hW (fun q => by have := lo _ q; omega), h.kp.trans (hW.below h.kp.size (fun i q => by have := lo _ q; omega))⟩
theorem Od.fin {w wr : World} {lf : Bool} {iv jv hv kv vv pv : Value} {ks vs : List (List UInt8)} {ps : List Int} (h : Od w wr lf iv jv hv kv vv pv ks vs ps) (x0 x1 x2 x3 : Value) :
    RV ((((wr.setCell ⟨w.heap.size + 1, 0, none⟩ x0).setCell ⟨w.heap.size + 1, 1, none⟩ x1).setCell ⟨w.heap.size + 1, 2, none⟩ x2).setCell ⟨w.heap.size + 1, 3, none⟩ x3) kv vv pv ⟨lf, ks, vs, ps⟩ ∧
    Below w.heap.size w ((((wr.setCell ⟨w.heap.size + 1, 0, none⟩ x0).setCell ⟨w.heap.size + 1, 1, none⟩ x1).setCell ⟨w.heap.size + 1, 2, none⟩ x2).setCell ⟨w.heap.size + 1, 3, none⟩ x3) := by
  have k : Keep (fun k => k = w.heap.size + 1) wr ((((wr.setCell ⟨w.heap.size + 1, 0, none⟩ x0).setCell ⟨w.heap.size + 1, 1, none⟩ x1).setCell ⟨w.heap.size + 1, 2, none⟩ x2).setCell ⟨w.heap.size + 1, 3, none⟩ x3) :=
    (((((Keep.refl (fun k => k = w.heap.size + 1) wr).setCell (p := ⟨w.heap.size + 1, 0, none⟩) (.inl rfl) x0).setCell (p := ⟨w.heap.size + 1, 1, none⟩) (.inl rfl) x1).setCell (p := ⟨w.heap.size + 1, 2, none⟩) (.inl rfl) x2).setCell (p := ⟨w.heap.size + 1, 3, none⟩) (.inl rfl) x3)
  generalize (((wr.setCell ⟨w.heap.size + 1, 0, none⟩ x0).setCell ⟨w.heap.size + 1, 1, none⟩ x1).setCell ⟨w.heap.size + 1, 2, none⟩ x2).setCell ⟨w.heap.size + 1, 3, none⟩ x3 = wf at *
  have lo : ∀ (v : Value), (∀ k, v.ownBlock = some k → w.heap.size + 3 ≤ k) → ∀ i, v.ownBlock = some i → ¬ i = w.heap.size + 1 := fun v hv i hi e => by
    have := hv i hi
    omega
  exact ⟨⟨Sts.own (base := 0) (by have := own_keep h.gx.o0 k (lo _ h.gx.l0); rw [svs_length] at this; exact this), Sts.own (base := 0) (by have := own_keep h.gx.o1 k (lo _ h.gx.l1); rw [svs_length] at this; exact this), Nums.own (base := 0) (by have := own_keep h.gx.o2 k (lo _ h.gx.l2); rw [us_length] at this; exact this)⟩, h.kp.trans (k.below h.kp.size (fun i e => by have e : i = w.heap.size + 1 := e; omega))⟩
theorem take_snoc {α : Type} (ls : List α) (d : α) (i : Nat) (h : i < ls.length) : ls.take (i + 1) = ls.take i ++ [ls.getD i d] := by
  rw [List.take_succ_eq_append_getElem h]
  simp [List.getD, h]
set_option maxHeartbeats 3200000 in
theorem refof_core (w : World) (lf : Bool) (A1 A2 A3 : Option Addr) (n1 d1 n2 d2 n3 d3 : Nat) (ks vs : List (List UInt8)) (ps : List Int) (b1 : n1 ≤ 1000) (b2 : n2 ≤ 1000) (b3 : n3 ≤ 1000) (L1 : Hid (ks.length = n1)) (L2 : Hid (vs.length = n2)) (L3 : Hid (ps.length = n3)) (RP : Hid (Rg ps))
    (H1 : Hid (0 < n1 → ∃ b off, A1 = some ⟨b, off, none⟩ ∧ ∀ j, j < n1 → ∃ u, w.cell? ⟨b, off + j, none⟩ = some u ∧ Byts w u (ks.getD j [])))
    (H2 : Hid (0 < n2 → ∃ b off, A2 = some ⟨b, off, none⟩ ∧ ∀ j, j < n2 → ∃ u, w.cell? ⟨b, off + j, none⟩ = some u ∧ Byts w u (vs.getD j [])))
    (H3 : Hid (0 < n3 → ∃ b off, A3 = some ⟨b, off, none⟩ ∧ ∀ j, j < n3 → w.cell? ⟨b, off + j, none⟩ = some (.int .u32 ps[j]!))) :
    Calls Try.prog 12 #[.agg #[.bool lf, .slice A1 n1 d1, .slice A2 n2 d2, .slice A3 n3 d3]] w fun e w' => ∃ kv vv pv, e = .returned (nodv lf kv vv pv) ∧ RV w' kv vv pv ⟨lf, ks, vs, ps⟩ ∧ Below w.heap.size w w' := by
  obtain ⟨i0, hi0, hz0, hz1, hz2⟩ := info_parts Try.info9
  obtain ⟨j0, hj0, hy0, hy1, hy2⟩ := info_parts Try.info63
  have HS0 : Hid (Od w (((w.alloc (.cells #[.bool lf, .slice A1 n1 d1, .slice A2 n2 d2, .slice A3 n3 d3] 28)).alloc (.cells #[.bool false, .slice none 0 0, .slice none 0 0, .slice none 0 0] 38)).alloc (.cells #[.bool lf, .slice none 0 0, .slice none 0 0, .slice none 0 0] 38)) lf (.slice A1 n1 d1) (.slice A2 n2 d2) (.slice A3 n3 d3) (.slice none 0 0) (.slice none 0 0) (.slice none 0 0) [] [] []) := by
    have h1 := alb (w := w) (.cells #[.bool lf, .slice A1 n1 d1, .slice A2 n2 d2, .slice A3 n3 d3] 28)
    have n1' := Nb.made w lf (.slice A1 n1 d1) (.slice A2 n2 d2) (.slice A3 n3 d3)
    have e1 : (w.alloc (.cells #[.bool lf, .slice A1 n1 d1, .slice A2 n2 d2, .slice A3 n3 d3] 28)).heap.size = w.heap.size + 1 := World.size_alloc _ _
    generalize w.alloc (.cells #[.bool lf, .slice A1 n1 d1, .slice A2 n2 d2, .slice A3 n3 d3] 28) = w1 at *
    have h2 := alb (w := w1) (.cells #[.bool false, .slice none 0 0, .slice none 0 0, .slice none 0 0] 38)
    have r2 : (w1.alloc (.cells #[.bool false, .slice none 0 0, .slice none 0 0, .slice none 0 0] 38)).heap[w.heap.size + 1]? = some (.cells #[.bool false, .slice none 0 0, .slice none 0 0, .slice none 0 0] 38 (0, 0)) := by
      rw [← e1]
      show (w1.heap.push _)[w1.heap.size]? = _
      simp
    have e2 : (w1.alloc (.cells #[.bool false, .slice none 0 0, .slice none 0 0, .slice none 0 0] 38)).heap.size = w.heap.size + 2 := by rw [World.size_alloc, e1]
    generalize w1.alloc (.cells #[.bool false, .slice none 0 0, .slice none 0 0, .slice none 0 0] 38) = w2 at *
    have h3 := alb (w := w2) (.cells #[.bool lf, .slice none 0 0, .slice none 0 0, .slice none 0 0] 38)
    have g := Gx.made w2 38 9 lf (w.heap.size + 3) (by rw [e2])
    rw [e2] at g
    exact ⟨g, (h3.block _ (by rw [e2]; omega)).trans r2, (n1'.below h2).below h3, btr (btr h1 h2) h3⟩
  go_enter Try.func12, Try.ntmps12
  go_wp2_with fail
  generalize ((w.alloc (.cells #[.bool lf, .slice A1 n1 d1, .slice A2 n2 d2, .slice A3 n3 d3] 28)).alloc (.cells #[.bool false, .slice none 0 0, .slice none 0 0, .slice none 0 0] 38)).alloc (.cells #[.bool lf, .slice none 0 0, .slice none 0 0, .slice none 0 0] 38) = w1 at *
  go_loopg [4] n1 (fun g s wr => ∃ (i : Nat) (kv vv pv : Value), s = .int .i64 (i : Int) ∧ i ≤ n1 ∧ n1 - i ≤ g ∧ Hid (Od w wr lf (.slice A1 n1 d1) (.slice A2 n2 d2) (.slice A3 n3 d3) kv vv pv (ks.take i) [] []))
  case atStart => exact ⟨0, _, _, _, rfl, by omega, by omega, HS0⟩
  case round =>
    obtain ⟨i, kv, vv, pv, rfl, h1, h2, HS⟩ := hrel
    clear HS0
    obtain ⟨p0, p1, p2, p3⟩ := HS.out.nb
    by_cases hi : i < n1
    · have hz : (i : Int) < (n1 : Int) := by omega
      obtain ⟨b, off, rfl, hcell⟩ := H1.out (by omega)
      obtain ⟨u0, c0, hu⟩ := hcell i hi
      obtain ⟨A9, d9, rfl, h9⟩ := hu
      have HU : Hid (Byts w (.slice A9 (ks.getD i []).length d9) (ks.getD i [])) := ⟨A9, d9, rfl, h9⟩
      clear hcell h9
      obtain ⟨sx, hsx⟩ : ∃ sx, sx = str (ks.getD i []) := ⟨_, rfl⟩
      have HSX := Lib.hid hsx
      clear hsx
      generalize (ks.getD i []).length = n9 at *
      go_wp2_with fail
      clear p0 p1 p2 p3
      have HFAR := Lib.hid HS.out.far0
      have hS : Hid (Keep (fun i => kv.ownBlock = some i) wr wr.drew) := (Keep.refl _ _).drew
      refine lz_start 12 11 (fun W' => Keep (fun i => kv.ownBlock = some i) wr W') rfl (by kernel_rfl) ?_
      refine lz_take 0 17 (v := ?_) rfl rfl (by kernel_rfl) (by kernel_rfl) (by kernel_rfl) (by kernel_rfl) (fun _ _ _ _ _ h => h) (by rfl) hS.out (fun W hW => ?_) ?_
      rotate_left
      · obtain ⟨⟨i0, i1, i2, i3⟩, ⟨o0, o1, o2, o3⟩, hbw⟩ := HFAR.out _ hW; have cc := kept c0 hbw; go_simp; try rfl
      try simp only [Act.put, List.setIfInBounds_toArray, List.set_cons_zero, List.set_cons_succ]
      refine lz_take 1 18 (v := ?_) rfl rfl (by kernel_rfl) (by kernel_rfl) (by kernel_rfl) (by kernel_rfl) (fun _ _ _ _ _ h => h) (by rfl) hS.out (fun W hW => ?_) ?_
      rotate_left
      · obtain ⟨⟨i0, i1, i2, i3⟩, ⟨o0, o1, o2, o3⟩, hbw⟩ := HFAR.out _ hW; have cc := kept c0 hbw; go_simp; try rfl
      try simp only [Act.put, List.setIfInBounds_toArray, List.set_cons_zero, List.set_cons_succ]
      refine lz_take 2 19 (v := ?_) rfl rfl (by kernel_rfl) (by kernel_rfl) (by kernel_rfl) (by kernel_rfl) (fun _ _ _ _ _ h => h) (by rfl) hS.out (fun W hW => ?_) ?_
      rotate_left
      · obtain ⟨⟨i0, i1, i2, i3⟩, ⟨o0, o1, o2, o3⟩, hbw⟩ := HFAR.out _ hW; have cc := kept c0 hbw; go_simp; try rfl
      try simp only [Act.put, List.setIfInBounds_toArray, List.set_cons_zero, List.set_cons_succ]
      refine lz_take 3 20 (v := ?_) rfl rfl (by kernel_rfl) (by kernel_rfl) (by kernel_rfl) (by kernel_rfl) (fun _ _ _ _ _ h => h) (by rfl) hS.out (fun W hW => ?_) ?_
      rotate_left
      · obtain ⟨⟨i0, i1, i2, i3⟩, ⟨o0, o1, o2, o3⟩, hbw⟩ := HFAR.out _ hW; have cc := kept c0 hbw; go_simp; try rfl
      try simp only [Act.put, List.setIfInBounds_toArray, List.set_cons_zero, List.set_cons_succ]
      refine lz_take 4 21 (v := ?_) rfl rfl (by kernel_rfl) (by kernel_rfl) (by kernel_rfl) (by kernel_rfl) (fun _ _ _ _ _ h => h) (by rfl) hS.out (fun W hW => ?_) ?_
      rotate_left
      · obtain ⟨⟨i0, i1, i2, i3⟩, ⟨o0, o1, o2, o3⟩, hbw⟩ := HFAR.out _ hW; have cc := kept c0 hbw; go_simp; try rfl
      try simp only [Act.put, List.setIfInBounds_toArray, List.set_cons_zero, List.set_cons_succ]
      refine lz_take 5 22 (v := ?_) rfl rfl (by kernel_rfl) (by kernel_rfl) (by kernel_rfl) (by kernel_rfl) (fun _ _ _ _ _ h => h) (by rfl) hS.out (fun W hW => ?_) ?_
      rotate_left
      · obtain ⟨⟨i0, i1, i2, i3⟩, ⟨o0, o1, o2, o3⟩, hbw⟩ := HFAR.out _ hW; have cc := kept c0 hbw; go_simp; try rfl
      try simp only [Act.put, List.setIfInBounds_toArray, List.set_cons_zero, List.set_cons_succ]
      refine lz_take 6 23 (v := ?_) rfl rfl (by kernel_rfl) (by kernel_rfl) (by kernel_rfl) (by kernel_rfl) (fun _ _ _ _ _ h => h) (by rfl) hS.out (fun W hW => ?_) ?_
      rotate_left
      · obtain ⟨⟨i0, i1, i2, i3⟩, ⟨o0, o1, o2, o3⟩, hbw⟩ := HFAR.out _ hW; have cc := kept c0 hbw; go_simp; try rfl
      try simp only [Act.put, List.setIfInBounds_toArray, List.set_cons_zero, List.set_cons_succ]
      refine lz_take 7 24 (v := ?_) rfl rfl (by kernel_rfl) (by kernel_rfl) (by kernel_rfl) (by kernel_rfl) (fun _ _ _ _ _ h => h) (by rfl) hS.out (fun W hW => ?_) ?_
      rotate_left
      · obtain ⟨⟨i0, i1, i2, i3⟩, ⟨o0, o1, o2, o3⟩, hbw⟩ := HFAR.out _ hW; have cc := kept c0 hbw; have hcv := (HU.out.below hbw).conv; rw [← HSX.out] at hcv; go_simp; try rfl
      try simp only [Act.put, List.setIfInBounds_toArray, List.set_cons_zero, List.set_cons_succ]
      have HS1 := Lib.hid (HS.out.below (Below.refl _ wr).drew)
      have hsz := HS1.out.size
      have k2 := hS
      clear hS
      generalize wr.drew = u at *
      refine lz_op 8 rfl rfl (by kernel_rfl) (fun K hK => ?_)
      go_simp
      refine hK.out _ _ (k2.out.alloc _) ?_
      clear hK K
      try simp only [Act.put, List.setIfInBounds_toArray, List.set_cons_zero, List.set_cons_succ]
      refine lz_op 9 rfl rfl (by kernel_rfl) (fun K hK => ?_)
      refine wp_append_own2 _ _ 36 rfl 9 i0 _ 1 16 Try.underlying36 hi0 hz0 hz1 hz2 rfl (by decide) kv (svs (ks.take i)).length (svs (ks.take i)) rfl (HS1.out.gx.o0.alloc _) ⟨u.heap.size, 0, none⟩ 1 1 [.string sx] rfl rfl ?c2 ?c3 ?c4 ?c5 ?_
      case c2 =>
        intro j y hj
        have hjz : j = 0 := by
          have := (List.getElem?_eq_some_iff.1 hj).1
          simp at this
          omega
        subst hjz
        simp at hj
        rw [← hj]
        exact (Boxed.new _ _ _).cell
      case c3 =>
        intro y hy
        rw [List.mem_singleton.1 hy]
        rfl
      case c4 => rw [svs_length, List.length_take, L1.out]; unfold maxLen; omega
      case c5 => rw [svs_length, List.length_take, L1.out]; omega
      intro v5 w5 ho5 hg5 hf5
      obtain ⟨g5, cap5, rfl⟩ := ownsRow_succ ho5
      have k5 : Hid (Keep (fun i => kv.ownBlock = some i) wr w5) := (k2.out.alloc _).grown hg5 (fun k hk => .inl hk)
      rw [HSX.out] at ho5
      obtain ⟨nb5, fz5, hs5⟩ := HS1.out.key hg5 (by rw [List.length_append]; exact ho5) hf5
      have f5 := fz5 1
      obtain ⟨q0, q1, q2, q3⟩ := nb5
      have HS5 := Lib.hid hs5
      refine hK.out _ _ k5.out ?_
      have hS := k5
      clear hK K ho5 hg5 hf5 fz5 hs5 k2 k5
      show Lz _ _ _ _ _ _ _ (Act.put _ (some 26) _) _
      try simp only [Act.put, List.setIfInBounds_toArray, List.set_cons_zero, List.set_cons_succ]
      refine lz_take 10 27 (v := ?_) rfl rfl (by kernel_rfl) (by kernel_rfl) (by kernel_rfl) (by kernel_rfl) (fun _ _ _ _ _ h => h) (by rfl) hS.out (fun W hW => ?_) ?_
      rotate_left
      · go_simp; try rfl
      try simp only [Act.put, List.setIfInBounds_toArray, List.set_cons_zero, List.set_cons_succ]
      refine lz_end rfl rfl (by kernel_rfl) (by kernel_rfl) (fun K hK => ?_)
      go_simp
      refine hK.out _ _ ?_
      clear hK K hS q0 q1 q2 q3 f5 HS1 HS HFAR
      generalize w5.setCell ⟨w.heap.size + 2, 1, none⟩ (.slice (some ⟨g5, 0, none⟩) ((svs (ks.take i)).length + 1) cap5) = w6 at *
      generalize Value.slice (some ⟨g5, 0, none⟩) ((svs (ks.take i)).length + 1) cap5 = kv5 at *
      have HSK : Hid (Od w w6 lf (.slice (some ⟨b, off, none⟩) n1 d1) (.slice A2 n2 d2) (.slice A3 n3 d3) kv5 vv pv (ks.take (i + 1)) [] []) := by
        rw [take_snoc ks [] i (by rw [L1.out]; exact hi)]
        exact HS5
      clear HS5
      go_wp2
      go_roundg (n1 - (i + 1))
      case measure => omega
      case rel => exact ⟨i + 1, _, _, _, by go_num, by omega, by omega, HSK⟩
    · have hz : ¬ (i : Int) < (n1 : Int) := by omega
      obtain rfl : i = n1 := by omega
      go_wp2_with fail
      clear hz hi h1 h2 p0 p1 p2 p3
      have HS0 : Hid (Od w wr lf (.slice A1 i d1) (.slice A2 n2 d2) (.slice A3 n3 d3) kv vv pv ks [] []) := by
        have := HS.out
        rw [← L1.out, List.take_length, L1.out] at this
        exact this
      clear HS
      go_loopg [5] n2 (fun g s wr => ∃ (m : Nat) (kv vv pv : Value), s = .int .i64 (m : Int) ∧ m ≤ n2 ∧ n2 - m ≤ g ∧ Hid (Od w wr lf (.slice A1 i d1) (.slice A2 n2 d2) (.slice A3 n3 d3) kv vv pv ks (vs.take m) []))
      case atStart => exact ⟨0, _, _, _, rfl, by omega, by omega, HS0⟩
      case round =>
        clear HS0 kv vv pv
        obtain ⟨m, kv, vv, pv, rfl, h1, h2, HS⟩ := hrel
        obtain ⟨p0, p1, p2, p3⟩ := HS.out.nb
        by_cases hm : m < n2
        · have hz : (m : Int) < (n2 : Int) := by omega
          obtain ⟨b, off, rfl, hcell⟩ := H2.out (by omega)
          obtain ⟨u0, c0, hu⟩ := hcell m hm
          obtain ⟨A9, d9, rfl, h9⟩ := hu
          have HU : Hid (Byts w (.slice A9 (vs.getD m []).length d9) (vs.getD m [])) := ⟨A9, d9, rfl, h9⟩
          clear hcell h9
          obtain ⟨sx, hsx⟩ : ∃ sx, sx = str (vs.getD m []) := ⟨_, rfl⟩
          have HSX := Lib.hid hsx
          clear hsx
          generalize (vs.getD m []).length = n9 at *
          go_wp2_with fail
          clear p0 p1 p2 p3
          have HFAR := Lib.hid HS.out.far1
          have hS : Hid (Keep (fun i => vv.ownBlock = some i) wr wr.drew) := (Keep.refl _ _).drew
          refine lz_start 12 11 (fun W' => Keep (fun i => vv.ownBlock = some i) wr W') rfl (by kernel_rfl) ?_
          refine lz_take 0 35 (v := ?_) rfl rfl (by kernel_rfl) (by kernel_rfl) (by kernel_rfl) (by kernel_rfl) (fun _ _ _ _ _ h => h) (by rfl) hS.out (fun W hW => ?_) ?_
          rotate_left
          · obtain ⟨⟨i0, i1, i2, i3⟩, ⟨o0, o1, o2, o3⟩, hbw⟩ := HFAR.out _ hW; have cc := kept c0 hbw; go_simp; try rfl
          try simp only [Act.put, List.setIfInBounds_toArray, List.set_cons_zero, List.set_cons_succ]
          refine lz_take 1 36 (v := ?_) rfl rfl (by kernel_rfl) (by kernel_rfl) (by kernel_rfl) (by kernel_rfl) (fun _ _ _ _ _ h => h) (by rfl) hS.out (fun W hW => ?_) ?_
          rotate_left
          · obtain ⟨⟨i0, i1, i2, i3⟩, ⟨o0, o1, o2, o3⟩, hbw⟩ := HFAR.out _ hW; have cc := kept c0 hbw; go_simp; try rfl
          try simp only [Act.put, List.setIfInBounds_toArray, List.set_cons_zero, List.set_cons_succ]
          refine lz_take 2 37 (v := ?_) rfl rfl (by kernel_rfl) (by kernel_rfl) (by kernel_rfl) (by kernel_rfl) (fun _ _ _ _ _ h => h) (by rfl) hS.out (fun W hW => ?_) ?_
          rotate_left
          · obtain ⟨⟨i0, i1, i2, i3⟩, ⟨o0, o1, o2, o3⟩, hbw⟩ := HFAR.out _ hW; have cc := kept c0 hbw; go_simp; try rfl
          try simp only [Act.put, List.setIfInBounds_toArray, List.set_cons_zero, List.set_cons_succ]
          refine lz_take 3 38 (v := ?_) rfl rfl (by kernel_rfl) (by kernel_rfl) (by kernel_rfl) (by kernel_rfl) (fun _ _ _ _ _ h => h) (by rfl) hS.out (fun W hW => ?_) ?_
          rotate_left
          · obtain ⟨⟨i0, i1, i2, i3⟩, ⟨o0, o1, o2, o3⟩, hbw⟩ := HFAR.out _ hW; have cc := kept c0 hbw; go_simp; try rfl
          try simp only [Act.put, List.setIfInBounds_toArray, List.set_cons_zero, List.set_cons_succ]
          refine lz_take 4 39 (v := ?_) rfl rfl (by kernel_rfl) (by kernel_rfl) (by kernel_rfl) (by kernel_rfl) (fun _ _ _ _ _ h => h) (by rfl) hS.out (fun W hW => ?_) ?_
          rotate_left
          · obtain ⟨⟨i0, i1, i2, i3⟩, ⟨o0, o1, o2, o3⟩, hbw⟩ := HFAR.out _ hW; have cc := kept c0 hbw; go_simp; try rfl
          try simp only [Act.put, List.setIfInBounds_toArray, List.set_cons_zero, List.set_cons_succ]
          refine lz_take 5 40 (v := ?_) rfl rfl (by kernel_rfl) (by kernel_rfl) (by kernel_rfl) (by kernel_rfl) (fun _ _ _ _ _ h => h) (by rfl) hS.out (fun W hW => ?_) ?_
          rotate_left
          · obtain ⟨⟨i0, i1, i2, i3⟩, ⟨o0, o1, o2, o3⟩, hbw⟩ := HFAR.out _ hW; have cc := kept c0 hbw; go_simp; try rfl
          try simp only [Act.put, List.setIfInBounds_toArray, List.set_cons_zero, List.set_cons_succ]
          refine lz_take 6 41 (v := ?_) rfl rfl (by kernel_rfl) (by kernel_rfl) (by kernel_rfl) (by kernel_rfl) (fun _ _ _ _ _ h => h) (by rfl) hS.out (fun W hW => ?_) ?_
          rotate_left
          · obtain ⟨⟨i0, i1, i2, i3⟩, ⟨o0, o1, o2, o3⟩, hbw⟩ := HFAR.out _ hW; have cc := kept c0 hbw; go_simp; try rfl
          try simp only [Act.put, List.setIfInBounds_toArray, List.set_cons_zero, List.set_cons_succ]
          refine lz_take 7 42 (v := ?_) rfl rfl (by kernel_rfl) (by kernel_rfl) (by kernel_rfl) (by kernel_rfl) (fun _ _ _ _ _ h => h) (by rfl) hS.out (fun W hW => ?_) ?_
          rotate_left
          · obtain ⟨⟨i0, i1, i2, i3⟩, ⟨o0, o1, o2, o3⟩, hbw⟩ := HFAR.out _ hW; have cc := kept c0 hbw; have hcv := (HU.out.below hbw).conv; rw [← HSX.out] at hcv; go_simp; try rfl
          try simp only [Act.put, List.setIfInBounds_toArray, List.set_cons_zero, List.set_cons_succ]
          have HS1 := Lib.hid (HS.out.below (Below.refl _ wr).drew)
          have hsz := HS1.out.size
          have k2 := hS
          clear hS
          generalize wr.drew = u at *
          refine lz_op 8 rfl rfl (by kernel_rfl) (fun K hK => ?_)
          go_simp
          refine hK.out _ _ (k2.out.alloc _) ?_
          clear hK K
          try simp only [Act.put, List.setIfInBounds_toArray, List.set_cons_zero, List.set_cons_succ]
          refine lz_op 9 rfl rfl (by kernel_rfl) (fun K hK => ?_)
          refine wp_append_own2 _ _ 36 rfl 9 i0 _ 1 16 Try.underlying36 hi0 hz0 hz1 hz2 rfl (by decide) vv (svs (vs.take m)).length (svs (vs.take m)) rfl (HS1.out.gx.o1.alloc _) ⟨u.heap.size, 0, none⟩ 1 1 [.string sx] rfl rfl ?c2 ?c3 ?c4 ?c5 ?_
          case c2 =>
            intro j y hj
            have hjz : j = 0 := by
              have := (List.getElem?_eq_some_iff.1 hj).1
              simp at this
              omega
            subst hjz
            simp at hj
            rw [← hj]
            exact (Boxed.new _ _ _).cell
          case c3 =>
            intro y hy
            rw [List.mem_singleton.1 hy]
            rfl
          case c4 => rw [svs_length, List.length_take, L2.out]; unfold maxLen; omega
          case c5 => rw [svs_length, List.length_take, L2.out]; omega
          intro v5 w5 ho5 hg5 hf5
          obtain ⟨g5, cap5, rfl⟩ := ownsRow_succ ho5
          have k5 : Hid (Keep (fun i => vv.ownBlock = some i) wr w5) := (k2.out.alloc _).grown hg5 (fun k hk => .inl hk)
          rw [HSX.out] at ho5
          obtain ⟨nb5, fz5, hs5⟩ := HS1.out.val hg5 (by rw [List.length_append]; exact ho5) hf5
          have f5 := fz5 2
          obtain ⟨q0, q1, q2, q3⟩ := nb5
          have HS5 := Lib.hid hs5
          refine hK.out _ _ k5.out ?_
          have hS := k5
          clear hK K ho5 hg5 hf5 fz5 hs5 k2 k5
          show Lz _ _ _ _ _ _ _ (Act.put _ (some 44) _) _
          try simp only [Act.put, List.setIfInBounds_toArray, List.set_cons_zero, List.set_cons_succ]
          refine lz_take 10 45 (v := ?_) rfl rfl (by kernel_rfl) (by kernel_rfl) (by kernel_rfl) (by kernel_rfl) (fun _ _ _ _ _ h => h) (by rfl) hS.out (fun W hW => ?_) ?_
          rotate_left
          · go_simp; try rfl
          try simp only [Act.put, List.setIfInBounds_toArray, List.set_cons_zero, List.set_cons_succ]
          refine lz_end rfl rfl (by kernel_rfl) (by kernel_rfl) (fun K hK => ?_)
          go_simp
          refine hK.out _ _ ?_
          clear hK K hS q0 q1 q2 q3 f5 HS1 HS HFAR
          generalize w5.setCell ⟨w.heap.size + 2, 2, none⟩ (.slice (some ⟨g5, 0, none⟩) ((svs (vs.take m)).length + 1) cap5) = w6 at *
          generalize Value.slice (some ⟨g5, 0, none⟩) ((svs (vs.take m)).length + 1) cap5 = vv5 at *
          have HSK : Hid (Od w w6 lf (.slice A1 i d1) (.slice (some ⟨b, off, none⟩) n2 d2) (.slice A3 n3 d3) kv vv5 pv ks (vs.take (m + 1)) []) := by
            rw [take_snoc vs [] m (by rw [L2.out]; exact hm)]
            exact HS5
          clear HS5
          go_wp2
          go_roundg (n2 - (m + 1))
          case measure => omega
          case rel => exact ⟨m + 1, _, _, _, by go_num, by omega, by omega, HSK⟩
        · have hz : ¬ (m : Int) < (n2 : Int) := by omega
          obtain rfl : m = n2 := by omega
          go_wp2_with fail
          clear hz hm h1 h2 p0 p1 p2 p3
          have HS0 : Hid (Od w wr lf (.slice A1 i d1) (.slice A2 m d2) (.slice A3 n3 d3) kv vv pv ks vs []) := by
            have := HS.out
            rw [← L2.out, List.take_length, L2.out] at this
            exact this
          clear HS
          go_loopg [6] n3 (fun g s wr => ∃ (t : Nat) (kv vv pv : Value), s = .int .i64 (t : Int) ∧ t ≤ n3 ∧ n3 - t ≤ g ∧ Hid (Od w wr lf (.slice A1 i d1) (.slice A2 m d2) (.slice A3 n3 d3) kv vv pv ks vs (ps.take t)))
          case atStart => exact ⟨0, _, _, _, rfl, by omega, by omega, HS0⟩
          case round =>
            clear HS0 kv vv pv
            obtain ⟨t, kv, vv, pv, rfl, h1, h2, HS⟩ := hrel
            obtain ⟨p0, p1, p2, p3⟩ := HS.out.nb
            by_cases ht : t < n3
            · have hz : (t : Int) < (n3 : Int) := by omega
              obtain ⟨b, off, rfl, hcell⟩ := H3.out (by omega)
              have c0 := hcell t ht
              obtain ⟨x, hx, ex⟩ := RP.out.at t (by rw [L3.out]; exact ht)
              rw [ex] at c0
              have HX := Lib.hid ex
              clear hcell ex
              go_wp2_with fail
              clear p0 p1 p2 p3
              have HFAR := Lib.hid HS.out.far2
              have hS : Hid (Keep (fun i => pv.ownBlock = some i) wr wr.drew) := (Keep.refl _ _).drew
              refine lz_start 11 10 (fun W' => Keep (fun i => pv.ownBlock = some i) wr W') rfl (by kernel_rfl) ?_
              refine lz_take 0 53 (v := ?_) rfl rfl (by kernel_rfl) (by kernel_rfl) (by kernel_rfl) (by kernel_rfl) (fun _ _ _ _ _ h => h) (by rfl) hS.out (fun W hW => ?_) ?_
              rotate_left
              · obtain ⟨⟨i0, i1, i2, i3⟩, ⟨o0, o1, o2, o3⟩, hbw⟩ := HFAR.out _ hW; have cc := kept c0 hbw; go_simp; try rfl
              try simp only [Act.put, List.setIfInBounds_toArray, List.set_cons_zero, List.set_cons_succ]
              refine lz_take 1 54 (v := ?_) rfl rfl (by kernel_rfl) (by kernel_rfl) (by kernel_rfl) (by kernel_rfl) (fun _ _ _ _ _ h => h) (by rfl) hS.out (fun W hW => ?_) ?_
              rotate_left
              · obtain ⟨⟨i0, i1, i2, i3⟩, ⟨o0, o1, o2, o3⟩, hbw⟩ := HFAR.out _ hW; have cc := kept c0 hbw; go_simp; try rfl
              try simp only [Act.put, List.setIfInBounds_toArray, List.set_cons_zero, List.set_cons_succ]
              refine lz_take 2 55 (v := ?_) rfl rfl (by kernel_rfl) (by kernel_rfl) (by kernel_rfl) (by kernel_rfl) (fun _ _ _ _ _ h => h) (by rfl) hS.out (fun W hW => ?_) ?_
              rotate_left
              · obtain ⟨⟨i0, i1, i2, i3⟩, ⟨o0, o1, o2, o3⟩, hbw⟩ := HFAR.out _ hW; have cc := kept c0 hbw; go_simp; try rfl
              try simp only [Act.put, List.setIfInBounds_toArray, List.set_cons_zero, List.set_cons_succ]
              refine lz_take 3 56 (v := ?_) rfl rfl (by kernel_rfl) (by kernel_rfl) (by kernel_rfl) (by kernel_rfl) (fun _ _ _ _ _ h => h) (by rfl) hS.out (fun W hW => ?_) ?_
              rotate_left
              · obtain ⟨⟨i0, i1, i2, i3⟩, ⟨o0, o1, o2, o3⟩, hbw⟩ := HFAR.out _ hW; have cc := kept c0 hbw; go_simp; try rfl
              try simp only [Act.put, List.setIfInBounds_toArray, List.set_cons_zero, List.set_cons_succ]
              refine lz_take 4 57 (v := ?_) rfl rfl (by kernel_rfl) (by kernel_rfl) (by kernel_rfl) (by kernel_rfl) (fun _ _ _ _ _ h => h) (by rfl) hS.out (fun W hW => ?_) ?_
              rotate_left
              · obtain ⟨⟨i0, i1, i2, i3⟩, ⟨o0, o1, o2, o3⟩, hbw⟩ := HFAR.out _ hW; have cc := kept c0 hbw; go_simp; try rfl
              try simp only [Act.put, List.setIfInBounds_toArray, List.set_cons_zero, List.set_cons_succ]
              refine lz_take 5 58 (v := ?_) rfl rfl (by kernel_rfl) (by kernel_rfl) (by kernel_rfl) (by kernel_rfl) (fun _ _ _ _ _ h => h) (by rfl) hS.out (fun W hW => ?_) ?_
              rotate_left
              · obtain ⟨⟨i0, i1, i2, i3⟩, ⟨o0, o1, o2, o3⟩, hbw⟩ := HFAR.out _ hW; have cc := kept c0 hbw; go_simp; try rfl
              try simp only [Act.put, List.setIfInBounds_toArray, List.set_cons_zero, List.set_cons_succ]
              refine lz_take 6 59 (v := ?_) rfl rfl (by kernel_rfl) (by kernel_rfl) (by kernel_rfl) (by kernel_rfl) (fun _ _ _ _ _ h => h) (by rfl) hS.out (fun W hW => ?_) ?_
              rotate_left
              · obtain ⟨⟨i0, i1, i2, i3⟩, ⟨o0, o1, o2, o3⟩, hbw⟩ := HFAR.out _ hW; have cc := kept c0 hbw; go_simp; try rfl
              try simp only [Act.put, List.setIfInBounds_toArray, List.set_cons_zero, List.set_cons_succ]
              have HS1 := Lib.hid (HS.out.below (Below.refl _ wr).drew)
              have hsz := HS1.out.size
              have k2 := hS
              clear hS
              generalize wr.drew = u at *
              refine lz_op 7 rfl rfl (by kernel_rfl) (fun K hK => ?_)
              go_simp
              refine hK.out _ _ (k2.out.alloc _) ?_
              clear hK K
              try simp only [Act.put, List.setIfInBounds_toArray, List.set_cons_zero, List.set_cons_succ]
              refine lz_op 8 rfl rfl (by kernel_rfl) (fun K hK => ?_)
              refine wp_append_own2 _ _ 26 rfl 63 j0 _ 1 4 Try.underlying26 hj0 hy0 hy1 hy2 rfl (by decide) pv (us (ps.take t)).length (us (ps.take t)) rfl (HS1.out.gx.o2.alloc _) ⟨u.heap.size, 0, none⟩ 1 1 [.int .u32 (x : Int)] rfl rfl ?c2 ?c3 ?c4 ?c5 ?_
              case c2 =>
                intro j y hj
                have hjz : j = 0 := by
                  have := (List.getElem?_eq_some_iff.1 hj).1
                  simp at this
                  omega
                subst hjz
                simp at hj
                rw [← hj]
                exact (Boxed.new _ _ _).cell
              case c3 =>
                intro y hy
                rw [List.mem_singleton.1 hy]
                rfl
              case c4 => rw [us_length, List.length_take, L3.out]; unfold maxLen; omega
              case c5 => rw [us_length, List.length_take, L3.out]; omega
              intro v5 w5 ho5 hg5 hf5
              obtain ⟨g5, cap5, rfl⟩ := ownsRow_succ ho5
              have k5 : Hid (Keep (fun i => pv.ownBlock = some i) wr w5) := (k2.out.alloc _).grown hg5 (fun k hk => .inl hk)
              obtain ⟨nb5, fz5, hs5⟩ := HS1.out.kid (z := (x : Int)) hg5 (by rw [List.length_append]; exact ho5) hf5
              have f5 := fz5 3
              obtain ⟨q0, q1, q2, q3⟩ := nb5
              have HS5 := Lib.hid hs5
              refine hK.out _ _ k5.out ?_
              have hS := k5
              clear hK K ho5 hg5 hf5 fz5 hs5 k2 k5
              show Lz _ _ _ _ _ _ _ (Act.put _ (some 61) _) _
              try simp only [Act.put, List.setIfInBounds_toArray, List.set_cons_zero, List.set_cons_succ]
              refine lz_take 9 62 (v := ?_) rfl rfl (by kernel_rfl) (by kernel_rfl) (by kernel_rfl) (by kernel_rfl) (fun _ _ _ _ _ h => h) (by rfl) hS.out (fun W hW => ?_) ?_
              rotate_left
              · go_simp; try rfl
              try simp only [Act.put, List.setIfInBounds_toArray, List.set_cons_zero, List.set_cons_succ]
              refine lz_end rfl rfl (by kernel_rfl) (by kernel_rfl) (fun K hK => ?_)
              go_simp
              refine hK.out _ _ ?_
              clear hK K hS q0 q1 q2 q3 f5 HS1 HS HFAR
              generalize w5.setCell ⟨w.heap.size + 2, 3, none⟩ (.slice (some ⟨g5, 0, none⟩) ((us (ps.take t)).length + 1) cap5) = w6 at *
              generalize Value.slice (some ⟨g5, 0, none⟩) ((us (ps.take t)).length + 1) cap5 = pv5 at *
              have HSK : Hid (Od w w6 lf (.slice A1 i d1) (.slice A2 m d2) (.slice (some ⟨b, off, none⟩) n3 d3) kv vv pv5 ks vs (ps.take (t + 1))) := by
                have e : ps.getD t 0 = (x : Int) := by rw [← HX.out, getElem!_def]; rfl
                rw [take_snoc ps 0 t (by rw [L3.out]; exact ht), e]
                exact HS5
              clear HS5
              go_wp2
              go_roundg (n3 - (t + 1))
              case measure => omega
              case rel => exact ⟨t + 1, _, _, _, by go_num, by omega, by omega, HSK⟩
            · have hz : ¬ (t : Int) < (n3 : Int) := by omega
              obtain rfl : t = n3 := by omega
              have HSF : Hid (Od w wr lf (.slice A1 i d1) (.slice A2 m d2) (.slice A3 t d3) kv vv pv ks vs ps) := by
                have := HS.out
                rw [← L3.out, List.take_length, L3.out] at this
                exact this
              clear HS
              obtain ⟨q0, q1, q2, q3⟩ := HSF.out.gx.nb
              obtain ⟨r0, r1, r2, r3⟩ : Nb wr (w.heap.size + 1) false (.slice none 0 0) (.slice none 0 0) (.slice none 0 0) := ⟨by rw [cell_of_heap HSF.out.rb]; rfl, by rw [cell_of_heap HSF.out.rb]; rfl, by rw [cell_of_heap HSF.out.rb]; rfl, by rw [cell_of_heap HSF.out.rb]; rfl⟩
              have fr0 := frozen_of_heap HSF.out.rb 0
              have fr1 := frozen_of_heap HSF.out.rb 1
              have fr2 := frozen_of_heap HSF.out.rb 2
              have fr3 := frozen_of_heap HSF.out.rb 3
              obtain ⟨B1, e1, rfl, _⟩ : Sts wr kv ks := Sts.own (base := 0) (by have := HSF.out.gx.o0; rw [svs_length] at this; exact this)
              obtain ⟨B2, e2, rfl, _⟩ : Sts wr vv vs := Sts.own (base := 0) (by have := HSF.out.gx.o1; rw [svs_length] at this; exact this)
              obtain ⟨B3, e3, rfl, _⟩ : Nums wr pv ps := Nums.own (base := 0) (by have := HSF.out.gx.o2; rw [us_length] at this; exact this)
              generalize hl1 : ks.length = y1 at *
              generalize hl2 : vs.length = y2 at *
              generalize hl3 : ps.length = y3 at *
              have HL1 := Lib.hid hl1
              have HL2 := Lib.hid hl2
              have HL3 := Lib.hid hl3
              clear hl1 hl2 hl3
              go_wp2_with fail
              have hz1 := heap_set (heap_set (heap_set (heap_set HSF.out.rb 0 (.bool lf)) 1 (.slice B1 y1 e1)) 2 (.slice B2 y2 e2)) 3 (.slice B3 y3 e3)
              have HFIN := Lib.hid (HSF.out.fin (.bool lf) (.slice B1 y1 e1) (.slice B2 y2 e2) (.slice B3 y3 e3))
              generalize (((wr.setCell ⟨w.heap.size + 1, 0, none⟩ (.bool lf)).setCell ⟨w.heap.size + 1, 1, none⟩ (.slice B1 y1 e1)).setCell ⟨w.heap.size + 1, 2, none⟩ (.slice B2 y2 e2)).setCell ⟨w.heap.size + 1, 3, none⟩ (.slice B3 y3 e3) = wf at *
              have z0 := cell_of_heap hz1 0
              have z1 := cell_of_heap hz1 1
              have z2 := cell_of_heap hz1 2
              have z3 := cell_of_heap hz1 3
              simp at z0 z1 z2 z3
              exact bodyPost_ret (v := .agg #[.bool lf, .slice B1 y1 e1, .slice B2 y2 e2, .slice B3 y3 e3]) (by simp [results, Try.results12, go_sem, z0, z1, z2, z3]) rfl ⟨_, _, _, rfl, HFIN.out.1, HFIN.out.2⟩
theorem refof_any (w : World) (n : N.Nd) (kv vv pv : Value) (h : NV w kv vv pv n) (hr : Rg n.ps) (b1 : n.ks.length ≤ 1000) (b2 : n.vs.length ≤ 1000) (b3 : n.ps.length ≤ 1000) :
    Calls Try.prog 12 #[nodv n.leaf kv vv pv] w fun e w' => ∃ kv vv pv, e = .returned (nodv n.leaf kv vv pv) ∧ RV w' kv vv pv n ∧ Below w.heap.size w w' := by
  obtain ⟨A1, d1, rfl, _, _, c1⟩ := h.keys
  obtain ⟨A2, d2, rfl, _, _, c2⟩ := h.vals
  obtain ⟨A3, d3, rfl, _, _, c3⟩ := h.kids
  exact refof_core w n.leaf A1 A2 A3 n.ks.length d1 n.vs.length d2 n.ps.length d3 n.ks n.vs n.ps b1 b2 b3 (Lib.hid rfl) (Lib.hid rfl) (Lib.hid rfl) (Lib.hid hr) (Lib.hid c1) (Lib.hid c2) (Lib.hid c3)
end Go.Proofs.Ytceoelemlokelaa
