/- page.Seal: a block of the call's own, laid part by part by copy. -/
import Derived.Test.YtbffpgndjbpifaaDoorGa
import Derived.Test.YtbffpgndjbpifaaDoorLr
namespace Go.Proofs.YtbffpgndjbpifaaDoor
open Go.RowKit
open C (crc)

/-- A block of 512 bytes of the call's own, whole. -/
def Blk (w : World) (g : Nat) (l : List UInt8) : Prop := w.heap[g]? = some (.cells (bvs l).toArray 5 (0, 0)) ∧ l.length = 512
theorem Blk.lt {w : World} {g : Nat} {l : List UInt8} (h : Blk w g l) : g < w.heap.size := (Array.getElem?_eq_some_iff.1 h.1).1
theorem Blk.below {w w1 : World} {g : Nat} {l : List UInt8} (h : Blk w g l) (hb : Below w.heap.size w w1) : Blk w1 g l := ⟨(hb.block g h.lt).trans h.1, h.2⟩
theorem Blk.own {w : World} {g : Nat} {l : List UInt8} (h : Blk w g l) (base : Nat) (hb : base ≤ g) : w.ownsRow base 5 1 (.slice (some ⟨g, 0, none⟩) 512 512) 512 (bvs l) :=
  own_of h.1 hb (by rw [bvs_length]; exact h.2) (by unfold maxLen; omega)
theorem Blk.of_own {w : World} {base g : Nat} {l : List UInt8} (hl : l.length = 512) (h : w.ownsRow base 5 1 (.slice (some ⟨g, 0, none⟩) 512 512) 512 (bvs l)) : Blk w g l := ⟨own_heap h, hl⟩
theorem Blk.cell {w : World} {g : Nat} {l : List UInt8} (h : Blk w g l) (j : Nat) (hj : j < 512) : w.cell? ⟨g, j, none⟩ = some (.int .u8 (((l.getD j 0).toNat : Nat) : Int)) := by
  have hl := h.2
  rw [(h.own 0 (Nat.zero_le _)).cellAt j hj, bvs_get l j (by omega)]
  simp [List.getD, show j < l.length by omega]
theorem Blk.frozen {w : World} {g : Nat} {l : List UInt8} (h : Blk w g l) (j : Nat) : w.frozen? ⟨g, j, none⟩ = false := (h.own 0 (Nat.zero_le _)).frozenAt j
theorem Blk.set {w : World} {g : Nat} {l : List UInt8} (h : Blk w g l) (p : Nat) (x : UInt8) : Blk (w.setCell ⟨g, p, none⟩ (.int .u8 ((x.toNat : Nat) : Int))) g (l.set p x) := by
  have q := ((h.own 0 (Nat.zero_le _)).stored p (.int .u8 ((x.toNat : Nat) : Int))).1
  rw [← bvs_set] at q
  exact Blk.of_own (by simpa using h.2) q
theorem Blk.from {w : World} {g : Nat} {l : List UInt8} (h : Blk w g l) (f : Nat) (hf : f ≤ 512) : Byts w (.slice (some ⟨g, f, none⟩) (512 - f) (512 - f)) (l.drop f) := by
  have e : (l.drop f).length = 512 - f := by rw [List.length_drop, h.2]
  refine ⟨_, _, by rw [e], by rw [e]; exact Nat.le_refl _, fun _ => ⟨g, f, rfl, fun j hj => ?_⟩⟩
  rw [e] at hj
  rw [h.cell (f + j) (by omega)]
  have hl := h.2
  simp [List.getD, show f + j < l.length by omega]
theorem Blk.byts {w : World} {g : Nat} {l : List UInt8} (h : Blk w g l) : Byts w (.slice (some ⟨g, 0, none⟩) 512 512) l := h.from 0 (by omega)
theorem splice_bvs (l m : List UInt8) (off : Nat) : splice (bvs l) off (bvs m) = bvs (splice l off m) := by
  unfold splice
  rw [bvs_append, bvs_append, bvs_length]
  simp [bvs]
theorem Tryd.sizeB : (Tryd.prog.info? 5).map (·.size) = some 1 := by kernel_rfl
/-- copy of bytes into such a block, as an operation. -/
theorem wp_into {w : World} {o : Oper} {a : Act} {K : Act → World → Prop} {Q : Exit → Act → World → Prop} (hgd : o.guard = none) (d s : Operand)
    (ho : o.op = .call { callee := .builtin .copy, args := #[d, s], argTypes := #[29, 29] }) (g off : Nat) (l m : List UInt8) (vs : Value)
    (hd : a.eval d = .slice (some ⟨g, off, none⟩) (512 - off) (512 - off)) (hs : a.eval s = vs) (hb : Blk w g l) (hm : Byts w vs m) (hfit : off + m.length ≤ 512) (B : Nat) (w0 : World) (hB : Below B w0 w) (hBg : B ≤ g)
    (h : ∀ w', Hid (Blk w' g (splice l off m)) → Below B w0 w' → K (a.put o.dst (goInt m.length)) w') : Oper.wp Tryd.prog o a w K Q := by
  obtain ⟨A, c, rfl, hc, hm⟩ := hm
  have e : Nat.min m.length (512 - off) = m.length := Nat.min_eq_left (by omega)
  have key := step_copy_splice (P := Tryd.prog) (ops := #[]) (o := o) (a := a) (w := w) (K := K) (Q := Q) (E := True) hgd d s 29 29 ho 5 Tryd.underlying29 Tryd.sizeB _ A (512 - off) (512 - off) m.length c hd hs g off (bvs l) 5 hb.1 (bvs m)
    (by rw [bvs_length, e]) (fun hpos => by
      rw [bvs_length] at hpos
      obtain ⟨b, off2, e2, q⟩ := hm hpos
      refine ⟨rfl, _, e2, fun j v hj => ?_⟩
      have hjl : j < m.length := by rw [← bvs_length]; exact (List.getElem?_eq_some_iff.1 hj).1
      rw [bvs_get m j hjl] at hj
      have e : (⟨b, off2, Option.none⟩ : Addr).add j = ⟨b, off2 + j, Option.none⟩ := by unfold Addr.add; split <;> simp_all
      rw [e, ← hj]
      exact q j hjl) (by rw [bvs_length, bvs_length, hb.2]; exact hfit) (bvs_one m) B w0 hB hBg (fun w' h1 h2 => by
      rw [bvs_length]
      refine h w' ⟨?_, by rw [length_splice l off m (by rw [hb.2]; exact hfit), hb.2]⟩ h2
      rw [← splice_bvs]
      exact h1.out)
  rw [if_pos (by simp [Region.wanted, hgd])] at key
  exact key
theorem wpList_into {w : World} {ops : Array Oper} {rest : List Oper} {o : Oper} {a : Act} {Q : Exit → Act → World → Prop} (hgd : o.guard = none) (d s : Operand)
    (ho : o.op = .call { callee := .builtin .copy, args := #[d, s], argTypes := #[29, 29] }) (g off : Nat) (l m : List UInt8) (vs : Value)
    (hd : a.eval d = .slice (some ⟨g, off, none⟩) (512 - off) (512 - off)) (hs : a.eval s = vs) (hb : Blk w g l) (hm : Byts w vs m) (hfit : off + m.length ≤ 512) (B : Nat) (w0 : World) (hB : Below B w0 w) (hBg : B ≤ g)
    (h : ∀ w', Hid (Blk w' g (splice l off m)) → Below B w0 w' → wpList Tryd.prog ops Q rest (a.put o.dst (goInt m.length)) w') : wpList Tryd.prog ops Q (o :: rest) a w :=
  wpList_plain hgd fun _ hK => wp_into hgd d s ho g off l m vs hd hs hb hm hfit B w0 hB hBg (fun w' h1 h2 => hK _ _ (h w' h1 h2))

/-- The parts of a page, laid one behind the other. -/
theorem lay (n : Nat) (k : UInt8) (l : List UInt8) :
    splice (splice ((splice (List.replicate 512 0) 4 (G.four n)).set 8 k) 9 (G.two l.length)) 12 l = [0, 0, 0, 0] ++ G.rest n k l := by
  have e : splice ((splice (List.replicate 512 0) 4 (G.four n)).set 8 k) 9 (G.two l.length) = [0, 0, 0, 0] ++ (G.four n ++ (k :: (G.two l.length ++ (0 :: List.replicate 500 0)))) := by rfl
  rw [e]
  have e2 : ([0, 0, 0, 0] ++ (G.four n ++ (k :: (G.two l.length ++ (0 :: List.replicate 500 0))))).drop (12 + l.length) = List.replicate (500 - l.length) (0 : UInt8) := by
    rw [← List.drop_drop]
    show (List.replicate 500 (0 : UInt8)).drop l.length = _
    exact List.drop_replicate
  unfold splice
  rw [e2]
  rfl
theorem lay_sum (n : Nat) (k : UInt8) (l : List UInt8) : splice ([0, 0, 0, 0] ++ G.rest n k l) 0 (G.four (crc 0 (([0, 0, 0, 0] ++ G.rest n k l).drop 4))) = G.page n k l := by rfl

set_option maxHeartbeats 1600000 in
theorem seal_core (n len : Nat) (k : UInt8) (A : Option Addr) (c : Nat) (l : List UInt8) (w : World) (hl : len ≤ 500) (hn : n < 4294967296) (HL : Hid (l.length = len)) (HV : Hid (Byts w (.slice A len c) l)) (HT : Hid (Tab w)) :
    Calls Tryd.prog 17 #[.int .u32 (n : Int), .int .u8 ((k.toNat : Nat) : Int), .slice A len c] w fun e w' => e = .returned (.tuple #[.slice (some ⟨w.heap.size, 0, none⟩) 512 512, .int .i64 0]) ∧ Blk w' w.heap.size (G.page n k l) ∧ Below w.heap.size w w' := by
  obtain ⟨i0, hi0, hz0, hz1, hz2⟩ := info_parts Tryd.info5
  have hk := C.u8_lt k
  go_enter Tryd.func17, Tryd.ntmps17
  go_wp2_with (first
    | (refine wpList_make_full _ rfl _ _ 29 rfl w.heap.size 5 i0 _ 1 Tryd.underlying29 hi0 hz0 hz1 _ _ _ _ 512 rfl rfl ?l1 ?l2 ?l3 ?l4 ?l5 ?_)
    | go_in)
  case l1 => rfl
  case l2 => rfl
  case l3 => rw [hz2]; omega
  case l4 => unfold maxLen; omega
  case l5 => exact Nat.le_refl _
  intro w1 hown hgrow
  have hB : Below w.heap.size w w1 := (Below.refl _ _).grown hgrow (Nat.le_refl _) (by intro g hg; cases hg)
  rw [made_zeros] at hown
  have HK : Hid (Blk w1 w.heap.size (List.replicate 512 0)) := Blk.of_own List.length_replicate hown
  clear hown hgrow hi0 hz0 hz1 hz2 i0
  go_wp2_with fail
  have hS : Hid (Below w1.heap.size w1 w1.drew) := (Below.refl _ _).drew
  refine lz_start 5 4 (fun W => Below w1.heap.size w1 W) rfl (by kernel_rfl) ?_
  refine lr_take 0 13 (v := ?_) rfl rfl (by kernel_rfl) (by kernel_rfl) (by kernel_rfl) (by kernel_rfl) (by kernel_rfl) (fun _ _ _ _ _ h => h) (by rfl) hS.out (fun W hW => ?_) ?_
  rotate_left
  · go_simp; try rfl
  try simp only [Act.put, List.setIfInBounds_toArray, List.set_cons_zero, List.set_cons_succ]
  refine lr_take 1 14 (v := ?_) rfl rfl (by kernel_rfl) (by kernel_rfl) (by kernel_rfl) (by kernel_rfl) (by kernel_rfl) (fun _ _ _ _ _ h => h) (by rfl) hS.out (fun W hW => ?_) ?_
  rotate_left
  · go_simp; try rfl
  try simp only [Act.put, List.setIfInBounds_toArray, List.set_cons_zero, List.set_cons_succ]
  refine lr_take 2 15 (v := ?_) rfl rfl (by kernel_rfl) (by kernel_rfl) (by kernel_rfl) (by kernel_rfl) (by kernel_rfl) (fun _ _ _ _ _ h => h) (by rfl) hS.out (fun W hW => ?_) ?_
  rotate_left
  · go_simp; try rfl
  try simp only [Act.put, List.setIfInBounds_toArray, List.set_cons_zero, List.set_cons_succ]
  refine lz_op 3 rfl rfl (by kernel_rfl) (fun K hK => ?_)
  go_simp
  refine (fourbytes_any n hn w1.drew).mono ?_
  rintro e w2 ⟨v2, rfl, hy2, hb2⟩
  refine hK.out _ _ (btr hS.out hb2) ?_
  clear hK K
  replace HK := Lib.hid (HK.out.below (btr hS.out hb2))
  replace hB := btr hB (btr hS.out hb2)
  have HY := Lib.hid hy2
  clear hy2 hb2 hS
  refine lz_end rfl rfl (by kernel_rfl) (by kernel_rfl) (fun K hK => ?_)
  refine wp_into rfl (.tmp 14) (.tmp 16) rfl w.heap.size 4 _ (G.four n) v2 rfl rfl HK.out HY.out (by rw [G.four_length]; omega) w.heap.size w hB (Nat.le_refl _) ?_
  intro w3 HK3 hB3
  refine hK.out _ _ ?_
  clear hK K HK HY hB
  have c8 := HK3.out.cell 8 (by omega)
  have f8 := HK3.out.frozen 8
  obtain ⟨y8, h8⟩ : ∃ y : Nat, y = (List.getD (splice (List.replicate 512 0) 4 (G.four n)) 8 0).toNat := ⟨_, rfl⟩
  rw [← h8] at c8
  clear h8
  have HK4 := Lib.hid (HK3.out.set 8 k)
  have hB4 : Hid (Below w.heap.size w (w3.setCell ⟨w.heap.size, 8, none⟩ (.int .u8 ((k.toNat : Nat) : Int)))) := hB3.setCell (Nat.le_refl _) _
  obtain ⟨l4, h4⟩ : ∃ l4, l4 = (splice (List.replicate 512 0) 4 (G.four n)).set 8 k := ⟨_, rfl⟩
  have HL4 := Lib.hid h4
  rw [← h4] at HK4
  clear h4 HK3 hB3
  go_wp2_with fail
  generalize w3.setCell ⟨w.heap.size, 8, none⟩ (.int .u8 ((k.toNat : Nat) : Int)) = w4 at *
  clear c8 f8
  have hS : Hid (Below w4.heap.size w4 w4.drew) := (Below.refl _ _).drew
  refine lz_start 6 5 (fun W => Below w4.heap.size w4 W) rfl (by kernel_rfl) ?_
  refine lr_take 0 21 (v := ?_) rfl rfl (by kernel_rfl) (by kernel_rfl) (by kernel_rfl) (by kernel_rfl) (by kernel_rfl) (fun _ _ _ _ _ h => h) (by rfl) hS.out (fun W hW => ?_) ?_
  rotate_left
  · go_simp; try rfl
  try simp only [Act.put, List.setIfInBounds_toArray, List.set_cons_zero, List.set_cons_succ]
  refine lr_take 1 22 (v := ?_) rfl rfl (by kernel_rfl) (by kernel_rfl) (by kernel_rfl) (by kernel_rfl) (by kernel_rfl) (fun _ _ _ _ _ h => h) (by rfl) hS.out (fun W hW => ?_) ?_
  rotate_left
  · go_simp; try rfl
  try simp only [Act.put, List.setIfInBounds_toArray, List.set_cons_zero, List.set_cons_succ]
  refine lr_take 2 23 (v := ?_) rfl rfl (by kernel_rfl) (by kernel_rfl) (by kernel_rfl) (by kernel_rfl) (by kernel_rfl) (fun _ _ _ _ _ h => h) (by rfl) hS.out (fun W hW => ?_) ?_
  rotate_left
  · go_simp; try rfl
  try simp only [Act.put, List.setIfInBounds_toArray, List.set_cons_zero, List.set_cons_succ]
  refine lr_take 3 24 (v := ?_) rfl rfl (by kernel_rfl) (by kernel_rfl) (by kernel_rfl) (by kernel_rfl) (by kernel_rfl) (fun _ _ _ _ _ h => h) (by rfl) hS.out (fun W hW => ?_) ?_
  rotate_left
  · go_simp; try rfl
  try simp only [Act.put, List.setIfInBounds_toArray, List.set_cons_zero, List.set_cons_succ]
  refine lz_op 4 rfl rfl (by kernel_rfl) (fun K hK => ?_)
  go_simp
  refine (twobytes_any len (by omega) w4.drew).mono ?_
  rintro e w5 ⟨v5, rfl, hy5, hb5⟩
  refine hK.out _ _ (btr hS.out hb5) ?_
  clear hK K
  have HK5 := Lib.hid (HK4.out.below (btr hS.out hb5))
  have hB5 := btr hB4.out (btr hS.out hb5)
  have HY := Lib.hid hy5
  clear hy5 hb5 hS HK4 hB4
  refine lz_end rfl rfl (by kernel_rfl) (by kernel_rfl) (fun K hK => ?_)
  refine wp_into rfl (.tmp 22) (.tmp 25) rfl w.heap.size 9 _ (G.two len) v5 rfl rfl HK5.out HY.out (by rw [G.two_length]; omega) w.heap.size w hB5 (Nat.le_refl _) ?_
  intro w6 HK6 hB6
  refine hK.out _ _ ?_
  clear hK K HK5 HY hB5
  go_wp2_with (first
    | (refine wpList_into rfl (.tmp 28) (.tmp 29) rfl w.heap.size 12 _ l _ rfl rfl HK6.out (HV.out.below hB6) ?m1 w.heap.size w hB6 (Nat.le_refl _) ?_)
    | go_in)
  case m1 => rw [HL.out]; omega
  intro w7 HK7 hB7
  have hlay := lay n k l
  rw [HL.out, ← HL4.out] at hlay
  rw [hlay] at HK7
  clear hlay HK6 hB6 HL4
  go_wp2_with fail
  have hS : Hid (Below w7.heap.size w7 w7.drew) := (Below.refl _ _).drew
  refine lz_start 7 6 (fun W => Below w7.heap.size w7 W) rfl (by kernel_rfl) ?_
  refine lr_take 0 31 (v := ?_) rfl rfl (by kernel_rfl) (by kernel_rfl) (by kernel_rfl) (by kernel_rfl) (by kernel_rfl) (fun _ _ _ _ _ h => h) (by rfl) hS.out (fun W hW => ?_) ?_
  rotate_left
  · go_simp; try rfl
  try simp only [Act.put, List.setIfInBounds_toArray, List.set_cons_zero, List.set_cons_succ]
  refine lr_take 1 32 (v := ?_) rfl rfl (by kernel_rfl) (by kernel_rfl) (by kernel_rfl) (by kernel_rfl) (by kernel_rfl) (fun _ _ _ _ _ h => h) (by rfl) hS.out (fun W hW => ?_) ?_
  rotate_left
  · go_simp; try rfl
  try simp only [Act.put, List.setIfInBounds_toArray, List.set_cons_zero, List.set_cons_succ]
  refine lr_take 2 33 (v := ?_) rfl rfl (by kernel_rfl) (by kernel_rfl) (by kernel_rfl) (by kernel_rfl) (by kernel_rfl) (fun _ _ _ _ _ h => h) (by rfl) hS.out (fun W hW => ?_) ?_
  rotate_left
  · go_simp; try rfl
  try simp only [Act.put, List.setIfInBounds_toArray, List.set_cons_zero, List.set_cons_succ]
  refine lr_take 3 34 (v := ?_) rfl rfl (by kernel_rfl) (by kernel_rfl) (by kernel_rfl) (by kernel_rfl) (by kernel_rfl) (fun _ _ _ _ _ h => h) (by rfl) hS.out (fun W hW => ?_) ?_
  rotate_left
  · go_simp; try rfl
  try simp only [Act.put, List.setIfInBounds_toArray, List.set_cons_zero, List.set_cons_succ]
  refine lz_op 4 rfl rfl (by kernel_rfl) (fun K hK => ?_)
  go_simp
  refine (sum_any _ (List.drop 4 ([0, 0, 0, 0] ++ G.rest n k l)) w7.drew ((HK7.out.below hS.out).from 4 (by omega)) ?m2 (HT.out.below (btr hB7 hS.out))).mono ?_
  case m2 => rw [List.length_drop, HK7.out.2]; omega
  rintro e w8 ⟨rfl, rfl⟩
  refine hK.out _ _ hS.out ?_
  clear hK K
  have hcl : crc 0 (List.drop 4 ([0, 0, 0, 0] ++ G.rest n k l)) < 4294967296 := C.crc_lt _ (by omega)
  obtain ⟨x, hx⟩ : ∃ x, x = crc 0 (List.drop 4 ([0, 0, 0, 0] ++ G.rest n k l)) := ⟨_, rfl⟩
  rw [← hx] at hcl
  have HX := Lib.hid hx
  rw [← hx]
  clear hx
  refine lz_op 5 rfl rfl (by kernel_rfl) (fun K hK => ?_)
  go_simp
  refine (fourbytes_any x hcl w7.drew).mono ?_
  rintro e w8 ⟨v8, rfl, hy8, hb8⟩
  refine hK.out _ _ (btr hS.out hb8) ?_
  clear hK K
  have HK8 := Lib.hid (HK7.out.below (btr hS.out hb8))
  have hB8 := btr hB7 (btr hS.out hb8)
  have HY := Lib.hid hy8
  clear hy8 hb8 hS HK7 hB7
  refine lz_end rfl rfl (by kernel_rfl) (by kernel_rfl) (fun K hK => ?_)
  refine wp_into rfl (.tmp 32) (.tmp 36) rfl w.heap.size 0 _ (G.four x) v8 rfl rfl HK8.out HY.out (by rw [G.four_length]; omega) w.heap.size w hB8 (Nat.le_refl _) ?_
  intro w9 HK9 hB9
  refine hK.out _ _ ?_
  clear hK K HK8 HY hB8
  have hlay := lay_sum n k l
  rw [← HX.out] at hlay
  rw [hlay] at HK9
  clear hlay HX
  go_wp2
  go_ret2
  exact ⟨rfl, HK9.out, hB9⟩
theorem seal_page (n : Nat) (hn : n < 4294967296) (k : UInt8) (v : Value) (l : List UInt8) (w : World) (h : Byts w v l) (hl : l.length ≤ 500) (hT : Tab w) :
    Calls Tryd.prog 17 #[.int .u32 (n : Int), .int .u8 ((k.toNat : Nat) : Int), v] w fun e w' => e = .returned (.tuple #[.slice (some ⟨w.heap.size, 0, none⟩) 512 512, .int .i64 0]) ∧ Blk w' w.heap.size (G.page n k l) ∧ Below w.heap.size w w' := by
  obtain ⟨A, c, rfl⟩ := h.form
  exact seal_core n l.length k A c l w hl hn rfl h hT
theorem seal_long (n k : Int) (A : Option Addr) (c len : Nat) (w : World) (hl : 500 < len) :
    Calls Tryd.prog 17 #[.int .u32 n, .int .u8 k, .slice A len c] w fun e w' => e = .returned (.tuple #[.slice none 0 0, .int .i64 3]) ∧ w' = w := by
  go_enter Tryd.func17, Tryd.ntmps17
  go_wp2
  go_ret2
  exact ⟨rfl, rfl⟩
theorem seal_any (n : Nat) (hn : n < 4294967296) (k : UInt8) (v : Value) (l : List UInt8) (w : World) (h : Byts w v l) (hT : Tab w) :
    Calls Tryd.prog 17 #[.int .u32 (n : Int), .int .u8 ((k.toNat : Nat) : Int), v] w fun e w' => ∃ v', e = .returned (.tuple #[v', .int .i64 ((G.sealE l : Nat) : Int)]) ∧ Byts w' v' (G.sealL n k l) ∧ Below w.heap.size w w' := by
  by_cases hl : l.length ≤ 500
  · have e1 : G.sealE l = 0 := if_pos hl
    have e2 : G.sealL n k l = G.page n k l := if_pos hl
    rw [e1, e2]
    exact (seal_page n hn k v l w h hl hT).mono fun e w' ⟨h1, h2, h3⟩ => ⟨_, h1, h2.byts, h3⟩
  · have e1 : G.sealE l = 3 := if_neg hl
    have e2 : G.sealL n k l = [] := if_neg hl
    rw [e1, e2]
    obtain ⟨A, c, rfl⟩ := h.form
    exact (seal_long _ _ A c l.length w (by omega)).mono fun e w' ⟨h1, h2⟩ => ⟨_, h1, Byts.none _, by subst h2; exact Below.refl _ _⟩
end Go.Proofs.YtbffpgndjbpifaaDoor
