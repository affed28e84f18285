/- super.layInto and super.Write: a super's page. -/
import Derived.Test.YtbffpgndjbpifaaDoorUb
import Derived.Test.YtbffpgndjbpifaaDoorGc
namespace Go.Proofs.YtbffpgndjbpifaaDoor
open Go.RowKit
open U (be)

theorem run_makeFunc (fn : Fn) (first cap : Array Value) (w : World) : (Instr.makeFunc fn first cap).run Tryd.prog w = .ok (.func fn first cap) w := rfl
theorem layInto_any (g : Nat) (y : List UInt8) (w : World) (h : Bl w g 116 y) : Calls Tryd.prog 16 #[.slice (some ⟨g, 0, none⟩) 116 116] w fun e w' =>
    e = .returned (.func (.func 25) #[] #[.pointer (some ⟨w.heap.size, 0, none⟩), .pointer (some ⟨w.heap.size + 1, 0, none⟩)]) ∧ Lay w' g w.heap.size (w.heap.size + 1) [] ∧ Below w.heap.size w w' := by
  have hg := Lib.hid h.lt
  have H := Lib.hid h
  clear h
  have hmf := run_makeFunc
  go_enter Tryd.func16, Tryd.ntmps16
  go_wp2
  go_ret
  have hb : Below w.heap.size w ((w.alloc (.cells #[.slice (some ⟨g, 0, none⟩) 116 116] 29)).alloc (.cells #[.int .i64 0] 3)) := bal (alb _) _
  have hgo := hg.out
  have c0 : ((w.alloc (.cells #[.slice (some ⟨g, 0, none⟩) 116 116] 29)).alloc (.cells #[.int .i64 0] 3)).cell? ⟨w.heap.size, 0, none⟩ = some (.slice (some ⟨g, 0, none⟩) 116 116) := alc (by rw [World.cell?_alloc_at _ _ _ _ rfl]; rfl) _
  have c1 : ((w.alloc (.cells #[.slice (some ⟨g, 0, none⟩) 116 116] 29)).alloc (.cells #[.int .i64 0] 3)).cell? ⟨w.heap.size + 1, 0, none⟩ = some (.int .i64 0) := by rw [World.cell?_alloc_at _ _ _ _ (by simp)]; rfl
  exact ⟨rfl, ⟨⟨y, H.out.keep (F := fun _ => False) (Keep.of_below hb) (fun h => h)⟩, c0, c1, by simp, by omega, by omega, by omega⟩, hb⟩

/-- Three cells out of many. -/
theorem take3 (l : List Value) (k : Nat) (h : k + 3 ≤ l.length) : (l.drop k).take 3 = [l.getD k undef, l.getD (k + 1) undef, l.getD (k + 2) undef] := by
  have e1 : l.getD k undef = l[k] := by simp [List.getD, show k < l.length by omega]
  have e2 : l.getD (k + 1) undef = l[k + 1] := by simp [List.getD, show k + 1 < l.length by omega]
  have e3 : l.getD (k + 2) undef = l[k + 2] := by simp [List.getD, show k + 2 < l.length by omega]
  rw [List.drop_eq_getElem_cons (by omega), List.drop_eq_getElem_cons (by omega), List.drop_eq_getElem_cons (by omega), e1, e2, e3]
  rfl
theorem Tryd.sizeR : ∀ w : World, (sizeOf 25).run Tryd.prog w = .ok 3 w := fun _ => by kernel_rfl
theorem Tryd.aggR : ∀ w : World, (isAgg 25).run Tryd.prog w = .ok true w := fun _ => by kernel_rfl
theorem svs_getD (q : Nat) (r : List Nat) (i : Nat) (h : i < r.length) : (svs q r).getD (i + 1) undef = .int .u32 ((r.getD i 0 : Nat) : Int) := by simp [List.getD, svs_get q r i h, h]
theorem run_index_root (q : Nat) (r : List Nat) (hr : r.length = 27) (i : Nat) (hi : i < 8) (w : World) : (Instr.index 26 (.agg ((svs q r).drop 4).toArray) (.int .i64 (i : Int))).run Tryd.prog w =
    .ok (.agg #[.int .u32 ((r.getD (3 + 3 * i) 0 : Nat) : Int), .int .u32 ((r.getD (4 + 3 * i) 0 : Nat) : Int), .int .u32 ((r.getD (5 + 3 * i) 0 : Nat) : Int)]) w := by
  have hl := svs_length (q := q) hr
  have e1 : (((svs q r).drop 4).toArray).extract (i * 3) (i * 3 + 3) = #[.int .u32 ((r.getD (3 + 3 * i) 0 : Nat) : Int), .int .u32 ((r.getD (4 + 3 * i) 0 : Nat) : Int), .int .u32 ((r.getD (5 + 3 * i) 0 : Nat) : Int)] := by
    rw [List.extract_toArray, List.extract_eq_take_drop, List.drop_drop, show i * 3 + 3 - i * 3 = 3 by omega, take3 _ _ (by omega), show 4 + i * 3 = (3 + 3 * i) + 1 by omega, svs_getD _ _ _ (by omega), show 3 + 3 * i + 1 + 1 = (4 + 3 * i) + 1 by omega, svs_getD _ _ _ (by omega), show 3 + 3 * i + 1 + 2 = (5 + 3 * i) + 1 by omega, svs_getD _ _ _ (by omega)]
  have h2 : (0 : Int) ≤ (i : Int) ∧ (i : Int) < (8 : Nat) := by omega
  simp only [Instr.index, asIntOf, Sem.run_bind, Sem.run_pure, Result.andThen_ok, run_underlying Tryd.underlying26, if_pos h2, Tryd.sizeR, part, Tryd.aggR, Int.toNat_natCast, e1, if_true]
theorem Sup.roots {w : World} {b q : Nat} {r : List Nat} (h : Sup w b q r) : w.rangeAt b 4 ((svs q r).drop 4) := fun j v hv => by
  rw [List.getElem?_drop] at hv
  have := h.1 (4 + j) v hv
  rwa [Nat.zero_add] at this
theorem Tryd.sizeA : (Tryd.prog.info? 26).map (·.size) = some 24 := by kernel_rfl
theorem wpList_load_roots {ops : Array Oper} {rest : List Oper} {op : Oper} {a : Act} {w : World} {Q : Exit → Act → World → Prop} (hgd : op.guard = none) (x : Operand) (ho : op.op = .load 26 x)
    (b q : Nat) (r : List Nat) (hx : a.eval x = .pointer (some ⟨b, 4, none⟩)) (hs : Sup w b q r)
    (h : ∀ v : Value, Hid (∀ (i : Nat) (w : World), i < 8 → (Instr.index 26 v (.int .i64 (i : Int))).run Tryd.prog w =
    .ok (.agg #[.int .u32 ((r.getD (3 + 3 * i) 0 : Nat) : Int), .int .u32 ((r.getD (4 + 3 * i) 0 : Nat) : Int), .int .u32 ((r.getD (5 + 3 * i) 0 : Nat) : Int)]) w) → wpList Tryd.prog ops Q rest (a.put op.dst v) w) : wpList Tryd.prog ops Q (op :: rest) a w :=
  wpList_load_mid hgd 26 x ho b 4 hx ((svs q r).drop 4) _ hs.roots Tryd.underlying26 rfl (by rw [List.length_drop, svs_length hs.2.2]; exact Tryd.sizeA) (h _ (fun i w hi => run_index_root q r hs.2.2 i hi w))
theorem Tryd.sizeRI : (Tryd.prog.info? 25).map (·.size) = some 3 := by kernel_rfl
theorem wpList_store_root {ops : Array Oper} {rest : List Oper} {op : Oper} {a : Act} {w : World} {Q : Exit → Act → World → Prop} (hgd : op.guard = none) (x y : Operand) (ho : op.op = .store 25 x y)
    (b o : Nat) (x0 x1 x2 : Int) (hx : a.eval x = .pointer (some ⟨b, o, none⟩)) (hy : a.eval y = .agg #[.int .u32 x0, .int .u32 x1, .int .u32 x2]) (ht : w.there b o 3)
    (h : ∀ w', Hid (w' = ((w.setCell ⟨b, o, none⟩ (.int .u32 x0)).setCell ⟨b, o + 1, none⟩ (.int .u32 x1)).setCell ⟨b, o + 1 + 1, none⟩ (.int .u32 x2)) → Keep (fun k => k = b) w w' → wpList Tryd.prog ops Q rest (a.put op.dst undef) w') : wpList Tryd.prog ops Q (op :: rest) a w :=
  wpList_store_mid hgd 25 x y ho b o #[.int .u32 x0, .int .u32 x1, .int .u32 x2] hx hy ht Tryd.sizeRI (all_oneCell_toArray (cs := [.int .u32 x0, .int .u32 x1, .int .u32 x2]) (by intro v hv; simp only [List.mem_cons, List.not_mem_nil, or_false] at hv; rcases hv with rfl | rfl | rfl <;> rfl))
    (h _ rfl (Keep.setCells (F := fun k => k = b) (Keep.refl _ _) (.inl rfl) o [.int .u32 x0, .int .u32 x1, .int .u32 x2]))
theorem root_cells {w w' : World} {b : Nat} {x0 x1 x2 : Int} (ht : w.there b 0 3) (h : w' = ((w.setCell ⟨b, 0, none⟩ (.int .u32 x0)).setCell ⟨b, 0 + 1, none⟩ (.int .u32 x1)).setCell ⟨b, 0 + 1 + 1, none⟩ (.int .u32 x2)) :
    w'.cell? ⟨b, 0, none⟩ = some (.int .u32 x0) ∧ w'.cell? ⟨b, 1, none⟩ = some (.int .u32 x1) ∧ w'.cell? ⟨b, 2, none⟩ = some (.int .u32 x2) := by
  have hr := World.rangeAt_setCells_same w b 0 [.int .u32 x0, .int .u32 x1, .int .u32 x2] ht
  subst h
  exact ⟨hr 0 _ rfl, hr 1 _ rfl, hr 2 _ rfl⟩

theorem flat_snoc (q : Nat) (r : List Nat) (i : Nat) (h : i < r.length) : (be 8 q ++ (r.take i).flatMap G.four) ++ be 4 (r.getD i 0) = be 8 q ++ (r.take (i + 1)).flatMap G.four := by
  rw [List.take_succ_eq_append_getElem h, List.flatMap_append, U.be_four, List.append_assoc]
  simp [List.getD, h]
theorem flat_len (q : Nat) (r : List Nat) (i : Nat) (h : r.length = 27) (hi : i ≤ 27) : (be 8 q ++ (r.take i).flatMap G.four).length = 8 + 4 * i := by
  rw [List.length_append, U.be_length, U.flat_length, List.length_take]
  omega
theorem getD_lt {r : List Nat} (hr : ∀ x ∈ r, x < 4294967296) (i : Nat) (h : i < r.length) : r.getD i 0 < 4294967296 := by
  have := hr r[i] (List.getElem_mem h)
  simpa [List.getD, h] using this

/-- The page's body grows: Seq and the first i of the others are laid. -/
structure Wr (w0 : World) (B : Nat) (w : World) (g bb ab sb q : Nat) (r : List Nat) (i : Nat) : Prop where
  lay : Lay w g bb ab (be 8 q ++ (r.take i).flatMap G.four)
  sup : Sup w sb q r
  low : Below B w0 w
theorem Sup.at {w : World} {b q : Nat} {r : List Nat} (h : Sup w b q r) (i j x : Nat) (hj : j = i + 1) (hi : i < 27) (hx : r.getD i 0 = x) : w.cell? ⟨b, j, none⟩ = some (.int .u32 (x : Int)) := by
  subst hj hx
  exact h.cell i hi
theorem put_sup (w0 : World) (B g bb ab sb q : Nat) (r : List Nat) (s n : Nat) (d : List UInt8) (w : World) (h : Lay w g bb ab d) (hS : Sup w sb q r) (hB : Below B w0 w) (h1 : B ≤ g) (h2 : B ≤ ab) (h3 : sb ≠ g) (h4 : sb ≠ ab) (hs : d.length + s ≤ 116) (hn : n < 18446744073709551616) :
    Calls Tryd.prog 25 #[.int .i64 (s : Int), .int .u64 (n : Int), .pointer (some ⟨bb, 0, none⟩), .pointer (some ⟨ab, 0, none⟩)] w fun e w' =>
      e = .returned (.tuple #[]) ∧ Lay w' g bb ab (d ++ be s n) ∧ Sup w' sb q r ∧ Below B w0 w' ∧ Keep (fun k => k = g ∨ k = ab) w w' := by
  obtain ⟨y, hy⟩ := h.row
  have hl := hy.lt
  refine (put_any g bb ab s n d w h hs hn).mono fun e w' ⟨k1, k2, k3⟩ => ⟨k1, k2, hS.keep k3 (by omega), ?_, k3⟩
  exact hB.trans (k3.below (by omega) (fun k hk => by rcases hk with rfl | rfl <;> assumption))
theorem put_root (w0 : World) (B g bb ab sb q : Nat) (r : List Nat) (i x : Nat) (w : World) (h : Wr w0 B w g bb ab sb q r i) (h1 : B ≤ g) (h2 : B ≤ ab) (h3 : sb ≠ g) (h4 : sb ≠ ab) (hi : i < 27) (hx : r.getD i 0 = x) (hxl : x < 4294967296) :
    Calls Tryd.prog 25 #[.int .i64 4, .int .u64 (x : Int), .pointer (some ⟨bb, 0, none⟩), .pointer (some ⟨ab, 0, none⟩)] w fun e w' =>
      e = .returned (.tuple #[]) ∧ Wr w0 B w' g bb ab sb q r (i + 1) ∧ Keep (fun k => k = g ∨ k = ab) w w' := by
  have hl := h.sup.2.2
  refine (put_sup w0 B g bb ab sb q r 4 x _ w h.lay h.sup h.low h1 h2 h3 h4 (by rw [flat_len q r i hl (by omega)]; omega) (by omega)).mono fun e w' ⟨k1, k2, k3, k4, k5⟩ => ⟨k1, ⟨?_, k3, k4⟩, k5⟩
  rw [← hx, flat_snoc q r i (by omega)] at k2
  exact k2
theorem Wr.alloc {w0 : World} {B : Nat} {w : World} {g bb ab sb q : Nat} {r : List Nat} {i : Nat} (h : Wr w0 B w g bb ab sb q r i) (hB : B ≤ w.heap.size) (o : Obj) : Wr w0 B (w.alloc o) g bb ab sb q r i :=
  ⟨h.lay.below (alb o), h.sup.below (alb o), h.low.trans ((alb o).mono hB)⟩
theorem Lay.full {w : World} {g bb ab : Nat} {d : List UInt8} (h : Lay w g bb ab d) (hd : d.length = 116) : Byts w (.slice (some ⟨g, 0, none⟩) 116 116) d := by
  obtain ⟨y, hy⟩ := h.row
  have e := hy.2.1
  have : y = [] := by
    apply List.length_eq_zero_iff.1
    rw [List.length_append] at e
    omega
  subst this
  rw [List.append_nil] at hy
  exact hy.byts

set_option maxHeartbeats 1600000 in
theorem write_any (q : Nat) (r : List Nat) (hr : r.length = 27) (hq : q < 18446744073709551616) (hlt : ∀ x ∈ r, x < 4294967296) (w : World) (hT : Tab w) :
    Calls Tryd.prog 7 #[.agg (sva q r)] w fun e w' => ∃ g, e = .returned (.slice (some ⟨g, 0, none⟩) 512 512) ∧ Blk w' g (U.wr q r) ∧ w.heap.size ≤ g ∧ Below w.heap.size w w' := by
  obtain ⟨i0, hi0, hz0, hz1, hz2⟩ := info_parts Tryd.info5
  obtain ⟨x0, hx0⟩ : ∃ x, r.getD 0 0 = x := ⟨_, rfl⟩
  obtain ⟨x1, hx1⟩ : ∃ x, r.getD 1 0 = x := ⟨_, rfl⟩
  obtain ⟨x2, hx2⟩ : ∃ x, r.getD 2 0 = x := ⟨_, rfl⟩
  obtain ⟨p, hp⟩ : ∃ p, p = q % 2 := ⟨_, rfl⟩
  have b0 : x0 < 4294967296 := hx0 ▸ getD_lt hlt 0 (by omega)
  have b1 : x1 < 4294967296 := hx1 ▸ getD_lt hlt 1 (by omega)
  have b2 : x2 < 4294967296 := hx2 ▸ getD_lt hlt 2 (by omega)
  have bp : p < 2 := by omega
  have ep : (q : Int) % 2 = (p : Int) := by omega
  have HX0 := Lib.hid hx0
  have HX1 := Lib.hid hx1
  have HX2 := Lib.hid hx2
  have HP := Lib.hid hp
  have HS := Lib.hid (Sup.made w q r hr)
  have HR := Lib.hid hr
  have HLT := Lib.hid hlt
  have HT := Lib.hid hT
  clear hr hlt hT hx0 hx1 hx2 hp
  have hB0 : Hid (Below w.heap.size w (w.alloc (.cells (sva q r) 28))) := alb _
  go_enter Tryd.func7, Tryd.ntmps7
  go_wp2_with (first
    | (refine wpList_make_full _ rfl _ _ 29 rfl w.heap.size 5 i0 _ 1 Tryd.underlying29 hi0 hz0 hz1 _ _ _ _ 116 rfl rfl ?l1 ?l2 ?l3 ?l4 ?l5 ?_)
    | go_in)
  case l1 => rfl
  case l2 => rfl
  case l3 => rw [hz2]; omega
  case l4 => unfold maxLen; omega
  case l5 => exact hB0.out.size
  intro w1 hown hgrow
  have hB1 := Lib.hid (hB0.out.grown hgrow hB0.out.size (by intro g hg; cases hg))
  have HS1 := Lib.hid (HS.out.keep (F := fun _ => False) (Keep.grown (Keep.refl _ _) hgrow (by intro k hk; cases hk)) (fun h => h))
  rw [made_zeros] at hown
  have HK : Hid (Bl w1 (w.heap.size + 1) 116 (List.replicate 116 0)) := ⟨own_heap hown, List.length_replicate, by omega⟩
  clear hown hgrow hi0 hz0 hz1 hz2 i0 hB0 HS
  generalize hg : w.heap.size + 1 = g at *
  have HG := Lib.hid hg
  clear hg
  go_wp2_with fail
  refine (layInto_any g _ w1 HK.out).mono ?_
  rintro e w2 ⟨rfl, hL, hb2⟩
  have HGL := Lib.hid HK.out.lt
  have HL := Lib.hid hL
  have HS2 := Lib.hid (HS1.out.below hb2)
  have hB2 := Lib.hid (btr hB1.out hb2)
  generalize hbb : w1.heap.size = bb at *
  have HB := HGL
  clear hL hb2 HK HS1 hB1 hbb
  have c0 := HS2.out.cell0
  go_wp2_with fail
  have f1 : w.heap.size ≤ g := by have := HG.out; omega
  have f2 : w.heap.size ≤ bb + 1 := by have := HB.out; omega
  have f3 : w.heap.size ≠ g := by have := HG.out; omega
  have f4 : w.heap.size ≠ bb + 1 := by have := HB.out; omega
  refine (put_sup w w.heap.size g bb (bb + 1) w.heap.size q r 8 q [] w2 HL.out HS2.out hB2.out f1 f2 f3 f4 (by simp) hq).mono ?_
  rintro e w3 ⟨rfl, k1, k2, k3, -⟩
  have HW : Hid (Wr w w.heap.size w3 g bb (bb + 1) w.heap.size q r 0) := ⟨by simpa using k1, k2, k3⟩
  have F1 := Lib.hid f1
  have F2 := Lib.hid f2
  have F3 := Lib.hid f3
  have F4 := Lib.hid f4
  clear k1 k2 k3 c0 HL HS2 hB2 f1 f2 f3 f4
  have c := HW.out.sup.at 0 1 x0 rfl (by omega) HX0.out
  go_wp2_with fail
  refine (put_root w w.heap.size g bb (bb + 1) w.heap.size q r 0 x0 w3 HW.out F1.out F2.out F3.out F4.out (by omega) HX0.out b0).mono ?_
  rintro e w4 ⟨rfl, hW, -⟩
  clear c HW
  have HW := Lib.hid hW
  clear hW
  have c := HW.out.sup.at 1 2 x1 rfl (by omega) HX1.out
  go_wp2_with fail
  refine (put_root w w.heap.size g bb (bb + 1) w.heap.size q r 1 x1 w4 HW.out F1.out F2.out F3.out F4.out (by omega) HX1.out b1).mono ?_
  rintro e w5 ⟨rfl, hW, -⟩
  clear c HW
  have HW := Lib.hid hW
  clear hW
  have c := HW.out.sup.at 2 3 x2 rfl (by omega) HX2.out
  go_wp2_with fail
  refine (put_root w w.heap.size g bb (bb + 1) w.heap.size q r 2 x2 w5 HW.out F1.out F2.out F3.out F4.out (by omega) HX2.out b2).mono ?_
  rintro e w6 ⟨rfl, hW, -⟩
  clear c HW
  have HW := Lib.hid hW
  clear hW
  go_wp2_with (first | (refine wpList_load_roots rfl (.tmp 31) rfl w.heap.size q r rfl HW.out.sup ?_) | go_in)
  intro rv HV
  clear HX0 HX1 HX2 b0 b1 b2
  go_wp2
  go_loopw [33] (fun i wr => ∃ k : Nat, k ≤ 8 ∧ i = .int .i64 (k : Int) ∧ Wr w w.heap.size wr g bb (bb + 1) w.heap.size q r (3 + 3 * k)) (fun i _ => (8 - intOf i).toNat)
  case atStart => exact ⟨0, by omega, rfl, HW.out⟩
  case round =>
    obtain ⟨k, hk, rfl, hW⟩ := hrel
    clear HW
    have HW := Lib.hid hW
    clear hW
    by_cases h8 : k < 8
    · have q1 : decide ((k : Int) < 8) = true := by simp; omega
      have hl := HR.out
      obtain ⟨y0, hy0⟩ : ∃ x, r.getD (3 + 3 * k) 0 = x := ⟨_, rfl⟩
      obtain ⟨y1, hy1⟩ : ∃ x, r.getD (4 + 3 * k) 0 = x := ⟨_, rfl⟩
      obtain ⟨y2, hy2⟩ : ∃ x, r.getD (5 + 3 * k) 0 = x := ⟨_, rfl⟩
      have d0 : y0 < 4294967296 := hy0 ▸ getD_lt HLT.out _ (by omega)
      have d1 : y1 < 4294967296 := hy1 ▸ getD_lt HLT.out _ (by omega)
      have d2 : y2 < 4294967296 := hy2 ▸ getD_lt HLT.out _ (by omega)
      have hix : ∀ u : World, (Instr.index 26 rv (.int .i64 (k : Int))).run Tryd.prog u = .ok (.agg #[.int .u32 (y0 : Int), .int .u32 (y1 : Int), .int .u32 (y2 : Int)]) u := fun u => by
        rw [← hy0, ← hy1, ← hy2]
        exact HV.out k u h8
      have HY0 := Lib.hid hy0
      have HY1 := Lib.hid hy1
      have HY2 := Lib.hid hy2
      have HK := Lib.hid hk
      have H8 := Lib.hid h8
      clear hy0 hy1 hy2 hl hk h8 HV
      go_wp2_with fail
      have hsz : w.heap.size ≤ wr.heap.size := HW.out.low.size
      obtain ⟨_, hyy⟩ := HW.out.lay.row
      have hgl := hyy.lt
      have hal := World.block_lt_of_cell? wr ⟨bb + 1, 0, none⟩ HW.out.lay.ca
      have n1 : ¬ (wr.heap.size = g ∨ wr.heap.size = bb + 1) := by
        have : bb + 1 < wr.heap.size := hal
        omega
      refine (put_root w w.heap.size g bb (bb + 1) w.heap.size q r (3 + 3 * k) y0 _ (HW.out.alloc hsz _) F1.out F2.out F3.out F4.out (by have := H8.out; omega) HY0.out d0).mono ?_
      rintro e w7 ⟨rfl, hW, hk7⟩
      have e1 : (wr.alloc (.cells #[.int .u32 (y0 : Int), .int .u32 (y1 : Int), .int .u32 (y2 : Int)] 25)).cell? ⟨wr.heap.size, 1, none⟩ = some (.int .u32 (y1 : Int)) := by rw [World.cell?_alloc_at _ _ _ _ rfl]; rfl
      have e2 : (wr.alloc (.cells #[.int .u32 (y0 : Int), .int .u32 (y1 : Int), .int .u32 (y2 : Int)] 25)).cell? ⟨wr.heap.size, 2, none⟩ = some (.int .u32 (y2 : Int)) := by rw [World.cell?_alloc_at _ _ _ _ rfl]; rfl
      have c1 := hk7.cell e1 n1
      have c2 := hk7.cell e2 n1
      clear e1 e2 hk7 HW hyy hgl hal hsz hix
      have HW := Lib.hid hW
      have N1 := Lib.hid n1
      clear hW n1
      go_wp2_with fail
      refine (put_root w w.heap.size g bb (bb + 1) w.heap.size q r (3 + 3 * k + 1) y1 w7 HW.out F1.out F2.out F3.out F4.out (by have := H8.out; omega) (by rw [show 3 + 3 * k + 1 = 4 + 3 * k by omega]; exact HY1.out) d1).mono ?_
      rintro e w8 ⟨rfl, hW, hk8⟩
      replace c2 := hk8.cell c2 N1.out
      clear c1 hk8 HW
      have HW := Lib.hid hW
      clear hW
      go_wp2_with fail
      refine (put_root w w.heap.size g bb (bb + 1) w.heap.size q r (3 + 3 * k + 1 + 1) y2 w8 HW.out F1.out F2.out F3.out F4.out (by have := H8.out; omega) (by rw [show 3 + 3 * k + 1 + 1 = 5 + 3 * k by omega]; exact HY2.out) d2).mono ?_
      rintro e w9 ⟨rfl, hW, -⟩
      clear c2 HW
      have HW := Lib.hid hW
      clear hW
      have hk7 : (k : Int) < 8 := by have := H8.out; omega
      go_wp2
      go_roundw
      case rel =>
        refine ⟨k + 1, by have := H8.out; omega, by go_num, ?_⟩
        rw [show 3 + 3 * (k + 1) = 3 + 3 * k + 1 + 1 + 1 by omega]
        exact HW.out
      case measure =>
        simp [intOf]
        omega
    · obtain rfl : k = 8 := by omega
      have q1 : decide (((8 : Nat) : Int) < 8) = false := by decide
      have c0 := HW.out.sup.cell0
      have HBy : Hid (Byts wr (.slice (some ⟨g, 0, none⟩) 116 116) (U.body q r)) := by
        have hl := HR.out
        have := HW.out.lay.full (by rw [flat_len q r _ hl (by omega)])
        rw [List.take_of_length_le (by omega)] at this
        exact this
      clear hk h8 HV
      go_wp2_with fail
      refine (seal_page p (by omega) 1 (.slice (some ⟨g, 0, none⟩) 116 116) (U.body q r) wr HBy.out (by rw [U.body_length q r HR.out]; omega) (HT.out.below HW.out.low)).mono ?_
      rintro e w8 ⟨rfl, h1, h2⟩
      have H1 := Lib.hid h1
      clear h1 c0
      go_wp2
      go_ret
      exact ⟨_, rfl, by unfold U.wr; rw [← HP.out]; exact H1.out, HW.out.low.size, btr HW.out.low h2⟩
end Go.Proofs.YtbffpgndjbpifaaDoor
