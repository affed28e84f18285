/- The row's own Push and Pop. -/
import Derived.Test.YtmjjkoiepoblmaaNb
import Derived.Test.YtmjjkoiepoblmaaNc
import Derived.Test.YtmjjkoiepoblmaaLz
namespace Go.Proofs.Ytmjjkoiepoblmaa
open Go.RowKit Go.Sort

theorem Try.info27 : (Try.prog.info? 27).map (fun i => (i.zero, i.size, i.bytes)) = some (some (.int .u32 0), 1, 4) := by kernel_rfl
/-- The slice in the first cell of block p holds these numbers, in a block of its own. -/
structure Rv (w : World) (p : Nat) (v : Value) (xs : List Int) : Prop where
  c0 : w.cell? ⟨p, 0, none⟩ = some v
  f0 : w.frozen? ⟨p, 0, none⟩ = false
  own : w.ownsRow 0 27 1 v xs.length (us xs)
  ne : v.ownBlock ≠ some p
/-- What a change of it may turn. -/
def fr (p : Nat) (v : Value) : Nat → Prop := fun b => b = p ∨ v.ownBlock = some b
/-- What a change of it leaves. -/
structure Rt (w w' : World) (p : Nat) (v v' : Value) (xs : List Int) : Prop where
  rv : Rv w' p v' xs
  keep : Keep (fr p v) w w'
  blk : ∀ b, v'.ownBlock = some b → v.ownBlock = some b ∨ w.heap.size ≤ b
  rest : ∀ i x, 0 < i → w.cell? ⟨p, i, none⟩ = some x → w'.cell? ⟨p, i, none⟩ = some x
theorem Rv.plt {w : World} {p : Nat} {v : Value} {xs : List Int} (h : Rv w p v xs) : p < w.heap.size := World.block_lt_of_cell? w _ h.c0
theorem Rv.blt {w : World} {p : Nat} {v : Value} {xs : List Int} (h : Rv w p v xs) : ∀ b, fr p v b → b < w.heap.size := by
  rintro b (rfl | hb)
  · exact h.plt
  · exact (h.own.lt b hb).2
theorem Rt.trans {w w1 w2 : World} {p : Nat} {v v1 v2 : Value} {xs ys : List Int} (h : Rt w w1 p v v1 xs) (k : Rt w1 w2 p v1 v2 ys) : Rt w w2 p v v2 ys :=
  ⟨k.rv, h.keep.trans k.keep (fun i hi => by
    rcases hi with rfl | hi
    · exact .inl (.inl rfl)
    · rcases h.blk i hi with q | q
      · exact .inl (.inr q)
      · exact .inr q), fun b hb => by
    rcases k.blk b hb with q | q
    · exact h.blk b q
    · exact .inr (Nat.le_trans h.keep.size q), fun i x hi hx => k.rest i x hi (h.rest i x hi hx)⟩
/-- The numbers have been moved about in their block. -/
theorem Rv.turn {w w' : World} {p g n cap : Nat} {xs : List Int} {d : Array Int} (h : Rv w p (.slice (some ⟨g, 0, none⟩) n cap) xs) (R : Rw w g 0 d w') (hd : d.size = n) : Rt w w' p (.slice (some ⟨g, 0, none⟩) n cap) (.slice (some ⟨g, 0, none⟩) n cap) d.toList := by
  have hl : xs.length = n := by
    rcases h.own.2 with ⟨q, _⟩ | ⟨g', cap', cur, q, _⟩
    · simp at q
    · simp only [Value.slice.injEq] at q
      exact q.2.1.symm
  have hne : ¬ (fun k => k = g) p := fun e => h.ne (by rw [e]; rfl)
  refine ⟨⟨R.keep.cell h.c0 hne, (R.keep.frozen h.c0 hne).trans h.f0, ?_, h.ne⟩, R.keep.mono (fun k _ e => .inr (by rw [e]; rfl)), fun b hb => .inl hb, fun i x _ hx => R.keep.cell hx hne⟩
  have := own_of_rw (hl ▸ h.own) R (by omega)
  rw [Array.length_toList, hd]
  exact this

set_option maxHeartbeats 1600000 in
theorem push_row (p : Nat) (v : Value) (xs : List Int) (x : Int) (w : World) (h : Rv w p v xs) (hn : xs.length < 65536) :
    Calls Try.prog 67 #[.pointer (some ⟨p, 0, none⟩), .iface 27 (.int .u32 x)] w fun e w' => e = .returned (.tuple #[]) ∧ ∃ v', Rt w w' p v v' (xs ++ [x]) := by
  obtain ⟨i0, hi0, hz0, hz1, hz2⟩ := info_parts Try.info27
  have HR := Lib.hid h
  have C0 := Lib.hid h.c0
  have HN : Hid (¬ v.ownBlock = some p) := h.ne
  clear h
  go_enter Try.func67, Try.ntmps67
  go_wp2_with fail
  have hS : Hid (Keep (fun b => v.ownBlock = some b) w w.drew) := (Keep.refl _ _).drew
  have HO := Lib.hid (HR.out.own.alloc (.cells #[.int .u32 x] 27))
  refine lz_start 10 9 (fun W => Keep (fun b => v.ownBlock = some b) w W) rfl (by kernel_rfl) ?_
  refine lz_take 0 4 (v := ?_) rfl rfl (by kernel_rfl) (by kernel_rfl) (by kernel_rfl) (by kernel_rfl) (fun _ _ _ _ _ h => h) (by rfl) hS.out (fun W hW => ?_) ?_
  rotate_left
  · go_simp; try rfl
  try simp only [Act.put, List.setIfInBounds_toArray, List.set_cons_zero, List.set_cons_succ]
  refine lz_take 1 5 (v := ?_) rfl rfl (by kernel_rfl) (by kernel_rfl) (by kernel_rfl) (by kernel_rfl) (fun _ _ _ _ _ h => h) (by rfl) hS.out (fun W hW => ?_) ?_
  rotate_left
  · go_simp; try rfl
  try simp only [Act.put, List.setIfInBounds_toArray, List.set_cons_zero, List.set_cons_succ]
  refine lz_take 2 6 (v := ?_) rfl rfl (by kernel_rfl) (by kernel_rfl) (by kernel_rfl) (by kernel_rfl) (fun _ _ _ _ _ h => h) (by rfl) hS.out (fun W hW => ?_) ?_
  rotate_left
  · go_simp; try rfl
  try simp only [Act.put, List.setIfInBounds_toArray, List.set_cons_zero, List.set_cons_succ]
  refine lz_take 3 7 (v := ?_) rfl rfl (by kernel_rfl) (by kernel_rfl) (by kernel_rfl) (by kernel_rfl) (fun _ _ _ _ _ h => h) (by rfl) hS.out (fun W hW => ?_) ?_
  rotate_left
  · have q := hW.cell C0.out HN.out; go_simp; try rfl
  try simp only [Act.put, List.setIfInBounds_toArray, List.set_cons_zero, List.set_cons_succ]
  refine lz_take 4 8 (v := ?_) rfl rfl (by kernel_rfl) (by kernel_rfl) (by kernel_rfl) (by kernel_rfl) (fun _ _ _ _ _ h => h) (by rfl) hS.out (fun W hW => ?_) ?_
  rotate_left
  · go_simp; try rfl
  try simp only [Act.put, List.setIfInBounds_toArray, List.set_cons_zero, List.set_cons_succ]
  refine lz_take 5 9 (v := ?_) rfl rfl (by kernel_rfl) (by kernel_rfl) (by kernel_rfl) (by kernel_rfl) (fun _ _ _ _ _ h => h) (by rfl) hS.out (fun W hW => ?_) ?_
  rotate_left
  · go_simp; try rfl
  try simp only [Act.put, List.setIfInBounds_toArray, List.set_cons_zero, List.set_cons_succ]
  refine lz_op 6 rfl rfl (by kernel_rfl) (fun K hK => ?_)
  go_simp
  have hk6 : Keep (fun b => v.ownBlock = some b) w (w.alloc (.cells #[.int .u32 x] 27)).drew := ((Keep.refl _ w).alloc _).drew
  refine hK.out _ _ hk6 ?_
  clear hK K
  try simp only [Act.put, List.setIfInBounds_toArray, List.set_cons_zero, List.set_cons_succ]
  refine lz_op 7 rfl rfl (by kernel_rfl) (fun K hK => ?_)
  refine wp_append_own2 _ _ 44 rfl 27 i0 _ 1 4 Try.underlying44 hi0 hz0 hz1 hz2 rfl (by decide) v xs.length (us xs) rfl HO.out ⟨w.heap.size, 0, none⟩ 1 1 [.int .u32 x] rfl rfl ?c2 ?c3 ?c4 ?c5 ?_
  case c2 =>
    intro j u hj
    rw [Addr.add_mid]
    show (w.alloc _).cell? ⟨w.heap.size, 0 + j, none⟩ = _
    rw [World.cell?_alloc_at _ _ _ _ rfl]
    simpa using hj
  case c3 =>
    intro u hu
    rw [List.mem_singleton.1 hu]
    rfl
  case c4 => unfold maxLen; omega
  case c5 => omega
  intro v2 w4 hown hgrow hblk
  obtain ⟨g2, cap2, rfl⟩ := Go.Joins.ownsRow_form hown (by omega)
  generalize hv2 : (Value.slice (some ⟨g2, 0, none⟩) (xs.length + 1) cap2) = v2 at *
  have hk7 : Keep (fun b => v.ownBlock = some b) w w4 := Keep.grown hk6 hgrow (fun k hk => .inl hk)
  have HB : Hid (∀ b, v2.ownBlock = some b → v.ownBlock = some b ∨ w.heap.size ≤ b) := fun b hb => (hblk b hb).imp id (fun q => Nat.le_trans (by simp [go_sem]) q)
  have HW := Lib.hid hown
  have hS7 := Lib.hid hk7
  refine hK.out _ _ hk7 ?_
  clear hK K hgrow hblk hk6 hown
  show Lz _ _ _ _ _ _ _ (Act.put _ (some 11) _) _
  try simp only [Act.put, List.setIfInBounds_toArray, List.set_cons_zero, List.set_cons_succ]
  refine lz_take 8 12 (v := ?_) rfl rfl (by kernel_rfl) (by kernel_rfl) (by kernel_rfl) (by kernel_rfl) (fun _ _ _ _ _ h => h) (by rfl) hS7.out (fun W hW => ?_) ?_
  rotate_left
  · go_simp; try rfl
  try simp only [Act.put, List.setIfInBounds_toArray, List.set_cons_zero, List.set_cons_succ]
  have q4 := hS7.out.cell C0.out HN.out
  have f4 := (hS7.out.frozen C0.out HN.out).trans HR.out.f0
  refine lz_end rfl rfl (by kernel_rfl) (by kernel_rfl) (fun K hK => ?_)
  subst hv2
  go_simp
  refine hK.out _ _ ?_
  clear hK K
  go_wp2
  go_end0
  have hp2 : (Value.slice (some ⟨g2, 0, none⟩) (xs.length + 1) cap2).ownBlock ≠ some p := fun e => by
    rcases HB.out p e with q | q
    · exact HN.out q
    · have := HR.out.plt
      omega
  have hks : Keep (fr p v) w (w4.setCell ⟨p, 0, none⟩ (.slice (some ⟨g2, 0, none⟩) (xs.length + 1) cap2)) := (hS7.out.mono (fun k _ e => .inr e)).setCell (.inl (.inl rfl)) _
  refine ⟨rfl, _, ⟨⟨World.cell?_setCell_same _ _ _ q4, by rw [World.frozen?_setCell]; exact f4, ?_, hp2⟩, hks, HB.out, fun i y hi hy => (World.cell?_setCell_other _ _ _ _ (fun e => by simp only [Addr.mk.injEq] at e; omega)).trans (hS7.out.cell hy HN.out)⟩⟩
  have := own_keep (F := fun b => b = p) HW.out (Keep.setCell (F := fun b => b = p) (Keep.refl _ w4) (p := ⟨p, 0, none⟩) (.inl rfl) (.slice (some ⟨g2, 0, none⟩) (xs.length + 1) cap2)) (fun k hk e => hp2 (by rw [hk, e]))
  have e1 : us (xs ++ [x]) = us xs ++ [.int .u32 x] := by simp [us]
  rw [List.length_append, e1]
  exact this

theorem run_cutr (A : Option Addr) (k c n : Nat) (hn : n ≤ c) (W : World) : (Instr.slice 44 (.slice A k c) none (some (.int .i64 (n : Int))) none).run Try.prog W = .ok (.slice A n c) W := by
  rw [run_slice_h (w := W) 44 A k c Try.underlying44 .i64 (n : Int) (by omega) (by omega)]
  have e : (sizeOf (Try.prog.elem 44)).run Try.prog W = .ok 1 W := by kernel_rfl
  rw [e]
  simp only [Result.andThen, sliced, Nat.zero_mul, Int.toNat_natCast, Nat.sub_zero]
  congr 2
  split
  · rfl
  · cases A with
    | none => rfl
    | some a => simp [Addr.add]
set_option maxHeartbeats 1600000 in
theorem pop_row (p g cap : Nat) (ys : List Int) (x : Int) (w : World) (n : Nat) (hn0 : n = ys.length + 1) (h : Rv w p (.slice (some ⟨g, 0, none⟩) n cap) (ys ++ [x])) (hn : ys.length < 65536) :
    Calls Try.prog 66 #[.pointer (some ⟨p, 0, none⟩)] w fun e w' => e = .returned (.iface 27 (.int .u32 x)) ∧ ∃ v', Rt w w' p (.slice (some ⟨g, 0, none⟩) n cap) v' ys := by
  have hcap : n ≤ cap := by
    rcases h.own.2 with ⟨q, _⟩ | ⟨g', cap', cur, q, _, _, hc, _⟩
    · simp at q
    · simp only [Value.slice.injEq] at q
      rw [q.2.2, hn0]
      simpa using hc
  have own := h.own
  rw [show (ys ++ [x]).length = n by simp [hn0]] at own
  have hc : w.cell? ⟨g, ys.length, none⟩ = some (.int .u32 x) := by
    rw [own.cellAt ys.length (by omega), us_get _ _ (by simp)]
    simp
  have c0 := h.c0
  have f0 := h.f0
  have HR := Lib.hid h
  have HW := Lib.hid own
  have ecut := run_cutr (some ⟨g, 0, none⟩) n cap ys.length (by omega)
  have e1 : (n : Int) - 1 = (ys.length : Int) := by omega
  have hlen : (ys.length : Int) < (n : Int) := by omega
  clear h own
  generalize hL : ys.length = L at *
  go_enter Try.func66, Try.ntmps66
  go_wp2
  go_ret
  refine ⟨rfl, .slice (some ⟨g, 0, none⟩) L cap, ⟨⟨World.cell?_setCell_same _ _ _ c0, by rw [World.frozen?_setCell]; exact f0, ?_, HR.out.ne⟩, (Keep.refl _ w).setCell (.inl (.inl rfl)) _, fun b hb => .inl hb, fun i y hi hy => (World.cell?_setCell_other _ _ _ _ (fun e => by simp only [Addr.mk.injEq] at e; omega)).trans hy⟩⟩
  have o2 := own_shrink HW.out (m := L) (by omega)
  have e2 : (ys ++ [x]).take L = ys := by rw [← hL]; simp
  rw [e2] at o2
  rw [hL]
  exact own_keep (F := fun b => b = p) o2 (Keep.setCell (F := fun b => b = p) (Keep.refl _ w) (p := ⟨p, 0, none⟩) (.inl rfl) _) (fun k hk e => HR.out.ne (by rw [← e]; exact hk))
end Go.Proofs.Ytmjjkoiepoblmaa
