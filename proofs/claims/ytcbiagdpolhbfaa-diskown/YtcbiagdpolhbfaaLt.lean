/- step: an operation done on both: Fuse. -/
import Derived.Test.YtcbiagdpolhbfaaLs
namespace Go.Proofs.Ytcbiagdpolhbfaa
open Go.RowKit
open D (St)

set_option maxRecDepth 100000 in
set_option maxHeartbeats 2000000 in
theorem step_fuse {w : World} {p g : Nat} {wv : Value} {A A2 : Option Addr} {c c2 : Nat} {s : St} {n1 n2 : Nat} {fu nw : Int} {dn : Bool} (HM : Hid (Mix w p g wv (.slice A n1 c) (.slice A2 n2 c2) s s)) (HE : Hid (rv (.slice A n1 c) (.slice A2 n2 c2) s = .agg #[.slice A n1 c, .slice A2 n2 c2, .int .i64 fu, .bool dn, .int .i64 nw]))
    (od : Nat) (oa : Int) (oc : UInt8) (ok' : Nat) (on : Int) (LA : Option Addr) (ol lc : Nat) (hod : od < 256) (hr : od % 5 = 3) (ha : oa ≤ 9223372036854775807) :
    Calls Try.prog 11 #[.pointer (some ⟨p, 0, none⟩), .agg #[.slice A n1 c, .slice A2 n2 c2, .int .i64 fu, .bool dn, .int .i64 nw], .agg #[.int .u8 (od : Int), .int .i64 oa, .int .u8 ((oc.toNat : Nat) : Int), .int .u16 (ok' : Int), .int .i8 on, .slice LA ol lc]] w fun e w' => ∃ wv' sv' rw', e = .returned (.tuple #[rv sv' rw' (D.setFuse s oa), .bool true]) ∧ Sp w w.heap.size w' p g wv (.slice A n1 c) (.slice A2 n2 c2) wv' sv' rw' (D.setFuse s oa) (D.setFuse s oa) := by
  have hz := (zero_of_info Try.zero31).1
  have BX : Hid (Box (((w.alloc (.cells #[.slice A n1 c, .slice A2 n2 c2, .int .i64 fu, .bool dn, .int .i64 nw] 31)).alloc (.cells #[.int .u8 (od : Int), .int .i64 oa, .int .u8 ((oc.toNat : Nat) : Int), .int .u16 (ok' : Int), .int .i8 on, .slice LA ol lc] 38)).alloc (.cells #[.slice none 0 0, .slice none 0 0, .int .i64 0, .bool false, .int .i64 0] 31)) w.heap.size (.slice A n1 c) (.slice A2 n2 c2) fu dn nw) := ((Box.made w _ _ fu dn nw _ _ rfl).below (alb _)).below (alb _)
  have BR : Hid (Box (((w.alloc (.cells #[.slice A n1 c, .slice A2 n2 c2, .int .i64 fu, .bool dn, .int .i64 nw] 31)).alloc (.cells #[.int .u8 (od : Int), .int .i64 oa, .int .u8 ((oc.toNat : Nat) : Int), .int .u16 (ok' : Int), .int .i8 on, .slice LA ol lc] 38)).alloc (.cells #[.slice none 0 0, .slice none 0 0, .int .i64 0, .bool false, .int .i64 0] 31)) (w.heap.size + 1 + 1) (.slice none 0 0) (.slice none 0 0) 0 false 0) := Box.made ((w.alloc (.cells #[.slice A n1 c, .slice A2 n2 c2, .int .i64 fu, .bool dn, .int .i64 nw] 31)).alloc (.cells #[.int .u8 (od : Int), .int .i64 oa, .int .u8 ((oc.toNat : Nat) : Int), .int .u16 (ok' : Int), .int .i8 on, .slice LA ol lc] 38)) _ _ 0 false 0 _ _ (by simp)
  have BO : Hid (World.rangeAt (((w.alloc (.cells #[.slice A n1 c, .slice A2 n2 c2, .int .i64 fu, .bool dn, .int .i64 nw] 31)).alloc (.cells #[.int .u8 (od : Int), .int .i64 oa, .int .u8 ((oc.toNat : Nat) : Int), .int .u16 (ok' : Int), .int .i8 on, .slice LA ol lc] 38)).alloc (.cells #[.slice none 0 0, .slice none 0 0, .int .i64 0, .bool false, .int .i64 0] 31)) (w.heap.size + 1) 0 [.int .u8 (od : Int), .int .i64 oa, .int .u8 ((oc.toNat : Nat) : Int), .int .u16 (ok' : Int), .int .i8 on, .slice LA ol lc]) := range_keep (F := fun _ => False) (range_lit (w.alloc (.cells #[.slice A n1 c, .slice A2 n2 c2, .int .i64 fu, .bool dn, .int .i64 nw] 31)) _ _ _ (by simp)) (Keep.of_below (alb _)) (fun h => h)
  have HB3 : Hid (Below w.heap.size w (((w.alloc (.cells #[.slice A n1 c, .slice A2 n2 c2, .int .i64 fu, .bool dn, .int .i64 nw] 31)).alloc (.cells #[.int .u8 (od : Int), .int .i64 oa, .int .u8 ((oc.toNat : Nat) : Int), .int .u16 (ok' : Int), .int .i8 on, .slice LA ol lc] 38)).alloc (.cells #[.slice none 0 0, .slice none 0 0, .int .i64 0, .bool false, .int .i64 0] 31))) := bal (bal (alb _) _) _
  have HT := Lib.hid (Sp.start HM.out HB3.out)
  have HSZ : Hid ((World.heap (((w.alloc (.cells #[.slice A n1 c, .slice A2 n2 c2, .int .i64 fu, .bool dn, .int .i64 nw] 31)).alloc (.cells #[.int .u8 (od : Int), .int .i64 oa, .int .u8 ((oc.toNat : Nat) : Int), .int .u16 (ok' : Int), .int .i8 on, .slice LA ol lc] 38)).alloc (.cells #[.slice none 0 0, .slice none 0 0, .int .i64 0, .bool false, .int .i64 0] 31))).size = w.heap.size + 3) := by simp [Hid]
  go_enter Try.func11, Try.ntmps11
  go_wp2_with fail
  generalize (((w.alloc (.cells #[.slice A n1 c, .slice A2 n2 c2, .int .i64 fu, .bool dn, .int .i64 nw] 31)).alloc (.cells #[.int .u8 (od : Int), .int .i64 oa, .int .u8 ((oc.toNat : Nat) : Int), .int .u16 (ok' : Int), .int .i8 on, .slice LA ol lc] 38)).alloc (.cells #[.slice none 0 0, .slice none 0 0, .int .i64 0, .bool false, .int .i64 0] 31)) = w3 at *
  refine (fuse_any HT.out.mix.dsk oa ha).mono ?_
  rintro e w4 ⟨rfl, hd4, hk4⟩
  obtain ⟨wv4, ht4⟩ := HT.out.disk ⟨wv, hd4, hk4, fun b hb => .inl hb⟩
  have HT4 := Lib.hid ht4
  have BX4 := Lib.hid (BX.out.keep hk4 ((HT).out.box HM.out (by omega) (by have := HSZ.out; omega)))
  have BR4 := Lib.hid (BR.out.keep hk4 ((HT).out.box HM.out (by omega) (by have := HSZ.out; omega)))
  have BO4 := Lib.hid (range_keep BO.out hk4 ((HT).out.box HM.out (by omega) (by have := HSZ.out; omega)))
  clear ht4 hd4 hk4 HT BX BR BO
  have o1 : w4.cell? ⟨w.heap.size + 1, 1, none⟩ = some (.int .i64 oa) := BO4.out 1 _ rfl
  have RG4 := Lib.hid BX4.out.range
  have HQ := reffuse_any HT4.out.mix.rep oa ha
  rw [HE.out] at HQ
  have HQ := Lib.hid HQ
  go_wp2_with (first
    | (refine wpList_load_mid rfl 31 _ rfl w.heap.size 0 rfl [.slice A n1 c, .slice A2 n2 c2, .int .i64 fu, .bool dn, .int .i64 nw] _ RG4.out Try.underlying31 rfl Try.size31 ?_)
    | fail)
  refine HQ.out.mono ?_
  rintro e w5 ⟨sv5, rw5, rfl, hm5⟩
  have HT5 := Lib.hid (HT4.out.ref hm5)
  have BX5 := Lib.hid (BX4.out.below hm5.2.1)
  have BR5 := Lib.hid (BR4.out.below hm5.2.1)
  clear hm5 HQ HT4 BX4 BR4 BO4 o1
  obtain ⟨A5, c5, rfl⟩ := row_form HT5.out.mix.rep.safe
  obtain ⟨A6, c6, rfl⟩ := row_form HT5.out.mix.rep.waits
  generalize hS5 : D.setFuse s oa = s5 at *
  have HS5 := Lib.hid hS5
  clear hS5
  have HRV : Hid (rv (.slice A5 s5.safe.length c5) (.slice A6 s5.waits.length c6) s5 = .agg #[.slice A5 s5.safe.length c5, .slice A6 s5.waits.length c6, .int .i64 s5.fuse, .bool s5.down, .int .i64 (s5.writes : Int)]) := rfl
  unfold rv
  generalize s5.safe.length = n5 at *
  generalize s5.waits.length = n6 at *
  generalize s5.fuse = fu5 at *
  generalize s5.down = dn5 at *
  generalize (s5.writes : Int) = nw5 at *
  go_wp2_with (first
    | (refine wpList_store_box BX5.out rfl _ _ rfl (.slice A5 n5 c5) (.slice A6 n6 c6) fu5 dn5 nw5 rfl rfl rfl rfl ?_; intro w6 hx6 hk6; have BX6 := Lib.hid hx6; have HK6 := Lib.hid hk6; clear hx6 hk6)
    | fail)
  simp only [Act.put]
  have HT6 := Lib.hid (HT5.out.keepS HM.out HK6.out (fun b e => by have e : b = w.heap.size := e; have := HSZ.out; omega))
  have BR6 := Lib.hid (BR5.out.keep HK6.out (by show ¬ w.heap.size + 1 + 1 = w.heap.size; omega))
  have RG := Lib.hid BX6.out.range
  have NRG : Hid (¬ w.heap.size = w.heap.size + 1 + 1) := by show ¬ w.heap.size = w.heap.size + 1 + 1; omega
  have AL := alike_any (HT6.out.mix.dsk.keep (F := fun _ => False) (Keep.refl _ w6).drew (fun _ _ h => h)) (HT6.out.mix.rep.keep (F := fun _ => False) (Keep.refl _ w6).drew (fun _ _ h => h) (fun _ _ h => h))
  rw [HRV.out] at AL
  have AL := Lib.hid AL
  have hS : Hid (Keep (fun b => b = w.heap.size + 1 + 1) w6 w6.drew) := (Keep.refl _ _).drew
  refine lz_start 6 1000 (fun W => Keep (fun b => b = w.heap.size + 1 + 1) w6 W) rfl (by kernel_rfl) ?_
  refine lz_take 0 107 (v := ?_) rfl rfl (by kernel_rfl) (by kernel_rfl) (by kernel_rfl) (by kernel_rfl) (fun _ _ _ _ _ h => h) (by rfl) hS.out (fun W hW => ?_) ?_
  rotate_left
  · refine run_load_mid 31 (.tmp 4) ?_ (w.heap.size) 0 ?_ [.slice A5 n5 c5, .slice A6 n6 c6, .int .i64 fu5, .bool dn5, .int .i64 nw5] _ (range_keep RG.out hW NRG.out) Try.underlying31 rfl Try.size31 <;> rfl
  try simp only [Act.put, List.setIfInBounds_toArray, List.set_cons_zero, List.set_cons_succ]
  refine lz_take 1 108 (v := ?_) rfl rfl (by kernel_rfl) (by kernel_rfl) (by kernel_rfl) (by kernel_rfl) (fun _ _ _ _ _ h => h) (by rfl) hS.out (fun W hW => ?_) ?_
  rotate_left
  · go_simp; try rfl
  try simp only [Act.put, List.setIfInBounds_toArray, List.set_cons_zero, List.set_cons_succ]
  refine lz_take 2 109 (v := ?_) rfl rfl (by kernel_rfl) (by kernel_rfl) (by kernel_rfl) (by kernel_rfl) (fun _ _ _ _ _ h => h) (by rfl) hS.out (fun W hW => ?_) ?_
  rotate_left
  · refine run_load_mid 31 (.tmp 4) ?_ (w.heap.size) 0 ?_ [.slice A5 n5 c5, .slice A6 n6 c6, .int .i64 fu5, .bool dn5, .int .i64 nw5] _ (range_keep RG.out hW NRG.out) Try.underlying31 rfl Try.size31 <;> rfl
  try simp only [Act.put, List.setIfInBounds_toArray, List.set_cons_zero, List.set_cons_succ]
  refine lz_op 3 rfl rfl (by kernel_rfl) (fun K hK => ?_)
  go_simp
  refine AL.out.mono ?_
  rintro e w8 ⟨rfl, hb8⟩
  have hb8' : Below w6.heap.size w6 w8 := btr (Below.refl _ w6).drew hb8
  have hS8 : Hid (Keep (fun b => b = w.heap.size + 1 + 1) w6 w8) := Keep.of_below hb8'
  have HT8 := Lib.hid (HT6.out.below hb8')
  have BR8 := Lib.hid (BR6.out.below hb8')
  refine hK.out _ _ hS8.out ?_
  clear hK K hS hb8 hb8'
  have hS := hS8
  refine lz_op 4 rfl rfl (by kernel_rfl) (fun K hK => ?_)
  refine wp_store_mid 31 _ _ rfl (w.heap.size + 1 + 1) 0 #[.slice A5 n5 c5, .slice A6 n6 c6, .int .i64 fu5, .bool dn5, .int .i64 nw5] rfl rfl BR8.out.there Try.size31 (five_one _ _ _ _ _ rfl rfl) ?_
  have HK9 : Hid (Keep (fun k => k = w.heap.size + 1 + 1) w8 (w8.setCells (w.heap.size + 1 + 1) 0 [.slice A5 n5 c5, .slice A6 n6 c6, .int .i64 fu5, .bool dn5, .int .i64 nw5])) := keepN w8 (w.heap.size + 1 + 1) 0 [.slice A5 n5 c5, .slice A6 n6 c6, .int .i64 fu5, .bool dn5, .int .i64 nw5]
  have hS : Hid (Keep (fun b => b = w.heap.size + 1 + 1) w6 (w8.setCells (w.heap.size + 1 + 1) 0 [.slice A5 n5 c5, .slice A6 n6 c6, .int .i64 fu5, .bool dn5, .int .i64 nw5])) := hS8.out.trans HK9.out (fun _ h => .inl h)
  refine hK.out _ _ hS.out ?_
  clear hK K
  simp only [Act.put]
  refine lz_take 5 7 (v := ?_) rfl rfl (by kernel_rfl) (by kernel_rfl) (by kernel_rfl) (by kernel_rfl) (fun _ _ _ _ _ h => h) (by rfl) hS.out (fun W hW => ?_) ?_
  rotate_left
  · go_simp; try rfl
  try simp only [Act.put, List.setIfInBounds_toArray]
  refine lz_done (by kernel_rfl) ?_
  have HT9 := Lib.hid (HT8.out.keepS HM.out HK9.out (fun b e => by have e : b = w.heap.size + 1 + 1 := e; have := HSZ.out; omega))
  have HX9 : Hid (Box (w8.setCells (w.heap.size + 1 + 1) 0 [.slice A5 n5 c5, .slice A6 n6 c6, .int .i64 fu5, .bool dn5, .int .i64 nw5]) _ _ _ _ _ _) := BR8.out.setAll (.slice A5 n5 c5) (.slice A6 n6 c6) fu5 dn5 nw5
  generalize w8.setCells (w.heap.size + 1 + 1) 0 [.slice A5 n5 c5, .slice A6 n6 c6, .int .i64 fu5, .bool dn5, .int .i64 nw5] = w9 at *
  go_wp2
  refine bodyPost_ret (results_five2 rfl _ _ (w.heap.size + 1 + 1) (.slice A5 n5 c5) (.slice A6 n6 c6) fu5 dn5 nw5 (.bool true) rfl rfl HX9.out.range) rfl ?_
  rw [HS5.out]
  refine ⟨wv4, _, _, ?_, HT9.out.weak⟩
  rw [HRV.out]
  rfl
end Go.Proofs.Ytcbiagdpolhbfaa
