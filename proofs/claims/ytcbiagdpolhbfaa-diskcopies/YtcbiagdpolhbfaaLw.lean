/- step: an operation done on both: Read. -/
import Derived.Test.YtcbiagdpolhbfaaLs
namespace Go.Proofs.Ytcbiagdpolhbfaa
open Go.RowKit
open D (St)

set_option maxRecDepth 100000 in
set_option maxHeartbeats 2000000 in
theorem step_read {w : World} {p g : Nat} {wv : Value} {A A2 : Option Addr} {c c2 : Nat} {s : St} {n1 n2 : Nat} {fu nw : Int} {dn : Bool} (HM : Hid (Mix w p g wv (.slice A n1 c) (.slice A2 n2 c2) s s)) (HE : Hid (rv (.slice A n1 c) (.slice A2 n2 c2) s = .agg #[.slice A n1 c, .slice A2 n2 c2, .int .i64 fu, .bool dn, .int .i64 nw]))
    (od : Nat) (oa : Int) (oc : UInt8) (ok' : Nat) (on : Int) (LA : Option Addr) (ol lc : Nat) (hod : od < 256) (hr : od % 5 = 1) :
    Calls Try.prog 11 #[.pointer (some ⟨p, 0, none⟩), .agg #[.slice A n1 c, .slice A2 n2 c2, .int .i64 fu, .bool dn, .int .i64 nw], .agg #[.int .u8 (od : Int), .int .i64 oa, .int .u8 ((oc.toNat : Nat) : Int), .int .u16 (ok' : Int), .int .i8 on, .slice LA ol lc]] w fun e w' => ∃ wv' sv' rw', e = .returned (.tuple #[rv sv' rw' s, .bool true]) ∧ Sp w w.heap.size w' p g wv (.slice A n1 c) (.slice A2 n2 c2) wv' sv' rw' s s := by
  have hz := (zero_of_info Try.zero31).1
  have BX : Hid (Box (((w.alloc (.cells #[.slice A n1 c, .slice A2 n2 c2, .int .i64 fu, .bool dn, .int .i64 nw] 31)).alloc (.cells #[.int .u8 (od : Int), .int .i64 oa, .int .u8 ((oc.toNat : Nat) : Int), .int .u16 (ok' : Int), .int .i8 on, .slice LA ol lc] 38)).alloc (.cells #[.slice none 0 0, .slice none 0 0, .int .i64 0, .bool false, .int .i64 0] 31)) w.heap.size (.slice A n1 c) (.slice A2 n2 c2) fu dn nw) := ((Box.made w _ _ fu dn nw _ _ rfl).below (alb _)).below (alb _)
  have BR : Hid (Box (((w.alloc (.cells #[.slice A n1 c, .slice A2 n2 c2, .int .i64 fu, .bool dn, .int .i64 nw] 31)).alloc (.cells #[.int .u8 (od : Int), .int .i64 oa, .int .u8 ((oc.toNat : Nat) : Int), .int .u16 (ok' : Int), .int .i8 on, .slice LA ol lc] 38)).alloc (.cells #[.slice none 0 0, .slice none 0 0, .int .i64 0, .bool false, .int .i64 0] 31)) (w.heap.size + 1 + 1) (.slice none 0 0) (.slice none 0 0) 0 false 0) := Box.made ((w.alloc (.cells #[.slice A n1 c, .slice A2 n2 c2, .int .i64 fu, .bool dn, .int .i64 nw] 31)).alloc (.cells #[.int .u8 (od : Int), .int .i64 oa, .int .u8 ((oc.toNat : Nat) : Int), .int .u16 (ok' : Int), .int .i8 on, .slice LA ol lc] 38)) _ _ 0 false 0 _ _ (by simp)
  have BO : Hid (World.rangeAt (((w.alloc (.cells #[.slice A n1 c, .slice A2 n2 c2, .int .i64 fu, .bool dn, .int .i64 nw] 31)).alloc (.cells #[.int .u8 (od : Int), .int .i64 oa, .int .u8 ((oc.toNat : Nat) : Int), .int .u16 (ok' : Int), .int .i8 on, .slice LA ol lc] 38)).alloc (.cells #[.slice none 0 0, .slice none 0 0, .int .i64 0, .bool false, .int .i64 0] 31)) (w.heap.size + 1) 0 [.int .u8 (od : Int), .int .i64 oa, .int .u8 ((oc.toNat : Nat) : Int), .int .u16 (ok' : Int), .int .i8 on, .slice LA ol lc]) := range_keep (F := fun _ => False) (range_lit (w.alloc (.cells #[.slice A n1 c, .slice A2 n2 c2, .int .i64 fu, .bool dn, .int .i64 nw] 31)) _ _ _ (by simp)) (Keep.of_below (alb _)) (fun h => h)
  have HB3 : Hid (Below w.heap.size w (((w.alloc (.cells #[.slice A n1 c, .slice A2 n2 c2, .int .i64 fu, .bool dn, .int .i64 nw] 31)).alloc (.cells #[.int .u8 (od : Int), .int .i64 oa, .int .u8 ((oc.toNat : Nat) : Int), .int .u16 (ok' : Int), .int .i8 on, .slice LA ol lc] 38)).alloc (.cells #[.slice none 0 0, .slice none 0 0, .int .i64 0, .bool false, .int .i64 0] 31))) := bal (bal (alb _) _) _
  have HT := Lib.hid (Sp.start HM.out HB3.out)
  have HSZ : Hid ((World.heap (((w.alloc (.cells #[.slice A n1 c, .slice A2 n2 c2, .int .i64 fu, .bool dn, .int .i64 nw] 31)).alloc (.cells #[.int .u8 (od : Int), .int .i64 oa, .int .u8 ((oc.toNat : Nat) : Int), .int .u16 (ok' : Int), .int .i8 on, .slice LA ol lc] 38)).alloc (.cells #[.slice none 0 0, .slice none 0 0, .int .i64 0, .bool false, .int .i64 0] 31))).size = w.heap.size + 3) := by simp [Hid]
  go_enter Try.func11, Try.ntmps11
  go_wp2_with fail
  generalize (((w.alloc (.cells #[.slice A n1 c, .slice A2 n2 c2, .int .i64 fu, .bool dn, .int .i64 nw] 31)).alloc (.cells #[.int .u8 (od : Int), .int .i64 oa, .int .u8 ((oc.toNat : Nat) : Int), .int .u16 (ok' : Int), .int .i8 on, .slice LA ol lc] 38)).alloc (.cells #[.slice none 0 0, .slice none 0 0, .int .i64 0, .bool false, .int .i64 0] 31)) = w3 at *
  refine (read_any HT.out.mix.dsk oa).mono ?_
  rintro e w4 ⟨v4, rfl, ho4, hb4⟩
  have HV4 := Lib.hid (Byts.own ho4)
  have NV : Hid (∀ k, v4.ownBlock = some k → ¬ k = w.heap.size + 1 + 1) := fun k hk e => by have := (ho4.lt k hk).1; have := HSZ.out; omega
  have HT4 := Lib.hid (HT.out.below hb4)
  have BX4 := Lib.hid (BX.out.below hb4)
  have BR4 := Lib.hid (BR.out.below hb4)
  have BO4 := Lib.hid (range_keep (F := fun _ => False) BO.out (Keep.of_below hb4) (fun h => h))
  clear ho4 hb4 HT BX BR BO
  have o1 : w4.cell? ⟨w.heap.size + 1, 1, none⟩ = some (.int .i64 oa) := BO4.out 1 _ rfl
  have RG4 := Lib.hid BX4.out.range
  have HQ := refread_any HT4.out.mix.rep oa
  rw [HE.out] at HQ
  have HQ := Lib.hid HQ
  go_wp2_with (first
    | (refine wpList_load_mid rfl 31 _ rfl w.heap.size 0 rfl [.slice A n1 c, .slice A2 n2 c2, .int .i64 fu, .bool dn, .int .i64 nw] _ RG4.out Try.underlying31 rfl Try.size31 ?_)
    | fail)
  refine HQ.out.mono ?_
  rintro e w6 ⟨rfl, hb6⟩
  have HT6 := Lib.hid (HT4.out.below hb6)
  have BX6 := Lib.hid (BX4.out.below hb6)
  have BR6 := Lib.hid (BR4.out.below hb6)
  have HV6 := Lib.hid (HV4.out.below hb6)
  have HVR : Hid (∀ k, v4.ownBlock = some k → ¬ k = w.heap.size + 1 + 1) := fun k hk => NV.out k hk
  clear hb6 HQ HT4 BX4 BR4 BO4 HV4 o1
  generalize readE s oa = ee at *
  generalize readB s oa = sb at *
  have HRV := HE
  go_wp2
  have RG := Lib.hid BX6.out.range
  have NRG : Hid (¬ w.heap.size = w.heap.size + 1 + 1) := by show ¬ w.heap.size = w.heap.size + 1 + 1; omega
  have AL := alike_any (HT6.out.mix.dsk.keep (F := fun _ => False) (Keep.refl _ w6).drew (fun _ _ h => h)) (HT6.out.mix.rep.keep (F := fun _ => False) (Keep.refl _ w6).drew (fun _ _ h => h) (fun _ _ h => h))
  rw [HRV.out] at AL
  have AL := Lib.hid AL
  have hS : Hid (Keep (fun b => b = w.heap.size + 1 + 1) w6 w6.drew) := (Keep.refl _ _).drew
  refine lz_start 17 1000 (fun W => Keep (fun b => b = w.heap.size + 1 + 1) w6 W) rfl (by kernel_rfl) ?_
  refine lz_take 0 64 (v := ?_) rfl rfl (by kernel_rfl) (by kernel_rfl) (by kernel_rfl) (by kernel_rfl) (fun _ _ _ _ _ h => h) (by rfl) hS.out (fun W hW => ?_) ?_
  rotate_left
  · refine run_load_mid 31 (.tmp 4) ?_ (w.heap.size) 0 ?_ [.slice A n1 c, .slice A2 n2 c2, .int .i64 fu, .bool dn, .int .i64 nw] _ (range_keep RG.out hW NRG.out) Try.underlying31 rfl Try.size31 <;> rfl
  try simp only [Act.put, List.setIfInBounds_toArray, List.set_cons_zero, List.set_cons_succ]
  refine lz_take 1 65 (v := ?_) rfl rfl (by kernel_rfl) (by kernel_rfl) (by kernel_rfl) (by kernel_rfl) (fun _ _ _ _ _ h => h) (by rfl) hS.out (fun W hW => ?_) ?_
  rotate_left
  · go_simp; try rfl
  try simp only [Act.put, List.setIfInBounds_toArray, List.set_cons_zero, List.set_cons_succ]
  refine lz_take 2 66 (v := ?_) rfl rfl (by kernel_rfl) (by kernel_rfl) (by kernel_rfl) (by kernel_rfl) (fun _ _ _ _ _ h => h) (by rfl) hS.out (fun W hW => ?_) ?_
  rotate_left
  · go_simp; try rfl
  try simp only [Act.put, List.setIfInBounds_toArray, List.set_cons_zero, List.set_cons_succ]
  refine lz_take 3 67 (v := ?_) rfl rfl (by kernel_rfl) (by kernel_rfl) (by kernel_rfl) (by kernel_rfl) (fun _ _ _ _ _ h => h) (by rfl) hS.out (fun W hW => ?_) ?_
  rotate_left
  · go_simp; try rfl
  try simp only [Act.put, List.setIfInBounds_toArray, List.set_cons_zero, List.set_cons_succ]
  refine lz_take 4 68 (v := ?_) rfl rfl (by kernel_rfl) (by kernel_rfl) (by kernel_rfl) (by kernel_rfl) (fun _ _ _ _ _ h => h) (by rfl) hS.out (fun W hW => ?_) ?_
  rotate_left
  · go_simp; try rfl
  try simp only [Act.put, List.setIfInBounds_toArray, List.set_cons_zero, List.set_cons_succ]
  refine lz_take 5 69 (v := ?_) rfl rfl (by kernel_rfl) (by kernel_rfl) (by kernel_rfl) (by kernel_rfl) (fun _ _ _ _ _ h => h) (by rfl) hS.out (fun W hW => ?_) ?_
  rotate_left
  · go_simp; try rfl
  try simp only [Act.put, List.setIfInBounds_toArray, List.set_cons_zero, List.set_cons_succ]
  refine lz_take 6 70 (v := ?_) rfl rfl (by kernel_rfl) (by kernel_rfl) (by kernel_rfl) (by kernel_rfl) (fun _ _ _ _ _ h => h) (by rfl) hS.out (fun W hW => ?_) ?_
  rotate_left
  · have q0 := (HV6.out.keep hW HVR.out).conv; go_simp; try rfl
  try simp only [Act.put, List.setIfInBounds_toArray, List.set_cons_zero, List.set_cons_succ]
  refine lz_take 7 71 (v := ?_) rfl rfl (by kernel_rfl) (by kernel_rfl) (by kernel_rfl) (by kernel_rfl) (fun _ _ _ _ _ h => h) (by rfl) hS.out (fun W hW => ?_) ?_
  rotate_left
  · go_simp; try rfl
  try simp only [Act.put, List.setIfInBounds_toArray, List.set_cons_zero, List.set_cons_succ]
  refine lz_take 8 72 (v := ?_) rfl rfl (by kernel_rfl) (by kernel_rfl) (by kernel_rfl) (by kernel_rfl) (fun _ _ _ _ _ h => h) (by rfl) hS.out (fun W hW => ?_) ?_
  rotate_left
  · go_simp; try rfl
  try simp only [Act.put, List.setIfInBounds_toArray, List.set_cons_zero, List.set_cons_succ]
  refine lz_take 9 73 (v := ?_) rfl rfl (by kernel_rfl) (by kernel_rfl) (by kernel_rfl) (by kernel_rfl) (fun _ _ _ _ _ h => h) (by rfl) hS.out (fun W hW => ?_) ?_
  rotate_left
  · go_simp; try rfl
  try simp only [Act.put, List.setIfInBounds_toArray, List.set_cons_zero, List.set_cons_succ]
  refine lz_take 10 74 (v := ?_) rfl rfl (by kernel_rfl) (by kernel_rfl) (by kernel_rfl) (by kernel_rfl) (fun _ _ _ _ _ h => h) (by rfl) hS.out (fun W hW => ?_) ?_
  rotate_left
  · go_simp; try rfl
  try simp only [Act.put, List.setIfInBounds_toArray, List.set_cons_zero, List.set_cons_succ]
  refine lz_take 11 75 (v := ?_) rfl rfl (by kernel_rfl) (by kernel_rfl) (by kernel_rfl) (by kernel_rfl) (fun _ _ _ _ _ h => h) (by rfl) hS.out (fun W hW => ?_) ?_
  rotate_left
  · go_simp; try rfl
  try simp only [Act.put, List.setIfInBounds_toArray, List.set_cons_zero, List.set_cons_succ]
  refine lz_take 12 76 (v := ?_) rfl rfl (by kernel_rfl) (by kernel_rfl) (by kernel_rfl) (by kernel_rfl) (fun _ _ _ _ _ h => h) (by rfl) hS.out (fun W hW => ?_) ?_
  rotate_left
  · refine run_load_mid 31 (.tmp 4) ?_ (w.heap.size) 0 ?_ [.slice A n1 c, .slice A2 n2 c2, .int .i64 fu, .bool dn, .int .i64 nw] _ (range_keep RG.out hW NRG.out) Try.underlying31 rfl Try.size31 <;> rfl
  try simp only [Act.put, List.setIfInBounds_toArray, List.set_cons_zero, List.set_cons_succ]
  refine lz_opg 13 rfl (by rfl) (by kernel_rfl) (fun K hK => ?_)
  go_simp
  refine AL.out.mono ?_
  rintro e w8 ⟨rfl, hb8⟩
  have hb8' : Below w6.heap.size w6 w8 := btr (Below.refl _ w6).drew hb8
  have hS8 : Hid (Keep (fun b => b = w.heap.size + 1 + 1) w6 w8) := Keep.of_below hb8'
  have HT8 := Lib.hid (HT6.out.below hb8')
  have BR8 := Lib.hid (BR6.out.below hb8')
  refine hK.out _ _ hS8.out ?_
  clear hK K hS hb8 hb8'
  have hS := hS8
  refine lz_take 14 78 (v := ?_) rfl rfl (by kernel_rfl) (by kernel_rfl) (by kernel_rfl) (by kernel_rfl) (fun _ _ _ _ _ h => h) (by rfl) hS.out (fun W hW => ?_) ?_
  rotate_left
  · go_simp; try rfl
  try simp only [Act.put, List.setIfInBounds_toArray, List.set_cons_zero, List.set_cons_succ]
  refine lz_op 15 rfl rfl (by kernel_rfl) (fun K hK => ?_)
  refine wp_store_mid 31 _ _ rfl (w.heap.size + 1 + 1) 0 #[.slice A n1 c, .slice A2 n2 c2, .int .i64 fu, .bool dn, .int .i64 nw] rfl rfl BR8.out.there Try.size31 (five_one _ _ _ _ _ rfl rfl) ?_
  have HK9 : Hid (Keep (fun k => k = w.heap.size + 1 + 1) w8 (w8.setCells (w.heap.size + 1 + 1) 0 [.slice A n1 c, .slice A2 n2 c2, .int .i64 fu, .bool dn, .int .i64 nw])) := keepN w8 (w.heap.size + 1 + 1) 0 [.slice A n1 c, .slice A2 n2 c2, .int .i64 fu, .bool dn, .int .i64 nw]
  have hS : Hid (Keep (fun b => b = w.heap.size + 1 + 1) w6 (w8.setCells (w.heap.size + 1 + 1) 0 [.slice A n1 c, .slice A2 n2 c2, .int .i64 fu, .bool dn, .int .i64 nw])) := hS8.out.trans HK9.out (fun _ h => .inl h)
  refine hK.out _ _ hS.out ?_
  clear hK K
  simp only [Act.put]
  refine lz_take 16 7 (v := ?_) rfl rfl (by kernel_rfl) (by kernel_rfl) (by kernel_rfl) (by kernel_rfl) (fun _ _ _ _ _ h => h) (by rfl) hS.out (fun W hW => ?_) ?_
  rotate_left
  · go_simp; try rfl
  try simp only [Act.put, List.setIfInBounds_toArray]
  refine lz_done (by kernel_rfl) ?_
  have HT9 := Lib.hid (HT8.out.keepS HM.out HK9.out (fun b e => by have e : b = w.heap.size + 1 + 1 := e; have := HSZ.out; omega))
  have HX9 : Hid (Box (w8.setCells (w.heap.size + 1 + 1) 0 [.slice A n1 c, .slice A2 n2 c2, .int .i64 fu, .bool dn, .int .i64 nw]) _ _ _ _ _ _) := BR8.out.setAll (.slice A n1 c) (.slice A2 n2 c2) fu dn nw
  generalize w8.setCells (w.heap.size + 1 + 1) 0 [.slice A n1 c, .slice A2 n2 c2, .int .i64 fu, .bool dn, .int .i64 nw] = w9 at *
  go_wp2
  refine bodyPost_ret (results_five2 rfl _ _ (w.heap.size + 1 + 1) (.slice A n1 c) (.slice A2 n2 c2) fu dn nw (.bool true) rfl rfl HX9.out.range) rfl ?_
  refine ⟨wv, _, _, ?_, HT9.out.weak⟩
  rw [HRV.out]
  rfl
end Go.Proofs.Ytcbiagdpolhbfaa
