/- step: an operation done on both: Write. -/
import Derived.Test.YtcbiagdpolhbfaaLs
namespace Go.Proofs.Ytcbiagdpolhbfaa
open Go.RowKit
open D (St)

set_option maxRecDepth 100000 in
set_option maxHeartbeats 2000000 in
theorem step_write {w : World} {p g : Nat} {wv : Value} {A A2 : Option Addr} {c c2 : Nat} {s : St} {n1 n2 : Nat} {fu nw : Int} {dn : Bool} (HM : Hid (Mix w p g wv (.slice A n1 c) (.slice A2 n2 c2) s s)) (HE : Hid (rv (.slice A n1 c) (.slice A2 n2 c2) s = .agg #[.slice A n1 c, .slice A2 n2 c2, .int .i64 fu, .bool dn, .int .i64 nw]))
    (od : Nat) (oa : Int) (oc : UInt8) (ok' : Nat) (on : Int) (LA : Option Addr) (ol lc : Nat) (hod : od < 256) (hr : od % 5 = 0) (hk : ok' < 65536) (hn1 : -128 ≤ on) (hn2 : on ≤ 127) (h1 : s.waits.length ≤ 1000000) (h2 : s.writes ≤ 1000000) :
    Calls Try.prog 11 #[.pointer (some ⟨p, 0, none⟩), .agg #[.slice A n1 c, .slice A2 n2 c2, .int .i64 fu, .bool dn, .int .i64 nw], .agg #[.int .u8 (od : Int), .int .i64 oa, .int .u8 ((oc.toNat : Nat) : Int), .int .u16 (ok' : Int), .int .i8 on, .slice LA ol lc]] w fun e w' => ∃ wv' sv' rw', e = .returned (.tuple #[rv sv' rw' (D.write s oa (bytesL oc ok' on)), .bool true]) ∧ Sp w w.heap.size w' p g wv (.slice A n1 c) (.slice A2 n2 c2) wv' sv' rw' (D.write s oa (bytesL oc ok' on)) (D.write s oa (bytesL oc ok' on)) := by
  have hz := (zero_of_info Try.zero31).1
  have BX : Hid (Box (((w.alloc (.cells #[.slice A n1 c, .slice A2 n2 c2, .int .i64 fu, .bool dn, .int .i64 nw] 31)).alloc (.cells #[.int .u8 (od : Int), .int .i64 oa, .int .u8 ((oc.toNat : Nat) : Int), .int .u16 (ok' : Int), .int .i8 on, .slice LA ol lc] 38)).alloc (.cells #[.slice none 0 0, .slice none 0 0, .int .i64 0, .bool false, .int .i64 0] 31)) w.heap.size (.slice A n1 c) (.slice A2 n2 c2) fu dn nw) := ((Box.made w _ _ fu dn nw _ _ rfl).below (alb _)).below (alb _)
  have BR : Hid (Box (((w.alloc (.cells #[.slice A n1 c, .slice A2 n2 c2, .int .i64 fu, .bool dn, .int .i64 nw] 31)).alloc (.cells #[.int .u8 (od : Int), .int .i64 oa, .int .u8 ((oc.toNat : Nat) : Int), .int .u16 (ok' : Int), .int .i8 on, .slice LA ol lc] 38)).alloc (.cells #[.slice none 0 0, .slice none 0 0, .int .i64 0, .bool false, .int .i64 0] 31)) (w.heap.size + 1 + 1) (.slice none 0 0) (.slice none 0 0) 0 false 0) := Box.made ((w.alloc (.cells #[.slice A n1 c, .slice A2 n2 c2, .int .i64 fu, .bool dn, .int .i64 nw] 31)).alloc (.cells #[.int .u8 (od : Int), .int .i64 oa, .int .u8 ((oc.toNat : Nat) : Int), .int .u16 (ok' : Int), .int .i8 on, .slice LA ol lc] 38)) _ _ 0 false 0 _ _ (by simp)
  have BO : Hid (World.rangeAt (((w.alloc (.cells #[.slice A n1 c, .slice A2 n2 c2, .int .i64 fu, .bool dn, .int .i64 nw] 31)).alloc (.cells #[.int .u8 (od : Int), .int .i64 oa, .int .u8 ((oc.toNat : Nat) : Int), .int .u16 (ok' : Int), .int .i8 on, .slice LA ol lc] 38)).alloc (.cells #[.slice none 0 0, .slice none 0 0, .int .i64 0, .bool false, .int .i64 0] 31)) (w.heap.size + 1) 0 [.int .u8 (od : Int), .int .i64 oa, .int .u8 ((oc.toNat : Nat) : Int), .int .u16 (ok' : Int), .int .i8 on, .slice LA ol lc]) := range_keep (F := fun _ => False) (range_lit (w.alloc (.cells #[.slice A n1 c, .slice A2 n2 c2, .int .i64 fu, .bool dn, .int .i64 nw] 31)) _ _ _ (by simp)) (Keep.of_below (alb _)) (fun h => h)
  have HB3 : Hid (Below w.heap.size w (((w.alloc (.cells #[.slice A n1 c, .slice A2 n2 c2, .int .i64 fu, .bool dn, .int .i64 nw] 31)).alloc (.cells #[.int .u8 (od : Int), .int .i64 oa, .int .u8 ((oc.toNat : Nat) : Int), .int .u16 (ok' : Int), .int .i8 on, .slice LA ol lc] 38)).alloc (.cells #[.slice none 0 0, .slice none 0 0, .int .i64 0, .bool false, .int .i64 0] 31))) := bal (bal (alb _) _) _
  have HT := Lib.hid (Sp.start HM.out HB3.out)
  have HSZ : Hid ((World.heap (((w.alloc (.cells #[.slice A n1 c, .slice A2 n2 c2, .int .i64 fu, .bool dn, .int .i64 nw] 31)).alloc (.cells #[.int .u8 (od : Int), .int .i64 oa, .int .u8 ((oc.toNat : Nat) : Int), .int .u16 (ok' : Int), .int .i8 on, .slice LA ol lc] 38)).alloc (.cells #[.slice none 0 0, .slice none 0 0, .int .i64 0, .bool false, .int .i64 0] 31))).size = w.heap.size + 3) := by simp [Hid]
  go_enter Try.func11, Try.ntmps11
  go_wp2
  generalize (((w.alloc (.cells #[.slice A n1 c, .slice A2 n2 c2, .int .i64 fu, .bool dn, .int .i64 nw] 31)).alloc (.cells #[.int .u8 (od : Int), .int .i64 oa, .int .u8 ((oc.toNat : Nat) : Int), .int .u16 (ok' : Int), .int .i8 on, .slice LA ol lc] 38)).alloc (.cells #[.slice none 0 0, .slice none 0 0, .int .i64 0, .bool false, .int .i64 0] 31)) = w3 at *
  have NFX : Hid (¬ fp p g wv w.heap.size) := ((HT).out.box HM.out (by omega) (by have := HSZ.out; omega))
  have NFR : Hid (¬ fp p g wv (w.heap.size + 1 + 1)) := ((HT).out.box HM.out (by omega) (by have := HSZ.out; omega))
  have NFO : Hid (¬ fp p g wv (w.heap.size + 1)) := ((HT).out.box HM.out (by omega) (by have := HSZ.out; omega))
  have O1 : Hid (w3.cell? ⟨w.heap.size + 1, 1, none⟩ = some (.int .i64 oa)) := BO.out 1 _ rfl
  have hS : Hid (Keep (fp p g wv) w3 w3.drew) := (Keep.refl _ _).drew
  refine lz_start 7 1000 (fun W => Keep (fp p g wv) w3 W) rfl (by kernel_rfl) ?_
  refine lz_take 0 23 (v := ?_) rfl rfl (by kernel_rfl) (by kernel_rfl) (by kernel_rfl) (by kernel_rfl) (fun _ _ _ _ _ h => h) (by rfl) hS.out (fun W hW => ?_) ?_
  rotate_left
  · go_simp; try rfl
  try simp only [Act.put, List.setIfInBounds_toArray, List.set_cons_zero, List.set_cons_succ]
  refine lz_take 1 24 (v := ?_) rfl rfl (by kernel_rfl) (by kernel_rfl) (by kernel_rfl) (by kernel_rfl) (fun _ _ _ _ _ h => h) (by rfl) hS.out (fun W hW => ?_) ?_
  rotate_left
  · go_simp; try rfl
  try simp only [Act.put, List.setIfInBounds_toArray, List.set_cons_zero, List.set_cons_succ]
  refine lz_take 2 25 (v := ?_) rfl rfl (by kernel_rfl) (by kernel_rfl) (by kernel_rfl) (by kernel_rfl) (fun _ _ _ _ _ h => h) (by rfl) hS.out (fun W hW => ?_) ?_
  rotate_left
  · have q0 := hW.cell O1.out NFO.out; go_simp; try rfl
  try simp only [Act.put, List.setIfInBounds_toArray, List.set_cons_zero, List.set_cons_succ]
  refine lz_take 3 26 (v := ?_) rfl rfl (by kernel_rfl) (by kernel_rfl) (by kernel_rfl) (by kernel_rfl) (fun _ _ _ _ _ h => h) (by rfl) hS.out (fun W hW => ?_) ?_
  rotate_left
  · refine run_load_mid 38 (.tmp 5) ?_ (w.heap.size + 1) 0 ?_ [.int .u8 (od : Int), .int .i64 oa, .int .u8 ((oc.toNat : Nat) : Int), .int .u16 (ok' : Int), .int .i8 on, .slice LA ol lc] _ (range_keep BO.out hW NFO.out) Try.underlying38 rfl Try.size38 <;> rfl
  try simp only [Act.put, List.setIfInBounds_toArray, List.set_cons_zero, List.set_cons_succ]
  refine lz_op 4 rfl rfl (by kernel_rfl) (fun K hK => ?_)
  go_simp
  refine (bytes_any od oa oc ok' on LA ol lc hk hn1 hn2 w3.drew).mono ?_
  rintro e w4 ⟨v4, rfl, hv4, hb4⟩
  have hb4' : Below w3.heap.size w3 w4 := btr (Below.refl _ w3).drew hb4
  have HV4 := Lib.hid hv4
  have HT4 := Lib.hid (HT.out.below hb4')
  have hS4 : Hid (Keep (fp p g wv) w3 w4) := Keep.of_below hb4'
  refine hK.out _ _ hS4.out ?_
  clear hK K hS hv4 hb4 hb4'
  refine lz_op 5 rfl rfl (by kernel_rfl) (fun K hK => ?_)
  go_simp
  refine (write_any HT4.out.mix.dsk oa v4 (bytesL oc ok' on) HV4.out h1 h2).mono ?_
  rintro e w5 ⟨rfl, ht⟩
  have hk5 := ht.keep
  obtain ⟨wv5, ht5⟩ := HT4.out.disk ht
  have HT5 := Lib.hid ht5
  have hS : Hid (Keep (fp p g wv) w3 w5) := hS4.out.trans hk5 (fun _ h => .inl h)
  refine hK.out _ _ hS.out ?_
  clear hK K ht ht5 hk5 HV4 HT4 HT hS4
  refine lz_take 6 8 (v := ?_) rfl rfl (by kernel_rfl) (by kernel_rfl) (by kernel_rfl) (by kernel_rfl) (fun _ _ _ _ _ h => h) (by rfl) hS.out (fun W hW => ?_) ?_
  rotate_left
  · go_simp; try rfl
  try simp only [Act.put, List.setIfInBounds_toArray, List.set_cons_zero, List.set_cons_succ]
  refine lz_done (by kernel_rfl) ?_
  have BX5 := Lib.hid (BX.out.keep hS.out NFX.out)
  have BR5 := Lib.hid (BR.out.keep hS.out NFR.out)
  have BO5 := Lib.hid (range_keep BO.out hS.out NFO.out)
  have O5 := Lib.hid (hS.out.cell O1.out NFO.out)
  have H5S : Hid (w.heap.size + 3 ≤ w5.heap.size) := by have := hS.out.size; have := HSZ.out; show _ ≤ _; omega
  have HFP5 := Lib.hid HT5.out.mix.dsk.lt
  clear BX BR BO O1 NFX NFR NFO hS
  have HW : Hid (∀ W, Sp w w3.heap.size W p g wv (.slice A n1 c) (.slice A2 n2 c2) wv5 (.slice A n1 c) (.slice A2 n2 c2) (D.write s oa (bytesL oc ok' on)) s → Calls Try.prog 24 #[.agg #[.slice A n1 c, .slice A2 n2 c2, .int .i64 fu, .bool dn, .int .i64 nw], .int .i64 oa, .string (str (bytesL oc ok' on))] W fun e w' => ∃ sv' wv', e = .returned (.tuple #[rv sv' wv' (D.write s oa (bytesL oc ok' on)), .int .i64 (D.writeE s oa (bytesL oc ok' on))]) ∧ Made W w' (.slice A n1 c) (.slice A2 n2 c2) sv' wv' (D.write s oa (bytesL oc ok' on))) := fun W h => by
    have := refwrite_any h.mix.rep oa (bytesL oc ok' on) h1 h2
    rw [HE.out] at this
    exact this
  clear h1 h2
  generalize D.writeE s oa (bytesL oc ok' on) = ee at *
  go_wp2
  have hS : Hid (Below w5.heap.size w5 w5.drew) := (Below.refl _ _).drew
  have RG5 := Lib.hid BX5.out.range
  refine lz_start 13 1000 (fun W => Below w5.heap.size w5 W) rfl (by kernel_rfl) ?_
  refine lz_take 0 30 (v := ?_) rfl rfl (by kernel_rfl) (by kernel_rfl) (by kernel_rfl) (by kernel_rfl) (fun _ _ _ _ _ h => h) (by rfl) hS.out (fun W hW => ?_) ?_
  rotate_left
  · refine run_load_mid 31 (.tmp 4) ?_ w.heap.size 0 ?_ [.slice A n1 c, .slice A2 n2 c2, .int .i64 fu, .bool dn, .int .i64 nw] _ (range_keep (F := fun _ => False) RG5.out (Keep.of_below hW) (fun h => h)) Try.underlying31 rfl Try.size31 <;> rfl
  try simp only [Act.put, List.setIfInBounds_toArray, List.set_cons_zero, List.set_cons_succ]
  refine lz_take 1 31 (v := ?_) rfl rfl (by kernel_rfl) (by kernel_rfl) (by kernel_rfl) (by kernel_rfl) (fun _ _ _ _ _ h => h) (by rfl) hS.out (fun W hW => ?_) ?_
  rotate_left
  · go_simp; try rfl
  try simp only [Act.put, List.setIfInBounds_toArray, List.set_cons_zero, List.set_cons_succ]
  refine lz_take 2 32 (v := ?_) rfl rfl (by kernel_rfl) (by kernel_rfl) (by kernel_rfl) (by kernel_rfl) (fun _ _ _ _ _ h => h) (by rfl) hS.out (fun W hW => ?_) ?_
  rotate_left
  · have q0 := kept O5.out hW; go_simp; try rfl
  try simp only [Act.put, List.setIfInBounds_toArray, List.set_cons_zero, List.set_cons_succ]
  refine lz_take 3 33 (v := ?_) rfl rfl (by kernel_rfl) (by kernel_rfl) (by kernel_rfl) (by kernel_rfl) (fun _ _ _ _ _ h => h) (by rfl) hS.out (fun W hW => ?_) ?_
  rotate_left
  · refine run_load_mid 38 (.tmp 5) ?_ (w.heap.size + 1) 0 ?_ [.int .u8 (od : Int), .int .i64 oa, .int .u8 ((oc.toNat : Nat) : Int), .int .u16 (ok' : Int), .int .i8 on, .slice LA ol lc] _ (range_keep (F := fun _ => False) BO5.out (Keep.of_below hW) (fun h => h)) Try.underlying38 rfl Try.size38 <;> rfl
  try simp only [Act.put, List.setIfInBounds_toArray, List.set_cons_zero, List.set_cons_succ]
  refine lz_two 4 10 rfl rfl rfl rfl (by kernel_rfl) (fun K hK => ?_) (fun K hK => ?_)
  · go_simp
    refine (bytes_any od oa oc ok' on LA ol lc hk hn1 hn2 w5.drew).mono ?_
    rintro e w6 ⟨v6, rfl, hv6, hb6⟩
    have hb6' : Below w5.heap.size w5 w6 := btr (Below.refl _ w5).drew hb6
    have HV6 := Lib.hid hv6
    have HT6 := Lib.hid (HT5.out.below hb6')
    have BR6 := Lib.hid (BR5.out.below hb6')
    have hB6 := Lib.hid hb6'
    refine hK.out _ _ hB6.out ?_
    clear hK K hS hv6 hb6 hb6'
    refine lz_now (T := fun W => Below w5.heap.size w5 W ∧ Below w6.heap.size w6 W) (fun _ h => h.1) ?_
    have hS : Hid (Below w5.heap.size w5 w6 ∧ Below w6.heap.size w6 w6) := ⟨hB6.out, Below.refl _ _⟩
    refine lz_take 5 35 (v := ?_) rfl rfl (by kernel_rfl) (by kernel_rfl) (by kernel_rfl) (by kernel_rfl) (fun _ _ _ _ _ h => h) (by rfl) hS.out (fun W hW => ?_) ?_
    rotate_left
    · have q0 := (HV6.out.below hW.2).conv; go_simp; try rfl
    try simp only [Act.put, List.setIfInBounds_toArray, List.set_cons_zero, List.set_cons_succ]
    refine lz_two 6 10 rfl rfl rfl rfl (by kernel_rfl) (fun K hK => ?_) (fun K hK => ?_)
    · go_simp
      refine (HW.out w6 HT6.out).mono ?_
      rintro e w7 ⟨sv5, rw5, rfl, hm7⟩
      have HT7 := Lib.hid (HT6.out.ref hm7)
      have BR7 := Lib.hid (BR6.out.below hm7.2.1)
      have hB7 : Hid (Below w5.heap.size w5 w7 ∧ Below w6.heap.size w6 w7) := ⟨btr hB6.out hm7.2.1, hm7.2.1⟩
      clear hm7
      obtain ⟨A5, c5, rfl⟩ := row_form HT7.out.mix.rep.safe
      obtain ⟨A6, c6, rfl⟩ := row_form HT7.out.mix.rep.waits
      generalize hS5 : D.write s oa (bytesL oc ok' on) = s5 at *
      have HS5 := Lib.hid hS5
      clear hS5
      have HRV : Hid (rv (.slice A5 s5.safe.length c5) (.slice A6 s5.waits.length c6) s5 = .agg #[.slice A5 s5.safe.length c5, .slice A6 s5.waits.length c6, .int .i64 s5.fuse, .bool s5.down, .int .i64 (s5.writes : Int)]) := rfl
      unfold rv
      generalize s5.safe.length = n5 at *
      generalize s5.waits.length = n6 at *
      generalize s5.fuse = fu5 at *
      generalize s5.down = dn5 at *
      generalize (s5.writes : Int) = nw5 at *
      refine hK.out _ _ hB7.out ?_
      clear hK K hS
      have hS := hB7
      refine lz_take 7 29 (v := ?_) rfl rfl (by kernel_rfl) (by kernel_rfl) (by kernel_rfl) (by kernel_rfl) (fun _ _ _ _ _ h => h) (by rfl) hS.out (fun W hW => ?_) ?_
      rotate_left
      · go_simp; try rfl
      try simp only [Act.put, List.setIfInBounds_toArray, List.set_cons_zero, List.set_cons_succ]
      refine lz_take 8 37 (v := ?_) rfl rfl (by kernel_rfl) (by kernel_rfl) (by kernel_rfl) (by kernel_rfl) (fun _ _ _ _ _ h => h) (by rfl) hS.out (fun W hW => ?_) ?_
      rotate_left
      · go_simp; try rfl
      try simp only [Act.put, List.setIfInBounds_toArray, List.set_cons_zero, List.set_cons_succ]
      refine lz_take 9 38 (v := ?_) rfl rfl (by kernel_rfl) (by kernel_rfl) (by kernel_rfl) (by kernel_rfl) (fun _ _ _ _ _ h => h) (by rfl) hS.out (fun W hW => ?_) ?_
      rotate_left
      · go_simp; try rfl
      try simp only [Act.put, List.setIfInBounds_toArray, List.set_cons_zero, List.set_cons_succ]
      refine lz_op 10 rfl rfl (by kernel_rfl) (fun K hK => ?_)
      go_simp
      have HA8 := Lib.hid (alb (w := w7) (.cells #[.slice none 0 0, .slice none 0 0, .int .i64 0, .bool false, .int .i64 0] 31))
      have BX8 := Lib.hid (Box.made w7 (.slice none 0 0) (.slice none 0 0) 0 false 0 31 w7.heap.size rfl)
      have HT8 := Lib.hid (HT7.out.below HA8.out)
      have BR8 := Lib.hid (BR7.out.below HA8.out)
      have hB8 : Hid (Below w5.heap.size w5 (w7.alloc (.cells #[.slice none 0 0, .slice none 0 0, .int .i64 0, .bool false, .int .i64 0] 31)) ∧ Below w6.heap.size w6 (w7.alloc (.cells #[.slice none 0 0, .slice none 0 0, .int .i64 0, .bool false, .int .i64 0] 31))) := ⟨btr hB7.out.1 HA8.out, btr hB7.out.2 HA8.out⟩
      refine hK.out _ _ hB8.out ?_
      clear hK K hS
      have B9 : Hid (w5.heap.size ≤ w7.heap.size) := hB7.out.1.size
      have NB9 : Hid (∀ x, (Value.slice A5 n5 c5).ownBlock = some x ∨ (Value.slice A6 n6 c6).ownBlock = some x → ¬ x = w7.heap.size) := fun x q => by have := HT7.out.mix.rep.lt x q; omega
      generalize w7.alloc (.cells #[.slice none 0 0, .slice none 0 0, .int .i64 0, .bool false, .int .i64 0] 31) = w8 at *
      refine lz_op 11 rfl rfl (by kernel_rfl) (fun K hK => ?_)
      refine wp_store_mid 31 _ _ rfl (w7.heap.size) 0 #[.slice A5 n5 c5, .slice A6 n6 c6, .int .i64 fu5, .bool dn5, .int .i64 nw5] rfl rfl BX8.out.there Try.size31 (five_one _ _ _ _ _ rfl rfl) ?_
      have HKF : Hid (Keep (fun k => k = w7.heap.size) w8 (w8.setCells (w7.heap.size) 0 [.slice A5 n5 c5, .slice A6 n6 c6, .int .i64 fu5, .bool dn5, .int .i64 nw5])) := keepN w8 (w7.heap.size) 0 [.slice A5 n5 c5, .slice A6 n6 c6, .int .i64 fu5, .bool dn5, .int .i64 nw5]
      have hS := Lib.hid (And.intro (below_one hB8.out.1 HKF.out B9.out) (below_one hB8.out.2 HKF.out hB7.out.2.size))
      refine hK.out _ _ hS.out ?_
      clear hK K
      simp only [Act.put]
      refine lz_take 12 10 (v := ?_) rfl rfl (by kernel_rfl) (by kernel_rfl) (by kernel_rfl) (by kernel_rfl) (fun _ _ _ _ _ h => h) (by rfl) hS.out (fun W hW => ?_) ?_
      rotate_left
      · go_simp; try rfl
      try simp only [Act.put, List.setIfInBounds_toArray]
      refine lz_done (by kernel_rfl) ?_
      have HTF := Lib.hid (HT8.out.keepB HKF.out (by have := B9.out; have := H5S.out; omega) (fun q => by have := HFP5.out _ q; have := B9.out; omega) NB9.out)
      have BXF : Hid (Box (w8.setCells (w7.heap.size) 0 [.slice A5 n5 c5, .slice A6 n6 c6, .int .i64 fu5, .bool dn5, .int .i64 nw5]) _ _ _ _ _ _) := BX8.out.setAll (.slice A5 n5 c5) (.slice A6 n6 c6) fu5 dn5 nw5
      have BRF := Lib.hid (BR8.out.keep HKF.out (by show ¬ w.heap.size + 1 + 1 = w7.heap.size; have := B9.out; have := H5S.out; omega))
      generalize w8.setCells (w7.heap.size) 0 [.slice A5 n5 c5, .slice A6 n6 c6, .int .i64 fu5, .bool dn5, .int .i64 nw5] = wF at *
      have H9S : Hid (w.heap.size + 3 ≤ w7.heap.size) := by have := B9.out; have := H5S.out; show _ ≤ _; omega
      clear hS HKF NB9 B9
      generalize w7.heap.size = b9 at *
      go_wp2
      have RG := Lib.hid BXF.out.range
      have NRG : Hid (¬ b9 = w.heap.size + 1 + 1) := by show ¬ b9 = w.heap.size + 1 + 1; have := H9S.out; omega
      have AL := alike_any (HTF.out.mix.dsk.keep (F := fun _ => False) (Keep.refl _ wF).drew (fun _ _ h => h)) (HTF.out.mix.rep.keep (F := fun _ => False) (Keep.refl _ wF).drew (fun _ _ h => h) (fun _ _ h => h))
      rw [HRV.out] at AL
      have AL := Lib.hid AL
      have hS : Hid (Keep (fun b => b = w.heap.size + 1 + 1) wF wF.drew) := (Keep.refl _ _).drew
      refine lz_start 11 1000 (fun W => Keep (fun b => b = w.heap.size + 1 + 1) wF W) rfl (by kernel_rfl) ?_
      refine lz_take 0 39 (v := ?_) rfl rfl (by kernel_rfl) (by kernel_rfl) (by kernel_rfl) (by kernel_rfl) (fun _ _ _ _ _ h => h) (by rfl) hS.out (fun W hW => ?_) ?_
      rotate_left
      · refine run_load_mid 31 (.tmp 9) ?_ (b9) 0 ?_ [.slice A5 n5 c5, .slice A6 n6 c6, .int .i64 fu5, .bool dn5, .int .i64 nw5] _ (range_keep RG.out hW NRG.out) Try.underlying31 rfl Try.size31 <;> rfl
      try simp only [Act.put, List.setIfInBounds_toArray, List.set_cons_zero, List.set_cons_succ]
      refine lz_take 1 40 (v := ?_) rfl rfl (by kernel_rfl) (by kernel_rfl) (by kernel_rfl) (by kernel_rfl) (fun _ _ _ _ _ h => h) (by rfl) hS.out (fun W hW => ?_) ?_
      rotate_left
      · go_simp; try rfl
      try simp only [Act.put, List.setIfInBounds_toArray, List.set_cons_zero, List.set_cons_succ]
      refine lz_take 2 41 (v := ?_) rfl rfl (by kernel_rfl) (by kernel_rfl) (by kernel_rfl) (by kernel_rfl) (fun _ _ _ _ _ h => h) (by rfl) hS.out (fun W hW => ?_) ?_
      rotate_left
      · go_simp; try rfl
      try simp only [Act.put, List.setIfInBounds_toArray, List.set_cons_zero, List.set_cons_succ]
      refine lz_take 3 42 (v := ?_) rfl rfl (by kernel_rfl) (by kernel_rfl) (by kernel_rfl) (by kernel_rfl) (fun _ _ _ _ _ h => h) (by rfl) hS.out (fun W hW => ?_) ?_
      rotate_left
      · go_simp; try rfl
      try simp only [Act.put, List.setIfInBounds_toArray, List.set_cons_zero, List.set_cons_succ]
      refine lz_take 4 43 (v := ?_) rfl rfl (by kernel_rfl) (by kernel_rfl) (by kernel_rfl) (by kernel_rfl) (fun _ _ _ _ _ h => h) (by rfl) hS.out (fun W hW => ?_) ?_
      rotate_left
      · go_simp; try rfl
      try simp only [Act.put, List.setIfInBounds_toArray, List.set_cons_zero, List.set_cons_succ]
      refine lz_take 5 44 (v := ?_) rfl rfl (by kernel_rfl) (by kernel_rfl) (by kernel_rfl) (by kernel_rfl) (fun _ _ _ _ _ h => h) (by rfl) hS.out (fun W hW => ?_) ?_
      rotate_left
      · go_simp; try rfl
      try simp only [Act.put, List.setIfInBounds_toArray, List.set_cons_zero, List.set_cons_succ]
      refine lz_take 6 45 (v := ?_) rfl rfl (by kernel_rfl) (by kernel_rfl) (by kernel_rfl) (by kernel_rfl) (fun _ _ _ _ _ h => h) (by rfl) hS.out (fun W hW => ?_) ?_
      rotate_left
      · refine run_load_mid 31 (.tmp 9) ?_ (b9) 0 ?_ [.slice A5 n5 c5, .slice A6 n6 c6, .int .i64 fu5, .bool dn5, .int .i64 nw5] _ (range_keep RG.out hW NRG.out) Try.underlying31 rfl Try.size31 <;> rfl
      try simp only [Act.put, List.setIfInBounds_toArray, List.set_cons_zero, List.set_cons_succ]
      refine lz_opg 7 rfl (by rfl) (by kernel_rfl) (fun K hK => ?_)
      go_simp
      refine AL.out.mono ?_
      rintro e w8 ⟨rfl, hb8⟩
      have hb8' : Below wF.heap.size wF w8 := btr (Below.refl _ wF).drew hb8
      have hS8 : Hid (Keep (fun b => b = w.heap.size + 1 + 1) wF w8) := Keep.of_below hb8'
      have HT8 := Lib.hid (HTF.out.below hb8')
      have BR8 := Lib.hid (BRF.out.below hb8')
      refine hK.out _ _ hS8.out ?_
      clear hK K hS hb8 hb8'
      have hS := hS8
      refine lz_take 8 47 (v := ?_) rfl rfl (by kernel_rfl) (by kernel_rfl) (by kernel_rfl) (by kernel_rfl) (fun _ _ _ _ _ h => h) (by rfl) hS.out (fun W hW => ?_) ?_
      rotate_left
      · go_simp; try rfl
      try simp only [Act.put, List.setIfInBounds_toArray, List.set_cons_zero, List.set_cons_succ]
      refine lz_op 9 rfl rfl (by kernel_rfl) (fun K hK => ?_)
      refine wp_store_mid 31 _ _ rfl (w.heap.size + 1 + 1) 0 #[.slice A5 n5 c5, .slice A6 n6 c6, .int .i64 fu5, .bool dn5, .int .i64 nw5] rfl rfl BR8.out.there Try.size31 (five_one _ _ _ _ _ rfl rfl) ?_
      have HK9 : Hid (Keep (fun k => k = w.heap.size + 1 + 1) w8 (w8.setCells (w.heap.size + 1 + 1) 0 [.slice A5 n5 c5, .slice A6 n6 c6, .int .i64 fu5, .bool dn5, .int .i64 nw5])) := keepN w8 (w.heap.size + 1 + 1) 0 [.slice A5 n5 c5, .slice A6 n6 c6, .int .i64 fu5, .bool dn5, .int .i64 nw5]
      have hS : Hid (Keep (fun b => b = w.heap.size + 1 + 1) wF (w8.setCells (w.heap.size + 1 + 1) 0 [.slice A5 n5 c5, .slice A6 n6 c6, .int .i64 fu5, .bool dn5, .int .i64 nw5])) := hS8.out.trans HK9.out (fun _ h => .inl h)
      refine hK.out _ _ hS.out ?_
      clear hK K
      simp only [Act.put]
      refine lz_take 10 7 (v := ?_) rfl rfl (by kernel_rfl) (by kernel_rfl) (by kernel_rfl) (by kernel_rfl) (fun _ _ _ _ _ h => h) (by rfl) hS.out (fun W hW => ?_) ?_
      rotate_left
      · go_simp; try rfl
      try simp only [Act.put, List.setIfInBounds_toArray]
      refine lz_done (by kernel_rfl) ?_
      have HT9 := Lib.hid (HT8.out.keepS HM.out HK9.out (fun b e => by have e : b = w.heap.size + 1 + 1 := e; have := HSZ.out; omega))
      have HX9 : Hid (Box (w8.setCells (w.heap.size + 1 + 1) 0 [.slice A5 n5 c5, .slice A6 n6 c6, .int .i64 fu5, .bool dn5, .int .i64 nw5]) _ _ _ _ _ _) := BR8.out.setAll (.slice A5 n5 c5) (.slice A6 n6 c6) fu5 dn5 nw5
      generalize w8.setCells (w.heap.size + 1 + 1) 0 [.slice A5 n5 c5, .slice A6 n6 c6, .int .i64 fu5, .bool dn5, .int .i64 nw5] = w9 at *
      go_wp2
      refine bodyPost_ret (results_five2 rfl _ _ (w.heap.size + 1 + 1) (.slice A5 n5 c5) (.slice A6 n6 c6) fu5 dn5 nw5 (.bool true) rfl rfl HX9.out.range) rfl ?_
      rw [HS5.out]
      refine ⟨wv5, _, _, ?_, HT9.out.weak⟩
      rw [HRV.out]
      rfl
    · go_simp
      have HA7 := Lib.hid (alb (w := w6) (.cells #[.slice none 0 0, .slice none 0 0, .int .i64 0, .bool false, .int .i64 0] 31))
      have BX7 := Lib.hid (Box.made w6 (.slice none 0 0) (.slice none 0 0) 0 false 0 31 w6.heap.size rfl)
      have HT7 := Lib.hid (HT6.out.below HA7.out)
      have BR7 := Lib.hid (BR6.out.below HA7.out)
      have hB7 : Hid (Below w5.heap.size w5 (w6.alloc (.cells #[.slice none 0 0, .slice none 0 0, .int .i64 0, .bool false, .int .i64 0] 31)) ∧ Below w6.heap.size w6 (w6.alloc (.cells #[.slice none 0 0, .slice none 0 0, .int .i64 0, .bool false, .int .i64 0] 31))) := ⟨btr hB6.out HA7.out, HA7.out⟩
      have S7 : Hid (w6.heap.size < (w6.alloc (.cells #[.slice none 0 0, .slice none 0 0, .int .i64 0, .bool false, .int .i64 0] 31)).heap.size) := by simp [Hid]
      refine hK.out _ _ hB7.out ?_
      clear hK K hS
      generalize w6.alloc (.cells #[.slice none 0 0, .slice none 0 0, .int .i64 0, .bool false, .int .i64 0] 31) = w7 at *
      have hS := hB7
      refine lz_op 6 rfl rfl (by kernel_rfl) (fun K hK => ?_)
      go_simp
      refine (HW.out w7 HT7.out).mono ?_
      rintro e w8 ⟨sv5, rw5, rfl, hm8⟩
      have HT8 := Lib.hid (HT7.out.ref hm8)
      have BR8 := Lib.hid (BR7.out.below hm8.2.1)
      have BX8 := Lib.hid (BX7.out.below hm8.2.1)
      have hB8 : Hid (Below w5.heap.size w5 w8 ∧ Below w6.heap.size w6 w8) := ⟨btr hB7.out.1 hm8.2.1, btr hB7.out.2 hm8.2.1⟩
      have NB9 : Hid (∀ x, sv5.ownBlock = some x ∨ rw5.ownBlock = some x → ¬ x = w6.heap.size) := fun x q => by
        rcases hm8.2.2 x q with q | q
        · have := HT6.out.mix.rep.lt x q
          omega
        · have := S7.out
          omega
      have B9 : Hid (w5.heap.size ≤ w6.heap.size) := hB6.out.size
      clear hm8
      obtain ⟨A5, c5, rfl⟩ := row_form HT8.out.mix.rep.safe
      obtain ⟨A6, c6, rfl⟩ := row_form HT8.out.mix.rep.waits
      generalize hS5 : D.write s oa (bytesL oc ok' on) = s5 at *
      have HS5 := Lib.hid hS5
      clear hS5
      have HRV : Hid (rv (.slice A5 s5.safe.length c5) (.slice A6 s5.waits.length c6) s5 = .agg #[.slice A5 s5.safe.length c5, .slice A6 s5.waits.length c6, .int .i64 s5.fuse, .bool s5.down, .int .i64 (s5.writes : Int)]) := rfl
      unfold rv
      generalize s5.safe.length = n5 at *
      generalize s5.waits.length = n6 at *
      generalize s5.fuse = fu5 at *
      generalize s5.down = dn5 at *
      generalize (s5.writes : Int) = nw5 at *
      refine hK.out _ _ hB8.out ?_
      clear hK K hS
      have hS := hB8
      refine lz_take 7 29 (v := ?_) rfl rfl (by kernel_rfl) (by kernel_rfl) (by kernel_rfl) (by kernel_rfl) (fun _ _ _ _ _ h => h) (by rfl) hS.out (fun W hW => ?_) ?_
      rotate_left
      · go_simp; try rfl
      try simp only [Act.put, List.setIfInBounds_toArray, List.set_cons_zero, List.set_cons_succ]
      refine lz_take 8 37 (v := ?_) rfl rfl (by kernel_rfl) (by kernel_rfl) (by kernel_rfl) (by kernel_rfl) (fun _ _ _ _ _ h => h) (by rfl) hS.out (fun W hW => ?_) ?_
      rotate_left
      · go_simp; try rfl
      try simp only [Act.put, List.setIfInBounds_toArray, List.set_cons_zero, List.set_cons_succ]
      refine lz_take 9 38 (v := ?_) rfl rfl (by kernel_rfl) (by kernel_rfl) (by kernel_rfl) (by kernel_rfl) (fun _ _ _ _ _ h => h) (by rfl) hS.out (fun W hW => ?_) ?_
      rotate_left
      · go_simp; try rfl
      try simp only [Act.put, List.setIfInBounds_toArray, List.set_cons_zero, List.set_cons_succ]
      refine lz_op 11 rfl rfl (by kernel_rfl) (fun K hK => ?_)
      refine wp_store_mid 31 _ _ rfl (w6.heap.size) 0 #[.slice A5 n5 c5, .slice A6 n6 c6, .int .i64 fu5, .bool dn5, .int .i64 nw5] rfl rfl BX8.out.there Try.size31 (five_one _ _ _ _ _ rfl rfl) ?_
      have HKF : Hid (Keep (fun k => k = w6.heap.size) w8 (w8.setCells (w6.heap.size) 0 [.slice A5 n5 c5, .slice A6 n6 c6, .int .i64 fu5, .bool dn5, .int .i64 nw5])) := keepN w8 (w6.heap.size) 0 [.slice A5 n5 c5, .slice A6 n6 c6, .int .i64 fu5, .bool dn5, .int .i64 nw5]
      have hS := Lib.hid (And.intro (below_one hB8.out.1 HKF.out B9.out) (below_one hB8.out.2 HKF.out (Nat.le_refl _)))
      refine hK.out _ _ hS.out ?_
      clear hK K
      simp only [Act.put]
      refine lz_take 12 10 (v := ?_) rfl rfl (by kernel_rfl) (by kernel_rfl) (by kernel_rfl) (by kernel_rfl) (fun _ _ _ _ _ h => h) (by rfl) hS.out (fun W hW => ?_) ?_
      rotate_left
      · go_simp; try rfl
      try simp only [Act.put, List.setIfInBounds_toArray]
      refine lz_done (by kernel_rfl) ?_
      have HTF := Lib.hid (HT8.out.keepB HKF.out (by have := B9.out; have := H5S.out; omega) (fun q => by have := HFP5.out _ q; have := B9.out; omega) NB9.out)
      have BXF : Hid (Box (w8.setCells (w6.heap.size) 0 [.slice A5 n5 c5, .slice A6 n6 c6, .int .i64 fu5, .bool dn5, .int .i64 nw5]) _ _ _ _ _ _) := BX8.out.setAll (.slice A5 n5 c5) (.slice A6 n6 c6) fu5 dn5 nw5
      have BRF := Lib.hid (BR8.out.keep HKF.out (by show ¬ w.heap.size + 1 + 1 = w6.heap.size; have := B9.out; have := H5S.out; omega))
      generalize w8.setCells (w6.heap.size) 0 [.slice A5 n5 c5, .slice A6 n6 c6, .int .i64 fu5, .bool dn5, .int .i64 nw5] = wF at *
      have H9S : Hid (w.heap.size + 3 ≤ w6.heap.size) := by have := B9.out; have := H5S.out; show _ ≤ _; omega
      clear hS HKF NB9 B9
      generalize w6.heap.size = b9 at *
      go_wp2
      have RG := Lib.hid BXF.out.range
      have NRG : Hid (¬ b9 = w.heap.size + 1 + 1) := by show ¬ b9 = w.heap.size + 1 + 1; have := H9S.out; omega
      have AL := alike_any (HTF.out.mix.dsk.keep (F := fun _ => False) (Keep.refl _ wF).drew (fun _ _ h => h)) (HTF.out.mix.rep.keep (F := fun _ => False) (Keep.refl _ wF).drew (fun _ _ h => h) (fun _ _ h => h))
      rw [HRV.out] at AL
      have AL := Lib.hid AL
      have hS : Hid (Keep (fun b => b = w.heap.size + 1 + 1) wF wF.drew) := (Keep.refl _ _).drew
      refine lz_start 11 1000 (fun W => Keep (fun b => b = w.heap.size + 1 + 1) wF W) rfl (by kernel_rfl) ?_
      refine lz_take 0 39 (v := ?_) rfl rfl (by kernel_rfl) (by kernel_rfl) (by kernel_rfl) (by kernel_rfl) (fun _ _ _ _ _ h => h) (by rfl) hS.out (fun W hW => ?_) ?_
      rotate_left
      · refine run_load_mid 31 (.tmp 9) ?_ (b9) 0 ?_ [.slice A5 n5 c5, .slice A6 n6 c6, .int .i64 fu5, .bool dn5, .int .i64 nw5] _ (range_keep RG.out hW NRG.out) Try.underlying31 rfl Try.size31 <;> rfl
      try simp only [Act.put, List.setIfInBounds_toArray, List.set_cons_zero, List.set_cons_succ]
      refine lz_take 1 40 (v := ?_) rfl rfl (by kernel_rfl) (by kernel_rfl) (by kernel_rfl) (by kernel_rfl) (fun _ _ _ _ _ h => h) (by rfl) hS.out (fun W hW => ?_) ?_
      rotate_left
      · go_simp; try rfl
      try simp only [Act.put, List.setIfInBounds_toArray, List.set_cons_zero, List.set_cons_succ]
      refine lz_take 2 41 (v := ?_) rfl rfl (by kernel_rfl) (by kernel_rfl) (by kernel_rfl) (by kernel_rfl) (fun _ _ _ _ _ h => h) (by rfl) hS.out (fun W hW => ?_) ?_
      rotate_left
      · go_simp; try rfl
      try simp only [Act.put, List.setIfInBounds_toArray, List.set_cons_zero, List.set_cons_succ]
      refine lz_take 3 42 (v := ?_) rfl rfl (by kernel_rfl) (by kernel_rfl) (by kernel_rfl) (by kernel_rfl) (fun _ _ _ _ _ h => h) (by rfl) hS.out (fun W hW => ?_) ?_
      rotate_left
      · go_simp; try rfl
      try simp only [Act.put, List.setIfInBounds_toArray, List.set_cons_zero, List.set_cons_succ]
      refine lz_take 4 43 (v := ?_) rfl rfl (by kernel_rfl) (by kernel_rfl) (by kernel_rfl) (by kernel_rfl) (fun _ _ _ _ _ h => h) (by rfl) hS.out (fun W hW => ?_) ?_
      rotate_left
      · go_simp; try rfl
      try simp only [Act.put, List.setIfInBounds_toArray, List.set_cons_zero, List.set_cons_succ]
      refine lz_take 5 44 (v := ?_) rfl rfl (by kernel_rfl) (by kernel_rfl) (by kernel_rfl) (by kernel_rfl) (fun _ _ _ _ _ h => h) (by rfl) hS.out (fun W hW => ?_) ?_
      rotate_left
      · go_simp; try rfl
      try simp only [Act.put, List.setIfInBounds_toArray, List.set_cons_zero, List.set_cons_succ]
      refine lz_take 6 45 (v := ?_) rfl rfl (by kernel_rfl) (by kernel_rfl) (by kernel_rfl) (by kernel_rfl) (fun _ _ _ _ _ h => h) (by rfl) hS.out (fun W hW => ?_) ?_
      rotate_left
      · refine run_load_mid 31 (.tmp 9) ?_ (b9) 0 ?_ [.slice A5 n5 c5, .slice A6 n6 c6, .int .i64 fu5, .bool dn5, .int .i64 nw5] _ (range_keep RG.out hW NRG.out) Try.underlying31 rfl Try.size31 <;> rfl
      try simp only [Act.put, List.setIfInBounds_toArray, List.set_cons_zero, List.set_cons_succ]
      refine lz_opg 7 rfl (by rfl) (by kernel_rfl) (fun K hK => ?_)
      go_simp
      refine AL.out.mono ?_
      rintro e w8 ⟨rfl, hb8⟩
      have hb8' : Below wF.heap.size wF w8 := btr (Below.refl _ wF).drew hb8
      have hS8 : Hid (Keep (fun b => b = w.heap.size + 1 + 1) wF w8) := Keep.of_below hb8'
      have HT8 := Lib.hid (HTF.out.below hb8')
      have BR8 := Lib.hid (BRF.out.below hb8')
      refine hK.out _ _ hS8.out ?_
      clear hK K hS hb8 hb8'
      have hS := hS8
      refine lz_take 8 47 (v := ?_) rfl rfl (by kernel_rfl) (by kernel_rfl) (by kernel_rfl) (by kernel_rfl) (fun _ _ _ _ _ h => h) (by rfl) hS.out (fun W hW => ?_) ?_
      rotate_left
      · go_simp; try rfl
      try simp only [Act.put, List.setIfInBounds_toArray, List.set_cons_zero, List.set_cons_succ]
      refine lz_op 9 rfl rfl (by kernel_rfl) (fun K hK => ?_)
      refine wp_store_mid 31 _ _ rfl (w.heap.size + 1 + 1) 0 #[.slice A5 n5 c5, .slice A6 n6 c6, .int .i64 fu5, .bool dn5, .int .i64 nw5] rfl rfl BR8.out.there Try.size31 (five_one _ _ _ _ _ rfl rfl) ?_
      have HK9 : Hid (Keep (fun k => k = w.heap.size + 1 + 1) w8 (w8.setCells (w.heap.size + 1 + 1) 0 [.slice A5 n5 c5, .slice A6 n6 c6, .int .i64 fu5, .bool dn5, .int .i64 nw5])) := keepN w8 (w.heap.size + 1 + 1) 0 [.slice A5 n5 c5, .slice A6 n6 c6, .int .i64 fu5, .bool dn5, .int .i64 nw5]
      have hS : Hid (Keep (fun b => b = w.heap.size + 1 + 1) wF (w8.setCells (w.heap.size + 1 + 1) 0 [.slice A5 n5 c5, .slice A6 n6 c6, .int .i64 fu5, .bool dn5, .int .i64 nw5])) := hS8.out.trans HK9.out (fun _ h => .inl h)
      refine hK.out _ _ hS.out ?_
      clear hK K
      simp only [Act.put]
      refine lz_take 10 7 (v := ?_) rfl rfl (by kernel_rfl) (by kernel_rfl) (by kernel_rfl) (by kernel_rfl) (fun _ _ _ _ _ h => h) (by rfl) hS.out (fun W hW => ?_) ?_
      rotate_left
      · go_simp; try rfl
      try simp only [Act.put, List.setIfInBounds_toArray]
      refine lz_done (by kernel_rfl) ?_
      have HT9 := Lib.hid (HT8.out.keepS HM.out HK9.out (fun b e => by have e : b = w.heap.size + 1 + 1 := e; have := HSZ.out; omega))
      have HX9 : Hid (Box (w8.setCells (w.heap.size + 1 + 1) 0 [.slice A5 n5 c5, .slice A6 n6 c6, .int .i64 fu5, .bool dn5, .int .i64 nw5]) _ _ _ _ _ _) := BR8.out.setAll (.slice A5 n5 c5) (.slice A6 n6 c6) fu5 dn5 nw5
      generalize w8.setCells (w.heap.size + 1 + 1) 0 [.slice A5 n5 c5, .slice A6 n6 c6, .int .i64 fu5, .bool dn5, .int .i64 nw5] = w9 at *
      go_wp2
      refine bodyPost_ret (results_five2 rfl _ _ (w.heap.size + 1 + 1) (.slice A5 n5 c5) (.slice A6 n6 c6) fu5 dn5 nw5 (.bool true) rfl rfl HX9.out.range) rfl ?_
      rw [HS5.out]
      refine ⟨wv5, _, _, ?_, HT9.out.weak⟩
      rw [HRV.out]
      rfl
  · go_simp
    have BX6 : Hid (Box (w5.alloc (.cells #[.slice none 0 0, .slice none 0 0, .int .i64 0, .bool false, .int .i64 0] 31)).drew w5.heap.size (.slice none 0 0) (.slice none 0 0) 0 false 0) := (Box.made w5 (.slice none 0 0) (.slice none 0 0) 0 false 0 31 w5.heap.size rfl).keep (F := fun _ => False) (Keep.refl _ _).drew (fun h => h)
    have hB6 : Hid (Below w5.heap.size w5 (w5.alloc (.cells #[.slice none 0 0, .slice none 0 0, .int .i64 0, .bool false, .int .i64 0] 31)).drew) := (alb _).drew
    have HT6 := Lib.hid (HT5.out.below hB6.out)
    have BR6 := Lib.hid (BR5.out.below hB6.out)
    have S6 : Hid (w5.heap.size < (w5.alloc (.cells #[.slice none 0 0, .slice none 0 0, .int .i64 0, .bool false, .int .i64 0] 31)).drew.heap.size) := BX6.out.lt
    refine hK.out _ _ hB6.out ?_
    clear hK K hS
    generalize (w5.alloc (.cells #[.slice none 0 0, .slice none 0 0, .int .i64 0, .bool false, .int .i64 0] 31)).drew = w6 at *
    have hS := hB6
    refine lz_op 4 rfl rfl (by kernel_rfl) (fun K hK => ?_)
    go_simp
    refine (bytes_any od oa oc ok' on LA ol lc hk hn1 hn2 w6).mono ?_
    rintro e w7 ⟨v7, rfl, hv7, hb7⟩
    have hconv := hv7.conv
    have HT7 := Lib.hid (HT6.out.below hb7)
    have BR7 := Lib.hid (BR6.out.below hb7)
    have BX7 := Lib.hid (BX6.out.below hb7)
    have hB7 := Lib.hid (btr hB6.out hb7)
    have S7 : Hid (w5.heap.size < w7.heap.size) := Nat.lt_of_lt_of_le S6.out hb7.size
    refine hK.out _ _ hB7.out ?_
    clear hK K hS hv7 hb7
    have hS := hB7
    refine lz_op 5 rfl rfl (by kernel_rfl) (fun K hK => ?_)
    go_simp
    refine hK.out _ _ hB7.out ?_
    clear hK K hconv
    refine lz_op 6 rfl rfl (by kernel_rfl) (fun K hK => ?_)
    go_simp
    refine (HW.out w7 HT7.out).mono ?_
    rintro e w8 ⟨sv5, rw5, rfl, hm8⟩
    have HT8 := Lib.hid (HT7.out.ref hm8)
    have BR8 := Lib.hid (BR7.out.below hm8.2.1)
    have BX8 := Lib.hid (BX7.out.below hm8.2.1)
    have hB8 := Lib.hid (btr hB7.out hm8.2.1)
    have NB9 : Hid (∀ x, sv5.ownBlock = some x ∨ rw5.ownBlock = some x → ¬ x = w5.heap.size) := fun x q => by
      rcases hm8.2.2 x q with q | q
      · have := HT5.out.mix.rep.lt x q
        omega
      · have := S7.out
        omega
    have B9 : Hid (w5.heap.size ≤ w5.heap.size) := Nat.le_refl _
    clear hm8
    obtain ⟨A5, c5, rfl⟩ := row_form HT8.out.mix.rep.safe
    obtain ⟨A6, c6, rfl⟩ := row_form HT8.out.mix.rep.waits
    generalize hS5 : D.write s oa (bytesL oc ok' on) = s5 at *
    have HS5 := Lib.hid hS5
    clear hS5
    have HRV : Hid (rv (.slice A5 s5.safe.length c5) (.slice A6 s5.waits.length c6) s5 = .agg #[.slice A5 s5.safe.length c5, .slice A6 s5.waits.length c6, .int .i64 s5.fuse, .bool s5.down, .int .i64 (s5.writes : Int)]) := rfl
    unfold rv
    generalize s5.safe.length = n5 at *
    generalize s5.waits.length = n6 at *
    generalize s5.fuse = fu5 at *
    generalize s5.down = dn5 at *
    generalize (s5.writes : Int) = nw5 at *
    refine hK.out _ _ hB8.out ?_
    clear hK K hS
    have hS := hB8
    refine lz_take 7 29 (v := ?_) rfl rfl (by kernel_rfl) (by kernel_rfl) (by kernel_rfl) (by kernel_rfl) (fun _ _ _ _ _ h => h) (by rfl) hS.out (fun W hW => ?_) ?_
    rotate_left
    · go_simp; try rfl
    try simp only [Act.put, List.setIfInBounds_toArray, List.set_cons_zero, List.set_cons_succ]
    refine lz_take 8 37 (v := ?_) rfl rfl (by kernel_rfl) (by kernel_rfl) (by kernel_rfl) (by kernel_rfl) (fun _ _ _ _ _ h => h) (by rfl) hS.out (fun W hW => ?_) ?_
    rotate_left
    · go_simp; try rfl
    try simp only [Act.put, List.setIfInBounds_toArray, List.set_cons_zero, List.set_cons_succ]
    refine lz_take 9 38 (v := ?_) rfl rfl (by kernel_rfl) (by kernel_rfl) (by kernel_rfl) (by kernel_rfl) (fun _ _ _ _ _ h => h) (by rfl) hS.out (fun W hW => ?_) ?_
    rotate_left
    · go_simp; try rfl
    try simp only [Act.put, List.setIfInBounds_toArray, List.set_cons_zero, List.set_cons_succ]
    refine lz_op 11 rfl rfl (by kernel_rfl) (fun K hK => ?_)
    refine wp_store_mid 31 _ _ rfl (w5.heap.size) 0 #[.slice A5 n5 c5, .slice A6 n6 c6, .int .i64 fu5, .bool dn5, .int .i64 nw5] rfl rfl BX8.out.there Try.size31 (five_one _ _ _ _ _ rfl rfl) ?_
    have HKF : Hid (Keep (fun k => k = w5.heap.size) w8 (w8.setCells (w5.heap.size) 0 [.slice A5 n5 c5, .slice A6 n6 c6, .int .i64 fu5, .bool dn5, .int .i64 nw5])) := keepN w8 (w5.heap.size) 0 [.slice A5 n5 c5, .slice A6 n6 c6, .int .i64 fu5, .bool dn5, .int .i64 nw5]
    have hS := Lib.hid (below_one hB8.out HKF.out (Nat.le_refl _))
    refine hK.out _ _ hS.out ?_
    clear hK K
    simp only [Act.put]
    refine lz_take 12 10 (v := ?_) rfl rfl (by kernel_rfl) (by kernel_rfl) (by kernel_rfl) (by kernel_rfl) (fun _ _ _ _ _ h => h) (by rfl) hS.out (fun W hW => ?_) ?_
    rotate_left
    · go_simp; try rfl
    try simp only [Act.put, List.setIfInBounds_toArray]
    refine lz_done (by kernel_rfl) ?_
    have HTF := Lib.hid (HT8.out.keepB HKF.out (by have := B9.out; have := H5S.out; omega) (fun q => by have := HFP5.out _ q; have := B9.out; omega) NB9.out)
    have BXF : Hid (Box (w8.setCells (w5.heap.size) 0 [.slice A5 n5 c5, .slice A6 n6 c6, .int .i64 fu5, .bool dn5, .int .i64 nw5]) _ _ _ _ _ _) := BX8.out.setAll (.slice A5 n5 c5) (.slice A6 n6 c6) fu5 dn5 nw5
    have BRF := Lib.hid (BR8.out.keep HKF.out (by show ¬ w.heap.size + 1 + 1 = w5.heap.size; have := B9.out; have := H5S.out; omega))
    generalize w8.setCells (w5.heap.size) 0 [.slice A5 n5 c5, .slice A6 n6 c6, .int .i64 fu5, .bool dn5, .int .i64 nw5] = wF at *
    have H9S : Hid (w.heap.size + 3 ≤ w5.heap.size) := by have := B9.out; have := H5S.out; show _ ≤ _; omega
    clear hS HKF NB9 B9
    generalize w5.heap.size = b9 at *
    go_wp2
    have RG := Lib.hid BXF.out.range
    have NRG : Hid (¬ b9 = w.heap.size + 1 + 1) := by show ¬ b9 = w.heap.size + 1 + 1; have := H9S.out; omega
    have AL := alike_any (HTF.out.mix.dsk.keep (F := fun _ => False) (Keep.refl _ wF).drew (fun _ _ h => h)) (HTF.out.mix.rep.keep (F := fun _ => False) (Keep.refl _ wF).drew (fun _ _ h => h) (fun _ _ h => h))
    rw [HRV.out] at AL
    have AL := Lib.hid AL
    have hS : Hid (Keep (fun b => b = w.heap.size + 1 + 1) wF wF.drew) := (Keep.refl _ _).drew
    refine lz_start 11 1000 (fun W => Keep (fun b => b = w.heap.size + 1 + 1) wF W) rfl (by kernel_rfl) ?_
    refine lz_take 0 39 (v := ?_) rfl rfl (by kernel_rfl) (by kernel_rfl) (by kernel_rfl) (by kernel_rfl) (fun _ _ _ _ _ h => h) (by rfl) hS.out (fun W hW => ?_) ?_
    rotate_left
    · refine run_load_mid 31 (.tmp 9) ?_ (b9) 0 ?_ [.slice A5 n5 c5, .slice A6 n6 c6, .int .i64 fu5, .bool dn5, .int .i64 nw5] _ (range_keep RG.out hW NRG.out) Try.underlying31 rfl Try.size31 <;> rfl
    try simp only [Act.put, List.setIfInBounds_toArray, List.set_cons_zero, List.set_cons_succ]
    refine lz_take 1 40 (v := ?_) rfl rfl (by kernel_rfl) (by kernel_rfl) (by kernel_rfl) (by kernel_rfl) (fun _ _ _ _ _ h => h) (by rfl) hS.out (fun W hW => ?_) ?_
    rotate_left
    · go_simp; try rfl
    try simp only [Act.put, List.setIfInBounds_toArray, List.set_cons_zero, List.set_cons_succ]
    refine lz_take 2 41 (v := ?_) rfl rfl (by kernel_rfl) (by kernel_rfl) (by kernel_rfl) (by kernel_rfl) (fun _ _ _ _ _ h => h) (by rfl) hS.out (fun W hW => ?_) ?_
    rotate_left
    · go_simp; try rfl
    try simp only [Act.put, List.setIfInBounds_toArray, List.set_cons_zero, List.set_cons_succ]
    refine lz_take 3 42 (v := ?_) rfl rfl (by kernel_rfl) (by kernel_rfl) (by kernel_rfl) (by kernel_rfl) (fun _ _ _ _ _ h => h) (by rfl) hS.out (fun W hW => ?_) ?_
    rotate_left
    · go_simp; try rfl
    try simp only [Act.put, List.setIfInBounds_toArray, List.set_cons_zero, List.set_cons_succ]
    refine lz_take 4 43 (v := ?_) rfl rfl (by kernel_rfl) (by kernel_rfl) (by kernel_rfl) (by kernel_rfl) (fun _ _ _ _ _ h => h) (by rfl) hS.out (fun W hW => ?_) ?_
    rotate_left
    · go_simp; try rfl
    try simp only [Act.put, List.setIfInBounds_toArray, List.set_cons_zero, List.set_cons_succ]
    refine lz_take 5 44 (v := ?_) rfl rfl (by kernel_rfl) (by kernel_rfl) (by kernel_rfl) (by kernel_rfl) (fun _ _ _ _ _ h => h) (by rfl) hS.out (fun W hW => ?_) ?_
    rotate_left
    · go_simp; try rfl
    try simp only [Act.put, List.setIfInBounds_toArray, List.set_cons_zero, List.set_cons_succ]
    refine lz_take 6 45 (v := ?_) rfl rfl (by kernel_rfl) (by kernel_rfl) (by kernel_rfl) (by kernel_rfl) (fun _ _ _ _ _ h => h) (by rfl) hS.out (fun W hW => ?_) ?_
    rotate_left
    · refine run_load_mid 31 (.tmp 9) ?_ (b9) 0 ?_ [.slice A5 n5 c5, .slice A6 n6 c6, .int .i64 fu5, .bool dn5, .int .i64 nw5] _ (range_keep RG.out hW NRG.out) Try.underlying31 rfl Try.size31 <;> rfl
    try simp only [Act.put, List.setIfInBounds_toArray, List.set_cons_zero, List.set_cons_succ]
    refine lz_opg 7 rfl (by rfl) (by kernel_rfl) (fun K hK => ?_)
    go_simp
    refine AL.out.mono ?_
    rintro e w8 ⟨rfl, hb8⟩
    have hb8' : Below wF.heap.size wF w8 := btr (Below.refl _ wF).drew hb8
    have hS8 : Hid (Keep (fun b => b = w.heap.size + 1 + 1) wF w8) := Keep.of_below hb8'
    have HT8 := Lib.hid (HTF.out.below hb8')
    have BR8 := Lib.hid (BRF.out.below hb8')
    refine hK.out _ _ hS8.out ?_
    clear hK K hS hb8 hb8'
    have hS := hS8
    refine lz_take 8 47 (v := ?_) rfl rfl (by kernel_rfl) (by kernel_rfl) (by kernel_rfl) (by kernel_rfl) (fun _ _ _ _ _ h => h) (by rfl) hS.out (fun W hW => ?_) ?_
    rotate_left
    · go_simp; try rfl
    try simp only [Act.put, List.setIfInBounds_toArray, List.set_cons_zero, List.set_cons_succ]
    refine lz_op 9 rfl rfl (by kernel_rfl) (fun K hK => ?_)
    refine wp_store_mid 31 _ _ rfl (w.heap.size + 1 + 1) 0 #[.slice A5 n5 c5, .slice A6 n6 c6, .int .i64 fu5, .bool dn5, .int .i64 nw5] rfl rfl BR8.out.there Try.size31 (five_one _ _ _ _ _ rfl rfl) ?_
    have HK9 : Hid (Keep (fun k => k = w.heap.size + 1 + 1) w8 (w8.setCells (w.heap.size + 1 + 1) 0 [.slice A5 n5 c5, .slice A6 n6 c6, .int .i64 fu5, .bool dn5, .int .i64 nw5])) := keepN w8 (w.heap.size + 1 + 1) 0 [.slice A5 n5 c5, .slice A6 n6 c6, .int .i64 fu5, .bool dn5, .int .i64 nw5]
    have hS : Hid (Keep (fun b => b = w.heap.size + 1 + 1) wF (w8.setCells (w.heap.size + 1 + 1) 0 [.slice A5 n5 c5, .slice A6 n6 c6, .int .i64 fu5, .bool dn5, .int .i64 nw5])) := hS8.out.trans HK9.out (fun _ h => .inl h)
    refine hK.out _ _ hS.out ?_
    clear hK K
    simp only [Act.put]
    refine lz_take 10 7 (v := ?_) rfl rfl (by kernel_rfl) (by kernel_rfl) (by kernel_rfl) (by kernel_rfl) (fun _ _ _ _ _ h => h) (by rfl) hS.out (fun W hW => ?_) ?_
    rotate_left
    · go_simp; try rfl
    try simp only [Act.put, List.setIfInBounds_toArray]
    refine lz_done (by kernel_rfl) ?_
    have HT9 := Lib.hid (HT8.out.keepS HM.out HK9.out (fun b e => by have e : b = w.heap.size + 1 + 1 := e; have := HSZ.out; omega))
    have HX9 : Hid (Box (w8.setCells (w.heap.size + 1 + 1) 0 [.slice A5 n5 c5, .slice A6 n6 c6, .int .i64 fu5, .bool dn5, .int .i64 nw5]) _ _ _ _ _ _) := BR8.out.setAll (.slice A5 n5 c5) (.slice A6 n6 c6) fu5 dn5 nw5
    generalize w8.setCells (w.heap.size + 1 + 1) 0 [.slice A5 n5 c5, .slice A6 n6 c6, .int .i64 fu5, .bool dn5, .int .i64 nw5] = w9 at *
    go_wp2
    refine bodyPost_ret (results_five2 rfl _ _ (w.heap.size + 1 + 1) (.slice A5 n5 c5) (.slice A6 n6 c6) fu5 dn5 nw5 (.bool true) rfl rfl HX9.out.range) rfl ?_
    rw [HS5.out]
    refine ⟨wv5, _, _, ?_, HT9.out.weak⟩
    rw [HRV.out]
    rfl
end Go.Proofs.Ytcbiagdpolhbfaa
