/- The walk of the law SuperBack. -/
import Derived.Test.YtbffpgndjbpifaaDoorUf
import Derived.Test.YtbffpgndjbpifaaDoorUh
namespace Go.Proofs.YtbffpgndjbpifaaDoor
open Go.RowKit

theorem run_eql_op {op : Oper} {a : Act} {w : World} (x y : Operand) (ho : op.op = .binOp .eql 28 x y 28) (q : Nat) (r : List Nat) (hx : a.eval x = .agg (sva q r)) (hy : a.eval y = .agg (sva q r)) (hr : r.length = 27) :
    (execOp a.eval op).run Tryd.prog w = .ok (.value (.bool true)) w := by
  unfold execOp
  simp only [ho, hx, hy, Sem.run_bind, run_eqGuard_agg w _ _ _ _ _ _ eqg_sup, Result.andThen_ok, run_eql_sup q r hr w, Sem.run_pure]
theorem Blk.keepS {F : Nat → Prop} {w w1 : World} {g : Nat} {l : List UInt8} (h : Blk w g l) (hb : Keep F w w1) (hf : ¬ F g) : Blk w1 g l := ⟨(hb.block g h.lt hf).trans h.1, h.2⟩

set_option maxHeartbeats 1600000 in
theorem back_core (q m p p2 : Nat) (r : List Nat) (L : List UInt8) (sw : ByteArray) (w : World) (hq : q < 18446744073709551616) (em : IntKind.u64.wrap ((q : Int) + 1) = (m : Int)) (ep : (q : Int) % 2 = (p : Int)) (ep2 : (m : Int) % 2 = (p2 : Int))
    (HR : Hid (r.length = 27)) (HT : Hid (Tab w)) (HSW : Hid (str L = sw))
    (HW : Hid (∀ W : World, Tab W → Calls Tryd.prog 7 #[.agg (sva q r)] W fun e w' => ∃ g, e = .returned (.slice (some ⟨g, 0, none⟩) 512 512) ∧ Blk w' g L ∧ W.heap.size ≤ g ∧ Below W.heap.size W w'))
    (H1 : Hid (∀ (W : World) (v : Value), Tab W → Byts W v L → Calls Tryd.prog 8 #[.int .i64 (p : Int), v] W fun e w' => e = .returned (.tuple #[.agg (sva q r), .int .i64 0]) ∧ Below W.heap.size W w'))
    (H2 : Hid (∀ (W : World) (v : Value), Tab W → Byts W v L → Calls Tryd.prog 8 #[.int .i64 (p2 : Int), v] W fun e w' => e = .returned (.tuple #[.agg (sva 0 U.none27), .int .i64 4]) ∧ Below W.heap.size W w'))
    (HF : Hid (∀ W : World, Tab W → Calls Tryd.prog 9 #[] W fun e w' => e = .returned (.bool true) ∧ Below W.heap.size W w'))
    (HV : Hid (∀ W : World, Calls Tryd.prog 10 #[.agg (sva q r)] W fun e w' => e = .returned (.string sw) ∧ Below W.heap.size W w')) :
    Calls Tryd.prog 3 #[.agg (sva q r)] w fun e w' => e = .returned (.bool true) ∧ Below w.heap.size w w' := by
  have HU := Lib.hid (Sup.made w q r HR.out)
  have HB : Hid (Below w.heap.size w (w.alloc (.cells (sva q r) 28))) := alb _
  go_enter Tryd.func3, Tryd.ntmps3
  go_wp2_with (first
    | (refine wpList_load_sup rfl (.tmp 1) rfl w.heap.size q r rfl HU.out ?_))
  generalize w.alloc (.cells (sva q r) 28) = wA at *
  refine (HW.out wA (HT.out.below HB.out)).mono ?_
  rintro e w1 ⟨g, rfl, hk1, -, hx⟩
  replace HU := Lib.hid (HU.out.below hx)
  replace HB := Lib.hid (btr HB.out hx)
  have HK := Lib.hid hk1
  clear hk1 hx HW
  have c0 := HU.out.cell0
  go_wp2_with fail
  refine (H1.out w1 _ (HT.out.below HB.out) HK.out.byts).mono ?_
  rintro e w2 ⟨rfl, hx⟩
  replace HU := Lib.hid (HU.out.below hx)
  replace HB := Lib.hid (btr HB.out hx)
  replace HK := Lib.hid (HK.out.below hx)
  clear hx c0 H1
  have HT9 : Hid ((w2.alloc (.cells #[.int .u64 0, .int .u32 0, .int .u32 0, .int .u32 0, .int .u32 0, .int .u32 0, .int .u32 0, .int .u32 0, .int .u32 0, .int .u32 0, .int .u32 0, .int .u32 0, .int .u32 0, .int .u32 0, .int .u32 0, .int .u32 0, .int .u32 0, .int .u32 0, .int .u32 0, .int .u32 0, .int .u32 0, .int .u32 0, .int .u32 0, .int .u32 0, .int .u32 0, .int .u32 0, .int .u32 0, .int .u32 0] 28)).there w2.heap.size 0 28) := there_new w2 _ _ 28 rfl
  go_wp2_with (first
    | (refine wpList_store_sup rfl (.tmp 4) (.tmp 17) rfl w2.heap.size q r rfl rfl HR.out HT9.out ?_)
    | go_in)
  intro w3 HS4 hk
  replace HU := Lib.hid (Sup.keep (HU.out.below (alb _)) hk (by have := HU.out.lt; omega))
  replace HK := Lib.hid (Blk.keepS (HK.out.below (alb _)) hk (by have := HK.out.lt; omega))
  have hs := HB.out.size
  replace HB := Lib.hid (low_of (bal HB.out _) (by simp; omega) hk hs)
  clear hk HT9 hs
  generalize w2.heap.size = b4 at *
  have c0 := HU.out.cell0
  go_wp2_with fail
  refine (H2.out w3 _ (HT.out.below HB.out) HK.out.byts).mono ?_
  rintro e w4 ⟨rfl, hx⟩
  replace HU := Lib.hid (HU.out.below hx)
  replace HS4 := Lib.hid (HS4.out.below hx)
  replace HB := Lib.hid (btr HB.out hx)
  replace HK := Lib.hid (HK.out.below hx)
  clear hx c0 H2
  have HT9 : Hid ((w4.alloc (.cells #[.int .u64 0, .int .u32 0, .int .u32 0, .int .u32 0, .int .u32 0, .int .u32 0, .int .u32 0, .int .u32 0, .int .u32 0, .int .u32 0, .int .u32 0, .int .u32 0, .int .u32 0, .int .u32 0, .int .u32 0, .int .u32 0, .int .u32 0, .int .u32 0, .int .u32 0, .int .u32 0, .int .u32 0, .int .u32 0, .int .u32 0, .int .u32 0, .int .u32 0, .int .u32 0, .int .u32 0, .int .u32 0] 28)).there w4.heap.size 0 28) := there_new w4 _ _ 28 rfl
  go_wp2_with (first
    | (refine wpList_store_sup rfl (.tmp 6) (.tmp 27) rfl w4.heap.size 0 U.none27 rfl rfl none27_len HT9.out ?_)
    | go_in)
  intro w5 HS6 hk
  replace HU := Lib.hid (Sup.keep (HU.out.below (alb _)) hk (by have := HU.out.lt; omega))
  replace HS4 := Lib.hid (Sup.keep (HS4.out.below (alb _)) hk (by have := HS4.out.lt; omega))
  replace HK := Lib.hid (Blk.keepS (HK.out.below (alb _)) hk (by have := HK.out.lt; omega))
  have hs := HB.out.size
  replace HB := Lib.hid (low_of (bal HB.out _) (by simp; omega) hk hs)
  clear hk HT9 hs
  generalize w4.heap.size = b6 at *
  clear em ep ep2
  go_wp2_with fail
  refine lin_start 27 rfl (by kernel_rfl) ?_
  have hdr : Hid (Below w5.heap.size w5 w5.drew) := (Below.refl _ _).drew
  replace HU := Lib.hid (HU.out.below hdr.out)
  replace HS4 := Lib.hid (HS4.out.below hdr.out)
  replace HS6 := Lib.hid (HS6.out.below hdr.out)
  replace HK := Lib.hid (HK.out.below hdr.out)
  replace HB := Lib.hid (btr HB.out hdr.out)
  clear hdr
  generalize w5.drew = u at *
  refine lin_step 0 rfl (by kernel_rfl) (fun K hK => ?_)
  go_simp
  refine (HF.out _ (HT.out.below HB.out)).mono ?_
  rintro e w6 ⟨rfl, hx⟩
  refine hK.out _ _ hx ?_
  clear hK K
  replace HU := Lib.hid (HU.out.below hx)
  replace HS4 := Lib.hid (HS4.out.below hx)
  replace HS6 := Lib.hid (HS6.out.below hx)
  replace HK := Lib.hid (HK.out.below hx)
  replace HB := Lib.hid (btr HB.out hx)
  clear hx
  try simp only [Act.put, List.setIfInBounds_toArray, List.set_cons_zero, List.set_cons_succ]
  refine lin_take 1 30 (v := ?_) rfl rfl (by kernel_rfl) (by kernel_rfl) (by kernel_rfl) (fun _ _ _ _ _ h => h) (by rfl) (fun W hW => ?_) ?_
  rotate_left
  · go_simp; try rfl
  try simp only [Act.put, List.setIfInBounds_toArray, List.set_cons_zero, List.set_cons_succ]
  refine lin_take 2 31 (v := ?_) rfl rfl (by kernel_rfl) (by kernel_rfl) (by kernel_rfl) (fun _ _ _ _ _ h => h) (by rfl) (fun W hW => ?_) ?_
  rotate_left
  · go_simp; try rfl
  try simp only [Act.put, List.setIfInBounds_toArray, List.set_cons_zero, List.set_cons_succ]
  refine lin_take 3 32 (v := .string sw) rfl rfl (by kernel_rfl) (by kernel_rfl) (by kernel_rfl) (fun _ _ _ _ _ h => h) (by rfl) (fun W hW => ?_) ?_
  · have y := (HK.out.below hW).byts.conv; rw [HSW.out] at y; go_simp; try rfl
  try simp only [Act.put, List.setIfInBounds_toArray, List.set_cons_zero, List.set_cons_succ]
  refine lin_take 4 33 (v := .agg (sva q r)) rfl rfl (by kernel_rfl) (by kernel_rfl) (by kernel_rfl) (fun _ _ _ _ _ h => h) (by rfl) (fun W hW => ?_) ?_
  · exact run_load_sup (.tmp 1) rfl w.heap.size q r rfl (HU.out.below hW)
  try simp only [Act.put, List.setIfInBounds_toArray, List.set_cons_zero, List.set_cons_succ]
  refine lin_step 5 rfl (by kernel_rfl) (fun K hK => ?_)
  go_simp
  refine (HV.out _).mono ?_
  rintro e w7 ⟨rfl, hx⟩
  refine hK.out _ _ hx ?_
  clear hK K
  replace HU := Lib.hid (HU.out.below hx)
  replace HS4 := Lib.hid (HS4.out.below hx)
  replace HS6 := Lib.hid (HS6.out.below hx)
  replace HK := Lib.hid (HK.out.below hx)
  replace HB := Lib.hid (btr HB.out hx)
  clear hx
  try simp only [Act.put, List.setIfInBounds_toArray, List.set_cons_zero, List.set_cons_succ]
  refine lin_take 6 35 (v := .bool true) rfl rfl (by kernel_rfl) (by kernel_rfl) (by kernel_rfl) (fun _ _ _ _ _ h => h) (by rfl) (fun W hW => ?_) ?_
  · go_simp; try rfl
  try simp only [Act.put, List.setIfInBounds_toArray, List.set_cons_zero, List.set_cons_succ]
  refine lin_take 7 36 (v := .bool true) rfl rfl (by kernel_rfl) (by kernel_rfl) (by kernel_rfl) (fun _ _ _ _ _ h => h) (by rfl) (fun W hW => ?_) ?_
  · go_simp; try rfl
  try simp only [Act.put, List.setIfInBounds_toArray, List.set_cons_zero, List.set_cons_succ]
  refine lin_take 8 37 (v := .bool true) rfl rfl (by kernel_rfl) (by kernel_rfl) (by kernel_rfl) (fun _ _ _ _ _ h => h) (by rfl) (fun W hW => ?_) ?_
  · go_simp; try rfl
  try simp only [Act.put, List.setIfInBounds_toArray, List.set_cons_zero, List.set_cons_succ]
  refine lin_take 9 38 (v := ?_) rfl rfl (by kernel_rfl) (by kernel_rfl) (by kernel_rfl) (fun _ _ _ _ _ h => h) (by rfl) (fun W hW => ?_) ?_
  rotate_left
  · go_simp; try rfl
  try simp only [Act.put, List.setIfInBounds_toArray, List.set_cons_zero, List.set_cons_succ]
  refine lin_take 10 39 (v := .bool true) rfl rfl (by kernel_rfl) (by kernel_rfl) (by kernel_rfl) (fun _ _ _ _ _ h => h) (by rfl) (fun W hW => ?_) ?_
  · go_simp; try rfl
  try simp only [Act.put, List.setIfInBounds_toArray, List.set_cons_zero, List.set_cons_succ]
  refine lin_take 11 40 (v := .bool true) rfl rfl (by kernel_rfl) (by kernel_rfl) (by kernel_rfl) (fun _ _ _ _ _ h => h) (by rfl) (fun W hW => ?_) ?_
  · go_simp; try rfl
  try simp only [Act.put, List.setIfInBounds_toArray, List.set_cons_zero, List.set_cons_succ]
  refine lin_take 12 41 (v := .bool true) rfl rfl (by kernel_rfl) (by kernel_rfl) (by kernel_rfl) (fun _ _ _ _ _ h => h) (by rfl) (fun W hW => ?_) ?_
  · go_simp; try rfl
  try simp only [Act.put, List.setIfInBounds_toArray, List.set_cons_zero, List.set_cons_succ]
  refine lin_take 13 42 (v := .agg (sva q r)) rfl rfl (by kernel_rfl) (by kernel_rfl) (by kernel_rfl) (fun _ _ _ _ _ h => h) (by rfl) (fun W hW => ?_) ?_
  · exact run_load_sup (.tmp 4) rfl b4 q r rfl (HS4.out.below hW)
  try simp only [Act.put, List.setIfInBounds_toArray, List.set_cons_zero, List.set_cons_succ]
  refine lin_take 14 43 (v := .agg (sva q r)) rfl rfl (by kernel_rfl) (by kernel_rfl) (by kernel_rfl) (fun _ _ _ _ _ h => h) (by rfl) (fun W hW => ?_) ?_
  · exact run_load_sup (.tmp 1) rfl w.heap.size q r rfl (HU.out.below hW)
  try simp only [Act.put, List.setIfInBounds_toArray, List.set_cons_zero, List.set_cons_succ]
  refine lin_take 15 44 (v := .bool true) rfl rfl (by kernel_rfl) (by kernel_rfl) (by kernel_rfl) (fun _ _ _ _ _ h => h) (by rfl) (fun W hW => ?_) ?_
  · exact run_eql_op (.tmp 42) (.tmp 43) rfl q r rfl rfl HR.out
  try simp only [Act.put, List.setIfInBounds_toArray, List.set_cons_zero, List.set_cons_succ]
  refine lin_take 16 45 (v := .bool true) rfl rfl (by kernel_rfl) (by kernel_rfl) (by kernel_rfl) (fun _ _ _ _ _ h => h) (by rfl) (fun W hW => ?_) ?_
  · go_simp; try rfl
  try simp only [Act.put, List.setIfInBounds_toArray, List.set_cons_zero, List.set_cons_succ]
  refine lin_take 17 46 (v := .bool true) rfl rfl (by kernel_rfl) (by kernel_rfl) (by kernel_rfl) (fun _ _ _ _ _ h => h) (by rfl) (fun W hW => ?_) ?_
  · go_simp; try rfl
  try simp only [Act.put, List.setIfInBounds_toArray, List.set_cons_zero, List.set_cons_succ]
  refine lin_take 18 47 (v := ?_) rfl rfl (by kernel_rfl) (by kernel_rfl) (by kernel_rfl) (fun _ _ _ _ _ h => h) (by rfl) (fun W hW => ?_) ?_
  rotate_left
  · go_simp; try rfl
  try simp only [Act.put, List.setIfInBounds_toArray, List.set_cons_zero, List.set_cons_succ]
  refine lin_take 19 48 (v := .bool true) rfl rfl (by kernel_rfl) (by kernel_rfl) (by kernel_rfl) (fun _ _ _ _ _ h => h) (by rfl) (fun W hW => ?_) ?_
  · go_simp; try rfl
  try simp only [Act.put, List.setIfInBounds_toArray, List.set_cons_zero, List.set_cons_succ]
  refine lin_take 20 49 (v := .bool true) rfl rfl (by kernel_rfl) (by kernel_rfl) (by kernel_rfl) (fun _ _ _ _ _ h => h) (by rfl) (fun W hW => ?_) ?_
  · go_simp; try rfl
  try simp only [Act.put, List.setIfInBounds_toArray, List.set_cons_zero, List.set_cons_succ]
  refine lin_take 21 50 (v := .bool true) rfl rfl (by kernel_rfl) (by kernel_rfl) (by kernel_rfl) (fun _ _ _ _ _ h => h) (by rfl) (fun W hW => ?_) ?_
  · go_simp; try rfl
  try simp only [Act.put, List.setIfInBounds_toArray, List.set_cons_zero, List.set_cons_succ]
  refine lin_take 22 51 (v := .agg (sva 0 U.none27)) rfl rfl (by kernel_rfl) (by kernel_rfl) (by kernel_rfl) (fun _ _ _ _ _ h => h) (by rfl) (fun W hW => ?_) ?_
  · exact run_load_sup (.tmp 6) rfl b6 0 U.none27 rfl (HS6.out.below hW)
  try simp only [Act.put, List.setIfInBounds_toArray, List.set_cons_zero, List.set_cons_succ]
  refine lin_take 23 52 (v := .agg (sva 0 U.none27)) rfl rfl (by kernel_rfl) (by kernel_rfl) (by kernel_rfl) (fun _ _ _ _ _ h => h) (by rfl) (fun W hW => ?_) ?_
  · have y := run_build_sup W; go_simp; try rfl
  try simp only [Act.put, List.setIfInBounds_toArray, List.set_cons_zero, List.set_cons_succ]
  refine lin_take 24 53 (v := .bool true) rfl rfl (by kernel_rfl) (by kernel_rfl) (by kernel_rfl) (fun _ _ _ _ _ h => h) (by rfl) (fun W hW => ?_) ?_
  · exact run_eql_op (.tmp 51) (.tmp 52) rfl 0 U.none27 rfl rfl none27_len
  try simp only [Act.put, List.setIfInBounds_toArray, List.set_cons_zero, List.set_cons_succ]
  refine lin_take 25 54 (v := .bool true) rfl rfl (by kernel_rfl) (by kernel_rfl) (by kernel_rfl) (fun _ _ _ _ _ h => h) (by rfl) (fun W hW => ?_) ?_
  · go_simp; try rfl
  try simp only [Act.put, List.setIfInBounds_toArray, List.set_cons_zero, List.set_cons_succ]
  refine lin_take 26 2 (v := .bool true) rfl rfl (by kernel_rfl) (by kernel_rfl) (by kernel_rfl) (fun _ _ _ _ _ h => h) (by rfl) (fun W hW => ?_) ?_
  · go_simp; try rfl
  try simp only [Act.put, List.setIfInBounds_toArray, List.set_cons_zero, List.set_cons_succ]
  refine lin_done (by kernel_rfl) ?_
  go_wp2
  go_ret
  exact ⟨rfl, HB.out⟩
theorem backlaw_any (q : Nat) (r : List Nat) (w : World) (hq : q < 18446744073709551616) (hr : r.length = 27) (hlt : ∀ x ∈ r, x < 4294967296) (hT : Tab w) :
    Calls Tryd.prog 3 #[.agg (sva q r)] w fun e w' => e = .returned (.bool true) ∧ Below w.heap.size w w' := by
  obtain ⟨m, hm, hm2⟩ : ∃ m : Nat, IntKind.u64.wrap ((q : Int) + 1) = (m : Int) ∧ m % 2 ≠ q % 2 := by
    by_cases h : q + 1 < 18446744073709551616
    · refine ⟨q + 1, ?_, by omega⟩
      rw [show (q : Int) + 1 = ((q + 1 : Nat) : Int) by omega]
      exact wrap_u64_nat _ h
    · obtain rfl : q = 18446744073709551615 := by omega
      exact ⟨0, by decide, by omega⟩
  obtain ⟨a1, a2, a3⟩ := U.read_own q r hr hq hlt (q % 2) rfl
  obtain ⟨b1, b2, b3⟩ := U.read_other q r hr (m % 2) (by omega) hm2
  refine back_core q m (q % 2) (m % 2) r (U.wr q r) (str (U.wr q r)) w hq hm (by omega) (by omega) hr hT rfl (fun W h => write_any q r hr hq hlt W h) ?_ ?_ (fun W h => fixed_any W h) (refwrite_any q r hr hq hlt)
  · intro W v h hv
    have k := read_any ((q % 2 : Nat) : Int) v (U.wr q r) W hv h
    rw [a1, a2, a3] at k
    exact k
  · intro W v h hv
    have k := read_any ((m % 2 : Nat) : Int) v (U.wr q r) W hv h
    rw [b1, b2, b3] at k
    exact k
end Go.Proofs.YtbffpgndjbpifaaDoor
