/- The walk of the law SuperTurns. -/
import Derived.Test.YtbffpgndjbpifaaDoorUf
import Derived.Test.YtbffpgndjbpifaaDoorLin
import Derived.Test.YtbffpgndjbpifaaDoorGr
namespace Go.Proofs.YtbffpgndjbpifaaDoor
open Go.RowKit

theorem Blk.keep {F : Nat → Prop} {w w1 : World} {g : Nat} {l : List UInt8} (h : Blk w g l) (hb : Keep F w w1) (hf : ¬ F g) : Blk w1 g l := ⟨(hb.block g h.lt hf).trans h.1, h.2⟩
theorem Byts.far {w w5 w6 : World} {v : Value} {l : List UInt8} {b : Nat} (h : Byts w v l) (h5 : Byts w5 v l) (k : Keep (fun k => k = b) w5 w6) (hb : w.heap.size ≤ b) : Byts w6 v l := by
  obtain ⟨A, c, rfl, hc, q⟩ := h
  by_cases hl : 0 < l.length
  · obtain ⟨b', off, rfl, q2⟩ := q hl
    have hlt : b' < w.heap.size := World.block_lt_of_cell? w _ (q2 0 hl)
    exact h5.keep k (fun k' hk' => by cases hk'; show ¬ b' = b; omega)
  · exact ⟨A, c, rfl, hc, fun h => absurd h hl⟩
/-- Two values lie at block b. -/
def Two (w : World) (b : Nat) (x y : Value) : Prop := w.cell? ⟨b, 0, none⟩ = some x ∧ w.cell? ⟨b, 1, none⟩ = some y ∧ w.frozen? ⟨b, 0, none⟩ = false ∧ w.frozen? ⟨b, 1, none⟩ = false
theorem Two.lt {w : World} {b : Nat} {x y : Value} (h : Two w b x y) : b < w.heap.size := World.block_lt_of_cell? w ⟨b, 0, none⟩ h.1
theorem Two.made (w : World) (x y : Value) (t : TypeId) : Two (w.alloc (.cells #[x, y] t)) w.heap.size x y := by
  refine ⟨?_, ?_, ?_, ?_⟩ <;> simp [go_sem]
theorem Two.keep {F : Nat → Prop} {w w1 : World} {b : Nat} {x y : Value} (h : Two w b x y) (k : Keep F w w1) (hf : ¬ F b) : Two w1 b x y :=
  ⟨k.cell h.1 hf, k.cell h.2.1 hf, (k.frozen h.1 hf).trans h.2.2.1, (k.frozen h.2.1 hf).trans h.2.2.2⟩
theorem newest_is (va vb : Value) (a b : List UInt8) (E Q : Nat) (R : List Nat) (w : World) (ha : Byts w va a) (hb : Byts w vb b) (hT : Tab w) (h : U.newE a b = E ∧ U.newQ a b = Q ∧ U.newR a b = R) :
    Calls Tryd.prog 14 #[va, vb] w fun e w' => e = .returned (.tuple #[.agg (sva Q R), .int .i64 (E : Int)]) ∧ Below w.heap.size w w' := by
  obtain ⟨rfl, rfl, rfl⟩ := h
  exact newest_any va vb a b w ha hb hT

set_option maxHeartbeats 3200000 in
theorem turns_core (q q2 m p n c : Nat) (A : Option Addr) (r r2 : List Nat) (l : List UInt8) (w : World) (hn : n ≤ 600) (hq : m < 18446744073709551616) (em : (q : Int) + 1 = (m : Int)) (ep : (m : Int) % 2 = (p : Int)) (hp : p = 0 ∨ p = 1)
    (HR : Hid (r.length = 27)) (HR2 : Hid (r2.length = 27)) (HX : Hid (∀ x ∈ r, x < 4294967296)) (HX2 : Hid (∀ x ∈ r2, x < 4294967296)) (HV : Hid (Byts w (.slice A n c) l)) (HT : Hid (Tab w))
    (HN : Hid ((p = 0 → U.newE (U.wr m r2) (U.wr q r) = 0 ∧ U.newQ (U.wr m r2) (U.wr q r) = m ∧ U.newR (U.wr m r2) (U.wr q r) = r2) ∧ (p = 1 → U.newE (U.wr q r) (U.wr m r2) = 0 ∧ U.newQ (U.wr q r) (U.wr m r2) = m ∧ U.newR (U.wr q r) (U.wr m r2) = r2)))
    (HO : Hid ((p = 0 → U.readE 0 l ≠ 0 → U.newE l (U.wr q r) = 0 ∧ U.newQ l (U.wr q r) = q ∧ U.newR l (U.wr q r) = r) ∧ (p = 1 → U.readE 1 l ≠ 0 → U.newE (U.wr q r) l = 0 ∧ U.newQ (U.wr q r) l = q ∧ U.newR (U.wr q r) l = r))) :
    Calls Tryd.prog 6 #[.agg (sva q r), .agg (sva q2 r2), .slice A n c] w fun e w' => e = .returned (.bool true) ∧ Below w.heap.size w w' := by
  have hd : decide ((600 : Int) < (n : Int)) = false := by simp; omega
  have hne : ((q : Int) == 18446744073709551615) = false := by simp; omega
  have es : (sva q2 r2).setIfInBounds 0 (.int .u64 (m : Int)) = sva m r2 := by simp [sva, svs]
  have HS3 : Hid (Sup ((w.alloc (.cells (sva q r) 28)).alloc (.cells ((sva q2 r2).setIfInBounds 0 (.int .u64 (m : Int))) 28)) w.heap.size q r) := (Sup.made w q r HR.out).below (alb _)
  have HS4 : Hid (Sup ((w.alloc (.cells (sva q r) 28)).alloc (.cells ((sva q2 r2).setIfInBounds 0 (.int .u64 (m : Int))) 28)) (w.heap.size + 1) m r2) := by
    have := Sup.made (w.alloc (.cells (sva q r) 28)) m r2 HR2.out
    have e : (w.alloc (.cells (sva q r) 28)).heap.size = w.heap.size + 1 := by simp
    rw [e] at this
    rw [es]
    exact this
  have HB : Hid (Below w.heap.size w ((w.alloc (.cells (sva q r) 28)).alloc (.cells ((sva q2 r2).setIfInBounds 0 (.int .u64 (m : Int))) 28))) := bal (alb _) _
  have hs3 := ((Sup.made w q r HR.out).below (alb (.cells (sva q2 r2) 28)))
  have hs4 := Sup.made (w.alloc (.cells (sva q r) 28)) q2 r2 HR2.out
  have c3 := hs3.cell0
  have c4 := hs4.cell0
  have f4 := hs4.frozen 0 (by omega)
  clear hs3 hs4 es
  go_enter Tryd.func6, Tryd.ntmps6
  go_wp2_with fail
  clear c3 c4 f4 hd hne
  generalize (w.alloc (.cells (sva q r) 28)).alloc (.cells ((sva q2 r2).setIfInBounds 0 (.int .u64 (m : Int))) 28) = w3 at *
  refine lin_start 6 rfl (by kernel_rfl) ?_
  have hdr : Hid (Below w3.heap.size w3 w3.drew) := (Below.refl _ _).drew
  refine lin_take 0 30 (v := .agg (sva q r)) rfl rfl (by kernel_rfl) (by kernel_rfl) (by kernel_rfl) (fun _ _ _ _ _ h => h) (by rfl) (fun W hW => run_load_sup (.tmp 3) rfl w.heap.size q r rfl (HS3.out.below (btr hdr.out hW))) ?_
  try simp only [Act.put, List.setIfInBounds_toArray, List.set_cons_zero, List.set_cons_succ]
  refine lin_take 2 32 (v := .agg (sva m r2)) rfl rfl (by kernel_rfl) (by kernel_rfl) (by kernel_rfl) (fun _ _ _ _ _ h => h) (by rfl) (fun W hW => run_load_sup (.tmp 4) rfl (w.heap.size + 1) m r2 rfl (HS4.out.below (btr hdr.out hW))) ?_
  try simp only [Act.put, List.setIfInBounds_toArray, List.set_cons_zero, List.set_cons_succ]
  replace HS3 := Lib.hid (HS3.out.below hdr.out)
  replace HS4 := Lib.hid (HS4.out.below hdr.out)
  replace HB := Lib.hid (btr HB.out hdr.out)
  clear hdr
  generalize w3.drew = w3 at *
  refine lin_step 1 rfl (by kernel_rfl) (fun K hK => ?_)
  go_simp
  refine (write_any q r HR.out (by omega) HX.out w3 (HT.out.below HB.out)).mono ?_
  rintro e w4 ⟨g1, rfl, hk1, -, hb4⟩
  refine hK.out _ _ hb4 ?_
  clear hK K
  replace HS3 := Lib.hid (HS3.out.below hb4)
  replace HS4 := Lib.hid (HS4.out.below hb4)
  replace HB := Lib.hid (btr HB.out hb4)
  try simp only [Act.put, List.setIfInBounds_toArray, List.set_cons_zero, List.set_cons_succ]
  refine lin_step 3 rfl (by kernel_rfl) (fun K hK => ?_)
  go_simp
  refine (write_any m r2 HR2.out hq HX2.out w4 (HT.out.below HB.out)).mono ?_
  rintro e w5 ⟨g2, rfl, hk2, -, hb5⟩
  refine hK.out _ _ hb5 ?_
  clear hK K
  replace HS3 := Lib.hid (HS3.out.below hb5)
  replace HS4 := Lib.hid (HS4.out.below hb5)
  replace HB := Lib.hid (btr HB.out hb5)
  have HK1 := Lib.hid (hk1.below hb5)
  have HK2 := Lib.hid hk2
  clear hk1 hk2 hb4 hb5
  try simp only [Act.put, List.setIfInBounds_toArray, List.set_cons_zero, List.set_cons_succ]
  refine lin_take 4 7 (v := ?_) rfl rfl (by kernel_rfl) (by kernel_rfl) (by kernel_rfl) (fun _ _ _ _ _ h => h) (by rfl) (fun W hW => ?_) ?_
  rotate_left
  · go_simp; try rfl
  try simp only [Act.put, List.setIfInBounds_toArray, List.set_cons_zero, List.set_cons_succ]
  refine lin_take 5 8 (v := ?_) rfl rfl (by kernel_rfl) (by kernel_rfl) (by kernel_rfl) (fun _ _ _ _ _ h => h) (by rfl) (fun W hW => ?_) ?_
  rotate_left
  · go_simp; try rfl
  try simp only [Act.put, List.setIfInBounds_toArray, List.set_cons_zero, List.set_cons_succ]
  refine lin_done (by kernel_rfl) ?_
  have c4 := HS4.out.cell0
  go_wp2_with fail
  refine (read_any (p : Int) (.slice A n c) l w5 (HV.out.below HB.out) (HT.out.below HB.out)).mono ?_
  rintro e w6 ⟨rfl, hb6⟩
  have HL6 := Lib.hid (U.readR_length (p : Int) l)
  generalize U.readQ (p : Int) l = qe at *
  generalize U.readR (p : Int) l = re at *
  clear c4
  replace HS3 := Lib.hid (HS3.out.below hb6)
  replace HS4 := Lib.hid (HS4.out.below hb6)
  replace HK1 := Lib.hid (HK1.out.below hb6)
  replace HK2 := Lib.hid (HK2.out.below hb6)
  replace HB := Lib.hid (btr HB.out hb6)
  clear hb6
  have HT9 : Hid ((w6.alloc (.cells #[.int .u64 0, .int .u32 0, .int .u32 0, .int .u32 0, .int .u32 0, .int .u32 0, .int .u32 0, .int .u32 0, .int .u32 0, .int .u32 0, .int .u32 0, .int .u32 0, .int .u32 0, .int .u32 0, .int .u32 0, .int .u32 0, .int .u32 0, .int .u32 0, .int .u32 0, .int .u32 0, .int .u32 0, .int .u32 0, .int .u32 0, .int .u32 0, .int .u32 0, .int .u32 0, .int .u32 0, .int .u32 0] 28)).there w6.heap.size 0 28) := there_new w6 _ _ 28 rfl
  go_wp2_with (first
    | (refine wpList_store_sup rfl (.tmp 10) (.tmp 42) rfl w6.heap.size qe re rfl rfl HL6.out HT9.out ?_)
    | go_in)
  intro w7 _ hk7
  replace HS3 := Lib.hid (Sup.keep (HS3.out.below (alb _)) hk7 (by have := HS3.out.lt; omega))
  replace HS4 := Lib.hid (Sup.keep (HS4.out.below (alb _)) hk7 (by have := HS4.out.lt; omega))
  replace HK1 := Lib.hid (Blk.keep (HK1.out.below (alb _)) hk7 (by have := HK1.out.lt; omega))
  replace HK2 := Lib.hid (Blk.keep (HK2.out.below (alb _)) hk7 (by have := HK2.out.lt; omega))
  have hs6 := HB.out.size
  replace HB := Lib.hid (low_of (bal HB.out _) (by simp; omega) hk7 hs6)
  clear hk7 HT9 hs6
  generalize w6.heap.size = b10 at *
  have HG := Lib.hid (show ¬ g1 = w7.heap.size by have := HK1.out.lt; omega)
  have HG3 := Lib.hid (show ¬ w.heap.size = w7.heap.size by have := HS3.out.lt; omega)
  rcases hp with rfl | rfl
  · have HB8 : Hid (Below w.heap.size w (w7.alloc (.cells #[.slice (some ⟨g2, 0, none⟩) 512 512, .slice (some ⟨g1, 0, none⟩) 512 512] 45))) := bal HB.out _
    have HW := Lib.hid (newest_is (.slice (some ⟨g2, 0, none⟩) 512 512) (.slice (some ⟨g1, 0, none⟩) 512 512) (U.wr m r2) (U.wr q r) 0 m r2 (w7.alloc (.cells #[.slice (some ⟨g2, 0, none⟩) 512 512, .slice (some ⟨g1, 0, none⟩) 512 512] 45)) (HK2.out.byts.below (alb _)) (HK1.out.byts.below (alb _)) (HT.out.below HB8.out) (HN.out.1 rfl))
    have HP := Lib.hid (Two.made w7 (.slice (some ⟨g2, 0, none⟩) 512 512) (.slice (some ⟨g1, 0, none⟩) 512 512) 45)
    replace HS3 := Lib.hid (HS3.out.below (alb (.cells #[.slice (some ⟨g2, 0, none⟩) 512 512, .slice (some ⟨g1, 0, none⟩) 512 512] 45)))
    replace HS4 := Lib.hid (HS4.out.below (alb (.cells #[.slice (some ⟨g2, 0, none⟩) 512 512, .slice (some ⟨g1, 0, none⟩) 512 512] 45)))
    replace HK1 := Lib.hid (HK1.out.below (alb (.cells #[.slice (some ⟨g2, 0, none⟩) 512 512, .slice (some ⟨g1, 0, none⟩) 512 512] 45)))
    have HL := Lib.hid HB.out.size
    clear HB
    go_wp2_with fail
    generalize w7.alloc (.cells #[.slice (some ⟨g2, 0, none⟩) 512 512, .slice (some ⟨g1, 0, none⟩) 512 512] 45) = w8 at *
    generalize w7.heap.size = b12 at *
    refine HW.out.mono ?_
    rintro e w9 ⟨rfl, hb9⟩
    clear HW
    replace HS3 := Lib.hid (HS3.out.below hb9)
    replace HS4 := Lib.hid (HS4.out.below hb9)
    replace HK1 := Lib.hid (HK1.out.below hb9)
    replace HP := Lib.hid (HP.out.keep (F := fun _ => False) (Keep.of_below hb9) (fun h => h))
    replace HB := Lib.hid (btr HB8.out hb9)
    clear hb9 HB8 HK2
    have HT9 : Hid ((w9.alloc (.cells #[.int .u64 0, .int .u32 0, .int .u32 0, .int .u32 0, .int .u32 0, .int .u32 0, .int .u32 0, .int .u32 0, .int .u32 0, .int .u32 0, .int .u32 0, .int .u32 0, .int .u32 0, .int .u32 0, .int .u32 0, .int .u32 0, .int .u32 0, .int .u32 0, .int .u32 0, .int .u32 0, .int .u32 0, .int .u32 0, .int .u32 0, .int .u32 0, .int .u32 0, .int .u32 0, .int .u32 0, .int .u32 0] 28)).there w9.heap.size 0 28) := there_new w9 _ _ 28 rfl
    go_wp2_with (first
      | (refine wpList_store_sup rfl (.tmp 13) (.tmp 56) rfl w9.heap.size m r2 rfl rfl HR2.out HT9.out ?_)
      | go_in)
    intro w10 HS5 hk
    replace HS3 := Lib.hid (Sup.keep (HS3.out.below (alb _)) hk (by have := HS3.out.lt; omega))
    replace HS4 := Lib.hid (Sup.keep (HS4.out.below (alb _)) hk (by have := HS4.out.lt; omega))
    replace HK1 := Lib.hid (Blk.keep (HK1.out.below (alb _)) hk (by have := HK1.out.lt; omega))
    replace HP := Lib.hid (Two.keep (HP.out.keep (F := fun _ => False) (Keep.of_below (alb _)) (fun h => h)) hk (by have := HP.out.lt; omega))
    have hs9 := HB.out.size
    replace HB := Lib.hid (low_of (bal HB.out _) (by simp; omega) hk hs9)
    clear hk HT9 hs9
    generalize w9.heap.size = b13 at *
    obtain ⟨y0, y1, z0, z1⟩ := HP.out
    by_cases hbad : U.readE 0 l = 0
    · have q1 : (((U.readE 0 l : Nat) : Int) == 0) = true := by simp [hbad]
      clear hbad HO HN
      generalize U.readE 0 l = en at *
      go_wp2_with (first
        | (refine wpList_load_supG rfl (.tmp 13) rfl b13 m r2 rfl HS5.out ?_)
        | (refine wpList_load_supG rfl (.tmp 4) rfl (w.heap.size + 1) m r2 rfl HS4.out ?_)
        | (refine wpList_neq_sup rfl (.tmp 61) (.tmp 62) rfl m r2 rfl rfl HR2.out ?_))
      refine (fixed_any w10 (HT.out.below HB.out)).mono ?_
      rintro e w11 ⟨rfl, hb11⟩
      go_wp2
      go_ret
      exact ⟨rfl, btr HB.out hb11⟩
    · have q1 : (((U.readE 0 l : Nat) : Int) == 0) = false := by simp [hbad]
      have HE := Lib.hid (HO.out.1 (by first | rfl | trivial) hbad)
      clear hbad HO HN
      generalize U.readE 0 l = en at *
      go_wp2_with (first
        | (refine wpList_load_supG rfl (.tmp 13) rfl b13 m r2 rfl HS5.out ?_)
        | (refine wpList_load_supG rfl (.tmp 4) rfl (w.heap.size + 1) m r2 rfl HS4.out ?_)
        | (refine wpList_neq_sup rfl (.tmp 61) (.tmp 62) rfl m r2 rfl rfl HR2.out ?_))
      have hb12 : w.heap.size ≤ b12 := HL.out
      have hk := keep_one w10 b12 0 (.slice A n c)
      have HV2 := Lib.hid (HV.out.far (HV.out.below HB.out) hk hb12)
      have HW2 := Lib.hid (newest_is (.slice A n c) (.slice (some ⟨g1, 0, none⟩) 512 512) l (U.wr q r) 0 q r (w10.setCell ⟨b12, 0, none⟩ (.slice A n c)) HV2.out (Byts.keep HK1.out.byts hk (by rintro k hk; cases hk; show ¬ g1 = b12; exact HG.out)) (HT.out.below (low_of HB.out HB.out.size hk hb12)) HE.out)
      replace HS3 := Lib.hid (HS3.out.keep hk (by have := HG3.out; omega))
      replace HB := Lib.hid (low_of HB.out HB.out.size hk hb12)
      clear hk HS4 HS5 HK1 HP HE HV2 y0 y1 z0 z1
      generalize w10.setCell ⟨b12, 0, none⟩ (.slice A n c) = w11 at *
      refine HW2.out.mono ?_
      rintro e w12 ⟨rfl, hx⟩
      clear HW2
      replace HS3 := Lib.hid (HS3.out.below hx)
      replace HB := Lib.hid (btr HB.out hx)
      clear hx
      have HT9 : Hid ((w12.alloc (.cells #[.int .u64 0, .int .u32 0, .int .u32 0, .int .u32 0, .int .u32 0, .int .u32 0, .int .u32 0, .int .u32 0, .int .u32 0, .int .u32 0, .int .u32 0, .int .u32 0, .int .u32 0, .int .u32 0, .int .u32 0, .int .u32 0, .int .u32 0, .int .u32 0, .int .u32 0, .int .u32 0, .int .u32 0, .int .u32 0, .int .u32 0, .int .u32 0, .int .u32 0, .int .u32 0, .int .u32 0, .int .u32 0] 28)).there w12.heap.size 0 28) := there_new w12 _ _ 28 rfl
      go_wp2_with (first
        | (refine wpList_store_sup rfl (.tmp 15) (.tmp 77) rfl w12.heap.size q r rfl rfl HR.out HT9.out ?_)
        | go_in)
      intro w13 HS5 hk
      replace HS3 := Lib.hid (Sup.keep (HS3.out.below (alb _)) hk (by have := HS3.out.lt; omega))
      have hs9 := HB.out.size
      replace HB := Lib.hid (low_of (bal HB.out _) (by simp; omega) hk hs9)
      clear hk HT9 hs9
      generalize w12.heap.size = b15 at *
      go_wp2_with fail
      refine (fixed_any w13 (HT.out.below HB.out)).mono ?_
      rintro e w14 ⟨rfl, hb14⟩
      replace HS3 := Lib.hid (HS3.out.below hb14)
      replace HS5 := Lib.hid (HS5.out.below hb14)
      replace HB := Lib.hid (btr HB.out hb14)
      clear hb14
      go_wp2_with (first
        | (refine wpList_load_supG rfl (.tmp 15) rfl b15 q r rfl HS5.out ?_)
        | (refine wpList_load_supG rfl (.tmp 3) rfl w.heap.size q r rfl HS3.out ?_)
        | (refine wpList_eql_sup rfl (.tmp 85) (.tmp 86) rfl q r rfl rfl HR.out ?_)
        | go_in)
      go_ret
      exact ⟨rfl, HB.out⟩
  · have HB8 : Hid (Below w.heap.size w (w7.alloc (.cells #[.slice (some ⟨g1, 0, none⟩) 512 512, .slice (some ⟨g2, 0, none⟩) 512 512] 45))) := bal HB.out _
    have HW := Lib.hid (newest_is (.slice (some ⟨g1, 0, none⟩) 512 512) (.slice (some ⟨g2, 0, none⟩) 512 512) (U.wr q r) (U.wr m r2) 0 m r2 (w7.alloc (.cells #[.slice (some ⟨g1, 0, none⟩) 512 512, .slice (some ⟨g2, 0, none⟩) 512 512] 45)) (HK1.out.byts.below (alb _)) (HK2.out.byts.below (alb _)) (HT.out.below HB8.out) (HN.out.2 rfl))
    have HP := Lib.hid (Two.made w7 (.slice (some ⟨g1, 0, none⟩) 512 512) (.slice (some ⟨g2, 0, none⟩) 512 512) 45)
    replace HS3 := Lib.hid (HS3.out.below (alb (.cells #[.slice (some ⟨g1, 0, none⟩) 512 512, .slice (some ⟨g2, 0, none⟩) 512 512] 45)))
    replace HS4 := Lib.hid (HS4.out.below (alb (.cells #[.slice (some ⟨g1, 0, none⟩) 512 512, .slice (some ⟨g2, 0, none⟩) 512 512] 45)))
    replace HK1 := Lib.hid (HK1.out.below (alb (.cells #[.slice (some ⟨g1, 0, none⟩) 512 512, .slice (some ⟨g2, 0, none⟩) 512 512] 45)))
    have HL := Lib.hid HB.out.size
    clear HB
    go_wp2_with fail
    generalize w7.alloc (.cells #[.slice (some ⟨g1, 0, none⟩) 512 512, .slice (some ⟨g2, 0, none⟩) 512 512] 45) = w8 at *
    generalize w7.heap.size = b12 at *
    refine HW.out.mono ?_
    rintro e w9 ⟨rfl, hb9⟩
    clear HW
    replace HS3 := Lib.hid (HS3.out.below hb9)
    replace HS4 := Lib.hid (HS4.out.below hb9)
    replace HK1 := Lib.hid (HK1.out.below hb9)
    replace HP := Lib.hid (HP.out.keep (F := fun _ => False) (Keep.of_below hb9) (fun h => h))
    replace HB := Lib.hid (btr HB8.out hb9)
    clear hb9 HB8 HK2
    have HT9 : Hid ((w9.alloc (.cells #[.int .u64 0, .int .u32 0, .int .u32 0, .int .u32 0, .int .u32 0, .int .u32 0, .int .u32 0, .int .u32 0, .int .u32 0, .int .u32 0, .int .u32 0, .int .u32 0, .int .u32 0, .int .u32 0, .int .u32 0, .int .u32 0, .int .u32 0, .int .u32 0, .int .u32 0, .int .u32 0, .int .u32 0, .int .u32 0, .int .u32 0, .int .u32 0, .int .u32 0, .int .u32 0, .int .u32 0, .int .u32 0] 28)).there w9.heap.size 0 28) := there_new w9 _ _ 28 rfl
    go_wp2_with (first
      | (refine wpList_store_sup rfl (.tmp 13) (.tmp 56) rfl w9.heap.size m r2 rfl rfl HR2.out HT9.out ?_)
      | go_in)
    intro w10 HS5 hk
    replace HS3 := Lib.hid (Sup.keep (HS3.out.below (alb _)) hk (by have := HS3.out.lt; omega))
    replace HS4 := Lib.hid (Sup.keep (HS4.out.below (alb _)) hk (by have := HS4.out.lt; omega))
    replace HK1 := Lib.hid (Blk.keep (HK1.out.below (alb _)) hk (by have := HK1.out.lt; omega))
    replace HP := Lib.hid (Two.keep (HP.out.keep (F := fun _ => False) (Keep.of_below (alb _)) (fun h => h)) hk (by have := HP.out.lt; omega))
    have hs9 := HB.out.size
    replace HB := Lib.hid (low_of (bal HB.out _) (by simp; omega) hk hs9)
    clear hk HT9 hs9
    generalize w9.heap.size = b13 at *
    obtain ⟨y0, y1, z0, z1⟩ := HP.out
    by_cases hbad : U.readE 1 l = 0
    · have q1 : (((U.readE 1 l : Nat) : Int) == 0) = true := by simp [hbad]
      clear hbad HO HN
      generalize U.readE 1 l = en at *
      go_wp2_with (first
        | (refine wpList_load_supG rfl (.tmp 13) rfl b13 m r2 rfl HS5.out ?_)
        | (refine wpList_load_supG rfl (.tmp 4) rfl (w.heap.size + 1) m r2 rfl HS4.out ?_)
        | (refine wpList_neq_sup rfl (.tmp 61) (.tmp 62) rfl m r2 rfl rfl HR2.out ?_))
      refine (fixed_any w10 (HT.out.below HB.out)).mono ?_
      rintro e w11 ⟨rfl, hb11⟩
      go_wp2
      go_ret
      exact ⟨rfl, btr HB.out hb11⟩
    · have q1 : (((U.readE 1 l : Nat) : Int) == 0) = false := by simp [hbad]
      have HE := Lib.hid (HO.out.2 (by first | rfl | trivial) hbad)
      clear hbad HO HN
      generalize U.readE 1 l = en at *
      go_wp2_with (first
        | (refine wpList_load_supG rfl (.tmp 13) rfl b13 m r2 rfl HS5.out ?_)
        | (refine wpList_load_supG rfl (.tmp 4) rfl (w.heap.size + 1) m r2 rfl HS4.out ?_)
        | (refine wpList_neq_sup rfl (.tmp 61) (.tmp 62) rfl m r2 rfl rfl HR2.out ?_))
      have hb12 : w.heap.size ≤ b12 := HL.out
      have hk := keep_one w10 b12 1 (.slice A n c)
      have HV2 := Lib.hid (HV.out.far (HV.out.below HB.out) hk hb12)
      have HW2 := Lib.hid (newest_is (.slice (some ⟨g1, 0, none⟩) 512 512) (.slice A n c) (U.wr q r) l 0 q r (w10.setCell ⟨b12, 1, none⟩ (.slice A n c)) (Byts.keep HK1.out.byts hk (by rintro k hk; cases hk; show ¬ g1 = b12; exact HG.out)) HV2.out (HT.out.below (low_of HB.out HB.out.size hk hb12)) HE.out)
      replace HS3 := Lib.hid (HS3.out.keep hk (by have := HG3.out; omega))
      replace HB := Lib.hid (low_of HB.out HB.out.size hk hb12)
      clear hk HS4 HS5 HK1 HP HE HV2 y0 y1 z0 z1
      generalize w10.setCell ⟨b12, 1, none⟩ (.slice A n c) = w11 at *
      refine HW2.out.mono ?_
      rintro e w12 ⟨rfl, hx⟩
      clear HW2
      replace HS3 := Lib.hid (HS3.out.below hx)
      replace HB := Lib.hid (btr HB.out hx)
      clear hx
      have HT9 : Hid ((w12.alloc (.cells #[.int .u64 0, .int .u32 0, .int .u32 0, .int .u32 0, .int .u32 0, .int .u32 0, .int .u32 0, .int .u32 0, .int .u32 0, .int .u32 0, .int .u32 0, .int .u32 0, .int .u32 0, .int .u32 0, .int .u32 0, .int .u32 0, .int .u32 0, .int .u32 0, .int .u32 0, .int .u32 0, .int .u32 0, .int .u32 0, .int .u32 0, .int .u32 0, .int .u32 0, .int .u32 0, .int .u32 0, .int .u32 0] 28)).there w12.heap.size 0 28) := there_new w12 _ _ 28 rfl
      go_wp2_with (first
        | (refine wpList_store_sup rfl (.tmp 15) (.tmp 77) rfl w12.heap.size q r rfl rfl HR.out HT9.out ?_)
        | go_in)
      intro w13 HS5 hk
      replace HS3 := Lib.hid (Sup.keep (HS3.out.below (alb _)) hk (by have := HS3.out.lt; omega))
      have hs9 := HB.out.size
      replace HB := Lib.hid (low_of (bal HB.out _) (by simp; omega) hk hs9)
      clear hk HT9 hs9
      generalize w12.heap.size = b15 at *
      go_wp2_with fail
      refine (fixed_any w13 (HT.out.below HB.out)).mono ?_
      rintro e w14 ⟨rfl, hb14⟩
      replace HS3 := Lib.hid (HS3.out.below hb14)
      replace HS5 := Lib.hid (HS5.out.below hb14)
      replace HB := Lib.hid (btr HB.out hb14)
      clear hb14
      go_wp2_with (first
        | (refine wpList_load_supG rfl (.tmp 15) rfl b15 q r rfl HS5.out ?_)
        | (refine wpList_load_supG rfl (.tmp 3) rfl w.heap.size q r rfl HS3.out ?_)
        | (refine wpList_eql_sup rfl (.tmp 85) (.tmp 86) rfl q r rfl rfl HR.out ?_)
        | go_in)
      go_ret
      exact ⟨rfl, HB.out⟩
theorem turns_big (q q2 : Nat) (r r2 : List Nat) (A : Option Addr) (n c : Nat) (w : World) (hr : r.length = 27) (h : 600 < n ∨ (n ≤ 600 ∧ q = 18446744073709551615)) (hT : Tab w) :
    Calls Tryd.prog 6 #[.agg (sva q r), .agg (sva q2 r2), .slice A n c] w fun e w' => e = .returned (.bool true) ∧ Below w.heap.size w w' := by
  have HB : Hid (Below w.heap.size w ((w.alloc (.cells (sva q r) 28)).alloc (.cells (sva q2 r2) 28))) := bal (alb _) _
  have HF := Lib.hid (fixed_any ((w.alloc (.cells (sva q r) 28)).alloc (.cells (sva q2 r2) 28)) (hT.below HB.out))
  have c3 := ((Sup.made w q r hr).below (alb (.cells (sva q2 r2) 28))).cell0
  have k : (decide ((600 : Int) < (n : Int)) = true) ∨ (decide ((600 : Int) < (n : Int)) = false ∧ ((q : Int) == 18446744073709551615) = true) := by
    rcases h with h | ⟨h, h2⟩
    · exact .inl (by simp; omega)
    · exact .inr ⟨by simp; omega, by simp; omega⟩
  clear h hT
  rcases k with k | ⟨k, k2⟩
  all_goals
    go_enter Tryd.func6, Tryd.ntmps6
    go_wp2_with fail
    refine HF.out.mono ?_
    rintro e w4 ⟨rfl, h4⟩
    go_wp2
    go_ret
    exact ⟨rfl, btr HB.out h4⟩
theorem turnslaw_any (q q2 : Nat) (r r2 : List Nat) (v : Value) (l : List UInt8) (w : World) (hq : q < 18446744073709551616) (hl : r.length = 27) (hl2 : r2.length = 27) (hr : ∀ x ∈ r, x < 4294967296) (hr2 : ∀ x ∈ r2, x < 4294967296) (b : Byts w v l) (hT : Tab w) :
    Calls Tryd.prog 6 #[.agg (sva q r), .agg (sva q2 r2), v] w fun e w' => e = .returned (.bool true) ∧ Below w.heap.size w w' := by
  obtain ⟨A, c, rfl⟩ := b.form
  by_cases h : l.length ≤ 600
  · by_cases h2 : q + 1 < 18446744073709551616
    · have hn := U.turn_new q (q + 1) r r2 hl hl2 hr hr2 rfl h2
      have ho := U.turn_old q r l hl hr (by omega)
      exact turns_core q q2 (q + 1) ((q + 1) % 2) l.length c A r r2 l w h h2 (by omega) (by omega) (by omega) hl hl2 hr hr2 b hT hn ⟨fun e => ho.1 (by omega), fun e => ho.2 (by omega)⟩
    · exact turns_big q q2 r r2 A _ c w hl (.inr ⟨h, by omega⟩) hT
  · exact turns_big q q2 r r2 A _ c w hl (.inl (by omega)) hT
end Go.Proofs.YtbffpgndjbpifaaDoor
