/- The document's own Number, Body and Write of a super. -/
import Derived.Test.YtbffpgndjbpifaaDoorUe
import Derived.Test.YtbffpgndjbpifaaDoorLin
import Derived.Test.YtbffpgndjbpifaaDoorGq
namespace Go.Proofs.YtbffpgndjbpifaaDoor
open Go.RowKit
open U (be val)

theorem num_facts (l : List UInt8) (hl : l.length ≤ 4) : ∃ G : Nat → Nat, G 0 = 0 ∧ G (str l).size = val l ∧ ∀ j (h : j < (str l).size), (str l)[j].toNat < 256 ∧ G j * 256 + (str l)[j].toNat < 4294967296 ∧ G (j + 1) = G j * 256 + (str l)[j].toNat := by
  refine ⟨fun j => val (l.take j), rfl, by show val (l.take (str l).size) = val l; rw [str_size, List.take_length], fun j h => ?_⟩
  have hj : j < l.length := by rwa [str_size] at h
  show (l[j]).toNat < 256 ∧ val (l.take j) * 256 + (l[j]).toNat < 4294967296 ∧ val (l.take (j + 1)) = val (l.take j) * 256 + (l[j]).toNat
  have e2 : val (l.take (j + 1)) = val (l.take j) * 256 + (l[j]).toNat := by rw [List.take_succ_eq_append_getElem hj, U.val_snoc]
  refine ⟨C.u8_lt _, ?_, e2⟩
  rw [← e2]
  have h1 := U.val_lt (l.take (j + 1))
  have h2 : (l.take (j + 1)).length ≤ 4 := by simp; omega
  exact Nat.lt_of_lt_of_le h1 (Nat.le_trans (Nat.pow_le_pow_right (by omega) h2) (by omega))
theorem refnumber_any (l : List UInt8) (hl : l.length ≤ 4) (w : World) :
    Calls Tryd.prog 24 #[.string (str l)] w fun e w' => e = .returned (.int .u32 ((val l : Nat) : Int)) ∧ w' = w := by
  obtain ⟨G, g0, g1, g2⟩ := num_facts l hl
  have hsz : (str l).size ≤ 4 := by rw [str_size]; exact hl
  generalize val l = R at *
  generalize str l = sl at *
  have G1 := Lib.hid g1
  have G2 := Lib.hid g2
  have G0 := Lib.hid g0
  clear g0 g1 g2 hl
  go_enter Tryd.func24, Tryd.ntmps24
  go_wp2
  go_loop [3, 4] (fun r i => ∃ j : Nat, j ≤ sl.size ∧ i = .int .i64 (j : Int) ∧ r = .int .u32 ((G j : Nat) : Int)) (fun _ i => sl.size - (intOf i).toNat)
  case atStart => exact ⟨0, by omega, rfl, by rw [G0.out]; rfl⟩
  case round =>
    obtain ⟨j, hj, rfl, rfl⟩ := hrel
    by_cases hlt : j < sl.size
    · obtain ⟨k1, k2, k3⟩ := G2.out j hlt
      obtain ⟨z, hz⟩ : ∃ z, G j = z := ⟨_, rfl⟩
      rw [hz] at k2 k3
      rw [hz]
      have HK := Lib.hid k3
      clear k3 hz
      go_wp2
      go_round
      case rel => exact ⟨j + 1, by omega, by go_num, by rw [HK.out]; go_num⟩
      case measure => simp [intOf]; omega
    · obtain rfl : j = sl.size := by omega
      have e2 := G1.out
      generalize G sl.size = z at *
      go_wp2
      go_ret
      exact ⟨rfl, rfl⟩

theorem wrap_small (x : Nat) (h : x < 4294967296) : IntKind.u32.wrap (x : Int) = (x : Int) := by
  simp [IntKind.wrap, IntKind.signed, IntKind.bits]
  omega
/-- What Body has behind so many rounds. -/
def bodyTo (q : Nat) (r : List Nat) (k : Nat) : List UInt8 := be 8 q ++ (r.take (3 + 3 * k)).flatMap G.four
theorem bodyTo_zero (q : Nat) (r : List Nat) (h : r.length = 27) : ((((G.four (q / 4294967296) ++ G.four (q % 4294967296)) ++ G.four (r.getD 0 0)) ++ G.four (r.getD 1 0)) ++ G.four (r.getD 2 0)) = bodyTo q r 0 := by
  unfold bodyTo
  rw [U.be_eight]
  match r, h with
  | a :: b :: c :: t, _ => simp
theorem bodyTo_next (q : Nat) (r : List Nat) (h : r.length = 27) (k : Nat) (hk : k < 8) : ((bodyTo q r k ++ G.four (r.getD (3 + 3 * k) 0)) ++ G.four (r.getD (4 + 3 * k) 0)) ++ G.four (r.getD (5 + 3 * k) 0) = bodyTo q r (k + 1) := by
  have one : ∀ i, i < 27 → (be 8 q ++ (r.take i).flatMap G.four) ++ G.four (r.getD i 0) = be 8 q ++ (r.take (i + 1)).flatMap G.four := by
    intro i hi
    rw [← U.be_four]
    exact flat_snoc q r i (by omega)
  unfold bodyTo
  rw [one (3 + 3 * k) (by omega), show 3 + 3 * k + 1 = 4 + 3 * k by omega, one (4 + 3 * k) (by omega), show 4 + 3 * k + 1 = 5 + 3 * k by omega, one (5 + 3 * k) (by omega), show 5 + 3 * k + 1 = 3 + 3 * (k + 1) by omega]
theorem bodyTo_all (q : Nat) (r : List Nat) (h : r.length = 27) : bodyTo q r 8 = U.body q r := by
  unfold bodyTo U.body
  rw [List.take_of_length_le (by omega)]
theorem bodyTo_len (q : Nat) (r : List Nat) (h : r.length = 27) (k : Nat) (hk : k ≤ 8) : (bodyTo q r k).length ≤ 200 := by
  unfold bodyTo
  rw [flat_len q r _ h (by omega)]
  omega
theorem add_str (l m : List UInt8) (sl sm sn : ByteArray) (h1 : str l = sl) (h2 : str m = sm) (h3 : str (l ++ m) = sn) (hl : l.length ≤ 400) (hm : m.length ≤ 400) (w : World) : (Op.stringOp .add sl sm).run Tryd.prog w = .ok (.string sn) w := by
  subst h1 h2 h3
  exact run_str_add l m (by omega) w
theorem four_str (x : Nat) (s : ByteArray) (h : str (G.four x) = s) (hx : x < 4294967296) (w : World) : Calls Tryd.prog 11 #[.int .u32 (x : Int)] w fun e w' => e = .returned (.string s) ∧ Below w.heap.size w w' := by
  subst h
  exact reffour_any x hx w

set_option maxHeartbeats 3200000 in
theorem refbody_core (q qh ql x0 x1 x2 : Nat) (r : List Nat) (sH sL s0 s1 s2 sa sb sc : ByteArray) (S : Nat → ByteArray) (w : World) (hq : q < 18446744073709551616) (eh : (q : Int) / 4294967296 = (qh : Int)) (el : (q : Int) % 4294967296 = (ql : Int))
    (bh : qh < 4294967296) (bl : ql < 4294967296)
    (HR : Hid (r.length = 27)) (HX0 : Hid (r.getD 0 0 = x0)) (HX1 : Hid (r.getD 1 0 = x1)) (HX2 : Hid (r.getD 2 0 = x2))
    (HH : Hid (∀ w : World, Calls Tryd.prog 11 #[.int .u32 (qh : Int)] w fun e w' => e = .returned (.string sH) ∧ Below w.heap.size w w'))
    (HL : Hid (∀ w : World, Calls Tryd.prog 11 #[.int .u32 (ql : Int)] w fun e w' => e = .returned (.string sL) ∧ Below w.heap.size w w'))
    (H0 : Hid (∀ w : World, Calls Tryd.prog 11 #[.int .u32 (x0 : Int)] w fun e w' => e = .returned (.string s0) ∧ Below w.heap.size w w'))
    (H1 : Hid (∀ w : World, Calls Tryd.prog 11 #[.int .u32 (x1 : Int)] w fun e w' => e = .returned (.string s1) ∧ Below w.heap.size w w'))
    (H2 : Hid (∀ w : World, Calls Tryd.prog 11 #[.int .u32 (x2 : Int)] w fun e w' => e = .returned (.string s2) ∧ Below w.heap.size w w'))
    (A1 : Hid (∀ w : World, (Op.stringOp .add sH sL).run Tryd.prog w = .ok (.string sa) w)) (A2 : Hid (∀ w : World, (Op.stringOp .add sa s0).run Tryd.prog w = .ok (.string sb) w))
    (A3 : Hid (∀ w : World, (Op.stringOp .add sb s1).run Tryd.prog w = .ok (.string sc) w)) (A4 : Hid (∀ w : World, (Op.stringOp .add sc s2).run Tryd.prog w = .ok (.string (S 0)) w))
    (HS : Hid (∀ k, k < 8 → ∃ (y0 y1 y2 : Nat) (t0 t1 t2 ta tb : ByteArray), y0 < 4294967296 ∧ y1 < 4294967296 ∧ y2 < 4294967296 ∧ r.getD (3 + 3 * k) 0 = y0 ∧ r.getD (4 + 3 * k) 0 = y1 ∧ r.getD (5 + 3 * k) 0 = y2 ∧
      Hid (∀ w : World, Calls Tryd.prog 11 #[.int .u32 (y0 : Int)] w fun e w' => e = .returned (.string t0) ∧ Below w.heap.size w w') ∧
      Hid (∀ w : World, Calls Tryd.prog 11 #[.int .u32 (y1 : Int)] w fun e w' => e = .returned (.string t1) ∧ Below w.heap.size w w') ∧
      Hid (∀ w : World, Calls Tryd.prog 11 #[.int .u32 (y2 : Int)] w fun e w' => e = .returned (.string t2) ∧ Below w.heap.size w w') ∧
      Hid (∀ w : World, (Op.stringOp .add (S k) t0).run Tryd.prog w = .ok (.string ta) w) ∧ Hid (∀ w : World, (Op.stringOp .add ta t1).run Tryd.prog w = .ok (.string tb) w) ∧ Hid (∀ w : World, (Op.stringOp .add tb t2).run Tryd.prog w = .ok (.string (S (k + 1))) w))) :
    Calls Tryd.prog 21 #[.agg (sva q r)] w fun e w' => e = .returned (.string (S 8)) ∧ Below w.heap.size w w' := by
  have HU := Lib.hid (Sup.made w q r HR.out)
  have HB : Hid (Below w.heap.size w (w.alloc (.cells (sva q r) 28))) := alb _
  go_enter Tryd.func21, Tryd.ntmps21
  go_wp2_with fail
  generalize w.alloc (.cells (sva q r) 28) = wA at *
  refine lin_start 24 rfl (by kernel_rfl) ?_
  have hdr : Hid (Below wA.heap.size wA wA.drew) := (Below.refl _ _).drew
  replace HU := Lib.hid (HU.out.below hdr.out)
  replace HB := Lib.hid (btr HB.out hdr.out)
  clear hdr
  generalize wA.drew = u at *
  have c0 := HU.out.cell0
  have c1 := HU.out.at 0 1 x0 rfl (by omega) HX0.out
  have c2 := HU.out.at 1 2 x1 rfl (by omega) HX1.out
  have c3 := HU.out.at 2 3 x2 rfl (by omega) HX2.out
  have e1 : (q : Int).tdiv 4294967296 = (qh : Int) := by rw [Int.tdiv_eq_ediv_of_nonneg (by omega)]; exact eh
  have e2 : (q : Int).tmod 4294967296 = (ql : Int) := by rw [Int.tmod_eq_emod_of_nonneg (by omega)]; exact el
  have e3 := wrap_small qh bh
  have e4 := wrap_small ql bl
  have e5 : IntKind.u64.wrap (qh : Int) = (qh : Int) := wrap_u64_nat qh (by omega)
  refine lin_take 0 5 (v := ?_) rfl rfl (by kernel_rfl) (by kernel_rfl) (by kernel_rfl) (fun _ _ _ _ _ h => h) (by rfl) (fun W hW => ?_) ?_
  rotate_left
  · go_simp; try rfl
  try simp only [Act.put, List.setIfInBounds_toArray, List.set_cons_zero, List.set_cons_succ]
  refine lin_take 1 6 (v := ?_) rfl rfl (by kernel_rfl) (by kernel_rfl) (by kernel_rfl) (fun _ _ _ _ _ h => h) (by rfl) (fun W hW => ?_) ?_
  rotate_left
  · replace c0 := kept c0 hW; go_simp; try rfl
  try simp only [Act.put, List.setIfInBounds_toArray, List.set_cons_zero, List.set_cons_succ]
  refine lin_take 2 7 (v := .int .u64 (qh : Int)) rfl rfl (by kernel_rfl) (by kernel_rfl) (by kernel_rfl) (fun _ _ _ _ _ h => h) (by rfl) (fun W hW => ?_) ?_
  · have y := e1; have y2 := e5; go_simp; try rfl
  try simp only [Act.put, List.setIfInBounds_toArray, List.set_cons_zero, List.set_cons_succ]
  refine lin_take 3 8 (v := .int .u32 (qh : Int)) rfl rfl (by kernel_rfl) (by kernel_rfl) (by kernel_rfl) (fun _ _ _ _ _ h => h) (by rfl) (fun W hW => ?_) ?_
  · have y := e3; go_simp; try rfl
  try simp only [Act.put, List.setIfInBounds_toArray, List.set_cons_zero, List.set_cons_succ]
  refine lin_take 5 10 (v := ?_) rfl rfl (by kernel_rfl) (by kernel_rfl) (by kernel_rfl) (fun _ _ _ _ _ h => h) (by rfl) (fun W hW => ?_) ?_
  rotate_left
  · go_simp; try rfl
  try simp only [Act.put, List.setIfInBounds_toArray, List.set_cons_zero, List.set_cons_succ]
  refine lin_take 6 11 (v := ?_) rfl rfl (by kernel_rfl) (by kernel_rfl) (by kernel_rfl) (fun _ _ _ _ _ h => h) (by rfl) (fun W hW => ?_) ?_
  rotate_left
  · replace c0 := kept c0 hW; go_simp; try rfl
  try simp only [Act.put, List.setIfInBounds_toArray, List.set_cons_zero, List.set_cons_succ]
  refine lin_take 7 12 (v := .int .u64 (ql : Int)) rfl rfl (by kernel_rfl) (by kernel_rfl) (by kernel_rfl) (fun _ _ _ _ _ h => h) (by rfl) (fun W hW => ?_) ?_
  · have y := e2; go_simp; try rfl
  try simp only [Act.put, List.setIfInBounds_toArray, List.set_cons_zero, List.set_cons_succ]
  refine lin_take 8 13 (v := .int .u32 (ql : Int)) rfl rfl (by kernel_rfl) (by kernel_rfl) (by kernel_rfl) (fun _ _ _ _ _ h => h) (by rfl) (fun W hW => ?_) ?_
  · have y := e4; go_simp; try rfl
  try simp only [Act.put, List.setIfInBounds_toArray, List.set_cons_zero, List.set_cons_succ]
  clear e1 e2 e3 e4 e5
  refine lin_take 11 16 (v := ?_) rfl rfl (by kernel_rfl) (by kernel_rfl) (by kernel_rfl) (fun _ _ _ _ _ h => h) (by rfl) (fun W hW => ?_) ?_
  rotate_left
  · go_simp; try rfl
  try simp only [Act.put, List.setIfInBounds_toArray, List.set_cons_zero, List.set_cons_succ]
  refine lin_take 12 17 (v := ?_) rfl rfl (by kernel_rfl) (by kernel_rfl) (by kernel_rfl) (fun _ _ _ _ _ h => h) (by rfl) (fun W hW => ?_) ?_
  rotate_left
  · replace c1 := kept c1 hW; go_simp; try rfl
  try simp only [Act.put, List.setIfInBounds_toArray, List.set_cons_zero, List.set_cons_succ]
  refine lin_take 15 20 (v := ?_) rfl rfl (by kernel_rfl) (by kernel_rfl) (by kernel_rfl) (fun _ _ _ _ _ h => h) (by rfl) (fun W hW => ?_) ?_
  rotate_left
  · go_simp; try rfl
  try simp only [Act.put, List.setIfInBounds_toArray, List.set_cons_zero, List.set_cons_succ]
  refine lin_take 16 21 (v := ?_) rfl rfl (by kernel_rfl) (by kernel_rfl) (by kernel_rfl) (fun _ _ _ _ _ h => h) (by rfl) (fun W hW => ?_) ?_
  rotate_left
  · replace c2 := kept c2 hW; go_simp; try rfl
  try simp only [Act.put, List.setIfInBounds_toArray, List.set_cons_zero, List.set_cons_succ]
  refine lin_take 19 24 (v := ?_) rfl rfl (by kernel_rfl) (by kernel_rfl) (by kernel_rfl) (fun _ _ _ _ _ h => h) (by rfl) (fun W hW => ?_) ?_
  rotate_left
  · go_simp; try rfl
  try simp only [Act.put, List.setIfInBounds_toArray, List.set_cons_zero, List.set_cons_succ]
  refine lin_take 20 25 (v := ?_) rfl rfl (by kernel_rfl) (by kernel_rfl) (by kernel_rfl) (fun _ _ _ _ _ h => h) (by rfl) (fun W hW => ?_) ?_
  rotate_left
  · replace c3 := kept c3 hW; go_simp; try rfl
  try simp only [Act.put, List.setIfInBounds_toArray, List.set_cons_zero, List.set_cons_succ]
  clear c0 c1 c2 c3
  refine lin_step 4 rfl (by kernel_rfl) (fun K hK => ?_)
  go_simp
  refine (HH.out _).mono ?_
  rintro e w1 ⟨rfl, hx⟩
  refine hK.out _ _ hx ?_
  clear hK K
  replace HU := Lib.hid (HU.out.below hx)
  replace HB := Lib.hid (btr HB.out hx)
  clear hx
  try simp only [Act.put, List.setIfInBounds_toArray, List.set_cons_zero, List.set_cons_succ]
  refine lin_step 9 rfl (by kernel_rfl) (fun K hK => ?_)
  go_simp
  refine (HL.out _).mono ?_
  rintro e w2 ⟨rfl, hx⟩
  refine hK.out _ _ hx ?_
  clear hK K
  replace HU := Lib.hid (HU.out.below hx)
  replace HB := Lib.hid (btr HB.out hx)
  clear hx
  try simp only [Act.put, List.setIfInBounds_toArray, List.set_cons_zero, List.set_cons_succ]
  refine lin_take 10 15 (v := .string sa) rfl rfl (by kernel_rfl) (by kernel_rfl) (by kernel_rfl) (fun _ _ _ _ _ h => h) (by rfl) (fun W hW => ?_) ?_
  · have y := A1.out W; go_simp; try rfl
  try simp only [Act.put, List.setIfInBounds_toArray, List.set_cons_zero, List.set_cons_succ]
  refine lin_step 13 rfl (by kernel_rfl) (fun K hK => ?_)
  go_simp
  refine (H0.out _).mono ?_
  rintro e w3 ⟨rfl, hx⟩
  refine hK.out _ _ hx ?_
  clear hK K
  replace HU := Lib.hid (HU.out.below hx)
  replace HB := Lib.hid (btr HB.out hx)
  clear hx
  try simp only [Act.put, List.setIfInBounds_toArray, List.set_cons_zero, List.set_cons_succ]
  refine lin_take 14 19 (v := .string sb) rfl rfl (by kernel_rfl) (by kernel_rfl) (by kernel_rfl) (fun _ _ _ _ _ h => h) (by rfl) (fun W hW => ?_) ?_
  · have y := A2.out W; go_simp; try rfl
  try simp only [Act.put, List.setIfInBounds_toArray, List.set_cons_zero, List.set_cons_succ]
  refine lin_step 17 rfl (by kernel_rfl) (fun K hK => ?_)
  go_simp
  refine (H1.out _).mono ?_
  rintro e w4 ⟨rfl, hx⟩
  refine hK.out _ _ hx ?_
  clear hK K
  replace HU := Lib.hid (HU.out.below hx)
  replace HB := Lib.hid (btr HB.out hx)
  clear hx
  try simp only [Act.put, List.setIfInBounds_toArray, List.set_cons_zero, List.set_cons_succ]
  refine lin_take 18 23 (v := .string sc) rfl rfl (by kernel_rfl) (by kernel_rfl) (by kernel_rfl) (fun _ _ _ _ _ h => h) (by rfl) (fun W hW => ?_) ?_
  · have y := A3.out W; go_simp; try rfl
  try simp only [Act.put, List.setIfInBounds_toArray, List.set_cons_zero, List.set_cons_succ]
  refine lin_step 21 rfl (by kernel_rfl) (fun K hK => ?_)
  go_simp
  refine (H2.out _).mono ?_
  rintro e w5 ⟨rfl, hx⟩
  refine hK.out _ _ hx ?_
  clear hK K
  replace HU := Lib.hid (HU.out.below hx)
  replace HB := Lib.hid (btr HB.out hx)
  clear hx
  try simp only [Act.put, List.setIfInBounds_toArray, List.set_cons_zero, List.set_cons_succ]
  refine lin_take 22 27 (v := .string (S 0)) rfl rfl (by kernel_rfl) (by kernel_rfl) (by kernel_rfl) (fun _ _ _ _ _ h => h) (by rfl) (fun W hW => ?_) ?_
  · have y := A4.out W; go_simp; try rfl
  try simp only [Act.put, List.setIfInBounds_toArray, List.set_cons_zero, List.set_cons_succ]
  refine lin_take 23 3 (v := ?_) rfl rfl (by kernel_rfl) (by kernel_rfl) (by kernel_rfl) (fun _ _ _ _ _ h => h) (by rfl) (fun W hW => ?_) ?_
  rotate_left
  · go_simp; try rfl
  try simp only [Act.put, List.setIfInBounds_toArray, List.set_cons_zero, List.set_cons_succ]
  refine lin_done (by kernel_rfl) ?_
  clear A1 A2 A3 A4 HH HL H0 H1 H2 eh el bh bl HX0 HX1 HX2
  go_wp2
  go_loopw [3, 4] (fun o i wr => ∃ k : Nat, k ≤ 8 ∧ i = .int .i64 (k : Int) ∧ o = .string (S k) ∧ Hid (Sup wr w.heap.size q r) ∧ Hid (Below w.heap.size w wr)) (fun _ i _ => (8 - intOf i).toNat)
  case atStart => exact ⟨0, by omega, rfl, rfl, HU, HB⟩
  case round =>
    obtain ⟨k, hk, rfl, rfl, HV, HC⟩ := hrel
    clear HU HB
    by_cases h8 : k < 8
    · obtain ⟨y0, y1, y2, t0, t1, t2, ta, tb, d0, d1, d2, e0, e1, e2, F0, F1, F2, B1, B2, B3⟩ := HS.out k h8
      have q1 : decide ((k : Int) < 8) = true := by simp; omega
      have hk7 : (k : Int) < 8 := by omega
      have E0 := Lib.hid e0
      have E1 := Lib.hid e1
      have E2 := Lib.hid e2
      have H8 := Lib.hid h8
      obtain ⟨sk, hsk⟩ : ∃ s, S k = s := ⟨_, rfl⟩
      obtain ⟨sn, hsn⟩ : ∃ s, S (k + 1) = s := ⟨_, rfl⟩
      rw [hsk] at B1
      rw [hsn] at B3
      rw [hsk]
      have HSN := Lib.hid hsn
      clear e0 e1 e2 h8 hsk hsn
      go_wp2_with fail
      refine lin_start 23 rfl (by kernel_rfl) ?_
      have hdr : Hid (Below wr.heap.size wr wr.drew) := (Below.refl _ _).drew
      replace HV := Lib.hid (HV.out.below hdr.out)
      replace HC := Lib.hid (btr HC.out hdr.out)
      clear hdr
      generalize wr.drew = u at *
      have c0 := HV.out.at (3 + 3 * k) (4 + k * 3) y0 (by omega) (by have := H8.out; omega) E0.out
      have c1 := HV.out.at (4 + 3 * k) (4 + k * 3 + 1) y1 (by omega) (by have := H8.out; omega) E1.out
      have c2 := HV.out.at (5 + 3 * k) (4 + k * 3 + 2) y2 (by omega) (by have := H8.out; omega) E2.out
      refine lin_take 0 32 (v := ?_) rfl rfl (by kernel_rfl) (by kernel_rfl) (by kernel_rfl) (fun _ _ _ _ _ h => h) (by rfl) (fun W hW => ?_) ?_
      rotate_left
      · go_simp; try rfl
      try simp only [Act.put, List.setIfInBounds_toArray, List.set_cons_zero, List.set_cons_succ]
      refine lin_take 1 33 (v := ?_) rfl rfl (by kernel_rfl) (by kernel_rfl) (by kernel_rfl) (fun _ _ _ _ _ h => h) (by rfl) (fun W hW => ?_) ?_
      rotate_left
      · go_simp; try rfl
      try simp only [Act.put, List.setIfInBounds_toArray, List.set_cons_zero, List.set_cons_succ]
      refine lin_take 2 34 (v := ?_) rfl rfl (by kernel_rfl) (by kernel_rfl) (by kernel_rfl) (fun _ _ _ _ _ h => h) (by rfl) (fun W hW => ?_) ?_
      rotate_left
      · go_simp; try rfl
      try simp only [Act.put, List.setIfInBounds_toArray, List.set_cons_zero, List.set_cons_succ]
      refine lin_take 3 35 (v := ?_) rfl rfl (by kernel_rfl) (by kernel_rfl) (by kernel_rfl) (fun _ _ _ _ _ h => h) (by rfl) (fun W hW => ?_) ?_
      rotate_left
      · go_simp; try rfl
      try simp only [Act.put, List.setIfInBounds_toArray, List.set_cons_zero, List.set_cons_succ]
      refine lin_take 4 36 (v := ?_) rfl rfl (by kernel_rfl) (by kernel_rfl) (by kernel_rfl) (fun _ _ _ _ _ h => h) (by rfl) (fun W hW => ?_) ?_
      rotate_left
      · go_simp; try rfl
      try simp only [Act.put, List.setIfInBounds_toArray, List.set_cons_zero, List.set_cons_succ]
      refine lin_take 5 37 (v := ?_) rfl rfl (by kernel_rfl) (by kernel_rfl) (by kernel_rfl) (fun _ _ _ _ _ h => h) (by rfl) (fun W hW => ?_) ?_
      rotate_left
      · replace c0 := kept c0 hW; go_simp; try rfl
      try simp only [Act.put, List.setIfInBounds_toArray, List.set_cons_zero, List.set_cons_succ]
      refine lin_take 8 40 (v := ?_) rfl rfl (by kernel_rfl) (by kernel_rfl) (by kernel_rfl) (fun _ _ _ _ _ h => h) (by rfl) (fun W hW => ?_) ?_
      rotate_left
      · go_simp; try rfl
      try simp only [Act.put, List.setIfInBounds_toArray, List.set_cons_zero, List.set_cons_succ]
      refine lin_take 9 41 (v := ?_) rfl rfl (by kernel_rfl) (by kernel_rfl) (by kernel_rfl) (fun _ _ _ _ _ h => h) (by rfl) (fun W hW => ?_) ?_
      rotate_left
      · go_simp; try rfl
      try simp only [Act.put, List.setIfInBounds_toArray, List.set_cons_zero, List.set_cons_succ]
      refine lin_take 10 42 (v := ?_) rfl rfl (by kernel_rfl) (by kernel_rfl) (by kernel_rfl) (fun _ _ _ _ _ h => h) (by rfl) (fun W hW => ?_) ?_
      rotate_left
      · go_simp; try rfl
      try simp only [Act.put, List.setIfInBounds_toArray, List.set_cons_zero, List.set_cons_succ]
      refine lin_take 11 43 (v := ?_) rfl rfl (by kernel_rfl) (by kernel_rfl) (by kernel_rfl) (fun _ _ _ _ _ h => h) (by rfl) (fun W hW => ?_) ?_
      rotate_left
      · go_simp; try rfl
      try simp only [Act.put, List.setIfInBounds_toArray, List.set_cons_zero, List.set_cons_succ]
      refine lin_take 12 44 (v := ?_) rfl rfl (by kernel_rfl) (by kernel_rfl) (by kernel_rfl) (fun _ _ _ _ _ h => h) (by rfl) (fun W hW => ?_) ?_
      rotate_left
      · replace c1 := kept c1 hW; go_simp; try rfl
      try simp only [Act.put, List.setIfInBounds_toArray, List.set_cons_zero, List.set_cons_succ]
      refine lin_take 15 47 (v := ?_) rfl rfl (by kernel_rfl) (by kernel_rfl) (by kernel_rfl) (fun _ _ _ _ _ h => h) (by rfl) (fun W hW => ?_) ?_
      rotate_left
      · go_simp; try rfl
      try simp only [Act.put, List.setIfInBounds_toArray, List.set_cons_zero, List.set_cons_succ]
      refine lin_take 16 48 (v := ?_) rfl rfl (by kernel_rfl) (by kernel_rfl) (by kernel_rfl) (fun _ _ _ _ _ h => h) (by rfl) (fun W hW => ?_) ?_
      rotate_left
      · go_simp; try rfl
      try simp only [Act.put, List.setIfInBounds_toArray, List.set_cons_zero, List.set_cons_succ]
      refine lin_take 17 49 (v := ?_) rfl rfl (by kernel_rfl) (by kernel_rfl) (by kernel_rfl) (fun _ _ _ _ _ h => h) (by rfl) (fun W hW => ?_) ?_
      rotate_left
      · go_simp; try rfl
      try simp only [Act.put, List.setIfInBounds_toArray, List.set_cons_zero, List.set_cons_succ]
      refine lin_take 18 50 (v := ?_) rfl rfl (by kernel_rfl) (by kernel_rfl) (by kernel_rfl) (fun _ _ _ _ _ h => h) (by rfl) (fun W hW => ?_) ?_
      rotate_left
      · go_simp; try rfl
      try simp only [Act.put, List.setIfInBounds_toArray, List.set_cons_zero, List.set_cons_succ]
      refine lin_take 19 51 (v := ?_) rfl rfl (by kernel_rfl) (by kernel_rfl) (by kernel_rfl) (fun _ _ _ _ _ h => h) (by rfl) (fun W hW => ?_) ?_
      rotate_left
      · replace c2 := kept c2 hW; go_simp; try rfl
      try simp only [Act.put, List.setIfInBounds_toArray, List.set_cons_zero, List.set_cons_succ]
      clear c0 c1 c2
      refine lin_step 6 rfl (by kernel_rfl) (fun K hK => ?_)
      go_simp
      refine (F0.out _).mono ?_
      rintro e v1 ⟨rfl, hx⟩
      refine hK.out _ _ hx ?_
      clear hK K
      replace HV := Lib.hid (HV.out.below hx)
      replace HC := Lib.hid (btr HC.out hx)
      clear hx
      try simp only [Act.put, List.setIfInBounds_toArray, List.set_cons_zero, List.set_cons_succ]
      refine lin_take 7 39 (v := .string ta) rfl rfl (by kernel_rfl) (by kernel_rfl) (by kernel_rfl) (fun _ _ _ _ _ h => h) (by rfl) (fun W hW => ?_) ?_
      · have y := B1.out W; go_simp; try rfl
      try simp only [Act.put, List.setIfInBounds_toArray, List.set_cons_zero, List.set_cons_succ]
      refine lin_step 13 rfl (by kernel_rfl) (fun K hK => ?_)
      go_simp
      refine (F1.out _).mono ?_
      rintro e v2 ⟨rfl, hx⟩
      refine hK.out _ _ hx ?_
      clear hK K
      replace HV := Lib.hid (HV.out.below hx)
      replace HC := Lib.hid (btr HC.out hx)
      clear hx
      try simp only [Act.put, List.setIfInBounds_toArray, List.set_cons_zero, List.set_cons_succ]
      refine lin_take 14 46 (v := .string tb) rfl rfl (by kernel_rfl) (by kernel_rfl) (by kernel_rfl) (fun _ _ _ _ _ h => h) (by rfl) (fun W hW => ?_) ?_
      · have y := B2.out W; go_simp; try rfl
      try simp only [Act.put, List.setIfInBounds_toArray, List.set_cons_zero, List.set_cons_succ]
      refine lin_step 20 rfl (by kernel_rfl) (fun K hK => ?_)
      go_simp
      refine (F2.out _).mono ?_
      rintro e v3 ⟨rfl, hx⟩
      refine hK.out _ _ hx ?_
      clear hK K
      replace HV := Lib.hid (HV.out.below hx)
      replace HC := Lib.hid (btr HC.out hx)
      clear hx
      try simp only [Act.put, List.setIfInBounds_toArray, List.set_cons_zero, List.set_cons_succ]
      refine lin_take 21 53 (v := .string sn) rfl rfl (by kernel_rfl) (by kernel_rfl) (by kernel_rfl) (fun _ _ _ _ _ h => h) (by rfl) (fun W hW => ?_) ?_
      · have y := B3.out W; go_simp; try rfl
      try simp only [Act.put, List.setIfInBounds_toArray, List.set_cons_zero, List.set_cons_succ]
      refine lin_take 22 3 (v := ?_) rfl rfl (by kernel_rfl) (by kernel_rfl) (by kernel_rfl) (fun _ _ _ _ _ h => h) (by rfl) (fun W hW => ?_) ?_
      rotate_left
      · go_simp; try rfl
      try simp only [Act.put, List.setIfInBounds_toArray, List.set_cons_zero, List.set_cons_succ]
      refine lin_done (by kernel_rfl) ?_
      go_wp2
      go_roundw
      case rel => exact ⟨k + 1, by have := H8.out; omega, by go_num, by rw [HSN.out], HV, HC⟩
      case measure =>
        simp [intOf]
        omega
    · obtain rfl : k = 8 := by omega
      have q1 : decide (((8 : Nat) : Int) < 8) = false := by decide
      obtain ⟨s8, hs8⟩ : ∃ s, S 8 = s := ⟨_, rfl⟩
      rw [hs8]
      have HS8 := Lib.hid hs8
      clear hk h8 hs8
      go_wp2
      go_ret
      exact ⟨by rw [HS8.out]; rfl, HC.out⟩
theorem refbody_any (q : Nat) (r : List Nat) (hr : r.length = 27) (hq : q < 18446744073709551616) (hlt : ∀ x ∈ r, x < 4294967296) (w : World) :
    Calls Tryd.prog 21 #[.agg (sva q r)] w fun e w' => e = .returned (.string (str (U.body q r))) ∧ Below w.heap.size w w' := by
  have g := fun i (hi : i < 27) => getD_lt hlt i (by omega)
  have e := bodyTo_all q r hr
  rw [← e]
  refine refbody_core q (q / 4294967296) (q % 4294967296) (r.getD 0 0) (r.getD 1 0) (r.getD 2 0) r _ _ _ _ _ (str (G.four (q / 4294967296) ++ G.four (q % 4294967296))) (str ((G.four (q / 4294967296) ++ G.four (q % 4294967296)) ++ G.four (r.getD 0 0)))
    (str (((G.four (q / 4294967296) ++ G.four (q % 4294967296)) ++ G.four (r.getD 0 0)) ++ G.four (r.getD 1 0))) (fun k => str (bodyTo q r k)) w hq (by omega) (by omega) (by omega) (by omega) hr rfl rfl rfl
    (four_str _ _ rfl (by omega)) (four_str _ _ rfl (by omega)) (four_str _ _ rfl (g 0 (by omega))) (four_str _ _ rfl (g 1 (by omega))) (four_str _ _ rfl (g 2 (by omega)))
    (add_str _ _ _ _ _ rfl rfl rfl (by simp [G.four_length]) (by simp [G.four_length])) (add_str _ _ _ _ _ rfl rfl rfl (by simp [G.four_length]) (by simp [G.four_length])) (add_str _ _ _ _ _ rfl rfl rfl (by simp [G.four_length]) (by simp [G.four_length])) (add_str _ _ _ _ _ rfl rfl (by rw [bodyTo_zero q r hr]) (by simp [G.four_length]) (by simp [G.four_length])) ?_
  intro k hk
  have hb := bodyTo_len q r hr k (by omega)
  exact ⟨_, _, _, _, _, _, str (bodyTo q r k ++ G.four (r.getD (3 + 3 * k) 0)), str ((bodyTo q r k ++ G.four (r.getD (3 + 3 * k) 0)) ++ G.four (r.getD (4 + 3 * k) 0)), g _ (by omega), g _ (by omega), g _ (by omega), rfl, rfl, rfl,
    four_str _ _ rfl (g _ (by omega)), four_str _ _ rfl (g _ (by omega)), four_str _ _ rfl (g _ (by omega)),
    add_str _ _ _ _ _ rfl rfl rfl (by omega) (by rw [G.four_length]; omega), add_str _ _ _ _ _ rfl rfl rfl (by rw [List.length_append, G.four_length]; omega) (by rw [G.four_length]; omega),
    add_str _ _ _ _ _ rfl rfl (by rw [bodyTo_next q r hr k hk]) (by rw [List.length_append, List.length_append, G.four_length, G.four_length]; omega) (by rw [G.four_length]; omega)⟩

set_option maxHeartbeats 800000 in
theorem refwrite_core (q p : Nat) (r : List Nat) (sB sP : ByteArray) (w : World) (hq : q < 18446744073709551616) (ep : (q : Int) % 2 = (p : Int)) (HR : Hid (r.length = 27))
    (HD : Hid (∀ w : World, Calls Tryd.prog 21 #[.agg (sva q r)] w fun e w' => e = .returned (.string sB) ∧ Below w.heap.size w w'))
    (HP : Hid (∀ w : World, Calls Tryd.prog 20 #[.int .u32 (p : Int), .int .u8 1, .string sB] w fun e w' => e = .returned (.tuple #[.string sP, .int .i64 0]) ∧ Below w.heap.size w w')) :
    Calls Tryd.prog 10 #[.agg (sva q r)] w fun e w' => e = .returned (.string sP) ∧ Below w.heap.size w w' := by
  have HU := Lib.hid (Sup.made w q r HR.out)
  have HB : Hid (Below w.heap.size w (w.alloc (.cells (sva q r) 28))) := alb _
  go_enter Tryd.func10, Tryd.ntmps10
  go_wp2_with fail
  generalize w.alloc (.cells (sva q r) 28) = wA at *
  refine lin_start 12 rfl (by kernel_rfl) ?_
  have hdr : Hid (Below wA.heap.size wA wA.drew) := (Below.refl _ _).drew
  replace HU := Lib.hid (HU.out.below hdr.out)
  replace HB := Lib.hid (btr HB.out hdr.out)
  clear hdr
  generalize wA.drew = u at *
  have c0 := HU.out.cell0
  have e1 : (q : Int).tmod 2 = (p : Int) := by rw [Int.tmod_eq_emod_of_nonneg (by omega)]; exact ep
  have e2 : IntKind.u32.wrap (p : Int) = (p : Int) := wrap_small p (by omega)
  refine lin_take 0 6 (v := ?_) rfl rfl (by kernel_rfl) (by kernel_rfl) (by kernel_rfl) (fun _ _ _ _ _ h => h) (by rfl) (fun W hW => ?_) ?_
  rotate_left
  · go_simp; try rfl
  try simp only [Act.put, List.setIfInBounds_toArray, List.set_cons_zero, List.set_cons_succ]
  refine lin_take 1 7 (v := ?_) rfl rfl (by kernel_rfl) (by kernel_rfl) (by kernel_rfl) (fun _ _ _ _ _ h => h) (by rfl) (fun W hW => ?_) ?_
  rotate_left
  · replace c0 := kept c0 hW; go_simp; try rfl
  try simp only [Act.put, List.setIfInBounds_toArray, List.set_cons_zero, List.set_cons_succ]
  refine lin_take 2 8 (v := .int .u64 (p : Int)) rfl rfl (by kernel_rfl) (by kernel_rfl) (by kernel_rfl) (fun _ _ _ _ _ h => h) (by rfl) (fun W hW => ?_) ?_
  · have y := e1; go_simp; try rfl
  try simp only [Act.put, List.setIfInBounds_toArray, List.set_cons_zero, List.set_cons_succ]
  refine lin_take 3 9 (v := .int .u32 (p : Int)) rfl rfl (by kernel_rfl) (by kernel_rfl) (by kernel_rfl) (fun _ _ _ _ _ h => h) (by rfl) (fun W hW => ?_) ?_
  · have y := e2; go_simp; try rfl
  try simp only [Act.put, List.setIfInBounds_toArray, List.set_cons_zero, List.set_cons_succ]
  clear e1 e2
  refine lin_take 4 10 (v := .agg (sva q r)) rfl rfl (by kernel_rfl) (by kernel_rfl) (by kernel_rfl) (fun _ _ _ _ _ h => h) (by rfl) (fun W hW => run_load_sup (.tmp 1) rfl w.heap.size q r rfl (HU.out.below hW)) ?_
  try simp only [Act.put, List.setIfInBounds_toArray, List.set_cons_zero, List.set_cons_succ]
  clear c0
  refine lin_step 5 rfl (by kernel_rfl) (fun K hK => ?_)
  go_simp
  refine (HD.out _).mono ?_
  rintro e w1 ⟨rfl, hx⟩
  refine hK.out _ _ hx ?_
  clear hK K
  replace HB := Lib.hid (btr HB.out hx)
  clear hx
  try simp only [Act.put, List.setIfInBounds_toArray, List.set_cons_zero, List.set_cons_succ]
  refine lin_step 6 rfl (by kernel_rfl) (fun K hK => ?_)
  go_simp
  refine (HP.out _).mono ?_
  rintro e w2 ⟨rfl, hx⟩
  refine hK.out _ _ hx ?_
  clear hK K
  replace HB := Lib.hid (btr HB.out hx)
  clear hx
  try simp only [Act.put, List.setIfInBounds_toArray, List.set_cons_zero, List.set_cons_succ]
  refine lin_take 7 5 (v := ?_) rfl rfl (by kernel_rfl) (by kernel_rfl) (by kernel_rfl) (fun _ _ _ _ _ h => h) (by rfl) (fun W hW => ?_) ?_
  rotate_left
  · go_simp; try rfl
  try simp only [Act.put, List.setIfInBounds_toArray, List.set_cons_zero, List.set_cons_succ]
  refine lin_take 8 13 (v := ?_) rfl rfl (by kernel_rfl) (by kernel_rfl) (by kernel_rfl) (fun _ _ _ _ _ h => h) (by rfl) (fun W hW => ?_) ?_
  rotate_left
  · go_simp; try rfl
  try simp only [Act.put, List.setIfInBounds_toArray, List.set_cons_zero, List.set_cons_succ]
  refine lin_take 9 14 (v := ?_) rfl rfl (by kernel_rfl) (by kernel_rfl) (by kernel_rfl) (fun _ _ _ _ _ h => h) (by rfl) (fun W hW => ?_) ?_
  rotate_left
  · go_simp; try rfl
  try simp only [Act.put, List.setIfInBounds_toArray, List.set_cons_zero, List.set_cons_succ]
  refine lin_take 10 3 (v := ?_) rfl rfl (by kernel_rfl) (by kernel_rfl) (by kernel_rfl) (fun _ _ _ _ _ h => h) (by rfl) (fun W hW => ?_) ?_
  rotate_left
  · go_simp; try rfl
  try simp only [Act.put, List.setIfInBounds_toArray, List.set_cons_zero, List.set_cons_succ]
  refine lin_take 11 4 (v := ?_) rfl rfl (by kernel_rfl) (by kernel_rfl) (by kernel_rfl) (fun _ _ _ _ _ h => h) (by rfl) (fun W hW => ?_) ?_
  rotate_left
  · go_simp; try rfl
  try simp only [Act.put, List.setIfInBounds_toArray, List.set_cons_zero, List.set_cons_succ]
  refine lin_done (by kernel_rfl) ?_
  go_wp2
  go_ret
  exact ⟨rfl, HB.out⟩
theorem refwrite_any (q : Nat) (r : List Nat) (hr : r.length = 27) (hq : q < 18446744073709551616) (hlt : ∀ x ∈ r, x < 4294967296) (w : World) :
    Calls Tryd.prog 10 #[.agg (sva q r)] w fun e w' => e = .returned (.string (str (U.wr q r))) ∧ Below w.heap.size w w' := by
  refine refwrite_core q (q % 2) r (str (U.body q r)) _ w hq (by omega) hr (refbody_any q r hr hq hlt) (fun w => ?_)
  have hb := U.body_length q r hr
  have k := refseal_any (q % 2) (by omega) 1 (U.body q r) (by omega) w
  have e1 : G.sealE (U.body q r) = 0 := if_pos (by omega)
  have e2 : G.sealL (q % 2) 1 (U.body q r) = U.wr q r := if_pos (by omega)
  rw [e1, e2] at k
  exact k
end Go.Proofs.YtbffpgndjbpifaaDoor
