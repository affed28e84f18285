/- NodeWrites: the walk. -/
import Derived.Test.YtceoelemlokelaaId
namespace Go.Proofs.Ytceoelemlokelaa
open Go.RowKit

/-- A pair of lengths in a block. -/
def Wid (w : World) (b : Nat) (k v : Int) : Prop := w.cell? ⟨b, 0, none⟩ = some (.int .i64 k) ∧ w.cell? ⟨b, 1, none⟩ = some (.int .i64 v)
theorem Wid.below {w w1 : World} {b : Nat} {k v : Int} (h : Wid w b k v) (hb : Below w.heap.size w w1) : Wid w1 b k v := ⟨kept h.1 hb, kept h.2 hb⟩
theorem own_slice {w : World} {base n : Nat} {v : Value} {xs : List Value} (h : w.ownsRow base 5 1 v n xs) : ∃ A c, v = .slice A n c := by
  rcases h.2 with ⟨rfl, h0⟩ | ⟨g, cap, cur, rfl, _⟩
  · exact ⟨none, 0, by rw [h0]⟩
  · exact ⟨_, cap, rfl⟩
set_option maxRecDepth 100000 in
set_option maxHeartbeats 6400000 in
theorem nwrites_core (w : World) (n : N.Nd) (A1 A2 A3 : Option Addr) (n1 d1 n2 d2 n3 d3 : Nat) (k v : Int) (HNV : Hid (NV w (.slice A1 n1 d1) (.slice A2 n2 d2) (.slice A3 n3 d3) n)) (HR : Hid (Rg n.ps)) :
    Calls Try.prog 4 #[.agg #[.bool n.leaf, .slice A1 n1 d1, .slice A2 n2 d2, .slice A3 n3 d3], .agg #[.int .i64 k, .int .i64 v]] w fun e w' => e = .returned (.bool true) ∧ Below w.heap.size w w' := by
  have HQ : Hid (Below w.heap.size w ((w.alloc (.cells #[.bool n.leaf, .slice A1 n1 d1, .slice A2 n2 d2, .slice A3 n3 d3] 28)).alloc (.cells #[.int .i64 k, .int .i64 v] 34)) ∧
      Nb ((w.alloc (.cells #[.bool n.leaf, .slice A1 n1 d1, .slice A2 n2 d2, .slice A3 n3 d3] 28)).alloc (.cells #[.int .i64 k, .int .i64 v] 34)) w.heap.size n.leaf (.slice A1 n1 d1) (.slice A2 n2 d2) (.slice A3 n3 d3) ∧
      Wid ((w.alloc (.cells #[.bool n.leaf, .slice A1 n1 d1, .slice A2 n2 d2, .slice A3 n3 d3] 28)).alloc (.cells #[.int .i64 k, .int .i64 v] 34)) (w.heap.size + 1) k v) :=
    ⟨bal (alb _) _, (Nb.made w n.leaf (.slice A1 n1 d1) (.slice A2 n2 d2) (.slice A3 n3 d3)).below (alb _), by rw [World.cell?_alloc_at _ _ _ _ (World.size_alloc _ _).symm]; rfl, by rw [World.cell?_alloc_at _ _ _ _ (World.size_alloc _ _).symm]; rfl⟩
  go_enter Try.func4, Try.ntmps4
  obtain ⟨-, ⟨k0, k1, k2, k3⟩, -⟩ := HQ.out
  go_wp2_with fail
  generalize (w.alloc (.cells #[.bool n.leaf, .slice A1 n1 d1, .slice A2 n2 d2, .slice A3 n3 d3] 28)).alloc (.cells #[.int .i64 k, .int .i64 v] 34) = w1 at *
  have HA := Lib.hid HQ.out.1
  have HN := Lib.hid HQ.out.2.1
  have HW := Lib.hid HQ.out.2.2
  clear HQ
  generalize w.heap.size + 1 = b3 at *
  obtain ⟨G, hG⟩ : ∃ G, G = greatB n := ⟨_, rfl⟩
  have HGR := Lib.hid (great_any w1 n _ _ _ (HNV.out.below HA.out))
  rw [← hG] at HGR
  have HG := Lib.hid hG
  clear hG
  unfold nodv at HGR
  refine HGR.out.mono ?_
  rintro e w2 ⟨rfl, hb2⟩
  have HB2 := Lib.hid (btr HA.out hb2)
  have HN2 := Lib.hid (HN.out.below hb2)
  have HW2 := Lib.hid (HW.out.below hb2)
  clear hb2 HN HA HW HGR k0 k1 k2 k3
  cases G with
  | true =>
    go_wp2_with fail
    refine (nfixed_any w2).mono ?_
    rintro e w3 ⟨rfl, hb3⟩
    go_wp2
    go_ret
    exact ⟨rfl, btr HB2.out hb3⟩
  | false =>
    have HGN := Lib.hid (great_no HG.out.symm)
    clear HG
    obtain ⟨k0, k1, k2, k3⟩ := HN2.out
    go_wp2_with fail
    have HOF := Lib.hid (refof_any w2 n _ _ _ (HNV.out.below HB2.out) HR.out (by have := HGN.out.1; omega) (by have := HGN.out.2.1; omega) (by have := HGN.out.2.2.1; omega))
    unfold nodv at HOF
    refine HOF.out.mono ?_
    rintro e w3 ⟨kv, vv, pv, rfl, hrv, hb3⟩
    have HB3 := Lib.hid (btr HB2.out hb3)
    have HN3 := Lib.hid (HN2.out.below hb3)
    have HW3 := Lib.hid (HW2.out.below hb3)
    have HRV3 := Lib.hid hrv
    obtain ⟨E1, f1, rfl, _⟩ := hrv.keys
    obtain ⟨E2, f2, rfl, _⟩ := hrv.vals
    obtain ⟨E3, f3, rfl, _⟩ := hrv.kids
    clear k0 k1 k2 k3 HN2 HW2 hb3 hrv HOF HB2
    have HBa : Hid (Below w3.heap.size w3 (w3.alloc (.cells #[.bool n.leaf, .slice E1 n.ks.length f1, .slice E2 n.vs.length f2, .slice E3 n.ps.length f3] 38))) := alb _
    have HXa : Hid (Nb (w3.alloc (.cells #[.bool n.leaf, .slice E1 n.ks.length f1, .slice E2 n.vs.length f2, .slice E3 n.ps.length f3] 38)) w3.heap.size n.leaf (.slice E1 n.ks.length f1) (.slice E2 n.vs.length f2) (.slice E3 n.ps.length f3)) :=
      ⟨by rw [World.cell?_alloc_at _ _ _ _ rfl]; rfl, by rw [World.cell?_alloc_at _ _ _ _ rfl]; rfl, by rw [World.cell?_alloc_at _ _ _ _ rfl]; rfl, by rw [World.cell?_alloc_at _ _ _ _ rfl]; rfl⟩
    have HB4 := Lib.hid (btr HB3.out HBa.out)
    have HRV4 := Lib.hid (HRV3.out.below HBa.out)
    have HN4 := Lib.hid (HN3.out.below HBa.out)
    have HW4 := Lib.hid (HW3.out.below HBa.out)
    clear HB3 HRV3 HN3 HW3 HBa
    obtain ⟨k0, k1, k2, k3⟩ := HN4.out
    obtain ⟨c0, c1⟩ := HW4.out
    go_wp2_with fail
    generalize w3.alloc (.cells #[.bool n.leaf, .slice E1 n.ks.length f1, .slice E2 n.vs.length f2, .slice E3 n.ps.length f3] 38) = w4 at *
    generalize w3.heap.size = b5 at *
    have HWR := Lib.hid (nwrite_any w4 n _ _ _ k v (HNV.out.below HB4.out) HR.out)
    have HRWR := Lib.hid (fun W (h : RV W (.slice E1 n.ks.length f1) (.slice E2 n.vs.length f2) (.slice E3 n.ps.length f3) n) => refwrite_any W n _ _ _ k v h HR.out (by have := HGN.out.1; omega) (by have := HGN.out.2.1; omega) (by have := HGN.out.2.2.1; omega) (fun b hb => by have := HGN.out.2.2.2.1 b hb; omega))
    have HRI := Lib.hid (fun W (h : NV W (.slice A1 n1 d1) (.slice A2 n2 d2) (.slice A3 n3 d3) n) => nright_any W n _ _ _ k v h)
    have HRRI := Lib.hid (fun W (h : RV W (.slice E1 n.ks.length f1) (.slice E2 n.vs.length f2) (.slice E3 n.ps.length f3) n) => refright_any W n _ _ _ k v h (by have := HGN.out.1; omega) (by have := HGN.out.2.1; omega) (by have := HGN.out.2.2.1; omega) (fun b hb => by have := HGN.out.2.2.2.1 b hb; omega))
    have HBK : Hid (N.wE n k v = 0 → N.readE (N.wK n k v) (N.wB n k v) k v = 0 ∧ N.readN (N.wK n k v) (N.wB n k v) k v = n ∧ (N.wB n k v).length ≤ 500) := fun q => by
      have hr : N.right n k v = true := by
        unfold N.wE at q
        split at q
        · assumption
        · omega
      obtain ⟨b1, b2⟩ := N.back hr HR.out
      have b3 := (N.body_len hr).2.1
      unfold N.wK N.wB
      rw [if_pos hr, if_pos hr]
      exact ⟨(read_yes b1).2, b2, b3⟩
    have hK8 : N.wK n k v < 256 := by unfold N.wK N.kindOf; split <;> (try split) <;> omega
    have hE2 : N.wE n k v = 0 ∨ N.wE n k v = 1 := by unfold N.wE; split <;> omega
    unfold nodv at HWR HRWR HRI HRRI
    generalize N.wK n k v = K at *
    generalize N.wE n k v = E at *
    generalize N.wB n k v = B at *
    generalize N.right n k v = R at *
    refine HWR.out.mono ?_
    rintro e w5 ⟨xb, rfl, hown, hb5⟩
    obtain ⟨Ab, cb, rfl⟩ := own_slice hown
    have HOW := Lib.hid (Byts.own hown)
    have HB5 := Lib.hid (btr HB4.out hb5)
    have HRV5 := Lib.hid (HRV4.out.below hb5)
    have HN5 := Lib.hid (HN4.out.below hb5)
    have HW5 := Lib.hid (HW4.out.below hb5)
    have HX5 := Lib.hid (HXa.out.below hb5)
    clear k0 k1 k2 k3 c0 c1 hown hb5 HB4 HRV4 HN4 HW4 HXa HWR
    obtain ⟨x0, x1, x2, x3⟩ := HX5.out
    obtain ⟨c0, c1⟩ := HW5.out
    obtain ⟨sB, hsB⟩ : ∃ sB, sB = str B := ⟨_, rfl⟩
    have HCV := Lib.hid HOW.out.cvs
    rw [← hsB] at HCV HRWR
    clear hsB
    generalize hlb : B.length = lb at *
    have HLB := Lib.hid hlb
    clear hlb
    go_wp2_with fail
    refine (HRWR.out w5 HRV5.out).mono ?_
    rintro e w6 ⟨rfl, hb6⟩
    have HB6 := Lib.hid (btr HB5.out hb6)
    have HRV6 := Lib.hid (HRV5.out.below hb6)
    have HN6 := Lib.hid (HN5.out.below hb6)
    have HW6 := Lib.hid (HW5.out.below hb6)
    have HX6 := Lib.hid (HX5.out.below hb6)
    have HC6 := Lib.hid (HCV.out.below hb6)
    have HO6 := Lib.hid (HOW.out.below hb6)
    clear x0 x1 x2 x3 c0 c1 hb6 HB5 HRV5 HN5 HW5 HX5 HCV HOW HRWR
    have hKK : ((K : Int) != (K : Int)) = false := by simp
    have hEE : ((E : Int) != (E : Int)) = false := by simp
    have hss : (sB.toList != sB.toList) = false := by simp
    have hRR : (R != R) = false := by simp
    go_wp2_with fail
    refine lin_start 29 rfl (by kernel_rfl) ?_
    have hdr : Below w6.heap.size w6 w6.drew := (Below.refl _ _).drew
    have HB7 := Lib.hid (btr HB6.out hdr)
    have HRV7 := Lib.hid (HRV6.out.below hdr)
    have HN7 := Lib.hid (HN6.out.below hdr)
    have HW7 := Lib.hid (HW6.out.below hdr)
    have HX7 := Lib.hid (HX6.out.below hdr)
    have HC7 := Lib.hid (HC6.out.below hdr)
    have HO7 := Lib.hid (HO6.out.below hdr)
    clear hdr HB6 HRV6 HN6 HW6 HX6 HC6 HO6
    generalize w6.drew = u at *
    refine lin_take 0 39 (v := ?_) rfl rfl (by kernel_rfl) (by kernel_rfl) (by kernel_rfl) (fun _ _ _ _ _ h => h) (by rfl) (fun W hW => ?_) ?_
    rotate_left
    · obtain ⟨k0, k1, k2, k3⟩ := HN7.out.below hW; obtain ⟨x0, x1, x2, x3⟩ := HX7.out.below hW; obtain ⟨c0, c1⟩ := HW7.out.below hW; have hcv := HC7.out W hW; go_simp; try rfl
    try simp only [Act.put, List.setIfInBounds_toArray, List.set_cons_zero, List.set_cons_succ]
    refine lin_take 1 40 (v := ?_) rfl rfl (by kernel_rfl) (by kernel_rfl) (by kernel_rfl) (fun _ _ _ _ _ h => h) (by rfl) (fun W hW => ?_) ?_
    rotate_left
    · obtain ⟨k0, k1, k2, k3⟩ := HN7.out.below hW; obtain ⟨x0, x1, x2, x3⟩ := HX7.out.below hW; obtain ⟨c0, c1⟩ := HW7.out.below hW; have hcv := HC7.out W hW; go_simp; try rfl
    try simp only [Act.put, List.setIfInBounds_toArray, List.set_cons_zero, List.set_cons_succ]
    refine lin_take 2 41 (v := ?_) rfl rfl (by kernel_rfl) (by kernel_rfl) (by kernel_rfl) (fun _ _ _ _ _ h => h) (by rfl) (fun W hW => ?_) ?_
    rotate_left
    · obtain ⟨k0, k1, k2, k3⟩ := HN7.out.below hW; obtain ⟨x0, x1, x2, x3⟩ := HX7.out.below hW; obtain ⟨c0, c1⟩ := HW7.out.below hW; have hcv := HC7.out W hW; go_simp; try rfl
    try simp only [Act.put, List.setIfInBounds_toArray, List.set_cons_zero, List.set_cons_succ]
    refine lin_take 3 42 (v := ?_) rfl rfl (by kernel_rfl) (by kernel_rfl) (by kernel_rfl) (fun _ _ _ _ _ h => h) (by rfl) (fun W hW => ?_) ?_
    rotate_left
    · obtain ⟨k0, k1, k2, k3⟩ := HN7.out.below hW; obtain ⟨x0, x1, x2, x3⟩ := HX7.out.below hW; obtain ⟨c0, c1⟩ := HW7.out.below hW; have hcv := HC7.out W hW; go_simp; try rfl
    try simp only [Act.put, List.setIfInBounds_toArray, List.set_cons_zero, List.set_cons_succ]
    refine lin_take 4 43 (v := ?_) rfl rfl (by kernel_rfl) (by kernel_rfl) (by kernel_rfl) (fun _ _ _ _ _ h => h) (by rfl) (fun W hW => ?_) ?_
    rotate_left
    · obtain ⟨k0, k1, k2, k3⟩ := HN7.out.below hW; obtain ⟨x0, x1, x2, x3⟩ := HX7.out.below hW; obtain ⟨c0, c1⟩ := HW7.out.below hW; have hcv := HC7.out W hW; go_simp; try rfl
    try simp only [Act.put, List.setIfInBounds_toArray, List.set_cons_zero, List.set_cons_succ]
    refine lin_take 5 44 (v := ?_) rfl rfl (by kernel_rfl) (by kernel_rfl) (by kernel_rfl) (fun _ _ _ _ _ h => h) (by rfl) (fun W hW => ?_) ?_
    rotate_left
    · obtain ⟨k0, k1, k2, k3⟩ := HN7.out.below hW; obtain ⟨x0, x1, x2, x3⟩ := HX7.out.below hW; obtain ⟨c0, c1⟩ := HW7.out.below hW; have hcv := HC7.out W hW; go_simp; try rfl
    try simp only [Act.put, List.setIfInBounds_toArray, List.set_cons_zero, List.set_cons_succ]
    refine lin_take 6 45 (v := ?_) rfl rfl (by kernel_rfl) (by kernel_rfl) (by kernel_rfl) (fun _ _ _ _ _ h => h) (by rfl) (fun W hW => ?_) ?_
    rotate_left
    · obtain ⟨k0, k1, k2, k3⟩ := HN7.out.below hW; obtain ⟨x0, x1, x2, x3⟩ := HX7.out.below hW; obtain ⟨c0, c1⟩ := HW7.out.below hW; have hcv := HC7.out W hW; go_simp; try rfl
    try simp only [Act.put, List.setIfInBounds_toArray, List.set_cons_zero, List.set_cons_succ]
    refine lin_take 7 46 (v := ?_) rfl rfl (by kernel_rfl) (by kernel_rfl) (by kernel_rfl) (fun _ _ _ _ _ h => h) (by rfl) (fun W hW => ?_) ?_
    rotate_left
    · obtain ⟨k0, k1, k2, k3⟩ := HN7.out.below hW; obtain ⟨x0, x1, x2, x3⟩ := HX7.out.below hW; obtain ⟨c0, c1⟩ := HW7.out.below hW; have hcv := HC7.out W hW; go_simp; try rfl
    try simp only [Act.put, List.setIfInBounds_toArray, List.set_cons_zero, List.set_cons_succ]
    refine lin_take 8 47 (v := ?_) rfl rfl (by kernel_rfl) (by kernel_rfl) (by kernel_rfl) (fun _ _ _ _ _ h => h) (by rfl) (fun W hW => ?_) ?_
    rotate_left
    · obtain ⟨k0, k1, k2, k3⟩ := HN7.out.below hW; obtain ⟨x0, x1, x2, x3⟩ := HX7.out.below hW; obtain ⟨c0, c1⟩ := HW7.out.below hW; have hcv := HC7.out W hW; go_simp; try rfl
    try simp only [Act.put, List.setIfInBounds_toArray, List.set_cons_zero, List.set_cons_succ]
    refine lin_take 9 48 (v := ?_) rfl rfl (by kernel_rfl) (by kernel_rfl) (by kernel_rfl) (fun _ _ _ _ _ h => h) (by rfl) (fun W hW => ?_) ?_
    rotate_left
    · obtain ⟨k0, k1, k2, k3⟩ := HN7.out.below hW; obtain ⟨x0, x1, x2, x3⟩ := HX7.out.below hW; obtain ⟨c0, c1⟩ := HW7.out.below hW; have hcv := HC7.out W hW; go_simp; try rfl
    try simp only [Act.put, List.setIfInBounds_toArray, List.set_cons_zero, List.set_cons_succ]
    refine lin_take 10 49 (v := ?_) rfl rfl (by kernel_rfl) (by kernel_rfl) (by kernel_rfl) (fun _ _ _ _ _ h => h) (by rfl) (fun W hW => ?_) ?_
    rotate_left
    · obtain ⟨k0, k1, k2, k3⟩ := HN7.out.below hW; obtain ⟨x0, x1, x2, x3⟩ := HX7.out.below hW; obtain ⟨c0, c1⟩ := HW7.out.below hW; have hcv := HC7.out W hW; go_simp; try rfl
    try simp only [Act.put, List.setIfInBounds_toArray, List.set_cons_zero, List.set_cons_succ]
    refine lin_take 11 50 (v := ?_) rfl rfl (by kernel_rfl) (by kernel_rfl) (by kernel_rfl) (fun _ _ _ _ _ h => h) (by rfl) (fun W hW => ?_) ?_
    rotate_left
    · obtain ⟨k0, k1, k2, k3⟩ := HN7.out.below hW; obtain ⟨x0, x1, x2, x3⟩ := HX7.out.below hW; obtain ⟨c0, c1⟩ := HW7.out.below hW; have hcv := HC7.out W hW; go_simp; try rfl
    try simp only [Act.put, List.setIfInBounds_toArray, List.set_cons_zero, List.set_cons_succ]
    refine lin_take 12 51 (v := ?_) rfl rfl (by kernel_rfl) (by kernel_rfl) (by kernel_rfl) (fun _ _ _ _ _ h => h) (by rfl) (fun W hW => ?_) ?_
    rotate_left
    · obtain ⟨k0, k1, k2, k3⟩ := HN7.out.below hW; obtain ⟨x0, x1, x2, x3⟩ := HX7.out.below hW; obtain ⟨c0, c1⟩ := HW7.out.below hW; have hcv := HC7.out W hW; go_simp; try rfl
    try simp only [Act.put, List.setIfInBounds_toArray, List.set_cons_zero, List.set_cons_succ]
    refine lin_take 13 52 (v := ?_) rfl rfl (by kernel_rfl) (by kernel_rfl) (by kernel_rfl) (fun _ _ _ _ _ h => h) (by rfl) (fun W hW => ?_) ?_
    rotate_left
    · obtain ⟨k0, k1, k2, k3⟩ := HN7.out.below hW; obtain ⟨x0, x1, x2, x3⟩ := HX7.out.below hW; obtain ⟨c0, c1⟩ := HW7.out.below hW; have hcv := HC7.out W hW; go_simp; try rfl
    try simp only [Act.put, List.setIfInBounds_toArray, List.set_cons_zero, List.set_cons_succ]
    refine lin_take 14 53 (v := ?_) rfl rfl (by kernel_rfl) (by kernel_rfl) (by kernel_rfl) (fun _ _ _ _ _ h => h) (by rfl) (fun W hW => ?_) ?_
    rotate_left
    · obtain ⟨k0, k1, k2, k3⟩ := HN7.out.below hW; obtain ⟨x0, x1, x2, x3⟩ := HX7.out.below hW; obtain ⟨c0, c1⟩ := HW7.out.below hW; have hcv := HC7.out W hW; go_simp; try rfl
    try simp only [Act.put, List.setIfInBounds_toArray, List.set_cons_zero, List.set_cons_succ]
    refine lin_take 15 54 (v := ?_) rfl rfl (by kernel_rfl) (by kernel_rfl) (by kernel_rfl) (fun _ _ _ _ _ h => h) (by rfl) (fun W hW => ?_) ?_
    rotate_left
    · obtain ⟨k0, k1, k2, k3⟩ := HN7.out.below hW; obtain ⟨x0, x1, x2, x3⟩ := HX7.out.below hW; obtain ⟨c0, c1⟩ := HW7.out.below hW; have hcv := HC7.out W hW; go_simp; try rfl
    try simp only [Act.put, List.setIfInBounds_toArray, List.set_cons_zero, List.set_cons_succ]
    refine lin_take 16 55 (v := ?_) rfl rfl (by kernel_rfl) (by kernel_rfl) (by kernel_rfl) (fun _ _ _ _ _ h => h) (by rfl) (fun W hW => ?_) ?_
    rotate_left
    · obtain ⟨k0, k1, k2, k3⟩ := HN7.out.below hW; obtain ⟨x0, x1, x2, x3⟩ := HX7.out.below hW; obtain ⟨c0, c1⟩ := HW7.out.below hW; have hcv := HC7.out W hW; go_simp; try rfl
    try simp only [Act.put, List.setIfInBounds_toArray, List.set_cons_zero, List.set_cons_succ]
    refine lin_take 17 56 (v := ?_) rfl rfl (by kernel_rfl) (by kernel_rfl) (by kernel_rfl) (fun _ _ _ _ _ h => h) (by rfl) (fun W hW => ?_) ?_
    rotate_left
    · obtain ⟨k0, k1, k2, k3⟩ := HN7.out.below hW; obtain ⟨x0, x1, x2, x3⟩ := HX7.out.below hW; obtain ⟨c0, c1⟩ := HW7.out.below hW; have hcv := HC7.out W hW; go_simp; try rfl
    try simp only [Act.put, List.setIfInBounds_toArray, List.set_cons_zero, List.set_cons_succ]
    refine lin_take 18 57 (v := ?_) rfl rfl (by kernel_rfl) (by kernel_rfl) (by kernel_rfl) (fun _ _ _ _ _ h => h) (by rfl) (fun W hW => ?_) ?_
    rotate_left
    · obtain ⟨k0, k1, k2, k3⟩ := HN7.out.below hW; obtain ⟨x0, x1, x2, x3⟩ := HX7.out.below hW; obtain ⟨c0, c1⟩ := HW7.out.below hW; have hcv := HC7.out W hW; go_simp; try rfl
    try simp only [Act.put, List.setIfInBounds_toArray, List.set_cons_zero, List.set_cons_succ]
    refine lin_take 19 58 (v := ?_) rfl rfl (by kernel_rfl) (by kernel_rfl) (by kernel_rfl) (fun _ _ _ _ _ h => h) (by rfl) (fun W hW => ?_) ?_
    rotate_left
    · obtain ⟨k0, k1, k2, k3⟩ := HN7.out.below hW; obtain ⟨x0, x1, x2, x3⟩ := HX7.out.below hW; obtain ⟨c0, c1⟩ := HW7.out.below hW; have hcv := HC7.out W hW; go_simp; try rfl
    try simp only [Act.put, List.setIfInBounds_toArray, List.set_cons_zero, List.set_cons_succ]
    refine lin_take 21 60 (v := ?_) rfl rfl (by kernel_rfl) (by kernel_rfl) (by kernel_rfl) (fun _ _ _ _ _ h => h) (by rfl) (fun W hW => ?_) ?_
    rotate_left
    · obtain ⟨k0, k1, k2, k3⟩ := HN7.out.below hW; obtain ⟨x0, x1, x2, x3⟩ := HX7.out.below hW; obtain ⟨c0, c1⟩ := HW7.out.below hW; have hcv := HC7.out W hW; go_simp; try rfl
    try simp only [Act.put, List.setIfInBounds_toArray, List.set_cons_zero, List.set_cons_succ]
    refine lin_take 22 61 (v := ?_) rfl rfl (by kernel_rfl) (by kernel_rfl) (by kernel_rfl) (fun _ _ _ _ _ h => h) (by rfl) (fun W hW => ?_) ?_
    rotate_left
    · obtain ⟨k0, k1, k2, k3⟩ := HN7.out.below hW; obtain ⟨x0, x1, x2, x3⟩ := HX7.out.below hW; obtain ⟨c0, c1⟩ := HW7.out.below hW; have hcv := HC7.out W hW; go_simp; try rfl
    try simp only [Act.put, List.setIfInBounds_toArray, List.set_cons_zero, List.set_cons_succ]
    refine lin_take 23 62 (v := ?_) rfl rfl (by kernel_rfl) (by kernel_rfl) (by kernel_rfl) (fun _ _ _ _ _ h => h) (by rfl) (fun W hW => ?_) ?_
    rotate_left
    · obtain ⟨k0, k1, k2, k3⟩ := HN7.out.below hW; obtain ⟨x0, x1, x2, x3⟩ := HX7.out.below hW; obtain ⟨c0, c1⟩ := HW7.out.below hW; have hcv := HC7.out W hW; go_simp; try rfl
    try simp only [Act.put, List.setIfInBounds_toArray, List.set_cons_zero, List.set_cons_succ]
    refine lin_take 24 63 (v := ?_) rfl rfl (by kernel_rfl) (by kernel_rfl) (by kernel_rfl) (fun _ _ _ _ _ h => h) (by rfl) (fun W hW => ?_) ?_
    rotate_left
    · obtain ⟨k0, k1, k2, k3⟩ := HN7.out.below hW; obtain ⟨x0, x1, x2, x3⟩ := HX7.out.below hW; obtain ⟨c0, c1⟩ := HW7.out.below hW; have hcv := HC7.out W hW; go_simp; try rfl
    try simp only [Act.put, List.setIfInBounds_toArray, List.set_cons_zero, List.set_cons_succ]
    refine lin_take 25 64 (v := ?_) rfl rfl (by kernel_rfl) (by kernel_rfl) (by kernel_rfl) (fun _ _ _ _ _ h => h) (by rfl) (fun W hW => ?_) ?_
    rotate_left
    · obtain ⟨k0, k1, k2, k3⟩ := HN7.out.below hW; obtain ⟨x0, x1, x2, x3⟩ := HX7.out.below hW; obtain ⟨c0, c1⟩ := HW7.out.below hW; have hcv := HC7.out W hW; go_simp; try rfl
    try simp only [Act.put, List.setIfInBounds_toArray, List.set_cons_zero, List.set_cons_succ]
    refine lin_step 20 rfl (by kernel_rfl) (fun K hK => ?_)
    go_simp
    refine (HRI.out u (HNV.out.below HB7.out)).mono ?_
    rintro e w8 ⟨rfl, h2⟩
    refine hK.out _ _ h2 ?_
    clear hK K
    have HB8 := Lib.hid (btr HB7.out h2)
    have HRV8 := Lib.hid (HRV7.out.below h2)
    have HN8 := Lib.hid (HN7.out.below h2)
    have HW8 := Lib.hid (HW7.out.below h2)
    have HX8 := Lib.hid (HX7.out.below h2)
    have HO8 := Lib.hid (HO7.out.below h2)
    clear h2 HB7 HRV7 HN7 HW7 HX7 HC7 HO7
    refine lin_step 26 rfl (by kernel_rfl) (fun K hK => ?_)
    go_simp
    refine (HRRI.out w8 HRV8.out).mono ?_
    rintro e w9 ⟨rfl, h3⟩
    refine hK.out _ _ h3 ?_
    clear hK K
    have HB9 := Lib.hid (btr HB8.out h3)
    have HRV9 := Lib.hid (HRV8.out.below h3)
    have HN9 := Lib.hid (HN8.out.below h3)
    have HW9 := Lib.hid (HW8.out.below h3)
    have HX9 := Lib.hid (HX8.out.below h3)
    have HO9 := Lib.hid (HO8.out.below h3)
    clear h3 HB8 HRV8 HN8 HW8 HX8 HO8
    refine lin_take 27 66 (v := ?_) rfl rfl (by kernel_rfl) (by kernel_rfl) (by kernel_rfl) (fun _ _ _ _ _ h => h) (by rfl) (fun W hW => ?_) ?_
    rotate_left
    · go_simp; try rfl
    try simp only [Act.put, List.setIfInBounds_toArray, List.set_cons_zero, List.set_cons_succ]
    refine lin_take 28 67 (v := ?_) rfl rfl (by kernel_rfl) (by kernel_rfl) (by kernel_rfl) (fun _ _ _ _ _ h => h) (by rfl) (fun W hW => ?_) ?_
    rotate_left
    · go_simp; try rfl
    try simp only [Act.put, List.setIfInBounds_toArray, List.set_cons_zero, List.set_cons_succ]
    refine lin_done (by kernel_rfl) ?_
    clear HRI HRRI hKK hEE hss hRR
    obtain ⟨c0, c1⟩ := HW9.out
    rcases hE2 with rfl | rfl
    · obtain ⟨y1, y2, y3⟩ := HBK.out rfl
      have HRD := Lib.hid (nread_any w9 K _ B k v hK8 HO9.out (by rw [HLB.out]; omega))
      rw [y1, y2] at HRD
      clear HBK y1 y2 y3
      go_wp2_with fail
      unfold nodv at HRD
      refine HRD.out.mono ?_
      rintro e w10 ⟨mv1, mv2, mv3, rfl, hnv, hb10⟩
      have HNM := Lib.hid hnv
      obtain ⟨M1, m1, rfl, _⟩ := hnv.keys
      obtain ⟨M2, m2, rfl, _⟩ := hnv.vals
      obtain ⟨M3, m3, rfl, _⟩ := hnv.kids
      have HBa : Hid (Below w10.heap.size w10 (w10.alloc (.cells #[.bool n.leaf, .slice M1 n.ks.length m1, .slice M2 n.vs.length m2, .slice M3 n.ps.length m3] 28))) := alb _
      have HMa := Lib.hid (Nb.made w10 n.leaf (.slice M1 n.ks.length m1) (.slice M2 n.vs.length m2) (.slice M3 n.ps.length m3))
      have HB11 := Lib.hid (btr (btr HB9.out hb10) HBa.out)
      have HRV11 := Lib.hid ((HRV9.out.below hb10).below HBa.out)
      have HX11 := Lib.hid ((HX9.out.below hb10).below HBa.out)
      have HNM11 := Lib.hid (HNM.out.below HBa.out)
      clear c0 c1 hnv hb10 HB9 HRV9 HN9 HW9 HX9 HO9 HNM HBa HRD
      go_wp2_with fail
      generalize w10.alloc (.cells #[.bool n.leaf, .slice M1 n.ks.length m1, .slice M2 n.vs.length m2, .slice M3 n.ps.length m3] 28) = w11 at *
      generalize w10.heap.size = b12 at *
      refine lin_start 12 rfl (by kernel_rfl) ?_
      have hdr : Below w11.heap.size w11 w11.drew := (Below.refl _ _).drew
      have HB12 := Lib.hid (btr HB11.out hdr)
      have HRV12 := Lib.hid (HRV11.out.below hdr)
      have HX12 := Lib.hid (HX11.out.below hdr)
      have HMb := Lib.hid (HMa.out.below hdr)
      have HNM12 := Lib.hid (HNM11.out.below hdr)
      clear hdr HB11 HRV11 HX11 HMa HNM11
      generalize w11.drew = uu at *
      refine lin_step 0 rfl (by kernel_rfl) (fun K hK => ?_)
      go_simp
      refine (nfixed_any uu).mono ?_
      rintro e w12 ⟨rfl, h5⟩
      refine hK.out _ _ h5 ?_
      clear hK K
      have HB13 := Lib.hid (btr HB12.out h5)
      have HRV13 := Lib.hid (HRV12.out.below h5)
      have HX13 := Lib.hid (HX12.out.below h5)
      have HMc := Lib.hid (HMb.out.below h5)
      have HNM13 := Lib.hid (HNM12.out.below h5)
      clear h5 HB12 HRV12 HX12 HMb HNM12
      refine lin_take 1 82 (v := ?_) rfl rfl (by kernel_rfl) (by kernel_rfl) (by kernel_rfl) (fun _ _ _ _ _ h => h) (by rfl) (fun W hW => ?_) ?_
      rotate_left
      · obtain ⟨a0, a1, a2, a3⟩ := HMc.out.below hW; obtain ⟨x0, x1, x2, x3⟩ := HX13.out.below hW; go_simp; try rfl
      try simp only [Act.put, List.setIfInBounds_toArray, List.set_cons_zero, List.set_cons_succ]
      refine lin_take 2 83 (v := ?_) rfl rfl (by kernel_rfl) (by kernel_rfl) (by kernel_rfl) (fun _ _ _ _ _ h => h) (by rfl) (fun W hW => ?_) ?_
      rotate_left
      · obtain ⟨a0, a1, a2, a3⟩ := HMc.out.below hW; obtain ⟨x0, x1, x2, x3⟩ := HX13.out.below hW; go_simp; try rfl
      try simp only [Act.put, List.setIfInBounds_toArray, List.set_cons_zero, List.set_cons_succ]
      refine lin_take 3 84 (v := ?_) rfl rfl (by kernel_rfl) (by kernel_rfl) (by kernel_rfl) (fun _ _ _ _ _ h => h) (by rfl) (fun W hW => ?_) ?_
      rotate_left
      · obtain ⟨a0, a1, a2, a3⟩ := HMc.out.below hW; obtain ⟨x0, x1, x2, x3⟩ := HX13.out.below hW; go_simp; try rfl
      try simp only [Act.put, List.setIfInBounds_toArray, List.set_cons_zero, List.set_cons_succ]
      refine lin_take 4 85 (v := ?_) rfl rfl (by kernel_rfl) (by kernel_rfl) (by kernel_rfl) (fun _ _ _ _ _ h => h) (by rfl) (fun W hW => ?_) ?_
      rotate_left
      · obtain ⟨a0, a1, a2, a3⟩ := HMc.out.below hW; obtain ⟨x0, x1, x2, x3⟩ := HX13.out.below hW; go_simp; try rfl
      try simp only [Act.put, List.setIfInBounds_toArray, List.set_cons_zero, List.set_cons_succ]
      refine lin_take 5 86 (v := ?_) rfl rfl (by kernel_rfl) (by kernel_rfl) (by kernel_rfl) (fun _ _ _ _ _ h => h) (by rfl) (fun W hW => ?_) ?_
      rotate_left
      · obtain ⟨a0, a1, a2, a3⟩ := HMc.out.below hW; obtain ⟨x0, x1, x2, x3⟩ := HX13.out.below hW; go_simp; try rfl
      try simp only [Act.put, List.setIfInBounds_toArray, List.set_cons_zero, List.set_cons_succ]
      refine lin_take 6 87 (v := ?_) rfl rfl (by kernel_rfl) (by kernel_rfl) (by kernel_rfl) (fun _ _ _ _ _ h => h) (by rfl) (fun W hW => ?_) ?_
      rotate_left
      · obtain ⟨a0, a1, a2, a3⟩ := HMc.out.below hW; obtain ⟨x0, x1, x2, x3⟩ := HX13.out.below hW; go_simp; try rfl
      try simp only [Act.put, List.setIfInBounds_toArray, List.set_cons_zero, List.set_cons_succ]
      refine lin_take 8 89 (v := ?_) rfl rfl (by kernel_rfl) (by kernel_rfl) (by kernel_rfl) (fun _ _ _ _ _ h => h) (by rfl) (fun W hW => ?_) ?_
      rotate_left
      · obtain ⟨a0, a1, a2, a3⟩ := HMc.out.below hW; obtain ⟨x0, x1, x2, x3⟩ := HX13.out.below hW; go_simp; try rfl
      try simp only [Act.put, List.setIfInBounds_toArray, List.set_cons_zero, List.set_cons_succ]
      have HOF := Lib.hid (refof_any w12 n _ _ _ HNM13.out HR.out (by have := HGN.out.1; omega) (by have := HGN.out.2.1; omega) (by have := HGN.out.2.2.1; omega))
      unfold nodv at HOF
      refine lin_step 7 rfl (by kernel_rfl) (fun K hK => ?_)
      go_simp
      refine (HOF.out).mono ?_
      rintro e w13 ⟨kv2, vv2, pv2, rfl, hrv2, h6⟩
      refine hK.out _ _ h6 ?_
      clear hK K
      have HB14 := Lib.hid (btr HB13.out h6)
      have HRV14 := Lib.hid (HRV13.out.below h6)
      have HRW14 := Lib.hid hrv2
      clear h6 hrv2 HB13 HRV13 HX13 HMc HNM13
      have HSM := Lib.hid (refsame_any w13 n _ _ _ _ _ _ HRW14.out HRV14.out (by have := HGN.out.1; omega) (by have := HGN.out.2.1; omega) (by have := HGN.out.2.2.1; omega))
      unfold nodv at HSM
      refine lin_step 9 rfl (by kernel_rfl) (fun K hK => ?_)
      go_simp
      refine (HSM.out).mono ?_
      rintro e w14 ⟨rfl, h7⟩
      refine hK.out _ _ h7 ?_
      clear hK K
      have HB15 := Lib.hid (btr HB14.out h7)
      refine lin_take 10 91 (v := ?_) rfl rfl (by kernel_rfl) (by kernel_rfl) (by kernel_rfl) (fun _ _ _ _ _ h => h) (by rfl) (fun W hW => ?_) ?_
      rotate_left
      · go_simp; try rfl
      try simp only [Act.put, List.setIfInBounds_toArray, List.set_cons_zero, List.set_cons_succ]
      refine lin_take 11 4 (v := ?_) rfl rfl (by kernel_rfl) (by kernel_rfl) (by kernel_rfl) (fun _ _ _ _ _ h => h) (by rfl) (fun W hW => ?_) ?_
      rotate_left
      · go_simp; try rfl
      try simp only [Act.put, List.setIfInBounds_toArray, List.set_cons_zero, List.set_cons_succ]
      refine lin_done (by kernel_rfl) ?_
      go_wp2
      go_ret
      exact ⟨rfl, HB15.out⟩
    · go_wp2_with fail
      refine (nfixed_any w9).mono ?_
      rintro e w10 ⟨rfl, hb10⟩
      go_wp2
      go_ret
      exact ⟨rfl, btr HB9.out hb10⟩
theorem nwrites_any (w : World) (n : N.Nd) (kv vv pv : Value) (k v : Int) (h : NV w kv vv pv n) (hr : Rg n.ps) :
    Calls Try.prog 4 #[nodv n.leaf kv vv pv, .agg #[.int .i64 k, .int .i64 v]] w fun e w' => e = .returned (.bool true) ∧ Below w.heap.size w w' := by
  have HV := Lib.hid h
  obtain ⟨A1, d1, rfl, _⟩ := h.keys
  obtain ⟨A2, d2, rfl, _⟩ := h.vals
  obtain ⟨A3, d3, rfl, _⟩ := h.kids
  exact nwrites_core w n A1 A2 A3 n.ks.length d1 n.vs.length d2 n.ps.length d3 k v HV (Lib.hid hr)
end Go.Proofs.Ytceoelemlokelaa
