/- node's calls as a whole; the document's own Read as a whole; fixed, great; what comes in. -/
import Derived.Test.YtceoelemlokelaaHx
import Derived.Test.YtceoelemlokelaaHz
namespace Go.Proofs.Ytceoelemlokelaa
open Go.RowKit Go.ChangeShapes Go.WideShapes
open Lib (compareBytes)

theorem nkid_any (w : World) (n : N.Nd) (kv vv pv xv : Value) (key : List UInt8) (h : NV w kv vv pv n) (hx : Byts w xv key) (hn : n.ks.length ≤ 1000000000000) :
    Calls Try.prog 20 #[nodv n.leaf kv vv pv, xv] w fun e w' => ∃ p : Nat, e = .returned (.int .i64 (p : Int)) ∧ KidAt n.ks key p ∧ Below w.heap.size w w' := by
  obtain ⟨A1, d1, rfl, _, _, c1⟩ := h.keys
  have HX := Lib.hid hx
  obtain ⟨A2, d2, rfl, _⟩ := hx
  exact nkid_core w n.leaf A1 A2 n.ks.length d1 key.length d2 vv pv n.ks key hn (Lib.hid rfl) HX (Lib.hid c1)
theorem nplace_any (w : World) (n : N.Nd) (kv vv pv xv : Value) (key : List UInt8) (h : NV w kv vv pv n) (hx : Byts w xv key) (hn : n.ks.length ≤ 1000000000000) :
    Calls Try.prog 19 #[nodv n.leaf kv vv pv, xv] w fun e w' => ∃ p : Nat, e = .returned (.tuple #[.int .i64 (p : Int), .bool (plcB n.ks key p)]) ∧ PlcAt n.ks key p ∧ Below w.heap.size w w' := by
  obtain ⟨A1, d1, rfl, _, _, c1⟩ := h.keys
  have HX := Lib.hid hx
  obtain ⟨A2, d2, rfl, _⟩ := hx
  exact nplace_core w n.leaf A1 A2 n.ks.length d1 key.length d2 vv pv n.ks key hn (Lib.hid rfl) HX (Lib.hid c1)
theorem nread_any (w : World) (kd : Nat) (xv : Value) (l : List UInt8) (k v : Int) (hkd : kd < 256) (h : Byts w xv l) (hl : l.length ≤ 1000) :
    Calls Try.prog 16 #[.int .u8 (kd : Int), xv, .int .i64 k, .int .i64 v] w fun e w' => ∃ kv vv pv,
      e = .returned (.tuple #[nodv (N.readN kd l k v).leaf kv vv pv, .int .i64 ((N.readE kd l k v : Nat) : Int)]) ∧ NV w' kv vv pv (N.readN kd l k v) ∧ Below w.heap.size w w' := by
  have HX := Lib.hid h
  obtain ⟨A, c, rfl, hc, hp⟩ := h
  by_cases h2 : l.length < 2
  · have hno : N.readOK kd l k v = false := by unfold N.readOK; rw [decide_eq_false (by omega), Bool.false_and]
    obtain ⟨e1, e2⟩ := read_no hno
    rw [e1, e2]
    refine (nread_short w kd A l.length c k v h2).mono ?_
    rintro e w' ⟨rfl, hB⟩
    exact ⟨_, _, _, rfl, zero_nv _, hB⟩
  · obtain ⟨b, off, rfl, _⟩ := hp (by omega)
    exact nread_core w kd b off l.length c k v l hkd (by omega) hl (Lib.hid rfl) HX
theorem rzero (w : World) : RV w (.slice none 0 0) (.slice none 0 0) (.slice none 0 0) N.zero := ⟨Sts.nil w, Sts.nil w, Nums.nil w⟩
theorem refread_any (w : World) (kd : Nat) (l : List UInt8) (k v : Int) (hl : l.length ≤ 1000000) :
    Calls Try.prog 18 #[.int .u8 (kd : Int), .string (str l), .int .i64 k, .int .i64 v] w fun e w' => ∃ kv vv pv,
      e = .returned (.tuple #[nodv (N.readN kd l k v).leaf kv vv pv, .int .i64 ((N.readE kd l k v : Nat) : Int)]) ∧ RV w' kv vv pv (N.readN kd l k v) ∧ Below w.heap.size w w' := by
  have C0 := Lib.hid (fun W => refcaps_any k v W)
  have no : ∀ (hC : N.capA k v = 0 ∨ (N.capA k v ≠ 0 ∧ l.length < 2) ∨ (N.capA k v ≠ 0 ∧ 2 ≤ l.length ∧ 500 < l.length) ∨ (N.capA k v ≠ 0 ∧ 2 ≤ l.length ∧ l.length ≤ 500 ∧ kd ≠ 3 ∧ kd ≠ 4)), N.readOK kd l k v = false → Calls Try.prog 18 #[.int .u8 (kd : Int), .string (str l), .int .i64 k, .int .i64 v] w fun e w' => ∃ kv vv pv,
      e = .returned (.tuple #[nodv (N.readN kd l k v).leaf kv vv pv, .int .i64 ((N.readE kd l k v : Nat) : Int)]) ∧ RV w' kv vv pv (N.readN kd l k v) ∧ Below w.heap.size w w' := fun hC hno => by
    obtain ⟨e1, e2⟩ := read_no hno
    rw [e1, e2]
    refine (refread_no w kd l.length k v _ _ (str l) hl (str_size l) hC C0).mono ?_
    rintro e w' ⟨rfl, hB⟩
    exact ⟨_, _, _, rfl, rzero _, hB⟩
  by_cases ha : N.capA k v = 0
  · refine no (.inl ha) (Bool.eq_false_iff.2 fun q => ?_)
    obtain ⟨_, _, f⟩ := N.readOK_len q
    obtain ⟨a, b, ea, _, a3, _⟩ := N.cap_law k v f
    omega
  · have f : 1 ≤ k ∧ k ≤ 24 ∧ 0 ≤ v ∧ v ≤ 108 := by
      by_cases f : 1 ≤ k ∧ k ≤ 24 ∧ 0 ≤ v ∧ v ≤ 108
      · exact f
      · exact absurd (N.cap_no f).1 ha
    by_cases h2 : l.length < 2
    · exact no (.inr (.inl ⟨ha, h2⟩)) (Bool.eq_false_iff.2 fun q => by have := ((N.readOK_iff _ _ _ _).1 q).1; omega)
    · by_cases h5 : 500 < l.length
      · exact no (.inr (.inr (.inl ⟨ha, by omega, h5⟩))) (Bool.eq_false_iff.2 fun q => by have := (N.readOK_len q).1; omega)
      · by_cases hk : kd = 3 ∨ kd = 4
        · obtain ⟨kn, rfl⟩ : ∃ kn : Nat, k = (kn : Int) := ⟨k.toNat, by omega⟩
          obtain ⟨vn, rfl⟩ : ∃ vn : Nat, v = (vn : Int) := ⟨v.toNat, by omega⟩
          rcases hk with rfl | rfl
          · exact refread_leaf w l.length kn vn _ _ l _ _ (by omega) (by omega) (by omega) (by omega) (by omega) (Lib.hid rfl) ha (Lib.hid read_no) (Lib.hid read_yes) C0
          · exact refread_inner w l.length kn vn _ _ l _ _ (by omega) (by omega) (by omega) (by omega) (Lib.hid rfl) ha (Lib.hid read_no) (Lib.hid read_yes) C0
        · exact no (.inr (.inr (.inr ⟨ha, by omega, by omega, fun e => hk (.inl e), fun e => hk (.inr e)⟩))) (Bool.eq_false_iff.2 fun q => hk (N.readOK_len q).2.1)

/-! The chapter's example. -/
theorem pair_brs (w : World) (x y : UInt8) (a b : Int) (ha : a = ((x.toNat : Nat) : Int)) (hb : b = ((y.toNat : Nat) : Int)) :
    Below w.heap.size w (((w.alloc (.cells #[.int .u8 a] 5)).alloc (.cells #[.int .u8 b] 5)).alloc (.cells #[.slice (some ⟨w.heap.size, 0, none⟩) 1 1, .slice (some ⟨w.heap.size + 1, 0, none⟩) 1 1] 29)) ∧
    (((w.alloc (.cells #[.int .u8 a] 5)).alloc (.cells #[.int .u8 b] 5)).alloc (.cells #[.slice (some ⟨w.heap.size, 0, none⟩) 1 1, .slice (some ⟨w.heap.size + 1, 0, none⟩) 1 1] 29)).heap.size = w.heap.size + 1 + 1 + 1 ∧
    Brs (((w.alloc (.cells #[.int .u8 a] 5)).alloc (.cells #[.int .u8 b] 5)).alloc (.cells #[.slice (some ⟨w.heap.size, 0, none⟩) 1 1, .slice (some ⟨w.heap.size + 1, 0, none⟩) 1 1] 29)) (.slice (some ⟨w.heap.size + 1 + 1, 0, none⟩) 2 2) [[x], [y]] := by
  subst ha hb
  have y1 := Byts.lit w [x] (by simp)
  have e1 : (bvs [x]).toArray = #[.int .u8 ((x.toNat : Nat) : Int)] := rfl
  rw [e1] at y1
  have b1 := alb (w := w) (.cells #[.int .u8 ((x.toNat : Nat) : Int)] 5)
  have s1 : (w.alloc (.cells #[.int .u8 ((x.toNat : Nat) : Int)] 5)).heap.size = w.heap.size + 1 := World.size_alloc _ _
  generalize w.alloc (.cells #[.int .u8 ((x.toNat : Nat) : Int)] 5) = w1 at *
  have y2 := Byts.lit w1 [y] (by simp)
  have e2 : (bvs [y]).toArray = #[.int .u8 ((y.toNat : Nat) : Int)] := rfl
  rw [e2] at y2
  have b2 := alb (w := w1) (.cells #[.int .u8 ((y.toNat : Nat) : Int)] 5)
  have s2 : (w1.alloc (.cells #[.int .u8 ((y.toNat : Nat) : Int)] 5)).heap.size = w.heap.size + 1 + 1 := by rw [World.size_alloc, s1]
  generalize w1.alloc (.cells #[.int .u8 ((y.toNat : Nat) : Int)] 5) = w2 at *
  have b3 := alb (w := w2) (.cells #[.slice (some ⟨w.heap.size, 0, none⟩) 1 1, .slice (some ⟨w.heap.size + 1, 0, none⟩) 1 1] 29)
  refine ⟨btr (btr b1 b2) b3, by rw [World.size_alloc, s2], _, 2, rfl, Nat.le_refl _, by unfold maxLen; omega, fun _ => ⟨w.heap.size + 1 + 1, 0, rfl, fun j hj => ?_⟩⟩
  have hj : j < 2 := hj
  have hj2 : j = 0 ∨ j = 1 := by omega
  rcases hj2 with rfl | rfl
  · exact ⟨_, by rw [World.cell?_alloc_at _ _ _ _ (by rw [s2])]; rfl, (y1.below b2).below b3⟩
  · rw [s1] at y2
    exact ⟨_, by rw [World.cell?_alloc_at _ _ _ _ (by rw [s2])]; rfl, y2.below b3⟩
theorem fixed_node : N.wK ⟨true, [[1], [2]], [[7], [8]], []⟩ 1 1 = 3 ∧ N.wE ⟨true, [[1], [2]], [[7], [8]], []⟩ 1 1 = 0 ∧ N.wB ⟨true, [[1], [2]], [[7], [8]], []⟩ 1 1 = [0, 2, 1, 7, 2, 8] ∧ N.capA 16 88 = 4 ∧ N.capB 16 88 = 25 := by decide +kernel
set_option maxHeartbeats 1600000 in
theorem nfixed_any (w : World) : Calls Try.prog 9 #[] w fun e w' => e = .returned (.bool true) ∧ Below w.heap.size w w' := by
  obtain ⟨f1, f2, f3, f4, f5⟩ := fixed_node
  have HC := Lib.hid (ncaps_any 16 88 w)
  rw [f4, f5] at HC
  clear f4 f5
  go_enter Try.func9, Try.ntmps9
  go_wp2_with fail
  refine HC.out.mono ?_
  rintro e w1 ⟨rfl, hB1⟩
  have HB1 := Lib.hid hB1
  clear hB1 HC
  obtain ⟨p1, p2, p3⟩ := pair_brs w1 1 2 1 2 rfl rfl
  have P1 := Lib.hid p1
  have P2 := Lib.hid p2
  have P3 := Lib.hid p3
  clear p1 p2 p3
  go_wp2_with fail
  generalize ((w1.alloc (.cells #[.int .u8 1] 5)).alloc (.cells #[.int .u8 2] 5)).alloc (.cells #[.slice (some ⟨w1.heap.size, 0, none⟩) 1 1, .slice (some ⟨w1.heap.size + 1, 0, none⟩) 1 1] 29) = w2 at *
  obtain ⟨r1, r2, r3⟩ := pair_brs w2 7 8 7 8 rfl rfl
  rw [P2.out] at r1 r3
  generalize ((w2.alloc (.cells #[.int .u8 7] 5)).alloc (.cells #[.int .u8 8] 5)).alloc (.cells #[.slice (some ⟨w1.heap.size + 1 + 1 + 1, 0, none⟩) 1 1, .slice (some ⟨w1.heap.size + 1 + 1 + 1 + 1, 0, none⟩) 1 1] 29) = w3 at *
  have r4 : Below w2.heap.size w2 w3 := by rw [P2.out]; exact r1
  have HNV : NV w3 (.slice (some ⟨w1.heap.size + 1 + 1, 0, none⟩) 2 2) (.slice (some ⟨w1.heap.size + 1 + 1 + 1 + 1 + 1, 0, none⟩) 2 2) (.slice none 0 0) ⟨true, [[1], [2]], [[7], [8]], []⟩ := ⟨P3.out.below r4, r3, Nums.nil _⟩
  have HW := Lib.hid (nwrite_any w3 _ _ _ _ 1 1 HNV (fun x hx => by simp at hx))
  have HB3 := Lib.hid (btr (btr HB1.out P1.out) r4)
  rw [f1, f2, f3] at HW
  clear f1 f2 f3 HNV r1 r2 r3 r4 P1 P2 P3 HB1
  unfold nodv at HW
  refine HW.out.mono ?_
  rintro e w4 ⟨x, rfl, hown, hB4⟩
  have HB4 := Lib.hid (btr HB3.out hB4)
  have hby := Byts.own hown
  obtain ⟨A, c, rfl⟩ := hby.form
  have hcv : (convert 29 9 (.slice A 6 c)).run Try.prog w4 = .ok (.string ⟨#[0, 2, 1, 7, 2, 8]⟩) w4 := hby.conv
  clear hby hown hB4 HW HB3
  go_wp2
  go_ret
  exact ⟨rfl, HB4.out⟩

/-! More than is gone through. -/
def greatB (n : N.Nd) : Bool := decide (600 < n.ks.length) || (decide (600 < n.vs.length) || (decide (600 < n.ps.length) || (n.ks.any (fun b => decide (200 < b.length)) || n.vs.any (fun b => decide (200 < b.length)))))
theorem great_no {n : N.Nd} (h : greatB n = false) : n.ks.length ≤ 600 ∧ n.vs.length ≤ 600 ∧ n.ps.length ≤ 600 ∧ (∀ b ∈ n.ks, b.length ≤ 200) ∧ (∀ b ∈ n.vs, b.length ≤ 200) := by
  unfold greatB at h
  simp only [Bool.or_eq_false_iff, decide_eq_false_iff_not, List.any_eq_false, decide_eq_true_eq] at h
  obtain ⟨h1, h2, h3, h4, h5⟩ := h
  exact ⟨by omega, by omega, by omega, fun b hb => by have := h4 b hb; omega, fun b hb => by have := h5 b hb; omega⟩
set_option maxHeartbeats 3200000 in
theorem great_core (w : World) (lf : Bool) (A1 A2 A3 : Option Addr) (n1 d1 n2 d2 n3 d3 : Nat) (ks vs : List (List UInt8)) (R : Bool) (b1 : n1 ≤ 9223372036854775807) (b2 : n2 ≤ 9223372036854775807) (L1 : Hid (ks.length = n1)) (L2 : Hid (vs.length = n2))
    (HR : Hid (R = (decide (600 < n1) || (decide (600 < n2) || (decide (600 < n3) || (ks.any (fun b => decide (200 < b.length)) || vs.any (fun b => decide (200 < b.length))))))))
    (H1 : Hid (0 < n1 → ∃ b off, A1 = some ⟨b, off, none⟩ ∧ ∀ j, j < n1 → ∃ u, w.cell? ⟨b, off + j, none⟩ = some u ∧ Byts w u (ks.getD j [])))
    (H2 : Hid (0 < n2 → ∃ b off, A2 = some ⟨b, off, none⟩ ∧ ∀ j, j < n2 → ∃ u, w.cell? ⟨b, off + j, none⟩ = some u ∧ Byts w u (vs.getD j []))) :
    Calls Try.prog 11 #[.agg #[.bool lf, .slice A1 n1 d1, .slice A2 n2 d2, .slice A3 n3 d3]] w fun e w' => e = .returned (.bool R) ∧ Below w.heap.size w w' := by
  have HA : Hid (Below w.heap.size w (w.alloc (.cells #[.bool lf, .slice A1 n1 d1, .slice A2 n2 d2, .slice A3 n3 d3] 28))) := alb _
  have HN := Lib.hid (Nb.made w lf (.slice A1 n1 d1) (.slice A2 n2 d2) (.slice A3 n3 d3))
  have cases4 : 600 < n1 ∨ (¬ 600 < n1 ∧ 600 < n2) ∨ (¬ 600 < n1 ∧ ¬ 600 < n2 ∧ 600 < n3) ∨ (¬ 600 < n1 ∧ ¬ 600 < n2 ∧ ¬ 600 < n3) := by omega
  rcases cases4 with g1 | ⟨g1, g2⟩ | ⟨g1, g2, g3⟩ | ⟨g1, g2, g3⟩
  · have z1 : 600 < (n1 : Int) := by omega
    have e : Hid (R = true) := by show R = _; rw [HR.out, decide_eq_true g1]; rfl
    clear HR g1
    go_enter Try.func11, Try.ntmps11
    go_wp2
    go_ret
    exact ⟨by rw [e.out]; rfl, HA.out⟩
  · have z1 : ¬ 600 < (n1 : Int) := by omega
    have z2 : 600 < (n2 : Int) := by omega
    have e : Hid (R = true) := by show R = _; rw [HR.out, decide_eq_false g1, decide_eq_true g2]; rfl
    clear HR g1 g2
    go_enter Try.func11, Try.ntmps11
    go_wp2
    go_ret
    exact ⟨by rw [e.out]; rfl, HA.out⟩
  · have z1 : ¬ 600 < (n1 : Int) := by omega
    have z2 : ¬ 600 < (n2 : Int) := by omega
    have z3 : 600 < (n3 : Int) := by omega
    have e : Hid (R = true) := by show R = _; rw [HR.out, decide_eq_false g1, decide_eq_false g2, decide_eq_true g3]; rfl
    clear HR g1 g2 g3
    go_enter Try.func11, Try.ntmps11
    go_wp2
    go_ret
    exact ⟨by rw [e.out]; rfl, HA.out⟩
  · have z1 : ¬ 600 < (n1 : Int) := by omega
    have z2 : ¬ 600 < (n2 : Int) := by omega
    have z3 : ¬ 600 < (n3 : Int) := by omega
    have HRR : Hid (R = (ks.any (fun b => decide (200 < b.length)) || vs.any (fun b => decide (200 < b.length)))) := by show R = _; rw [HR.out, decide_eq_false g1, decide_eq_false g2, decide_eq_false g3]; rfl
    clear HR g1 g2 g3
    go_enter Try.func11, Try.ntmps11
    go_wp2_with fail
    generalize w.alloc (.cells #[.bool lf, .slice A1 n1 d1, .slice A2 n2 d2, .slice A3 n3 d3] 28) = w2 at *
    obtain ⟨k0, k1, k2, k3⟩ := HN.out
    go_loopg [26] n1 (fun g s wr => ∃ i : Nat, s = .int .i64 (i : Int) ∧ i ≤ n1 ∧ n1 - i ≤ g ∧ w2 = wr ∧ Hid (∀ j, j < i → (ks.getD j []).length ≤ 200))
    case atStart => exact ⟨0, rfl, by omega, by omega, rfl, fun j hj => by omega⟩
    case round =>
      obtain ⟨i, rfl, h1i, h2i, rfl, HiI⟩ := hrel
      by_cases hii : i < n1
      · have hz : (i : Int) < (n1 : Int) := by omega
        obtain ⟨b, off, rfl, hcell⟩ := H1.out (by omega)
        obtain ⟨u, c0, hu⟩ := hcell i hii
        obtain ⟨A9, d9, rfl, _⟩ := hu
        replace c0 := kept c0 HA.out
        clear hcell
        obtain ⟨x, hx⟩ : ∃ x, x = (ks.getD i []).length := ⟨_, rfl⟩
        rw [← hx] at c0
        have HX := Lib.hid hx
        clear hx
        by_cases hxx : 200 < x
        · have hne : 200 < (x : Int) := by omega
          have HXX := Lib.hid hxx
          clear hxx
          go_wp2
          go_ret
          refine ⟨?_, HA.out⟩
          have hno : ks.any (fun b => decide (200 < b.length)) = true := by
            rw [List.any_eq_true]
            exact ⟨ks.getD i [], N.getD_mem (by rw [L1.out]; exact hii), decide_eq_true (by rw [← HX.out]; exact HXX.out)⟩
          have e0 : R = true := by
            rw [HRR.out, hno]
            rfl
          rw [e0]
          rfl
        · have hne : ¬ 200 < (x : Int) := by omega
          have HXX := Lib.hid hxx
          clear hxx
          go_wp2
          go_roundg (n1 - (i + 1))
          case measure => omega
          case rel =>
            refine ⟨i + 1, by go_num, by omega, by omega, rfl, fun j hj => ?_⟩
            by_cases e : j < i
            · exact HiI.out j e
            · obtain rfl : j = i := by omega
              have := HXX.out
              rw [← HX.out]
              omega
      · have hz : ¬ (i : Int) < (n1 : Int) := by omega
        have HALLi : Hid (ks.any (fun b => decide (200 < b.length)) = false) := by
          show _ = false
          rw [List.any_eq_false]
          intro b hb
          obtain ⟨j, hj, rfl⟩ := List.getElem_of_mem hb
          have h3 := HiI.out j (by rw [L1.out] at hj; omega)
          rw [show ks.getD j [] = ks[j] by simp [List.getD, hj]] at h3
          rw [decide_eq_true_eq]
          omega
        go_wp2_with fail
        clear HiI hz hii h1i h2i
        go_loopg [37] n2 (fun g s wr => ∃ m : Nat, s = .int .i64 (m : Int) ∧ m ≤ n2 ∧ n2 - m ≤ g ∧ w2 = wr ∧ Hid (∀ j, j < m → (vs.getD j []).length ≤ 200))
        case atStart => exact ⟨0, rfl, by omega, by omega, rfl, fun j hj => by omega⟩
        case round =>
          obtain ⟨m, rfl, h1m, h2m, rfl, HmI⟩ := hrel
          by_cases him : m < n2
          · have hz : (m : Int) < (n2 : Int) := by omega
            obtain ⟨b, off, rfl, hcell⟩ := H2.out (by omega)
            obtain ⟨u, c0, hu⟩ := hcell m him
            obtain ⟨A9, d9, rfl, _⟩ := hu
            replace c0 := kept c0 HA.out
            clear hcell
            obtain ⟨x, hx⟩ : ∃ x, x = (vs.getD m []).length := ⟨_, rfl⟩
            rw [← hx] at c0
            have HX := Lib.hid hx
            clear hx
            by_cases hxx : 200 < x
            · have hne : 200 < (x : Int) := by omega
              have HXX := Lib.hid hxx
              clear hxx
              go_wp2
              go_ret
              refine ⟨?_, HA.out⟩
              have hno : vs.any (fun b => decide (200 < b.length)) = true := by
                rw [List.any_eq_true]
                exact ⟨vs.getD m [], N.getD_mem (by rw [L2.out]; exact him), decide_eq_true (by rw [← HX.out]; exact HXX.out)⟩
              have e0 : R = true := by
                rw [HRR.out, HALLi.out, hno]
                rfl
              rw [e0]
              rfl
            · have hne : ¬ 200 < (x : Int) := by omega
              have HXX := Lib.hid hxx
              clear hxx
              go_wp2
              go_roundg (n2 - (m + 1))
              case measure => omega
              case rel =>
                refine ⟨m + 1, by go_num, by omega, by omega, rfl, fun j hj => ?_⟩
                by_cases e : j < m
                · exact HmI.out j e
                · obtain rfl : j = m := by omega
                  have := HXX.out
                  rw [← HX.out]
                  omega
          · have hz : ¬ (m : Int) < (n2 : Int) := by omega
            have HALLm : Hid (vs.any (fun b => decide (200 < b.length)) = false) := by
              show _ = false
              rw [List.any_eq_false]
              intro b hb
              obtain ⟨j, hj, rfl⟩ := List.getElem_of_mem hb
              have h3 := HmI.out j (by rw [L2.out] at hj; omega)
              rw [show vs.getD j [] = vs[j] by simp [List.getD, hj]] at h3
              rw [decide_eq_true_eq]
              omega
            go_wp2
            go_ret
            exact ⟨by rw [HRR.out, HALLi.out, HALLm.out]; rfl, HA.out⟩
theorem great_any (w : World) (n : N.Nd) (kv vv pv : Value) (h : NV w kv vv pv n) : Calls Try.prog 11 #[nodv n.leaf kv vv pv] w fun e w' => e = .returned (.bool (greatB n)) ∧ Below w.heap.size w w' := by
  obtain ⟨A1, d1, rfl, e1, m1, c1⟩ := h.keys
  obtain ⟨A2, d2, rfl, e2, m2, c2⟩ := h.vals
  obtain ⟨A3, d3, rfl, _⟩ := h.kids
  unfold maxLen at m1 m2
  exact great_core w n.leaf A1 A2 A3 n.ks.length d1 n.vs.length d2 n.ps.length d3 n.ks n.vs _ (by omega) (by omega) (Lib.hid rfl) (Lib.hid rfl) (Lib.hid rfl) (Lib.hid c1) (Lib.hid c2)
/-- What comes in: rows of rows of bytes. -/
theorem Try.cells29 : Try.prog.cellsOf 29 = 1 := by kernel_rfl
theorem Try.cells25 : Try.prog.cellsOf 25 = 1 := by kernel_rfl
theorem Try.cells26 : Try.prog.cellsOf 26 = 1 := by kernel_rfl
theorem Try.cells28 : Try.prog.cellsOf 28 = 4 := by kernel_rfl
end Go.Proofs.Ytceoelemlokelaa
