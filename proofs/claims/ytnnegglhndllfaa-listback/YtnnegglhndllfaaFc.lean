/- freelist.layFour and bodyOf: a page's body, laid into a block of the call's own. -/
import Derived.Test.YtnnegglhndllfaaFb
namespace Go.Proofs.Ytnnegglhndllfaa
open Go.RowKit
open G (four two)

/-- A block of bytes of the call's own, whole. -/
def Bk (w : World) (g : Nat) (l : List UInt8) : Prop := w.heap[g]? = some (.cells (bvs l).toArray 5 (0, 0)) ∧ l.length ≤ 1000000
theorem Bk.lt {w : World} {g : Nat} {l : List UInt8} (h : Bk w g l) : g < w.heap.size := (Array.getElem?_eq_some_iff.1 h.1).1
theorem Bk.below {w w1 : World} {g : Nat} {l : List UInt8} (h : Bk w g l) (hb : Below w.heap.size w w1) : Bk w1 g l := ⟨(hb.block g h.lt).trans h.1, h.2⟩
theorem Bk.own {w : World} {g : Nat} {l : List UInt8} (h : Bk w g l) (base : Nat) (hb : base ≤ g) : w.ownsRow base 5 1 (.slice (some ⟨g, 0, none⟩) l.length l.length) l.length (bvs l) :=
  own_of h.1 hb (bvs_length l) (by have := h.2; unfold maxLen; omega)
theorem Bk.of_own {w : World} {base g n : Nat} {l : List UInt8} (hl : l.length = n) (hm : n ≤ 1000000) (h : w.ownsRow base 5 1 (.slice (some ⟨g, 0, none⟩) n n) n (bvs l)) : Bk w g l := ⟨own_heap h, by omega⟩
theorem Bk.cell {w : World} {g : Nat} {l : List UInt8} (h : Bk w g l) (j : Nat) (hj : j < l.length) : w.cell? ⟨g, j, none⟩ = some (.int .u8 (((l.getD j 0).toNat : Nat) : Int)) := by
  rw [(h.own 0 (Nat.zero_le _)).cellAt j (by omega), bvs_get l j hj]
  simp [List.getD, hj]
theorem Bk.frozen {w : World} {g : Nat} {l : List UInt8} (h : Bk w g l) (j : Nat) : w.frozen? ⟨g, j, none⟩ = false := (h.own 0 (Nat.zero_le _)).frozenAt j
theorem Bk.set {w : World} {g : Nat} {l : List UInt8} (h : Bk w g l) (p : Nat) (x : UInt8) : Bk (w.setCell ⟨g, p, none⟩ (.int .u8 ((x.toNat : Nat) : Int))) g (l.set p x) := by
  have q := ((h.own 0 (Nat.zero_le _)).stored p (.int .u8 ((x.toNat : Nat) : Int))).1
  rw [← bvs_set] at q
  exact Bk.of_own (by simp) h.2 q
theorem Bk.byts {w : World} {g : Nat} {l : List UInt8} (h : Bk w g l) : Byts w (.slice (some ⟨g, 0, none⟩) l.length l.length) l := Byts.own (h.own 0 (Nat.zero_le _))
/-- Four bytes laid at a place. -/
def lay4 (l : List UInt8) (f n : Nat) : List UInt8 := (((l.set f (UInt8.ofNat (n / 16777216))).set (f + 1) (UInt8.ofNat (n / 65536))).set (f + 2) (UInt8.ofNat (n / 256))).set (f + 3) (UInt8.ofNat n)
theorem lay4_length (l : List UInt8) (f n : Nat) : (lay4 l f n).length = l.length := by simp [lay4]
theorem lay4_mid (u r : List UInt8) (a b c d : UInt8) (n : Nat) : lay4 (u ++ (a :: b :: c :: d :: r)) u.length n = u ++ (four n ++ r) := by
  unfold lay4
  have e : ∀ (j : Nat) (t : List UInt8) (x : UInt8), (u ++ t).set (u.length + j) x = u ++ t.set j x := fun j t x => by
    rw [List.set_append_right _ _ (by omega), Nat.add_sub_cancel_left]
  have e0 := fun t x => e 0 t x
  simp only [Nat.add_zero] at e0
  rw [e0, e, e, e]
  rfl
theorem u8_val (n k : Nat) : (n : Int) / (k : Int) % 256 = (((UInt8.ofNat (n / k)).toNat : Nat) : Int) := by
  rw [UInt8.toNat_ofNat']
  omega

set_option maxHeartbeats 1600000 in
theorem layfour_any (w : World) (g f n : Nat) (l : List UInt8) (hn : n < 4294967296) (hf : f + 4 ≤ l.length) (h : Bk w g l) :
    Calls Try.prog 26 #[.slice (some ⟨g, f, none⟩) (l.length - f) (l.length - f), .int .u32 (n : Int)] w fun e w' => e = .returned (.tuple #[]) ∧ Bk w' g (lay4 l f n) ∧ ∀ B, B ≤ g → Below B w w' := by
  have HB := Lib.hid h
  have a0 := h.cell f (by omega)
  have a1 := h.cell (f + 1) (by omega)
  have a2 := h.cell (f + 2) (by omega)
  have a3 := h.cell (f + 3) (by omega)
  have f0 := h.frozen f
  have f1 := h.frozen (f + 1)
  have f2 := h.frozen (f + 2)
  have f3 := h.frozen (f + 3)
  have q0 := u8_val n 16777216
  have q1 := u8_val n 65536
  have q2 := u8_val n 256
  have q3 := u8_val n 1
  have k0 : 0 < l.length - f := by omega
  have k1 : 1 < l.length - f := by omega
  have k2 : 2 < l.length - f := by omega
  have k3 : 3 < l.length - f := by omega
  clear h
  generalize l.length - f = m at *
  generalize (l.getD f 0).toNat = y0 at *
  generalize (l.getD (f + 1) 0).toNat = y1 at *
  generalize (l.getD (f + 2) 0).toNat = y2 at *
  generalize (l.getD (f + 3) 0).toNat = y3 at *
  go_enter Try.func26, Try.ntmps26
  go_wp2
  go_end0
  have e0 : (n : Int) / 16777216 = (((UInt8.ofNat (n / 16777216)).toNat : Nat) : Int) := by rw [UInt8.toNat_ofNat']; omega
  have e1 : (n : Int) / 65536 % 256 = (((UInt8.ofNat (n / 65536)).toNat : Nat) : Int) := by rw [UInt8.toNat_ofNat']; omega
  have e2 : (n : Int) / 256 % 256 = (((UInt8.ofNat (n / 256)).toNat : Nat) : Int) := by rw [UInt8.toNat_ofNat']; omega
  have e3 : (n : Int) % 256 = (((UInt8.ofNat n).toNat : Nat) : Int) := by rw [UInt8.toNat_ofNat']; omega
  rw [e0, e1, e2, e3]
  exact ⟨rfl, (((HB.out.set _ _).set _ _).set _ _).set _ _, fun B hB => ((((Below.refl B w).setCell hB _).setCell hB _).setCell hB _).setCell hB _⟩

/-- What the loop of bodyOf has laid behind so many rounds. -/
def bodyTo (nx : Int) (q : List Int) (i : Nat) : List UInt8 := (four nx.toNat ++ (two q.length ++ (q.take i).flatMap (fun x => four x.toNat))) ++ List.replicate (4 * (q.length - i)) 0
theorem bodyTo_length (nx : Int) (q : List Int) (i : Nat) (h : i ≤ q.length) : (bodyTo nx q i).length = 6 + 4 * q.length := by
  simp only [bodyTo, List.length_append, G.four_length, G.two_length, L.flat_length, List.length_replicate, List.length_take]
  omega
theorem bodyTo_all (nx : Int) (q : List Int) : bodyTo nx q q.length = L.bodyL nx q := by
  unfold bodyTo L.bodyL
  rw [List.take_length, Nat.sub_self]
  simp
theorem bodyTo_next (nx : Int) (q : List Int) (i : Nat) (h : i < q.length) : lay4 (bodyTo nx q i) (6 + 4 * i) (q[i]!).toNat = bodyTo nx q (i + 1) := by
  have el : (four nx.toNat ++ (two q.length ++ (q.take i).flatMap (fun x => four x.toNat))).length = 6 + 4 * i := by
    simp only [List.length_append, G.four_length, G.two_length, L.flat_length, List.length_take]
    omega
  have ez : List.replicate (4 * (q.length - i)) (0 : UInt8) = 0 :: 0 :: 0 :: 0 :: List.replicate (4 * (q.length - (i + 1))) 0 := by
    rw [show 4 * (q.length - i) = 4 * (q.length - (i + 1)) + 1 + 1 + 1 + 1 by omega]
    rfl
  unfold bodyTo
  rw [ez, ← el, lay4_mid]
  have et : q.take (i + 1) = q.take i ++ [q[i]!] := by rw [List.take_succ_eq_append_getElem h, getElem!_pos q i h]
  rw [et, List.flatMap_append]
  simp
theorem bodyTo_zero (nx : Int) (q : List Int) : ((lay4 (List.replicate (6 + 4 * q.length) 0) 0 nx.toNat).set 4 (UInt8.ofNat (q.length / 256))).set 5 (UInt8.ofNat q.length) = bodyTo nx q 0 := by
  have ez : List.replicate (6 + 4 * q.length) (0 : UInt8) = 0 :: 0 :: 0 :: 0 :: 0 :: 0 :: List.replicate (4 * q.length) 0 := by
    rw [show 6 + 4 * q.length = 4 * q.length + 1 + 1 + 1 + 1 + 1 + 1 by omega]
    rfl
  have e := lay4_mid [] (0 :: 0 :: List.replicate (4 * q.length) 0) 0 0 0 0 nx.toNat
  simp only [List.nil_append, List.length_nil] at e
  rw [ez, e]
  unfold bodyTo
  simp [four, two]

theorem run_from8 (g N f : Nat) (z : Int) (hz : z = (f : Int)) (hf : f < N) (W : World) : (Instr.slice 33 (.slice (some ⟨g, 0, none⟩) N N) (some (.int .i64 z)) none none).run Try.prog W = .ok (.slice (some ⟨g, f, none⟩) (N - f) (N - f)) W := by
  subst hz
  rw [run_slice_l (w := W) 33 (some ⟨g, 0, none⟩) N N Try.underlying33 .i64 (f : Int) (by omega) (by omega)]
  have e : (sizeOf (Try.prog.elem 33)).run Try.prog W = .ok 1 W := by kernel_rfl
  rw [e]
  simp only [Result.andThen, sliced, Int.toNat_natCast, Nat.mul_one]
  rw [if_neg (by omega)]
  simp [Addr.add]
  omega
theorem layfour_at (w : World) (g f n m : Nat) (l : List UInt8) (hn : n < 4294967296) (hm : l.length - f = m) (hf : 4 ≤ m) (h : Bk w g l) :
    Calls Try.prog 26 #[.slice (some ⟨g, f, none⟩) m m, .int .u32 (n : Int)] w fun e w' => e = .returned (.tuple #[]) ∧ Bk w' g (lay4 l f n) ∧ ∀ B, B ≤ g → Below B w w' := by
  subst hm
  exact layfour_any w g f n l hn (by omega) h
set_option maxHeartbeats 1600000 in
theorem bodyof_core (w : World) (nx n c : Nat) (A : Option Addr) (q : List Int) (hn : nx < 4294967296) (hm : n ≤ 200000) (HL : Hid (q.length = n))
    (H : Hid (0 < n → ∃ b off, A = some ⟨b, off, none⟩ ∧ ∀ j, j < n → ∃ x : Nat, x < 4294967296 ∧ q[j]! = (x : Int) ∧ w.cell? ⟨b, off + j, none⟩ = some (.int .u32 (x : Int)))) :
    Calls Try.prog 18 #[.int .u32 (nx : Int), .slice A n c] w fun e w' => e = .returned (.slice (some ⟨w.heap.size, 0, none⟩) (6 + 4 * n) (6 + 4 * n)) ∧ Bk w' w.heap.size (L.bodyL (nx : Int) q) ∧ Below w.heap.size w w' := by
  obtain ⟨i0, hi0, hz0, hz1, hz2⟩ := info_parts Try.info5
  go_enter Try.func18, Try.ntmps18
  go_wp2_with (first
    | (refine wpList_make_full _ rfl _ _ 33 rfl w.heap.size 5 i0 _ 1 Try.underlying33 hi0 hz0 hz1 _ _ _ _ (6 + 4 * n) rfl rfl ?l1 ?l2 ?l3 ?l4 ?l5 ?_)
    | go_in)
  case l1 => go_num
  case l2 => go_num
  case l3 => rw [hz2]; omega
  case l4 => unfold maxLen; omega
  case l5 => exact Nat.le_refl _
  intro w1 hown hgrow
  rw [made_zeros] at hown
  have hb1 : Hid (Bk w1 w.heap.size (List.replicate (6 + 4 * n) 0)) := Bk.of_own (by simp) (by omega) hown
  have hB1 : Hid (Below w.heap.size w w1) := (Below.refl _ _).grown hgrow (Nat.le_refl _) (by intro g hg; cases hg)
  clear hown hgrow i0 hi0 hz0 hz1 hz2
  go_wp2_with fail
  refine (layfour_at w1 w.heap.size 0 nx (6 + 4 * n) _ hn (by simp) (by omega) hb1.out).mono ?_
  rintro e w2 ⟨rfl, hb2, hB2⟩
  have HB2 := Lib.hid hb2
  have B2 : Hid (Below w.heap.size w w2) := hB1.out.trans (hB2 _ (Nat.le_refl _))
  have a4 := hb2.cell 4 (by simp [lay4_length]; omega)
  have a5 := hb2.cell 5 (by simp [lay4_length]; omega)
  have f4 := hb2.frozen 4
  have f5 := hb2.frozen 5
  clear hb1 hB1 hb2 hB2
  generalize ((lay4 (List.replicate (6 + 4 * n) 0) 0 nx).getD 4 0).toNat = y4 at a4
  generalize ((lay4 (List.replicate (6 + 4 * n) 0) 0 nx).getD 5 0).toNat = y5 at a5
  have k4 : 4 < 6 + 4 * n := by omega
  have k5 : 5 < 6 + 4 * n := by omega
  go_wp2_with fail
  have HC : Hid (Bk ((w2.setCell ⟨w.heap.size, 4, none⟩ (.int .u8 ((n : Int) / 256 % 256))).setCell ⟨w.heap.size, 5, none⟩ (.int .u8 ((n : Int) % 256))) w.heap.size (bodyTo (nx : Int) q 0)) := by
    have q1 : (n : Int) / 256 % 256 = (((UInt8.ofNat (n / 256)).toNat : Nat) : Int) := by rw [UInt8.toNat_ofNat']; omega
    have q2 : (n : Int) % 256 = (((UInt8.ofNat n).toNat : Nat) : Int) := by rw [UInt8.toNat_ofNat']; omega
    have e := bodyTo_zero (nx : Int) q
    rw [HL.out, Int.toNat_natCast] at e
    rw [← e, q1, q2]
    exact (HB2.out.set _ _).set _ _
  have HD : Hid (Below w.heap.size w ((w2.setCell ⟨w.heap.size, 4, none⟩ (.int .u8 ((n : Int) / 256 % 256))).setCell ⟨w.heap.size, 5, none⟩ (.int .u8 ((n : Int) % 256)))) := (B2.out.setCell (p := ⟨w.heap.size, 4, none⟩) (Nat.le_refl _) _).setCell (p := ⟨w.heap.size, 5, none⟩) (Nat.le_refl _) _
  clear HB2 B2 a4 a5 f4 f5 k4 k5
  generalize (w2.setCell ⟨w.heap.size, 4, none⟩ (.int .u8 ((n : Int) / 256 % 256))).setCell ⟨w.heap.size, 5, none⟩ (.int .u8 ((n : Int) % 256)) = w3 at *
  go_loopg [30] n (fun k s wr => ∃ (i : Nat), s = .int .i64 i ∧ i ≤ n ∧ n - i ≤ k ∧ Hid (Below w.heap.size w wr) ∧ Hid (Bk wr w.heap.size (bodyTo (nx : Int) q i)))
  case atStart => exact ⟨0, rfl, by omega, by omega, HD, HC⟩
  case round =>
    obtain ⟨i, rfl, h1, h2, HB, HK⟩ := hrel
    by_cases hi : i < n
    · have hz : (i : Int) < (n : Int) := by omega
      obtain ⟨b, off, rfl, hcell⟩ := H.out (by omega)
      obtain ⟨x, hx, ex, c0⟩ := hcell i hi
      replace c0 := kept c0 HB.out
      have hcut := run_from8 w.heap.size (6 + 4 * n) (6 + 4 * i) (6 + 4 * (i : Int)) (by omega) (by omega)
      have el : 6 + 4 * n - (6 + 4 * i) = 4 * (n - i) := by omega
      rw [el] at hcut
      have HX := Lib.hid ex
      clear hcell el ex
      go_wp2_with fail
      refine (layfour_at wr w.heap.size (6 + 4 * i) x (4 * (n - i)) _ hx (by rw [bodyTo_length _ _ _ (by rw [HL.out]; exact h1), HL.out]; omega) (by omega) HK.out).mono ?_
      rintro e w4 ⟨rfl, hb4, hB4⟩
      have HK4 : Hid (Bk w4 w.heap.size (bodyTo (nx : Int) q (i + 1))) := by
        have := bodyTo_next (nx : Int) q i (by rw [HL.out]; exact hi)
        rw [HX.out, Int.toNat_natCast] at this
        rw [← this]
        exact hb4
      have HB4 : Hid (Below w.heap.size w w4) := HB.out.trans (hB4 _ (Nat.le_refl _))
      clear hb4 hB4
      go_wp2
      go_roundg (n - (i + 1))
      case measure => omega
      case rel => exact ⟨i + 1, by simp, by omega, by omega, HB4, HK4⟩
    · have hz : ¬ (i : Int) < (n : Int) := by omega
      obtain rfl : i = n := by omega
      go_wp2
      go_ret
      have := HK.out
      have e := bodyTo_all (nx : Int) q
      rw [HL.out] at e
      rw [e] at this
      exact ⟨rfl, this, HB.out⟩
theorem Bk.byts' {w : World} {g n : Nat} {l : List UInt8} (h : Bk w g l) (hl : l.length = n) : Byts w (.slice (some ⟨g, 0, none⟩) n n) l := by
  subst hl
  exact h.byts
/-- Numbers as 32 bits hold them. -/
def Rg (l : List Int) : Prop := ∀ x ∈ l, 0 ≤ x ∧ x < 4294967296
theorem Rg.at {l : List Int} (h : Rg l) (j : Nat) (hj : j < l.length) : ∃ x : Nat, x < 4294967296 ∧ l[j]! = (x : Int) := by
  have := h l[j] (List.getElem_mem hj)
  rw [← getElem!_pos l j hj] at this
  exact ⟨l[j]!.toNat, by omega, by omega⟩
theorem bodyof_any (w : World) (v : Value) (nx : Int) (q : List Int) (h : Nums w v q) (hq : Rg q) (hn0 : 0 ≤ nx) (hn : nx < 4294967296) (hm : q.length ≤ 200000) :
    Calls Try.prog 18 #[.int .u32 nx, v] w fun e w' => e = .returned (.slice (some ⟨w.heap.size, 0, none⟩) (6 + 4 * q.length) (6 + 4 * q.length)) ∧ Bk w' w.heap.size (L.bodyL nx q) ∧ Below w.heap.size w w' := by
  obtain ⟨A, c, rfl, hc, hcm, h⟩ := h
  obtain ⟨n, rfl⟩ := Int.eq_ofNat_of_zero_le hn0
  refine bodyof_core w n q.length c A q (by omega) hm rfl (Lib.hid fun h0 => ?_)
  obtain ⟨b, off, rfl, hcell⟩ := h h0
  refine ⟨b, off, rfl, fun j hj => ?_⟩
  obtain ⟨x, hx, ex⟩ := hq.at j hj
  exact ⟨x, hx, ex, by rw [hcell j hj, ex]⟩
end Go.Proofs.Ytnnegglhndllfaa
