/- The walk of the law PageTold. -/
import Derived.Test.YtnhihkngelckoaaDoorGf
namespace Go.Proofs.YtnhihkngelckoaaDoor
open Go.RowKit
open C (crc num)

/-- The four bytes, by their places. -/
def by4 (b0 b1 b2 b3 : UInt8) (k : Nat) : UInt8 := [b0, b1, b2, b3].getD k 0
/-- One more byte is changed. -/
theorem told_next {l c : List UInt8} {p v k : Nat} {x : UInt8} (hl : c.length = l.length) (hv : v < 2 ^ (8 * k)) (hn : num c = num l ^^^ 2 ^ (8 * p) * v) (hp : p + k < l.length) :
    ∃ v', v' < 2 ^ (8 * (k + 1)) ∧ num (c.set (p + k) (c.getD (p + k) 0 ^^^ x)) = num l ^^^ 2 ^ (8 * p) * v' ∧ (v' = 0 ↔ v = 0 ∧ x.toNat = 0) := by
  have hx := C.u8_lt x
  have e : 2 ^ (8 * (k + 1)) = 2 ^ (8 * k) * 256 := by rw [show 8 * (k + 1) = 8 * k + 8 by omega, Nat.pow_add]
  have h3 : 0 < 2 ^ (8 * k) := Nat.two_pow_pos _
  refine ⟨v + 2 ^ (8 * k) * x.toNat, ?_, ?_, ?_⟩
  · rw [e]
    have h1 : 2 ^ (8 * k) * x.toNat ≤ 2 ^ (8 * k) * 255 := Nat.mul_le_mul_left _ (by omega)
    omega
  · rw [C.num_set c (p + k) x (by omega), hn, C.told_step hv]
  · constructor
    · intro h
      refine ⟨by omega, ?_⟩
      have h2 : 2 ^ (8 * k) * x.toNat = 0 := by omega
      rcases Nat.mul_eq_zero.1 h2 with h | h
      · omega
      · exact h
    · rintro ⟨rfl, h⟩
      rw [h]
      simp
/-- What is told of the bytes behind k rounds: v is the change as one number; the others are as they were. -/
def ToldInv (l c : List UInt8) (p k v : Nat) : Prop := c.length = l.length ∧ v < 2 ^ (8 * k) ∧ num c = num l ^^^ 2 ^ (8 * p) * v ∧ ∀ j, j < p ∨ p + k ≤ j → c.getD j 0 = l.getD j 0
theorem ToldInv.start (l : List UInt8) (p : Nat) : ToldInv l l p 0 0 := ⟨rfl, by simp, by simp, fun _ _ => rfl⟩
theorem ToldInv.step {l c : List UInt8} {p k v : Nat} {x : UInt8} (h : ToldInv l c p k v) (hp : p + k < l.length) :
    ∃ v', ToldInv l (c.set (p + k) (c.getD (p + k) 0 ^^^ x)) p (k + 1) v' ∧ (v' = 0 ↔ v = 0 ∧ x.toNat = 0) := by
  obtain ⟨v', h1, h2, h3⟩ := told_next (x := x) h.1 h.2.1 h.2.2.1 hp
  refine ⟨v', ⟨by simpa using h.1, h1, h2, fun j hj => ?_⟩, h3⟩
  rw [← h.2.2.2 j (by omega)]
  simp [List.getD, show ¬ p + k = j by omega]
/-- What a page is opened as behind the changes. -/
theorem told_end (n : Nat) (l c : List UInt8) (p k v : Nat) (h : l.length ≤ 500) (hk : k ≤ 4) (hp : p < 512) (hi : ToldInv (G.page n 4 l) c p k v) :
    (v = 0 → G.openE n c = 0 ∧ G.openK n c = 4 ∧ G.openB n c = l) ∧ (v ≠ 0 → G.openE n c ≠ 0 ∧ G.openK n c = 0 ∧ G.openB n c = []) := by
  obtain ⟨h1, h2, h3, h4⟩ := hi
  have hpl := G.page_length n 4 l h
  constructor
  · rintro rfl
    have e : c = G.page n 4 l := G.num_inj c _ h1 (by rw [h3]; simp)
    rw [e]
    exact ⟨G.page_open_self n 4 l h, G.page_back n 4 l h⟩
  · intro hv
    have hv4 : v < 4294967296 := by
      have h2' : 2 ^ (8 * k) ≤ 2 ^ 32 := Nat.pow_le_pow_right (by omega) (by omega)
      omega
    have ho : G.openE n c ≠ 0 := fun ho => hv (G.told n 4 l c p v h (h1.trans hpl) hv4 h3 (by omega) (fun j hj => h4 j (by omega)) ho)
    exact ⟨ho, G.open_no n c ho⟩

set_option maxHeartbeats 3200000 in
set_option maxRecDepth 100000 in
theorem ptold_core (n len t p : Nat) (A : Option Addr) (c1 : Nat) (P : List UInt8) (b0 b1 b2 b3 : UInt8) (sB : ByteArray) (w : World) (hl : len ≤ 500) (hpn : p < 512) (htp : (t : Int) % 512 = (p : Int)) (htl : t < 65536) (HPL : Hid (P.length = 512))
    (QB : Hid (Cvs w (.slice A len c1) sB))
    (HF : Hid (∀ W : World, Below w.heap.size w W → Calls Tryd.prog 7 #[] W fun e w' => e = .returned (.bool true) ∧ Below W.heap.size W w'))
    (HS : Hid (∀ W : World, Below w.heap.size w W → Calls Tryd.prog 8 #[.int .u32 (n : Int), .int .u8 4, .slice A len c1] W fun e w' => e = .returned (.tuple #[.slice (some ⟨W.heap.size, 0, none⟩) 512 512, .int .i64 0]) ∧ Blk w' W.heap.size P ∧ Below W.heap.size W w'))
    (HO : Hid (∀ (W : World) (g p k v : Nat) (c : List UInt8), Below w.heap.size w W → Blk W g c → k ≤ 4 → p < 512 → ToldInv P c p k v → ∃ (E : Nat) (K : UInt8) (B : List UInt8), (v = 0 → E = 0 ∧ K = 4 ∧ str B = sB) ∧ (v ≠ 0 → E ≠ 0 ∧ K = 0 ∧ B = []) ∧
      Calls Tryd.prog 10 #[.int .u32 (n : Int), .slice (some ⟨g, 0, none⟩) 512 512] W fun e w2 => ∃ v2, e = .returned (.tuple #[.int .u8 ((K.toNat : Nat) : Int), v2, .int .i64 (E : Int)]) ∧ Byts w2 v2 B ∧ Below W.heap.size W w2)) :
    Calls Tryd.prog 5 #[.int .u32 (n : Int), .slice A len c1, .agg #[.int .u16 (t : Int), .int .u8 ((b0.toNat : Nat) : Int), .int .u8 ((b1.toNat : Nat) : Int), .int .u8 ((b2.toNat : Nat) : Int), .int .u8 ((b3.toNat : Nat) : Int)]] w fun e w' => e = .returned (.bool true) ∧ Below w.heap.size w w' := by
  have hd1 : decide ((500 : Int) < (len : Int)) = false := by simp; omega
  have hb0 : Hid (Below w.heap.size w (w.alloc (.cells #[.int .u16 (t : Int), .int .u8 ((b0.toNat : Nat) : Int), .int .u8 ((b1.toNat : Nat) : Int), .int .u8 ((b2.toNat : Nat) : Int), .int .u8 ((b3.toNat : Nat) : Int)] 41))) := alb _
  have HX : Hid (∀ W : World, Below (w.heap.size + 1) (w.alloc (.cells #[.int .u16 (t : Int), .int .u8 ((b0.toNat : Nat) : Int), .int .u8 ((b1.toNat : Nat) : Int), .int .u8 ((b2.toNat : Nat) : Int), .int .u8 ((b3.toNat : Nat) : Int)] 41)) W → W.cell? ⟨w.heap.size, 0, none⟩ = some (.int .u16 (t : Int)) ∧ ∀ k, k < 4 → W.cell? ⟨w.heap.size, 1 + k, none⟩ = some (.int .u8 (((by4 b0 b1 b2 b3 k).toNat : Nat) : Int))) := fun W hW => by
    refine ⟨?_, fun k hk => ?_⟩
    · rw [hW.cell (p := ⟨w.heap.size, 0, none⟩) (Nat.lt_succ_self _), World.cell?_alloc_at _ _ _ _ rfl]
      rfl
    · rw [hW.cell (p := ⟨w.heap.size, 1 + k, none⟩) (Nat.lt_succ_self _), World.cell?_alloc_at _ _ _ _ rfl]
      have : k = 0 ∨ k = 1 ∨ k = 2 ∨ k = 3 := by omega
      rcases this with rfl | rfl | rfl | rfl <;> rfl
  have HSZ : Hid ((w.alloc (.cells #[.int .u16 (t : Int), .int .u8 ((b0.toNat : Nat) : Int), .int .u8 ((b1.toNat : Nat) : Int), .int .u8 ((b2.toNat : Nat) : Int), .int .u8 ((b3.toNat : Nat) : Int)] 41)).heap.size = w.heap.size + 1) := by
    show (w.alloc _).heap.size = _
    simp
  go_enter Tryd.func5, Tryd.ntmps5
  go_wp2_with fail
  refine (HS.out _ hb0.out).mono ?_
  rintro e w1 ⟨rfl, hblk, hb1⟩
  rw [HSZ.out] at hblk hb1
  rw [HSZ.out]
  clear HS
  generalize w.alloc (.cells #[.int .u16 (t : Int), .int .u8 ((b0.toNat : Nat) : Int), .int .u8 ((b1.toNat : Nat) : Int), .int .u8 ((b2.toNat : Nat) : Int), .int .u8 ((b3.toNat : Nat) : Int)] 41) = w0 at *
  generalize by4 b0 b1 b2 b3 = x at *
  have HB1 := Lib.hid hblk
  clear hblk
  go_wp2
  go_loopw [9, 10] (fun sm i wr => ∃ (k : Nat) (c : List UInt8) (v : Nat), k ≤ 4 ∧ i = .int .i64 (k : Int) ∧ sm = .bool (decide (v = 0)) ∧ Hid (ToldInv P c p k v) ∧ Hid (Blk wr (w.heap.size + 1) c) ∧ Below (w.heap.size + 1) w0 wr) (fun _ i _ => 4 - (intOf i).toNat)
  case atStart => exact ⟨0, P, 0, by omega, rfl, rfl, ToldInv.start P p, HB1, hb1⟩
  case round =>
    obtain ⟨k, c, v, hk, rfl, rfl, HI, HBK, hB⟩ := hrel
    obtain ⟨cat, hcx⟩ := HX.out wr hB
    by_cases hlt : k < 4 ∧ p + k < 512
    · obtain ⟨h1, h2⟩ := hlt
      obtain ⟨v', HI2, hz'⟩ := HI.out.step (x := x k) (by rw [HPL.out]; exact h2)
      have cx := hcx k h1
      have cy := HBK.out.cell (p + k) (by omega)
      have fy := HBK.out.frozen (p + k)
      have hxo := u8_xor_nat (c.getD (p + k) 0).toNat (x k).toNat (C.u8_lt _) (C.u8_lt _)
      rw [← UInt8.toNat_xor] at hxo
      have HN := Lib.hid (HBK.out.set (p + k) (c.getD (p + k) 0 ^^^ x k))
      have HI2' := Lib.hid HI2
      have hbk := C.u8_lt (x k)
      generalize c.set (p + k) (c.getD (p + k) 0 ^^^ x k) = c' at *
      generalize (c.getD (p + k) 0 ^^^ x k).toNat = q at *
      generalize (c.getD (p + k) 0).toNat = y at *
      generalize (x k).toNat = b at *
      clear HI2 HI hcx HBK
      obtain ⟨s, hs⟩ : ∃ s, s = decide (v = 0) := ⟨_, rfl⟩
      rw [← hs]
      obtain ⟨s', hs'⟩ : ∃ s', s' = decide (v' = 0) := ⟨_, rfl⟩
      have HSS := Lib.hid hs'
      have hcase : (s = true ∧ ((((b : Int) == 0) = true ∧ s' = true) ∨ (((b : Int) == 0) = false ∧ s' = false))) ∨ (s = false ∧ s' = false) := by
        subst hs hs'
        by_cases e1 : v = 0
        · by_cases e2 : b = 0
          · exact .inl ⟨by simp [e1], .inl ⟨by simp [e2], by simp [hz', e1, e2]⟩⟩
          · exact .inl ⟨by simp [e1], .inr ⟨by simp; omega, by simp [hz', e2]⟩⟩
        · exact .inr ⟨by simp [e1], by simp [hz', e1]⟩
      clear hs hs' hz'
      have cx2 : (wr.setCell ⟨w.heap.size + 1, p + k, none⟩ (.int .u8 (q : Int))).cell? ⟨w.heap.size, 1 + k, none⟩ = some (.int .u8 (b : Int)) := cfar (by omega) cx
      have hB2 : Below (w.heap.size + 1) w0 (wr.setCell ⟨w.heap.size + 1, p + k, none⟩ (.int .u8 (q : Int))).drew := (hB.setCell (Nat.le_refl _) _).drew
      rcases hcase with ⟨rfl, ⟨hb, rfl⟩ | ⟨hb, rfl⟩⟩ | ⟨rfl, rfl⟩
      all_goals
        go_wp2
        go_region
        go_wp2
        refine ⟨⟨k + 1, c', v', by omega, by go_num, by rw [← HSS.out], HI2', HN, hB2⟩, by simp [intOf]; omega⟩
    · have hbw : Below w.heap.size w wr := hb0.out.trans (hB.mono (by omega))
      obtain ⟨E, K, B, hy, hno, hcall⟩ := HO.out wr (w.heap.size + 1) p k v c hbw HBK.out hk hpn HI.out
      have HC := Lib.hid hcall
      have HY := Lib.hid hy
      have HNO := Lib.hid hno
      clear hcall hy hno HO HI HBK hcx
      have hkk : (¬ k < 4) ∨ (k < 4 ∧ ¬ p + k < 512) := by omega
      clear hlt
      by_cases hv : v = 0
      · obtain ⟨rfl, rfl, hBs⟩ := HY.out hv
        have HBs := Lib.hid hBs
        clear hBs HY HNO
        subst hv
        rcases hkk with hk4 | ⟨hk4, hpk⟩
        all_goals
          go_wp2_with fail
          refine HC.out.mono ?_
          rintro e w3 ⟨v3, rfl, hy3, h3⟩
          have HY3 := Lib.hid hy3
          have hb3 := btr hbw h3
          clear hy3 h3
          go_wp2_with fail
          refine (HF.out _ hb3).mono ?_
          rintro e w4 ⟨rfl, h4⟩
          have q1 := (HY3.out.below h4).conv
          rw [HBs.out] at q1
          have hb4 := btr hb3 h4
          have q2 := QB.out w4 hb4
          clear HY3 h4 hb3
          go_wp2
          go_ret
          exact ⟨rfl, hb4⟩
      · obtain ⟨hE, rfl, rfl⟩ := HNO.out hv
        have hE2 : ((E : Int) != 0) = true := by rw [bne_iff_ne]; omega
        have hvd : decide (v = 0) = false := by simp [hv]
        rw [hvd]
        clear HY HNO
        rcases hkk with hk4 | ⟨hk4, hpk⟩
        all_goals
          go_wp2_with fail
          refine HC.out.mono ?_
          rintro e w3 ⟨v3, rfl, hy3, h3⟩
          obtain ⟨A3, c3, rfl⟩ := hy3.form
          have hb3 := btr hbw h3
          clear hy3 h3
          go_wp2_with fail
          refine (HF.out _ hb3).mono ?_
          rintro e w4 ⟨rfl, h4⟩
          have hb4 := btr hb3 h4
          clear h4 hb3
          go_wp2
          go_ret
          exact ⟨rfl, hb4⟩
theorem ptold_big (n : Int) (A : Option Addr) (c1 len t : Nat) (h : 500 < len) (b0 b1 b2 b3 : UInt8) (w : World) (hT : Tab w) :
    Calls Tryd.prog 5 #[.int .u32 n, .slice A len c1, .agg #[.int .u16 (t : Int), .int .u8 ((b0.toNat : Nat) : Int), .int .u8 ((b1.toNat : Nat) : Int), .int .u8 ((b2.toNat : Nat) : Int), .int .u8 ((b3.toNat : Nat) : Int)]] w fun e w' => e = .returned (.bool true) ∧ Below w.heap.size w w' := by
  have HF := Lib.hid (fixed_any _ (hT.below (alb (.cells #[.int .u16 (t : Int), .int .u8 ((b0.toNat : Nat) : Int), .int .u8 ((b1.toNat : Nat) : Int), .int .u8 ((b2.toNat : Nat) : Int), .int .u8 ((b3.toNat : Nat) : Int)] 41))))
  clear hT
  go_enter Tryd.func5, Tryd.ntmps5
  go_wp2_with fail
  refine HF.out.mono ?_
  rintro e w4 ⟨rfl, h4⟩
  go_wp2
  go_ret
  exact ⟨rfl, btr (alb _) h4⟩
theorem ptoldlaw_any (n : Nat) (hn : n < 4294967296) (v : Value) (l : List UInt8) (t : Nat) (ht : t < 65536) (b0 b1 b2 b3 : UInt8) (w : World) (b : Byts w v l) (hT : Tab w) :
    Calls Tryd.prog 5 #[.int .u32 (n : Int), v, .agg #[.int .u16 (t : Int), .int .u8 ((b0.toNat : Nat) : Int), .int .u8 ((b1.toNat : Nat) : Int), .int .u8 ((b2.toNat : Nat) : Int), .int .u8 ((b3.toNat : Nat) : Int)]] w fun e w' => e = .returned (.bool true) ∧ Below w.heap.size w w' := by
  obtain ⟨A, c, rfl⟩ := b.form
  by_cases h : l.length ≤ 500
  · refine ptold_core n l.length t (t % 512) A c (G.page n 4 l) b0 b1 b2 b3 (str l) w h (Nat.mod_lt _ (by omega)) (by omega) ht (G.page_length n 4 l h) b.cvs (fun W hB => fixed_any W (hT.below hB))
      (fun W hB => seal_page n hn 4 _ l W (b.below hB) h (hT.below hB)) ?_
    intro W g p k v c hB hblk hk hp hi
    obtain ⟨h1, h2⟩ := told_end n l c p k v h hk hp hi
    exact ⟨G.openE n c, G.openK n c, G.openB n c, fun q => ⟨(h1 q).1, (h1 q).2.1, by rw [(h1 q).2.2]⟩, h2, open_any n hn _ c W hblk.byts (hT.below hB)⟩
  · exact ptold_big _ A c _ t (by omega) b0 b1 b2 b3 w hT
end Go.Proofs.YtnhihkngelckoaaDoor
