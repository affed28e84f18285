/- The walk of the law CrcTold. -/
import Derived.Test.YtcdooindjefkcaaDoorPartsC
namespace Go.Proofs.YtcdooindjefkcaaDoor
open Go.RowKit
open C (crc num)

/-- The four bytes, by their places. -/
def by4 (b0 b1 b2 b3 : UInt8) (k : Nat) : UInt8 := [b0, b1, b2, b3].getD k 0
/-- One more byte is changed. -/
theorem told_next {l c : List UInt8} {p v k : Nat} {x : UInt8} (hl : c.length = l.length) (hv : v < 2 ^ (8 * k)) (hn : num c = num l ^^^ 2 ^ (8 * p) * v) (hp : p + k < l.length) :
    ∃ v', v' < 2 ^ (8 * (k + 1)) ∧ num (c.set (p + k) (c.getD (p + k) 0 ^^^ x)) = num l ^^^ 2 ^ (8 * p) * v' ∧ (v' = 0 ↔ v = 0 ∧ x.toNat = 0) := by
  have hx := C.u8_lt x
  have e : 2 ^ (8 * (k + 1)) = 2 ^ (8 * k) * 256 := by rw [show 8 * (k + 1) = 8 * k + 8 by omega, Nat.pow_add]
  have h3 : 0 < 2 ^ (8 * k) := Nat.two_pow_pos _
  refine ⟨v + 2 ^ (8 * k) * x.toNat, ?_, ?_, ?_⟩
  · rw [e]
    have h1 : 2 ^ (8 * k) * x.toNat ≤ 2 ^ (8 * k) * 255 := Nat.mul_le_mul_left _ (by omega)
    omega
  · rw [C.num_set c (p + k) x (by omega), hn, C.told_step hv]
  · constructor
    · intro h
      refine ⟨by omega, ?_⟩
      have h2 : 2 ^ (8 * k) * x.toNat = 0 := by omega
      rcases Nat.mul_eq_zero.1 h2 with h | h
      · omega
      · exact h
    · rintro ⟨rfl, h⟩
      rw [h]
      simp

/-- What is told of the bytes behind k rounds: v is the change as one number. -/
def ToldInv (l c : List UInt8) (p k v : Nat) : Prop := c.length = l.length ∧ v < 2 ^ (8 * k) ∧ num c = num l ^^^ 2 ^ (8 * p) * v
theorem ToldInv.start (l : List UInt8) (p : Nat) : ToldInv l l p 0 0 := ⟨rfl, by simp, by simp⟩
theorem ToldInv.step {l c : List UInt8} {p k v : Nat} {x : UInt8} (h : ToldInv l c p k v) (hp : p + k < l.length) :
    ∃ v', ToldInv l (c.set (p + k) (c.getD (p + k) 0 ^^^ x)) p (k + 1) v' ∧ (v' = 0 ↔ v = 0 ∧ x.toNat = 0) := by
  obtain ⟨v', h1, h2, h3⟩ := told_next (x := x) h.1 h.2.1 h.2.2 hp
  exact ⟨v', ⟨by simpa using h.1, h1, h2⟩, h3⟩

set_option maxHeartbeats 1600000 in
theorem told_core (A1 : Option Addr) (n c1 t p : Nat) (l : List UInt8) (hn : n ≤ 1000) (hn0 : 0 < n) (b0 b1 b2 b3 : UInt8) (z : Int) (w : World)
    (hpn : p < n) (htp : (t : Int) % (n : Int) = (p : Int)) (htl : t < 65536)
    (HZ : Hid (z = ((crc 0 l : Nat) : Int))) (E1 : Hid (l.length = n)) (QA : Hid (Byts w (.slice A1 n c1) l))
    (HF : Hid (∀ W : World, Below w.heap.size w W → Calls Tryd.prog 7 #[] W fun e w' => e = .returned (.bool true) ∧ Below W.heap.size W w'))
    (HO : Hid (∀ (W : World) (v : Value) (c : List UInt8), Below w.heap.size w W → Byts W v c → c.length = n → Calls Tryd.prog 8 #[v] W fun e w' => e = .returned (.int .u32 ((crc 0 c : Nat) : Int)) ∧ w' = W))
    (HS : Hid (∀ W : World, Below w.heap.size w W → Calls Tryd.prog 8 #[.slice A1 n c1] W fun e w' => e = .returned (.int .u32 z) ∧ w' = W)) :
    Calls Tryd.prog 5 #[.slice A1 n c1, .int .u16 (t : Int), .agg #[.int .u8 ((b0.toNat : Nat) : Int), .int .u8 ((b1.toNat : Nat) : Int), .int .u8 ((b2.toNat : Nat) : Int), .int .u8 ((b3.toNat : Nat) : Int)]] w fun e w' => e = .returned (.bool true) ∧ Below w.heap.size w w' := by
  have hd1 : decide ((1000 : Int) < (n : Int)) = false := by simp; omega
  have hd2 : ((n : Int) == 0) = false := by simp; omega
  go_enter Tryd.func5, Tryd.ntmps5
  go_wp2_with (first
    | (at_builtin; refine wpList_append_byts rfl _ _ rfl (w.heap.size + 1) _ _ 0 [] l rfl rfl ?c0 (QA.out.below (bal (alb _) _)) ?c1 ?c2 ?_)
    | go_in)
  case c0 =>
    have := World.ownsRow_lit (base := w.heap.size + 1) (e := 5) (size := 1) (w.alloc (.cells #[.int .u8 ((b0.toNat : Nat) : Int), .int .u8 ((b1.toNat : Nat) : Int), .int .u8 ((b2.toNat : Nat) : Int), .int .u8 ((b3.toNat : Nat) : Int)] 32)) #[] 0 (by simp) (by unfold maxLen; omega) rfl
    show World.ownsRow _ (w.heap.size + 1) 5 1 (.slice (some ⟨w.heap.size + 1, 0, none⟩) 0 0) 0 []
    simpa using this
  case c1 => rw [E1.out]; omega
  case c2 => simp
  intro v2 w2 hown hgrow
  have hb2 : Below (w.heap.size + 1) (w.alloc (.cells #[.int .u8 ((b0.toNat : Nat) : Int), .int .u8 ((b1.toNat : Nat) : Int), .int .u8 ((b2.toNat : Nat) : Int), .int .u8 ((b3.toNat : Nat) : Int)] 32)) w2 :=
    Below.grown (Below.alloc (Below.refl _ _) (by simp) _) hgrow (by simp) (by intro k hk; simp [Value.ownBlock] at hk; omega)
  rw [E1.out] at hown
  obtain ⟨g, cap, rfl⟩ := Go.Joins.ownsRow_form hown hn0
  have hg := own_block hown g rfl
  have HOWN := Lib.hid hown
  have HX : Hid (∀ W : World, Below (w.heap.size + 1) (w.alloc (.cells #[.int .u8 ((b0.toNat : Nat) : Int), .int .u8 ((b1.toNat : Nat) : Int), .int .u8 ((b2.toNat : Nat) : Int), .int .u8 ((b3.toNat : Nat) : Int)] 32)) W → ∀ k, k < 4 → W.cell? ⟨w.heap.size, k, none⟩ = some (.int .u8 (((by4 b0 b1 b2 b3 k).toNat : Nat) : Int))) := fun W hW k hk => by
    rw [hW.cell (p := ⟨w.heap.size, k, none⟩) (Nat.lt_succ_self _), World.cell?_alloc_at _ _ _ _ rfl]
    have : k = 0 ∨ k = 1 ∨ k = 2 ∨ k = 3 := by omega
    rcases this with rfl | rfl | rfl | rfl <;> rfl
  have hb0 : Hid (Below w.heap.size w (w.alloc (.cells #[.int .u8 ((b0.toNat : Nat) : Int), .int .u8 ((b1.toNat : Nat) : Int), .int .u8 ((b2.toNat : Nat) : Int), .int .u8 ((b3.toNat : Nat) : Int)] 32))) := alb _
  clear hown hgrow
  generalize w.alloc (.cells #[.int .u8 ((b0.toNat : Nat) : Int), .int .u8 ((b1.toNat : Nat) : Int), .int .u8 ((b2.toNat : Nat) : Int), .int .u8 ((b3.toNat : Nat) : Int)] 32) = w0 at *
  generalize by4 b0 b1 b2 b3 = x at *
  go_wp2
  rw [htp]
  clear htp htl hd1 hd2
  go_loopw [9, 10] (fun sm i wr => ∃ (k : Nat) (c : List UInt8) (v : Nat), k ≤ 4 ∧ i = .int .i64 (k : Int) ∧ sm = .bool (decide (v = 0)) ∧ Hid (ToldInv l c p k v) ∧ wr.ownsRow (w.heap.size + 1) 5 1 (.slice (some ⟨g, 0, none⟩) n cap) n (bvs c) ∧ Below (w.heap.size + 1) w0 wr) (fun _ i _ => 4 - (intOf i).toNat)
  case atStart => exact ⟨0, l, 0, by omega, rfl, rfl, ToldInv.start l p, HOWN.out, hb2⟩
  case round =>
    obtain ⟨k, c, v, hk, rfl, rfl, HI, hown, hB⟩ := hrel
    have hcl : c.length = n := by rw [HI.out.1, E1.out]
    by_cases hlt : k < 4 ∧ p + k < n
    · obtain ⟨h1, h2⟩ := hlt
      obtain ⟨v', HI2, hz'⟩ := HI.out.step (x := x k) (by rw [E1.out]; exact h2)
      have cx := HX.out wr hB k h1
      have cy := hown.cellAt (p + k) (by omega)
      have fy := hown.frozenAt (p + k)
      have eg : c.getD (p + k) 0 = c[p + k]'(by omega) := by simp [List.getD, show p + k < c.length by omega]
      rw [bvs_get c (p + k) (by omega), ← eg] at cy
      have hxo := u8_xor_nat (c.getD (p + k) 0).toNat (x k).toNat (C.u8_lt _) (C.u8_lt _)
      rw [← UInt8.toNat_xor] at hxo
      have HN := Lib.hid ((hown.stored (p + k) (.int .u8 (((c.getD (p + k) 0 ^^^ x k).toNat : Nat) : Int))).1)
      rw [← bvs_set] at HN
      have HI2' := Lib.hid HI2
      have hbk := C.u8_lt (x k)
      generalize c.set (p + k) (c.getD (p + k) 0 ^^^ x k) = c' at *
      generalize (c.getD (p + k) 0 ^^^ x k).toNat = q at *
      generalize (c.getD (p + k) 0).toNat = y at *
      generalize (x k).toNat = b at *
      clear HI2 hown eg hcl HI
      obtain ⟨s, hs⟩ : ∃ s, s = decide (v = 0) := ⟨_, rfl⟩
      rw [← hs]
      obtain ⟨s', hs'⟩ : ∃ s', s' = decide (v' = 0) := ⟨_, rfl⟩
      have HSS := Lib.hid hs'
      have hcase : (s = true ∧ ((((b : Int) == 0) = true ∧ s' = true) ∨ (((b : Int) == 0) = false ∧ s' = false))) ∨ (s = false ∧ s' = false) := by
        subst hs hs'
        by_cases e1 : v = 0
        · by_cases e2 : b = 0
          · exact .inl ⟨by simp [e1], .inl ⟨by simp [e2], by simp [hz', e1, e2]⟩⟩
          · exact .inl ⟨by simp [e1], .inr ⟨by simp; omega, by simp [hz', e2]⟩⟩
        · exact .inr ⟨by simp [e1], by simp [hz', e1]⟩
      clear hs hs' hz'
      have cx2 : (wr.setCell ⟨g, p + k, none⟩ (.int .u8 (q : Int))).cell? ⟨w.heap.size, k, none⟩ = some (.int .u8 (b : Int)) := cfar (by omega) cx
      have hB2 : Below (w.heap.size + 1) w0 (wr.setCell ⟨g, p + k, none⟩ (.int .u8 (q : Int))).drew := (hB.setCell hg _).drew
      rcases hcase with ⟨rfl, ⟨hb, rfl⟩ | ⟨hb, rfl⟩⟩ | ⟨rfl, rfl⟩
      all_goals
        go_wp2
        go_region
        go_wp2
        refine ⟨⟨k + 1, c', v', by omega, by go_num, by rw [← HSS.out], HI2', HN.out.drew, hB2⟩, by simp [intOf]; omega⟩
    · have hv4 : v < 4294967296 := by
        have h1 := HI.out.2.1
        have h2 : 2 ^ (8 * k) ≤ 2 ^ 32 := Nat.pow_le_pow_right (by omega) (by omega)
        omega
      have hbw : Below w.heap.size w wr := hb0.out.trans (hB.mono (by omega))
      have HC := Lib.hid (C.told l c p v HI.out.1 (by rw [E1.out]; omega) hv4 HI.out.2.2)
      have hby := Byts.own (by rw [hcl]; exact hown)
      have HBY := Lib.hid hby
      have hE : (((crc 0 c : Nat) : Int) == z) = decide (v = 0) := by
        rw [HZ.out]
        by_cases e : v = 0
        · have := HC.out.2 e
          simp [e, this]
        · have : ¬ crc 0 c = crc 0 l := fun k => e (HC.out.1 k)
          simp only [e, decide_false]
          simp
          omega
      have HO2 : Hid (∀ (W : World), Below wr.heap.size wr W → Calls Tryd.prog 8 #[.slice (some ⟨g, 0, none⟩) n cap] W fun e w' => e = .returned (.int .u32 ((crc 0 c : Nat) : Int)) ∧ w' = W) :=
        fun W hW => HO.out W _ c (btr hbw hW) (HBY.out.below hW) hcl
      generalize crc 0 c = X at *
      generalize decide (v = 0) = s at *
      have hkk : (¬ k < 4) ∨ (k < 4 ∧ ¬ p + k < n) := by omega
      clear hby hown HI HC HBY hv4 hlt hcl
      rcases hkk with hk4 | ⟨hk4, hpk⟩
      all_goals
        go_wp2_with fail
        refine (HF.out _ hbw).mono ?_
        rintro e w3 ⟨rfl, hb3⟩
        go_wp2_with fail
        refine (HO2.out _ hb3).mono ?_
        rintro e w4 ⟨rfl, rfl⟩
        go_wp2_with fail
        refine (HS.out _ (btr hbw hb3)).mono ?_
        rintro e w5 ⟨rfl, rfl⟩
        go_wp2
        go_ret
        exact ⟨rfl, btr hbw hb3⟩

theorem told_big (A1 : Option Addr) (n c1 t : Nat) (h : 1000 < n ∨ n = 0) (b0 b1 b2 b3 : UInt8) (w : World) (hT : Tab w) :
    Calls Tryd.prog 5 #[.slice A1 n c1, .int .u16 (t : Int), .agg #[.int .u8 ((b0.toNat : Nat) : Int), .int .u8 ((b1.toNat : Nat) : Int), .int .u8 ((b2.toNat : Nat) : Int), .int .u8 ((b3.toNat : Nat) : Int)]] w fun e w' => e = .returned (.bool true) ∧ Below w.heap.size w w' := by
  have HF := Lib.hid (fixed_any _ (hT.below (alb (.cells #[.int .u8 ((b0.toNat : Nat) : Int), .int .u8 ((b1.toNat : Nat) : Int), .int .u8 ((b2.toNat : Nat) : Int), .int .u8 ((b3.toNat : Nat) : Int)] 32))))
  clear hT
  rcases h with h | rfl
  · have hd1 : decide ((1000 : Int) < (n : Int)) = true := by simp; omega
    go_enter Tryd.func5, Tryd.ntmps5
    go_wp2_with fail
    refine HF.out.mono ?_
    rintro e w4 ⟨rfl, h4⟩
    go_wp2
    go_ret
    exact ⟨rfl, btr (alb _) h4⟩
  · go_enter Tryd.func5, Tryd.ntmps5
    go_wp2_with fail
    refine HF.out.mono ?_
    rintro e w4 ⟨rfl, h4⟩
    go_wp2
    go_ret
    exact ⟨rfl, btr (alb _) h4⟩

theorem toldlaw_any (v : Value) (l : List UInt8) (t : Nat) (ht : t < 65536) (b0 b1 b2 b3 : UInt8) (w : World) (b : Byts w v l) (hT : Tab w) :
    Calls Tryd.prog 5 #[v, .int .u16 (t : Int), .agg #[.int .u8 ((b0.toNat : Nat) : Int), .int .u8 ((b1.toNat : Nat) : Int), .int .u8 ((b2.toNat : Nat) : Int), .int .u8 ((b3.toNat : Nat) : Int)]] w fun e w' => e = .returned (.bool true) ∧ Below w.heap.size w w' := by
  obtain ⟨A, c, rfl⟩ := b.form
  by_cases h1 : 1000 < l.length ∨ l.length = 0
  · exact told_big A _ c t h1 b0 b1 b2 b3 w hT
  · exact told_core A l.length c t (t % l.length) l (by omega) (by omega) b0 b1 b2 b3 _ w (Nat.mod_lt _ (by omega)) (by omega) ht rfl rfl b (fun W hB => fixed_any W (hT.below hB))
      (fun W v c hB hv hc => sum_any v c W hv (by omega) (hT.below hB)) (fun W hB => sum_any _ l W (b.below hB) (by omega) (hT.below hB))
end Go.Proofs.YtcdooindjefkcaaDoor
