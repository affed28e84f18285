/- node.takeFrom: the closure that hands over bytes; node.number. -/
import Derived.Test.YtceoelemlokelaaHk
import Derived.Laws.CopyOwn
namespace Go.Proofs.Ytceoelemlokelaa
open Go.RowKit
open G (four two)

theorem byts_keep {F : Nat → Prop} {w w1 : World} {b0 off n c : Nat} {l : List UInt8} (h : Byts w (.slice (some ⟨b0, off, none⟩) n c) l) (hb : Keep F w w1) (hf : ¬ F b0) : Byts w1 (.slice (some ⟨b0, off, none⟩) n c) l := by
  obtain ⟨A, c2, e, hc, h⟩ := h
  refine ⟨A, c2, e, hc, fun hl => ?_⟩
  obtain ⟨b, off2, e2, h2⟩ := h hl
  subst e2
  cases e
  exact ⟨b0, off, rfl, fun j hj => hb.cell (h2 j hj) hf⟩
/-- What is left stands in the variable lb: bytes of the block b0. -/
structure Lf (w : World) (lb b0 : Nat) (l : List UInt8) : Prop where
  ex : ∃ off c, w.cell? ⟨lb, 0, none⟩ = some (.slice (some ⟨b0, off, none⟩) l.length c) ∧ Byts w (.slice (some ⟨b0, off, none⟩) l.length c) l
  fz : w.frozen? ⟨lb, 0, none⟩ = false
  ne : b0 ≠ lb
theorem Lf.keep {F : Nat → Prop} {w w1 : World} {lb b0 : Nat} {l : List UInt8} (h : Lf w lb b0 l) (k : Keep F w w1) (h1 : ¬ F lb) (h2 : ¬ F b0) : Lf w1 lb b0 l := by
  obtain ⟨⟨off, c, hc, hb⟩, fz, ne⟩ := h
  exact ⟨⟨off, c, k.cell hc h1, byts_keep hb k h2⟩, by rw [k.frozen hc h1]; exact fz, ne⟩
theorem Lf.below {w w1 : World} {lb b0 : Nat} {l : List UInt8} (h : Lf w lb b0 l) (k : Below w.heap.size w w1) : Lf w1 lb b0 l := h.keep (F := fun _ => False) (Keep.of_below k) (fun q => q) (fun q => q)
/-- Where the rest of a slice begins: the machine moves no pointer behind a block's end. -/
def cutOff (off s c : Nat) : Nat := if c = s then off else off + s
theorem run_tail8 (b0 off m c s : Nat) (hs : s ≤ m) (W : World) : (Instr.slice 29 (.slice (some ⟨b0, off, none⟩) m c) (some (.int .i64 (s : Int))) none none).run Try.prog W = .ok (.slice (some ⟨b0, cutOff off s c, none⟩) (m - s) (c - s)) W := by
  rw [run_slice_l (w := W) 29 (some ⟨b0, off, none⟩) m c Try.underlying29 .i64 (s : Int) (by omega) (by omega)]
  have e : (sizeOf (Try.prog.elem 29)).run Try.prog W = .ok 1 W := by kernel_rfl
  rw [e]
  simp only [Result.andThen, sliced, Int.toNat_natCast, Nat.mul_one]
  unfold cutOff
  split <;> simp [Addr.add_mid]
set_option maxHeartbeats 800000 in
theorem ntake1_core (w : World) (b0 off m c lb s : Nat) (l : List UInt8) (hs : s ≤ m) (hm : m ≤ 1000000) (hc : m ≤ c) (HL : Hid (l.length = m)) (HB : Hid (Byts w (.slice (some ⟨b0, off, none⟩) m c) l)) (hne : Hid (b0 ≠ lb))
    (cl : w.cell? ⟨lb, 0, none⟩ = some (.slice (some ⟨b0, off, none⟩) m c)) (fl : w.frozen? ⟨lb, 0, none⟩ = false) :
    Calls Try.prog 43 #[.int .i64 (s : Int), .pointer (some ⟨lb, 0, none⟩)] w fun e w' => e = .returned (.slice (some ⟨w.heap.size, 0, none⟩) s s) ∧ Bk w' w.heap.size (l.take s) ∧ Lf w' lb b0 (l.drop s) ∧ Keep (fun k => k = lb) w w' := by
  obtain ⟨i0, hi0, hz0, hz1, hz2⟩ := info_parts Try.info5
  have HSZ : Hid ((Try.prog.info? 5).map (·.size) = some 1) := by
    show (Try.prog.info? 5).map (·.size) = some 1
    rw [hi0]
    simp [hz1]
  have hcut := run_tail8 b0 off m c s hs
  go_enter Try.func43, Try.ntmps43
  go_wp2_with (first
    | (refine wpList_make_full _ rfl _ _ 29 rfl w.heap.size 5 i0 _ 1 Try.underlying29 hi0 hz0 hz1 _ _ _ _ s rfl rfl ?l1 ?l2 ?l3 ?l4 ?l5 ?_)
    | go_in)
  case l1 => rfl
  case l2 => rfl
  case l3 => rw [hz2]; omega
  case l4 => unfold maxLen; omega
  case l5 => exact Nat.le_refl _
  intro w1 hown hgrow
  have HB1 : Hid (Below w.heap.size w w1) := (Below.refl _ _).grown hgrow (Nat.le_refl _) (by intro g hg; cases hg)
  rw [made_zeros] at hown
  have HG := Lib.hid (own_heap hown)
  clear hown hgrow
  have c1 := kept cl HB1.out
  have f1 := keptf cl fl HB1.out
  obtain ⟨cs, hcs⟩ : ∃ cs, cs = bvs (l.take s) := ⟨_, rfl⟩
  have HCS := Lib.hid hcs
  clear hcs
  have hcl : cs.length = Nat.min m s := by rw [HCS.out, bvs_length, List.length_take, HL.out]; exact Nat.min_comm _ _
  have hcl2 : cs.length = s := by rw [hcl]; exact Nat.min_eq_right hs
  go_wp2_with (first
    | (refine wpList_copy_splice rfl _ _ 29 29 rfl 5 Try.underlying29 HSZ.out _ _ _ _ _ _ rfl rfl w.heap.size 0 _ 5 HG.out cs ?m1 ?m2 ?m3 ?m4 w.heap.size w ?m5 (Nat.le_refl _) ?_)
    | go_in)
  case m1 => exact hcl
  case m2 =>
    intro hpos
    intro j u hj
    rw [HCS.out] at hj
    have hjl : j < (l.take s).length := by rw [← bvs_length]; exact (List.getElem?_eq_some_iff.1 hj).1
    rw [bvs_get _ j hjl] at hj
    have hjm : j < m := by rw [List.length_take, HL.out] at hjl; omega
    rw [← hj, kept (HB.out.cell j hjm) HB1.out]
    simp [List.getD, show j < l.length by rw [HL.out]; exact hjm]
  case m3 => rw [hcl2, bvs_length]; simp
  case m4 => rw [HCS.out]; exact bvs_one _
  case m5 => exact HB1.out
  intro w2 HG2 hB2
  have HB2 := Lib.hid hB2
  have HG3 : Hid (Bk w2 w.heap.size (l.take s)) := by
    have hcl3 : (l.take s).length = s := by rw [List.length_take, HL.out]; exact Nat.min_eq_left hs
    refine ⟨?_, by rw [hcl3]; omega⟩
    have e : splice (bvs (List.replicate s 0)) 0 cs = bvs (l.take s) := by
      rw [HCS.out]
      unfold splice
      rw [List.drop_of_length_le (by rw [bvs_length, bvs_length, hcl3]; simp)]
      simp
    rw [← e]
    exact HG2.out
  have c2 := kept cl hB2
  have f2 := keptf cl fl hB2
  have HBy := Lib.hid (HB.out.below hB2)
  have hlb : Hid (lb < w.heap.size) := World.block_lt_of_cell? w _ cl
  have HB3 := Lib.hid hB2
  clear c1 f1 cl fl HG2 hB2 HG HB HB1 hcl
  go_wp2
  go_ret
  have ks : Keep (fun k => k = lb) w2 (w2.setCell ⟨lb, 0, none⟩ (.slice (some ⟨b0, cutOff off s c, none⟩) (m - s) (c - s))) := Keep.setCell (F := fun k => k = lb) (p := ⟨lb, 0, none⟩) (Keep.refl _ _) (.inl rfl) _
  have hl := hlb.out
  have hdl : (l.drop s).length = m - s := by rw [List.length_drop, HL.out]
  refine ⟨rfl, ⟨(ks.block _ HG3.out.lt (fun e => by have e : w.heap.size = lb := e; omega)).trans HG3.out.1, HG3.out.2⟩, ⟨⟨cutOff off s c, c - s, ?_, ?_⟩, fzs f2, hne.out⟩, (Keep.of_below (F := fun k => k = lb) HB3.out).trans ks (fun i hi => .inl hi)⟩
  · rw [hdl]
    exact World.cell?_setCell_same _ _ _ c2
  · rw [hdl]
    have hby := byts_keep HBy.out ks hne.out
    clear ks
    generalize w2.setCell ⟨lb, 0, none⟩ (.slice (some ⟨b0, cutOff off s c, none⟩) (m - s) (c - s)) = w3 at *
    unfold cutOff
    by_cases e : c = s
    · rw [if_pos e, List.drop_of_length_le (by rw [HL.out]; omega), show m - s = 0 by omega]
      exact Byts.empty _ _ _
    · rw [if_neg e]
      exact hby.tail s hs (c - s) (by omega)
theorem ntake1_any (w : World) (lb b0 s : Nat) (l : List UInt8) (h : Lf w lb b0 l) (hs : s ≤ l.length) (hm : l.length ≤ 1000000) :
    Calls Try.prog 43 #[.int .i64 (s : Int), .pointer (some ⟨lb, 0, none⟩)] w fun e w' => e = .returned (.slice (some ⟨w.heap.size, 0, none⟩) s s) ∧ Bk w' w.heap.size (l.take s) ∧ Lf w' lb b0 (l.drop s) ∧ Keep (fun k => k = lb) w w' := by
  obtain ⟨⟨off, c, hc, hb⟩, fz, ne⟩ := h
  have hlc : l.length ≤ c := by obtain ⟨A, c2, e, h2, _⟩ := hb; cases e; exact h2
  exact ntake1_core w b0 off l.length c lb s l hs hm hlc (Lib.hid rfl) (Lib.hid hb) (Lib.hid ne) hc fz
/-- What comes in stands in a new variable. -/
theorem ntakefrom_any (w : World) (b0 off m c : Nat) (l : List UInt8) (h : Byts w (.slice (some ⟨b0, off, none⟩) m c) l) (hb : b0 < w.heap.size) :
    Calls Try.prog 31 #[.slice (some ⟨b0, off, none⟩) m c] w fun e w' => e = .returned (.func (Fn.func 43) #[] #[.pointer (some ⟨w.heap.size, 0, none⟩)]) ∧ Lf w' w.heap.size b0 l ∧ Below w.heap.size w w' ∧ w'.heap.size = w.heap.size + 1 := by
  have hl := h.len
  have H := Lib.hid h
  clear h
  go_enter Try.func31, Try.ntmps31
  go_wp2
  go_ret
  refine ⟨rfl, ⟨⟨off, c, ?_, ?_⟩, by simp, by omega⟩, alb _, by simp⟩
  · rw [World.cell?_alloc_at _ _ _ _ rfl, hl]
    rfl
  · rw [hl]
    exact H.out.below (alb _)
theorem nnumber_core (w : World) (b off m c : Nat) (l : List UInt8) (hm : m ≤ 4) (HL : Hid (l.length = m)) (HB : Hid (Byts w (.slice (some ⟨b, off, none⟩) m c) l)) :
    Calls Try.prog 32 #[.slice (some ⟨b, off, none⟩) m c] w fun e w' => e = .returned (.int .u32 ((valL l : Nat) : Int)) ∧ w = w' := by
  obtain ⟨R, hR⟩ : ∃ R, R = valL l := ⟨_, rfl⟩
  rw [← hR]
  have HR := Lib.hid hR
  clear hR
  go_enter Try.func32, Try.ntmps32
  go_wp2
  go_loopg [3, 8] m (fun g s3 s8 wr => ∃ i z : Nat, s8 = .int .i64 (i : Int) ∧ i ≤ m ∧ m - i ≤ g ∧ s3 = .int .u32 (z : Int) ∧ Hid (z = valL (l.take i)) ∧ w = wr)
  case atStart => exact ⟨0, 0, rfl, by omega, by omega, rfl, rfl, rfl⟩
  case round =>
    obtain ⟨i, z, rfl, h1, h2, rfl, HZ, rfl⟩ := hrel
    by_cases hi : i < m
    · have hz : (i : Int) < (m : Int) := by omega
      have c0 := HB.out.cell i hi
      obtain ⟨x, hx⟩ : ∃ x, x = (l.getD i 0).toNat := ⟨_, rfl⟩
      have e2 : valL (l.take (i + 1)) = z * 256 + x := by
        have hj : i < l.length := by rw [HL.out]; exact hi
        rw [List.take_succ_eq_append_getElem hj, valL_snoc, ← HZ.out, hx]
        simp [List.getD, hj]
      have hlt : 256 * z + x < 4294967296 := by
        have q1 := valL_lt (l.take (i + 1))
        have q2 : (l.take (i + 1)).length ≤ 4 := by rw [List.length_take, HL.out]; omega
        have q3 : (256 : Nat) ^ (l.take (i + 1)).length ≤ 256 ^ 4 := Nat.pow_le_pow_right (by omega) q2
        omega
      have hx8 : x < 256 := by rw [hx]; exact (l.getD i 0).toNat_lt
      rw [← hx] at c0
      have hor := or_u32 8 z x (by omega) (by omega)
      have e3 : (((2 : Nat) ^ 8 * z : Nat) : Int) = (z : Int) * 256 := by omega
      have e4 : (((2 : Nat) ^ 8 * z + x : Nat) : Int) = ((z * 256 + x : Nat) : Int) := by omega
      rw [e3, e4] at hor
      have HE := Lib.hid e2
      have hz2 : (z : Int) * 256 < 4294967296 := by omega
      clear e2 hx e3 e4
      go_wp2
      go_roundg (m - (i + 1))
      case measure => omega
      case rel => exact ⟨i + 1, z * 256 + x, by go_num, by omega, by omega, by go_num, HE.out.symm, rfl⟩
    · have hz : ¬ (i : Int) < (m : Int) := by omega
      obtain rfl : i = m := by omega
      have e : Hid (z = R) := by show z = R; rw [HR.out, HZ.out, ← HL.out, List.take_length]
      go_wp2
      go_ret
      exact ⟨by rw [← e.out]; rfl, rfl⟩
end Go.Proofs.Ytceoelemlokelaa
