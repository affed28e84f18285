/- super.takeFrom and super.said: the super that a body says. -/
import Derived.Test.YtbffpgndjbpifaaDoorUc
namespace Go.Proofs.YtbffpgndjbpifaaDoor
open Go.RowKit
open U (val)

/-- The closure's memory: the bytes l at v; the slice stands at bb, the place at ab. -/
structure Tk (w : World) (v : Value) (bb ab : Nat) (l : List UInt8) (p : Nat) : Prop where
  byts : Byts w v l
  own : ∀ k, v.ownBlock = some k → k ≠ ab
  cb : w.cell? ⟨bb, 0, none⟩ = some v
  ca : w.cell? ⟨ab, 0, none⟩ = some (.int .i64 (p : Int))
  fa : w.frozen? ⟨ab, 0, none⟩ = false
  ba : bb ≠ ab
theorem Tk.keep {F : Nat → Prop} {w w1 : World} {v : Value} {bb ab : Nat} {l : List UInt8} {p : Nat} (h : Tk w v bb ab l p) (k : Keep F w w1) (hv : ∀ k, v.ownBlock = some k → ¬ F k) (hb : ¬ F bb) (ha : ¬ F ab) : Tk w1 v bb ab l p :=
  ⟨h.byts.keep k hv, h.own, k.cell h.cb hb, k.cell h.ca ha, by rw [k.frozen h.ca ha]; exact h.fa, h.ba⟩
theorem wrap_u64_nat (z : Nat) (h : z < 18446744073709551616) : IntKind.u64.wrap (z : Int) = (z : Int) := by
  simp [IntKind.wrap, IntKind.bits, IntKind.signed]
  exact Int.emod_eq_of_lt (by omega) (by omega)
theorem or_low_u64 (x y : Nat) (hx : x * 256 + y < 18446744073709551616) (hy : y < 256) : bits .or .u64 ((x : Int) * 256) (y : Int) = ((x * 256 + y : Nat) : Int) := by
  have e0 : ((x : Int) * 256) = ((x * 256 : Nat) : Int) := by omega
  have e : x * 256 ||| y = x * 256 + y := by
    have := Nat.two_pow_add_eq_or_of_lt (i := 8) (b := y) (by simpa using hy) x
    rw [Nat.mul_comm x 256]
    exact this.symm
  rw [e0]
  show IntKind.u64.wrap ((BitVec.ofInt 64 ((x * 256 : Nat) : Int) ||| BitVec.ofInt 64 ((y : Nat) : Int)).toNat : Int) = _
  have a1 : x * 256 < 18446744073709551616 := Nat.lt_of_le_of_lt (Nat.le_add_right _ _) hx
  have a2 : y < 18446744073709551616 := Nat.lt_of_le_of_lt (Nat.le_add_left _ _) hx
  rw [BitVec.toNat_or, ofInt_u64 (x * 256) a1, ofInt_u64 y a2, e]
  clear e e0
  generalize x * 256 + y = z at *
  exact wrap_u64_nat z hx
theorem run_cut2 (b0 off k c a s : Nat) (h : a + s ≤ k) (hk : k ≤ c) (hs : 0 < s) (W : World) :
    (Instr.slice 29 (.slice (some ⟨b0, off, none⟩) k c) (some (.int .i64 (a : Int))) (some (.int .i64 ((a : Int) + (s : Int)))) none).run Tryd.prog W = .ok (.slice (some ⟨b0, off + a, none⟩) s (c - a)) W := by
  rw [run_slice_lh (w := W) 29 (some ⟨b0, off, none⟩) k c Tryd.underlying29 .i64 .i64 (a : Int) ((a : Int) + (s : Int)) (by omega) (by omega) (by omega)]
  have e : (sizeOf (Tryd.prog.elem 29)).run Tryd.prog W = .ok 1 W := by kernel_rfl
  rw [e]
  simp only [Result.andThen, sliced]
  rw [if_neg (by omega), show ((a : Int) + (s : Int)).toNat - ((a : Int)).toNat = s by omega, Int.toNat_natCast, Nat.mul_one]
  simp [Addr.add]
theorem val_next (l : List UInt8) (p k : Nat) (h : p + k < l.length) : val ((l.drop p).take (k + 1)) = val ((l.drop p).take k) * 256 + (l.getD (p + k) 0).toNat := by
  have e : (l.drop p).take (k + 1) = (l.drop p).take k ++ [l.getD (p + k) 0] := by
    rw [List.take_succ_eq_append_getElem (by simp; omega)]
    simp [List.getD, h]
  rw [e, U.val_snoc]
theorem val_take_lt (l : List UInt8) (p k m : Nat) (hk : k ≤ m) : val ((l.drop p).take k) < 256 ^ m := by
  have h := U.val_lt ((l.drop p).take k)
  have e : ((l.drop p).take k).length ≤ m := by simp; omega
  exact Nat.lt_of_lt_of_le h (Nat.pow_le_pow_right (by omega) e)

set_option maxHeartbeats 800000 in
theorem take_core (b0 off c bb ab p s : Nat) (l : List UInt8) (w : World) (hc : 116 ≤ c) (hs : p + s ≤ 116) (h0 : 0 < s) (h8 : s ≤ 8) (HL : Hid (l.length = 116)) (HB : Hid (Byts w (.slice (some ⟨b0, off, none⟩) 116 c) l))
    (cb : w.cell? ⟨bb, 0, none⟩ = some (.slice (some ⟨b0, off, none⟩) 116 c)) (ca : w.cell? ⟨ab, 0, none⟩ = some (.int .i64 (p : Int))) (fa : w.frozen? ⟨ab, 0, none⟩ = false) :
    Calls Tryd.prog 34 #[.int .i64 (s : Int), .pointer (some ⟨bb, 0, none⟩), .pointer (some ⟨ab, 0, none⟩)] w fun e w' =>
      e = .returned (.int .u64 ((val ((l.drop p).take s) : Nat) : Int)) ∧ w' = w.setCell ⟨ab, 0, none⟩ (.int .i64 ((p : Int) + (s : Int))) := by
  have hcut := run_cut2 b0 off 116 c p s hs hc h0
  have HS := Lib.hid hs
  go_enter Tryd.func34, Tryd.ntmps34
  go_wp2
  clear hcut
  go_loopw [15, 5] (fun i n wr => wr = w ∧ ∃ k : Nat, k ≤ s ∧ i = .int .i64 (k : Int) ∧ n = .int .u64 ((val ((l.drop p).take k) : Nat) : Int)) (fun i _ _ => ((s : Int) - intOf i).toNat)
  case atStart => exact ⟨rfl, 0, by omega, rfl, by simp [U.val]⟩
  case round =>
    obtain ⟨rfl, k, hk, rfl, rfl⟩ := hrel
    by_cases h : k < s
    · have q1 : decide ((k : Int) < (s : Int)) = true := by simp; omega
      have c0 := HB.out.cell (p + k) (by omega)
      rw [← Nat.add_assoc] at c0
      have hy := (l.getD (p + k) 0).toNat_lt
      have hv := val_take_lt l p k 7 (by omega)
      have hn := val_next l p k (by rw [HL.out]; omega)
      generalize hyy : (l.getD (p + k) 0).toNat = y at *
      generalize hx : val ((l.drop p).take k) = x at *
      have ho := or_low_u64 x y (by omega) (by omega)
      have HN := Lib.hid hn
      clear hyy hx hn
      go_wp2
      go_roundw
      case rel =>
        refine ⟨by trivial, k + 1, by omega, by go_num, ?_⟩
        rw [HN.out]
        exact congrArg (Value.int .u64) (by omega)
      case measure =>
        simp [intOf]
        omega
    · obtain rfl : k = s := by omega
      have q1 : decide ((k : Int) < (k : Int)) = false := by simp
      generalize hx : val ((l.drop p).take k) = x at *
      have HX := Lib.hid hx
      clear hx
      go_wp2
      go_ret
      rw [HX.out]
      exact ⟨rfl, rfl⟩

theorem take_any (v : Value) (bb ab p s : Nat) (l : List UInt8) (w : World) (h : Tk w v bb ab l p) (hl : l.length = 116) (hs : p + s ≤ 116) (h0 : 0 < s) (h8 : s ≤ 8) :
    Calls Tryd.prog 34 #[.int .i64 (s : Int), .pointer (some ⟨bb, 0, none⟩), .pointer (some ⟨ab, 0, none⟩)] w fun e w' =>
      e = .returned (.int .u64 ((val ((l.drop p).take s) : Nat) : Int)) ∧ Tk w' v bb ab l (p + s) ∧ Keep (fun k => k = ab) w w' := by
  have hB := h.byts
  obtain ⟨A, c, e, hc, qq⟩ := h.byts
  obtain ⟨b, off, e2, _⟩ := qq (by omega)
  subst e2
  rw [hl] at e hc
  subst e
  refine (take_core b off c bb ab p s l w hc hs h0 h8 hl hB h.cb h.ca h.fa).mono fun e w' ⟨k1, k2⟩ => ⟨k1, ?_, ?_⟩
  · subst k2
    have hk : Keep (fun k => k = ab) w (w.setCell ⟨ab, 0, none⟩ (.int .i64 ((p : Int) + (s : Int)))) := Keep.setCell (F := fun k => k = ab) (p := ⟨ab, 0, none⟩) (Keep.refl _ _) (.inl rfl) _
    refine ⟨hB.keep hk (fun k hk => h.own k hk), h.own, hk.cell h.cb h.ba, ?_, fzs h.fa, h.ba⟩
    rw [World.cell?_setCell_same _ _ _ h.ca]
    simp
  · subst k2
    exact Keep.setCell (F := fun k => k = ab) (p := ⟨ab, 0, none⟩) (Keep.refl _ _) (.inl rfl) _
theorem takeFrom_any (v : Value) (l : List UInt8) (w : World) (h : Byts w v l) (hl : l.length = 116) (B : Nat) (hB : w.heap.size = B) : Calls Tryd.prog 31 #[v] w fun e w' =>
    e = .returned (.func (.func 34) #[] #[.pointer (some ⟨B, 0, none⟩), .pointer (some ⟨B + 1, 0, none⟩)]) ∧ Tk w' v B (B + 1) l 0 ∧ Below w.heap.size w w' ∧ w'.heap.size = B + 2 := by
  subst hB
  have HB := Lib.hid h
  obtain ⟨A, c, e, hc, qq⟩ := h
  obtain ⟨b, off, e2, q2⟩ := qq (by omega)
  have hlt : b < w.heap.size := World.block_lt_of_cell? w _ (q2 0 (by omega))
  subst e2 e
  have HLT := Lib.hid hlt
  clear q2 qq hlt
  rw [hl] at HB hc
  rw [hl]
  have hmf := run_makeFunc
  go_enter Tryd.func31, Tryd.ntmps31
  go_wp2
  go_ret
  have hb : Below w.heap.size w ((w.alloc (.cells #[.slice (some ⟨b, off, none⟩) 116 c] 29)).alloc (.cells #[.int .i64 0] 3)) := bal (alb _) _
  have c0 : ((w.alloc (.cells #[.slice (some ⟨b, off, none⟩) 116 c] 29)).alloc (.cells #[.int .i64 0] 3)).cell? ⟨w.heap.size, 0, none⟩ = some (.slice (some ⟨b, off, none⟩) 116 c) := alc (by rw [World.cell?_alloc_at _ _ _ _ rfl]; rfl) _
  have c1 : ((w.alloc (.cells #[.slice (some ⟨b, off, none⟩) 116 c] 29)).alloc (.cells #[.int .i64 0] 3)).cell? ⟨w.heap.size + 1, 0, none⟩ = some (.int .i64 0) := by rw [World.cell?_alloc_at _ _ _ _ (by simp)]; rfl
  have hlt := HLT.out
  exact ⟨rfl, ⟨HB.out.below hb, fun k hk => by cases hk; show b ≠ _; omega, c0, c1, by simp, by omega⟩, hb, by simp⟩

/-- What is read so far: the place is behind i numbers, j of them are stored. -/
def rowOf (l : List UInt8) (j : Nat) : List Nat := (U.rootsOf l).take j ++ List.replicate (27 - j) 0
theorem rowOf_zero (l : List UInt8) : rowOf l 0 = U.none27 := by simp [rowOf, U.none27]
theorem rowOf_all (l : List UInt8) : rowOf l 27 = U.rootsOf l := by
  have := U.rootsOf_length l
  simp only [rowOf]
  rw [List.take_of_length_le (by omega)]
  simp
theorem rowOf_next (l : List UInt8) (j : Nat) (h : j < 27) : (rowOf l j).set j (U.rootAt l j) = rowOf l (j + 1) := by
  have hl := U.rootsOf_length l
  have hg := U.rootsOf_get l j h
  have e : ((U.rootsOf l).take j).length = j := by rw [List.length_take]; omega
  unfold rowOf
  rw [List.set_append_right _ _ (by omega), e, Nat.sub_self, show 27 - j = (27 - (j + 1)) + 1 by omega, List.replicate_succ, List.set_cons_zero, List.take_add_one, hg, List.append_assoc]
  rfl
structure Sd (w0 : World) (B : Nat) (w : World) (v : Value) (bb ab : Nat) (l : List UInt8) (rb vb i : Nat) (q : Nat) (r : List Nat) : Prop where
  tk : Tk w v bb ab l i
  res : Sup w rb 0 U.none27
  var : Sup w vb q r
  low : Below B w0 w
  d1 : vb ≠ bb
  d2 : vb ≠ ab
  d3 : ∀ k, v.ownBlock = some k → k ≠ vb
  d4 : rb ≠ vb
  d5 : rb ≠ ab
  d6 : B ≤ vb
  d7 : B ≤ ab
theorem take_sd (w0 : World) (B : Nat) (v : Value) (bb ab rb vb i q s x : Nat) (r : List Nat) (l : List UInt8) (w : World) (h : Sd w0 B w v bb ab l rb vb i q r) (hl : l.length = 116) (hs : i + s ≤ 116) (h0 : 0 < s) (h8 : s ≤ 8) (hx : val ((l.drop i).take s) = x) :
    Calls Tryd.prog 34 #[.int .i64 (s : Int), .pointer (some ⟨bb, 0, none⟩), .pointer (some ⟨ab, 0, none⟩)] w fun e w' =>
      e = .returned (.int .u64 (x : Int)) ∧ Sd w0 B w' v bb ab l rb vb (i + s) q r := by
  subst hx
  refine (take_any v bb ab i s l w h.tk hl hs h0 h8).mono fun e w' ⟨k1, k2, k3⟩ => ⟨k1, k2, h.res.keep k3 h.d5, h.var.keep k3 h.d2, ?_, h.d1, h.d2, h.d3, h.d4, h.d5, h.d6, h.d7⟩
  have hlt : ab < w.heap.size := World.block_lt_of_cell? w ⟨ab, 0, none⟩ h.tk.ca
  have := h.d7
  exact h.low.trans (k3.below (by omega) (fun k hk => by subst hk; assumption))
theorem Sd.put {w0 : World} {B : Nat} {w w1 : World} {v : Value} {bb ab rb vb i q q1 : Nat} {r r1 : List Nat} {l : List UInt8} (h : Sd w0 B w v bb ab l rb vb i q r) (k : Keep (fun k => k = vb) w w1) (hs : Sup w1 vb q1 r1) : Sd w0 B w1 v bb ab l rb vb i q1 r1 := by
  have hlt := h.var.lt
  have h6 := h.d6
  exact ⟨h.tk.keep k h.d3 (fun e => h.d1 e.symm) (fun e => h.d2 e.symm), h.res.keep k h.d4, hs, h.low.trans (k.below (by omega) (fun k hk => by subst hk; exact h6)), h.d1, h.d2, h.d3, h.d4, h.d5, h.d6, h.d7⟩
theorem keep_one (w : World) (b o : Nat) (x : Value) : Keep (fun k => k = b) w (w.setCell ⟨b, o, none⟩ x) := Keep.setCell (F := fun k => k = b) (p := ⟨b, o, none⟩) (Keep.refl _ _) (.inl rfl) _
theorem Sd.putQ {w0 : World} {B : Nat} {w : World} {v : Value} {bb ab rb vb i q : Nat} {r : List Nat} {l : List UInt8} (h : Sd w0 B w v bb ab l rb vb i q r) (x : Nat) : Sd w0 B (w.setCell ⟨vb, 0, none⟩ (.int .u64 (x : Int))) v bb ab l rb vb i x r := h.put (keep_one _ _ _ _) (h.var.setQ x)
theorem Sd.putR {w0 : World} {B : Nat} {w : World} {v : Value} {bb ab rb vb i q : Nat} {l : List UInt8} (j x o : Nat) (hj : j < 27) (ho : o = j + 1) (hx : U.rootAt l j = x) (h : Sd w0 B w v bb ab l rb vb i q (rowOf l j)) : Sd w0 B (w.setCell ⟨vb, o, none⟩ (.int .u32 (x : Int))) v bb ab l rb vb i q (rowOf l (j + 1)) := by
  subst hx ho
  rw [← rowOf_next l j hj]
  exact h.put (keep_one _ _ _ _) (h.var.set j _ hj)

set_option maxHeartbeats 1600000 in
theorem said_any (v : Value) (l : List UInt8) (w : World) (h : Byts w v l) (hl : l.length = 116) :
    Calls Tryd.prog 19 #[v] w fun e w' => e = .returned (.agg (sva (U.seqOf l) (U.rootsOf l))) ∧ Below w.heap.size w w' := by
  have HV := Lib.hid h
  have HL := Lib.hid hl
  obtain ⟨ov, hov⟩ : ∃ ov, v.ownBlock = ov := ⟨_, rfl⟩
  have HO : Hid (∀ k, v.ownBlock = some k → k < w.heap.size) := by
    intro k hk
    obtain ⟨A, c, e, hc, qq⟩ := h
    obtain ⟨b, off, e2, q2⟩ := qq (by omega)
    subst e2 e
    cases hk
    exact World.block_lt_of_cell? w _ (q2 0 (by omega))
  clear h hl hov ov
  have HR0 : Hid (Sup (w.alloc (.cells #[.int .u64 0, .int .u32 0, .int .u32 0, .int .u32 0, .int .u32 0, .int .u32 0, .int .u32 0, .int .u32 0, .int .u32 0, .int .u32 0, .int .u32 0, .int .u32 0, .int .u32 0, .int .u32 0, .int .u32 0, .int .u32 0, .int .u32 0, .int .u32 0, .int .u32 0, .int .u32 0, .int .u32 0, .int .u32 0, .int .u32 0, .int .u32 0, .int .u32 0, .int .u32 0, .int .u32 0, .int .u32 0] 28)) w.heap.size 0 U.none27) := Sup.made w 0 U.none27 rfl
  have HBA : Hid (Below w.heap.size w (w.alloc (.cells #[.int .u64 0, .int .u32 0, .int .u32 0, .int .u32 0, .int .u32 0, .int .u32 0, .int .u32 0, .int .u32 0, .int .u32 0, .int .u32 0, .int .u32 0, .int .u32 0, .int .u32 0, .int .u32 0, .int .u32 0, .int .u32 0, .int .u32 0, .int .u32 0, .int .u32 0, .int .u32 0, .int .u32 0, .int .u32 0, .int .u32 0, .int .u32 0, .int .u32 0, .int .u32 0, .int .u32 0, .int .u32 0] 28))) := alb _
  have HSA : Hid ((w.alloc (.cells #[.int .u64 0, .int .u32 0, .int .u32 0, .int .u32 0, .int .u32 0, .int .u32 0, .int .u32 0, .int .u32 0, .int .u32 0, .int .u32 0, .int .u32 0, .int .u32 0, .int .u32 0, .int .u32 0, .int .u32 0, .int .u32 0, .int .u32 0, .int .u32 0, .int .u32 0, .int .u32 0, .int .u32 0, .int .u32 0, .int .u32 0, .int .u32 0, .int .u32 0, .int .u32 0, .int .u32 0, .int .u32 0] 28)).heap.size = w.heap.size + 1) := by show _ = _; simp
  go_enter Tryd.func19, Tryd.ntmps19
  go_wp2_with fail
  generalize w.alloc (.cells #[.int .u64 0, .int .u32 0, .int .u32 0, .int .u32 0, .int .u32 0, .int .u32 0, .int .u32 0, .int .u32 0, .int .u32 0, .int .u32 0, .int .u32 0, .int .u32 0, .int .u32 0, .int .u32 0, .int .u32 0, .int .u32 0, .int .u32 0, .int .u32 0, .int .u32 0, .int .u32 0, .int .u32 0, .int .u32 0, .int .u32 0, .int .u32 0, .int .u32 0, .int .u32 0, .int .u32 0, .int .u32 0] 28) = wA at *
  refine (takeFrom_any v l wA (HV.out.below HBA.out) HL.out (w.heap.size + 1) HSA.out).mono ?_
  rintro e w2 ⟨rfl, hk, hb2, hs2⟩
  have HK := Lib.hid hk
  have HB2 := Lib.hid (btr HBA.out hb2)
  have HR2 := Lib.hid (HR0.out.below hb2)
  clear hk hb2 HR0 HBA HSA
  have HV0 : Hid (Sup (w2.alloc (.cells #[.int .u64 0, .int .u32 0, .int .u32 0, .int .u32 0, .int .u32 0, .int .u32 0, .int .u32 0, .int .u32 0, .int .u32 0, .int .u32 0, .int .u32 0, .int .u32 0, .int .u32 0, .int .u32 0, .int .u32 0, .int .u32 0, .int .u32 0, .int .u32 0, .int .u32 0, .int .u32 0, .int .u32 0, .int .u32 0, .int .u32 0, .int .u32 0, .int .u32 0, .int .u32 0, .int .u32 0, .int .u32 0] 28)) (w.heap.size + 1 + 2) 0 (rowOf l 0)) := by
    have := Sup.made w2 0 U.none27 rfl
    rw [hs2, ← rowOf_zero l] at this
    exact this
  have HBV : Hid (Below w2.heap.size w2 (w2.alloc (.cells #[.int .u64 0, .int .u32 0, .int .u32 0, .int .u32 0, .int .u32 0, .int .u32 0, .int .u32 0, .int .u32 0, .int .u32 0, .int .u32 0, .int .u32 0, .int .u32 0, .int .u32 0, .int .u32 0, .int .u32 0, .int .u32 0, .int .u32 0, .int .u32 0, .int .u32 0, .int .u32 0, .int .u32 0, .int .u32 0, .int .u32 0, .int .u32 0, .int .u32 0, .int .u32 0, .int .u32 0, .int .u32 0] 28))) := alb _
  go_wp2_with fail
  generalize w2.alloc (.cells #[.int .u64 0, .int .u32 0, .int .u32 0, .int .u32 0, .int .u32 0, .int .u32 0, .int .u32 0, .int .u32 0, .int .u32 0, .int .u32 0, .int .u32 0, .int .u32 0, .int .u32 0, .int .u32 0, .int .u32 0, .int .u32 0, .int .u32 0, .int .u32 0, .int .u32 0, .int .u32 0, .int .u32 0, .int .u32 0, .int .u32 0, .int .u32 0, .int .u32 0, .int .u32 0, .int .u32 0, .int .u32 0] 28) = w3 at *
  have HD : Hid (Sd w w.heap.size w3 v (w.heap.size + 1) (w.heap.size + 1 + 1) l w.heap.size (w.heap.size + 1 + 2) 0 0 (rowOf l 0)) :=
    ⟨HK.out.keep (F := fun _ => False) (Keep.of_below HBV.out) (fun _ _ h => h) (fun h => h) (fun h => h), HR2.out.below HBV.out, HV0.out, btr HB2.out HBV.out, by omega, by omega, fun k hk => by have := HO.out k hk; omega, by omega, by omega, by omega, by omega⟩
  clear HK HR2 HV0 HBV HB2 hs2 HO
  generalize w.heap.size + 1 = bb at *
  obtain ⟨sq, hsq⟩ : ∃ x, U.seqOf l = x := ⟨_, rfl⟩
  have hql : sq < 18446744073709551616 := hsq ▸ U.seqOf_lt l
  obtain ⟨y0, hy0⟩ : ∃ x, U.rootAt l 0 = x := ⟨_, rfl⟩
  obtain ⟨y1, hy1⟩ : ∃ x, U.rootAt l 1 = x := ⟨_, rfl⟩
  obtain ⟨y2, hy2⟩ : ∃ x, U.rootAt l 2 = x := ⟨_, rfl⟩
  have d0 : y0 < 4294967296 := hy0 ▸ U.rootAt_lt l 0
  have d1 : y1 < 4294967296 := hy1 ▸ U.rootAt_lt l 1
  have d2 : y2 < 4294967296 := hy2 ▸ U.rootAt_lt l 2
  have HQ := Lib.hid hsq
  have HY0 := Lib.hid hy0
  have HY1 := Lib.hid hy1
  have HY2 := Lib.hid hy2
  clear hsq hy0 hy1 hy2
  refine (take_sd w w.heap.size v bb (bb + 1) w.heap.size (bb + 2) 0 0 8 sq _ l w3 HD.out HL.out (by omega) (by omega) (by omega) (by rw [List.drop_zero]; exact HQ.out)).mono ?_
  rintro e w4 ⟨rfl, hD⟩
  clear HD
  have HD := Lib.hid hD
  clear hD
  have c := HD.out.var.cell0
  have f := HD.out.var.frozen 0 (by omega)
  go_wp2_with fail
  have HE := Lib.hid (HD.out.putQ sq)
  generalize w4.setCell ⟨bb + 2, 0, none⟩ (.int .u64 (sq : Int)) = u at *
  clear HD c f
  have HD := HE
  clear HE
  refine (take_sd w w.heap.size v bb (bb + 1) w.heap.size (bb + 2) 8 sq 4 y0 _ l _ HD.out HL.out (by omega) (by omega) (by omega) HY0.out).mono ?_
  rintro e w5 ⟨rfl, hD⟩
  clear HD
  have HD := Lib.hid hD
  clear hD
  obtain ⟨z, hz⟩ : ∃ z, (rowOf l 0).getD 0 0 = z := ⟨_, rfl⟩
  have c := HD.out.var.at 0 1 z rfl (by omega) hz
  have f := HD.out.var.frozen 1 (by omega)
  clear hz
  go_wp2_with fail
  have HE := Lib.hid (HD.out.putR 0 y0 1 (by omega) rfl HY0.out)
  generalize w5.setCell ⟨bb + 2, 1, none⟩ (.int .u32 (y0 : Int)) = u0 at *
  clear HD c f
  have HD := HE
  clear HE
  refine (take_sd w w.heap.size v bb (bb + 1) w.heap.size (bb + 2) 12 sq 4 y1 _ l _ HD.out HL.out (by omega) (by omega) (by omega) HY1.out).mono ?_
  rintro e w6 ⟨rfl, hD⟩
  clear HD
  have HD := Lib.hid hD
  clear hD
  obtain ⟨z, hz⟩ : ∃ z, (rowOf l 1).getD 1 0 = z := ⟨_, rfl⟩
  have c := HD.out.var.at 1 2 z rfl (by omega) hz
  have f := HD.out.var.frozen 2 (by omega)
  clear hz
  go_wp2_with fail
  have HE := Lib.hid (HD.out.putR 1 y1 2 (by omega) rfl HY1.out)
  generalize w6.setCell ⟨bb + 2, 2, none⟩ (.int .u32 (y1 : Int)) = u1 at *
  clear HD c f
  have HD := HE
  clear HE
  refine (take_sd w w.heap.size v bb (bb + 1) w.heap.size (bb + 2) 16 sq 4 y2 _ l _ HD.out HL.out (by omega) (by omega) (by omega) HY2.out).mono ?_
  rintro e w7 ⟨rfl, hD⟩
  clear HD
  have HD := Lib.hid hD
  clear hD
  obtain ⟨z, hz⟩ : ∃ z, (rowOf l 2).getD 2 0 = z := ⟨_, rfl⟩
  have c := HD.out.var.at 2 3 z rfl (by omega) hz
  have f := HD.out.var.frozen 3 (by omega)
  clear hz
  go_wp2
  have HE := Lib.hid (HD.out.putR 2 y2 3 (by omega) rfl HY2.out)
  generalize w7.setCell ⟨bb + 2, 3, none⟩ (.int .u32 (y2 : Int)) = u2 at *
  clear HD c f
  have HD := HE
  clear HE
  clear HY0 HY1 HY2 d0 d1 d2
  go_loopw [23] (fun i wr => ∃ k : Nat, k ≤ 8 ∧ i = .int .i64 (k : Int) ∧ Sd w w.heap.size wr v bb (bb + 1) l w.heap.size (bb + 2) (20 + 12 * k) sq (rowOf l (3 + 3 * k))) (fun i _ => (8 - intOf i).toNat)
  case atStart => exact ⟨0, by omega, rfl, HD.out⟩
  case round =>
    obtain ⟨k, hk, rfl, hD⟩ := hrel
    clear HD
    have HD := Lib.hid hD
    clear hD
    by_cases h8 : k < 8
    · have q1 : decide ((k : Int) < 8) = true := by simp; omega
      obtain ⟨x0, hx0⟩ : ∃ x, U.rootAt l (3 + 3 * k) = x := ⟨_, rfl⟩
      obtain ⟨x1, hx1⟩ : ∃ x, U.rootAt l (4 + 3 * k) = x := ⟨_, rfl⟩
      obtain ⟨x2, hx2⟩ : ∃ x, U.rootAt l (5 + 3 * k) = x := ⟨_, rfl⟩
      have d0 : x0 < 4294967296 := hx0 ▸ U.rootAt_lt l _
      have d1 : x1 < 4294967296 := hx1 ▸ U.rootAt_lt l _
      have d2 : x2 < 4294967296 := hx2 ▸ U.rootAt_lt l _
      have HX0 := Lib.hid hx0
      have HX1 := Lib.hid hx1
      have HX2 := Lib.hid hx2
      have H8 := Lib.hid h8
      have hk7 : (k : Int) < 8 := by omega
      clear hx0 hx1 hx2 hk h8
      go_wp2_with fail
      
      refine (take_sd w w.heap.size v bb (bb + 1) w.heap.size (bb + 2) (20 + 12 * k) sq 4 x0 _ l _ HD.out HL.out (by have := H8.out; omega) (by omega) (by omega) (by rw [show 20 + 12 * k = 8 + 4 * (3 + 3 * k) by omega]; exact HX0.out)).mono ?_
      rintro e w8 ⟨rfl, hD⟩
      clear HD
      have HD := Lib.hid hD
      clear hD
      obtain ⟨z, hz⟩ : ∃ z, (rowOf l (3 + 3 * k)).getD (3 + 3 * k) 0 = z := ⟨_, rfl⟩
      have c := HD.out.var.at (3 + 3 * k) (4 + k * 3) z (by omega) (by have := H8.out; omega) hz
      have f := HD.out.var.frozen (4 + k * 3) (by have := H8.out; omega)
      clear hz
      go_wp2_with fail
      have HE := Lib.hid (HD.out.putR (3 + 3 * k) x0 (4 + k * 3) (by have := H8.out; omega) (by omega) (by rw [show 3 + 3 * k = 3 + 3 * k by omega]; exact HX0.out))
      generalize w8.setCell ⟨bb + 2, 4 + k * 3, none⟩ (.int .u32 (x0 : Int)) = t0 at *
      clear HD c f
      have HD := HE
      clear HE
      refine (take_sd w w.heap.size v bb (bb + 1) w.heap.size (bb + 2) (20 + 12 * k + 4) sq 4 x1 _ l _ HD.out HL.out (by have := H8.out; omega) (by omega) (by omega) (by rw [show 20 + 12 * k + 4 = 8 + 4 * (4 + 3 * k) by omega]; exact HX1.out)).mono ?_
      rintro e w9 ⟨rfl, hD⟩
      clear HD
      have HD := Lib.hid hD
      clear hD
      obtain ⟨z, hz⟩ : ∃ z, (rowOf l (3 + 3 * k + 1)).getD (3 + 3 * k + 1) 0 = z := ⟨_, rfl⟩
      have c := HD.out.var.at (3 + 3 * k + 1) (4 + k * 3 + 1) z (by omega) (by have := H8.out; omega) hz
      have f := HD.out.var.frozen (4 + k * 3 + 1) (by have := H8.out; omega)
      clear hz
      go_wp2_with fail
      have HE := Lib.hid (HD.out.putR (3 + 3 * k + 1) x1 (4 + k * 3 + 1) (by have := H8.out; omega) (by omega) (by rw [show 3 + 3 * k + 1 = 4 + 3 * k by omega]; exact HX1.out))
      generalize w9.setCell ⟨bb + 2, 4 + k * 3 + 1, none⟩ (.int .u32 (x1 : Int)) = t1 at *
      clear HD c f
      have HD := HE
      clear HE
      refine (take_sd w w.heap.size v bb (bb + 1) w.heap.size (bb + 2) (20 + 12 * k + 4 + 4) sq 4 x2 _ l _ HD.out HL.out (by have := H8.out; omega) (by omega) (by omega) (by rw [show 20 + 12 * k + 4 + 4 = 8 + 4 * (5 + 3 * k) by omega]; exact HX2.out)).mono ?_
      rintro e w10 ⟨rfl, hD⟩
      clear HD
      have HD := Lib.hid hD
      clear hD
      obtain ⟨z, hz⟩ : ∃ z, (rowOf l (3 + 3 * k + 1 + 1)).getD (3 + 3 * k + 1 + 1) 0 = z := ⟨_, rfl⟩
      have c := HD.out.var.at (3 + 3 * k + 1 + 1) (4 + k * 3 + 2) z (by omega) (by have := H8.out; omega) hz
      have f := HD.out.var.frozen (4 + k * 3 + 2) (by have := H8.out; omega)
      clear hz
      go_wp2
      have HE := Lib.hid (HD.out.putR (3 + 3 * k + 1 + 1) x2 (4 + k * 3 + 2) (by have := H8.out; omega) (by omega) (by rw [show 3 + 3 * k + 1 + 1 = 5 + 3 * k by omega]; exact HX2.out))
      generalize w10.setCell ⟨bb + 2, 4 + k * 3 + 2, none⟩ (.int .u32 (x2 : Int)) = t2 at *
      clear HD c f
      have HD := HE
      clear HE
      go_roundw
      case rel =>
        refine ⟨k + 1, by have := H8.out; omega, by go_num, ?_⟩
        rw [show 3 + 3 * (k + 1) = 3 + 3 * k + 1 + 1 + 1 by omega, show 20 + 12 * (k + 1) = 20 + 12 * k + 4 + 4 + 4 by omega]
        exact HD.out
      case measure =>
        simp [intOf]
        omega
    · obtain rfl : k = 8 := by omega
      have q1 : decide (((8 : Nat) : Int) < 8) = false := by decide
      clear hk h8
      have HR : Hid ((rowOf l (3 + 3 * 8)).length = 27) := HD.out.var.2.2
      have HE : Hid (rowOf l (3 + 3 * 8) = U.rootsOf l) := rowOf_all l
      generalize rowOf l (3 + 3 * 8) = rr at *
      go_wp2_with (first
        | (refine wpList_load_sup rfl (.tmp 4) rfl (bb + 2) sq rr rfl HD.out.var ?_)
        | (refine wpList_store_sup rfl (.tmp 2) (.tmp 48) rfl w.heap.size sq rr rfl rfl HR.out HD.out.res.2.1 ?_)
        | go_in)
      intro w9 HS9 hk9
      go_wp2
      refine bodyPost_ret (results_sup1 rfl _ _ w.heap.size sq rr rfl HS9.out) rfl ⟨?_, ?_⟩
      · rw [HQ.out, ← HE.out]
      · exact HD.out.low.trans (hk9.below HD.out.low.size (fun k hk => by subst hk; exact Nat.le_refl _))
end Go.Proofs.YtbffpgndjbpifaaDoor
