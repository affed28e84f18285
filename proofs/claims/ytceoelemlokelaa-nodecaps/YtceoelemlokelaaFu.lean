/- Rows of numbers of 32 bits; slices of bytes cut; the document's own Four, Two, Same: as stages 6 and 8 have them. -/
import Derived.Test.YtceoelemlokelaaByt
import Derived.Test.YtceoelemlokelaaGm
import Derived.Laws.DeepStrings4
import Derived.Deep.MidRow
import Derived.ArgAppend
import Derived.Laws.OwnMore
import Derived.Lib.SmallJoins
import Derived.OwnWalk
import Derived.Deep.LoopGhost
import Derived.Deep.DeepCutAuto
namespace Go.Proofs.Ytceoelemlokelaa
open Go.RowKit Go.ChangeShapes Go.WideShapes

theorem Try.info63 : (Try.prog.info? 63).map (fun i => (i.zero, i.size, i.bytes)) = some (some (.int .u32 0), 1, 4) := by kernel_rfl
theorem Try.cells63 : Try.prog.cellsOf 63 = 1 := by kernel_rfl
/-- Numbers as cells. -/
def us (xs : List Int) : List Value := xs.map (Value.int .u32)
theorem us_length (xs : List Int) : (us xs).length = xs.length := by simp [us]
theorem us_get (xs : List Int) (j : Nat) (h : j < xs.length) : (us xs)[j]? = some (.int .u32 xs[j]!) := by
  simp [us, h]
theorem us_one (xs : List Int) : ∀ u ∈ us xs, u.oneCell' = true := ints_oneCell .u32 xs
/-- A slice of these numbers. -/
def Nums (w : World) (v : Value) (l : List Int) : Prop := ∃ A c, v = .slice A l.length c ∧ l.length ≤ c ∧ c ≤ maxLen ∧ (0 < l.length → ∃ b off, A = some ⟨b, off, none⟩ ∧ ∀ j, j < l.length → w.cell? ⟨b, off + j, none⟩ = some (.int .u32 l[j]!))
theorem Nums.nil (w : World) : Nums w (.slice none 0 0) [] := ⟨none, 0, rfl, Nat.le_refl _, Nat.zero_le _, by simp⟩
theorem Nums.below {w w' : World} {v : Value} {l : List Int} (h : Nums w v l) (k : Below w.heap.size w w') : Nums w' v l := by
  obtain ⟨A, c, rfl, hc, hm, h⟩ := h
  refine ⟨A, c, rfl, hc, hm, fun h0 => ?_⟩
  obtain ⟨b, off, rfl, hcell⟩ := h h0
  exact ⟨b, off, rfl, fun j hj => kept (hcell j hj) k⟩
theorem Nums.own {w : World} {base : Nat} {v : Value} {l : List Int} (h : w.ownsRow base 63 1 v l.length (us l)) : Nums w v l := by
  rcases h.2 with ⟨rfl, h0⟩ | ⟨g, cap, cur, rfl, _, _, hc, hm, _⟩
  · rw [List.eq_nil_of_length_eq_zero h0]
    exact Nums.nil w
  · refine ⟨_, cap, rfl, hc, hm, fun _ => ⟨g, 0, rfl, fun j hj => ?_⟩⟩
    rw [h.cellAt (0 + j) (by omega), Nat.zero_add, us_get l j hj]
/-- One number more behind a row of the call's own. -/
theorem wpList_append_one {ops : Array Oper} {rest : List Oper} {o : Oper} {a : Act} {Q : Exit → Act → World → Prop} {w : World} (hg : o.guard = none) (s x : Operand) (t : TypeId)
    (ho : o.op = .call { callee := .builtin .append, args := #[s, x], argTypes := #[t, t] }) (ht : Try.prog.underlying t = some (.slice 63)) (base : Nat) (v : Value) (xs : List Int) (n : Int) (hs : a.eval s = v) (W : World) (hw : w = W.alloc (.cells #[.int .u32 n] 63))
    (hx : a.eval x = .slice (some ⟨W.heap.size, 0, none⟩) 1 1) (hown : W.ownsRow base 63 1 v xs.length (us xs)) (hl : xs.length < 1000000) (hb : base ≤ W.heap.size)
    (h : ∀ v' w', w'.ownsRow base 63 1 v' (xs ++ [n]).length (us (xs ++ [n])) → Below base W w' → wpList Try.prog ops Q rest (a.put o.dst v') w') : wpList Try.prog ops Q (o :: rest) a w := by
  subst hw
  obtain ⟨i0, hi0, hz0, hz1, hz2⟩ := info_parts Try.info63
  refine wpList_append_own _ hg s x t ho base 63 i0 _ 1 4 ht hi0 hz0 hz1 hz2 rfl (by decide) v xs.length (us xs) hs (hown.alloc _) ⟨W.heap.size, 0, none⟩ 1 1 [.int .u32 n] hx rfl ?c2 ?c3 ?c4 ?c5 ?c6 ?_
  case c2 =>
    intro j u hj
    rw [Addr.add_mid, World.cell?_alloc_at _ _ _ _ rfl]
    simpa using hj
  case c3 =>
    intro u hu
    rw [List.mem_singleton.1 hu]
    rfl
  case c4 => unfold maxLen; omega
  case c5 => omega
  case c6 => simp; omega
  intro v' w' hown' hgrow _
  refine h v' w' ?_ ((((Below.refl base W)).alloc hb _).grown hgrow (by simp; omega) (by intro k hk; exact (hown.lt k hk).1))
  rw [List.length_append, show us (xs ++ [n]) = us xs ++ [.int .u32 n] by simp [us]]
  exact hown'
theorem wf32 {z : Int} (h : (Lit.int .u32 z).wf = true) : 0 ≤ z ∧ z ≤ 4294967295 := by simpa [Lit.wf, IntKind.min, IntKind.max, IntKind.signed, IntKind.bits] using h
/-- A slice whose text is s, in this world and in every one in which what is there stays. -/
def Cvs (w : World) (v : Value) (s : ByteArray) : Prop := ∀ W, Below w.heap.size w W → (convert 29 9 v).run Try.prog W = .ok (.string s) W
theorem Cvs.below {w w1 : World} {v : Value} {s : ByteArray} (h : Cvs w v s) (hb : Below w.heap.size w w1) : Cvs w1 v s := fun W hW => h W (btr hb hW)
theorem Byts.cvs {w : World} {v : Value} {l : List UInt8} (h : Byts w v l) : Cvs w v (str l) := fun _ hW => (h.below hW).conv
theorem Byts.form {w : World} {v : Value} {l : List UInt8} (h : Byts w v l) : ∃ A c, v = .slice A l.length c := by
  obtain ⟨A, c, e, _⟩ := h
  exact ⟨A, c, e⟩
theorem str_eq (l m : List UInt8) : ((str l).toList == (str m).toList) = decide (l = m) := by
  rw [str_toList, str_toList]
  by_cases h : l = m
  · simp [h]
  · simp [h]
theorem four_vals (n : Nat) (hn : n < 4294967296) : (#[Value.int .u8 ((n : Int) / 16777216), Value.int .u8 ((n : Int) / 65536 % 256), Value.int .u8 ((n : Int) / 256 % 256), Value.int .u8 ((n : Int) % 256)] : Array Value) = (bvs (G.four n)).toArray := by
  simp only [bvs, G.four, List.map_cons, List.map_nil, UInt8.toNat_ofNat']
  congr 2
  · congr 1; omega
theorem two_vals (n : Nat) (hn : n < 65536) : (#[Value.int .u8 ((n : Int) / 256), Value.int .u8 ((n : Int) % 256)] : Array Value) = (bvs (G.two n)).toArray := by
  simp only [bvs, G.two, List.map_cons, List.map_nil, UInt8.toNat_ofNat']
  congr 2
  · congr 1; omega
theorem str_extract (l : List UInt8) (i j : Nat) : (str l).extract i j = str ((l.drop i).take (j - i)) := by
  apply ByteArray.ext
  simp [str, ByteArray.data_extract]
theorem run_str_add (l m : List UInt8) (h : l.length + m.length ≤ 1000000) (w : World) : (Op.stringOp .add (str l) (str m)).run Try.prog w = .ok (.string (str (l ++ m))) w := by
  rw [run_string_add_sum w (str l) (str m) (by rw [str_size, str_size]; omega), str_append]
theorem reffour_any (n : Nat) (hn : n < 4294967296) (w : World) :
    Calls Try.prog 30 #[.int .u32 (n : Int)] w fun e w' => e = .returned (.string (str (G.four n))) ∧ Below w.heap.size w w' := by
  have hcv := (Byts.lit w (G.four n) (by rw [G.four_length]; omega)).conv
  rw [← four_vals n hn, G.four_length] at hcv
  generalize str (G.four n) = s at *
  go_enter Try.func30, Try.ntmps30
  go_wp2
  go_ret
  exact ⟨rfl, alb _⟩
theorem reftwo_any (n : Nat) (hn : n < 65536) (w : World) :
    Calls Try.prog 29 #[.int .i64 (n : Int)] w fun e w' => e = .returned (.string (str (G.two n))) ∧ Below w.heap.size w w' := by
  have hcv := (Byts.lit w (G.two n) (by rw [G.two_length]; omega)).conv
  rw [← two_vals n hn, G.two_length] at hcv
  have e1 : (n : Int) / 256 % 256 = (n : Int) / 256 := by omega
  generalize str (G.two n) = s at *
  go_enter Try.func29, Try.ntmps29
  go_wp2
  go_ret
  exact ⟨rfl, alb _⟩
theorem or_low64 (x y : Nat) (hx : x < 256) (hy : y < 256) : bits .or .i64 ((x : Int) * 256) (y : Int) = ((x * 256 + y : Nat) : Int) := by
  have e0 : ((x : Int) * 256) = ((x * 256 : Nat) : Int) := by omega
  have e : x * 256 ||| y = x * 256 + y := by
    have := Nat.two_pow_add_eq_or_of_lt (i := 8) (b := y) (by simpa using hy) x
    rw [Nat.mul_comm x 256]
    exact this.symm
  rw [e0]
  show IntKind.i64.wrap ((BitVec.ofInt 64 ((x * 256 : Nat) : Int) ||| BitVec.ofInt 64 ((y : Nat) : Int)).toNat : Int) = _
  rw [BitVec.toNat_or, ofInt_u64 (x * 256) (by omega), ofInt_u64 y (by omega), e]
  have e2 : ((x * 256 + y : Nat) : Int) % 2 ^ 64 = ((x * 256 + y : Nat) : Int) := Int.emod_eq_of_lt (by omega) (by omega)
  simp only [IntKind.wrap, IntKind.bits, IntKind.signed, e2]
  rw [if_neg]
  simp
  omega
/-- A part of a slice. -/
theorem Byts.part {w : World} {b0 off k c : Nat} {l : List UInt8} (h : Byts w (.slice (some ⟨b0, off, Option.none⟩) k c) l) (f t : Nat) (hf : f ≤ t) (ht : t ≤ k) (c' : Nat) (hc' : t - f ≤ c') :
    Byts w (.slice (some ⟨b0, off + f, Option.none⟩) (t - f) c') ((l.drop f).take (t - f)) := by
  obtain ⟨A', c2, e, hc, q⟩ := h
  cases e
  have hl : ((l.drop f).take (t - f)).length = t - f := by simp; omega
  refine ⟨_, _, by rw [hl], by rw [hl]; exact hc', fun hp => ⟨b0, off + f, rfl, fun j hj => ?_⟩⟩
  rw [hl] at hj hp
  obtain ⟨b, off2, e, r⟩ := q (by omega)
  cases e
  rw [Nat.add_assoc, r (f + j) (by omega)]
  simp
theorem Byts.tail {w : World} {b0 off k c : Nat} {l : List UInt8} (h : Byts w (.slice (some ⟨b0, off, Option.none⟩) k c) l) (f : Nat) (hf : f ≤ k) (c' : Nat) (hc' : k - f ≤ c') :
    Byts w (.slice (some ⟨b0, off + f, Option.none⟩) (k - f) c') (l.drop f) := by
  have hl : l.length = k := by obtain ⟨A', c2, e, _⟩ := h; cases e; rfl
  have q := h.part f k hf (Nat.le_refl _) c' hc'
  rwa [List.take_of_length_le (by rw [List.length_drop]; omega)] at q
theorem Byts.cell {w : World} {b0 off k c : Nat} {l : List UInt8} (h : Byts w (.slice (some ⟨b0, off, Option.none⟩) k c) l) (j : Nat) (hj : j < k) :
    w.cell? ⟨b0, off + j, Option.none⟩ = some (.int .u8 (((l.getD j 0).toNat : Nat) : Int)) := by
  obtain ⟨A', c', e, hc, q⟩ := h
  cases e
  obtain ⟨b, off2, e, r⟩ := q (by omega)
  cases e
  rw [r j hj]
  simp [List.getD, hj]
theorem Byts.len {w : World} {A : Option Addr} {k c : Nat} {l : List UInt8} (h : Byts w (.slice A k c) l) : l.length = k := by
  obtain ⟨A', c2, e, _⟩ := h
  cases e
  rfl
theorem Byts.empty (w : World) (A : Option Addr) (c : Nat) : Byts w (.slice A 0 c) [] := ⟨_, _, rfl, Nat.zero_le _, fun h => by simp at h⟩
end Go.Proofs.Ytceoelemlokelaa
