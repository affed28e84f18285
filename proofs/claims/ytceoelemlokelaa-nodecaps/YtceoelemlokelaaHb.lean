/- Numbers of bytes, rows of texts, rows' blocks: as stage 9 has them (where lib10 is built, leave this text out). -/
import Derived.Test.YtceoelemlokelaaFu
import Derived.Test.YtceoelemlokelaaKq
namespace Go.Proofs.Ytceoelemlokelaa
open Go.RowKit
open G (four two)

/-! Numbers of bytes. -/
def valL (l : List UInt8) : Nat := l.foldl (fun a c => a * 256 + c.toNat) 0
theorem valL_snoc (l : List UInt8) (c : UInt8) : valL (l ++ [c]) = valL l * 256 + c.toNat := by simp [valL]
theorem foldl_lt : ∀ (l : List UInt8) (a : Nat), l.foldl (fun a c => a * 256 + c.toNat) a < (a + 1) * 256 ^ l.length
  | [], a => by simp
  | c :: l, a => by
    have := foldl_lt l (a * 256 + c.toNat)
    simp only [List.foldl_cons, List.length_cons]
    refine Nat.lt_of_lt_of_le this ?_
    rw [Nat.pow_succ', ← Nat.mul_assoc]
    exact Nat.mul_le_mul_right _ (by have := c.toNat_lt; omega)
theorem valL_lt (l : List UInt8) : valL l < 256 ^ l.length := by simpa [valL] using foldl_lt l 0
theorem valL_four (a b c d : UInt8) : valL [a, b, c, d] = a.toNat * 16777216 + b.toNat * 65536 + c.toNat * 256 + d.toNat := by
  simp only [valL, List.foldl_cons, List.foldl_nil]
  omega
theorem valL_two (a b : UInt8) : valL [a, b] = a.toNat * 256 + b.toNat := by
  simp only [valL, List.foldl_cons, List.foldl_nil]
  omega
theorem numL_facts (l : List UInt8) (hl : l.length ≤ 4) : ∃ G : Nat → Nat, G 0 = 0 ∧ G (str l).size = valL l ∧ ∀ j (h : j < (str l).size), (str l)[j].toNat < 256 ∧ G j * 256 + (str l)[j].toNat < 4294967296 ∧ G (j + 1) = G j * 256 + (str l)[j].toNat := by
  refine ⟨fun j => valL (l.take j), rfl, by show valL (l.take (str l).size) = valL l; rw [str_size, List.take_length], fun j h => ?_⟩
  have hj : j < l.length := by rwa [str_size] at h
  show (l[j]).toNat < 256 ∧ valL (l.take j) * 256 + (l[j]).toNat < 4294967296 ∧ valL (l.take (j + 1)) = valL (l.take j) * 256 + (l[j]).toNat
  have e2 : valL (l.take (j + 1)) = valL (l.take j) * 256 + (l[j]).toNat := by rw [List.take_succ_eq_append_getElem hj, valL_snoc]
  refine ⟨C.u8_lt _, ?_, e2⟩
  rw [← e2]
  have h1 := valL_lt (l.take (j + 1))
  have h2 : (l.take (j + 1)).length ≤ 4 := by simp; omega
  exact Nat.lt_of_lt_of_le h1 (Nat.le_trans (Nat.pow_le_pow_right (by omega) h2) (by omega))
theorem number_any (l : List UInt8) (hl : l.length ≤ 4) (w : World) :
    Calls Try.prog 35 #[.string (str l)] w fun e w' => e = .returned (.int .u32 ((valL l : Nat) : Int)) ∧ w = w' := by
  obtain ⟨G, g0, g1, g2⟩ := numL_facts l hl
  have hsz : (str l).size ≤ 4 := by rw [str_size]; exact hl
  generalize valL l = R at *
  generalize str l = sl at *
  have G1 := Lib.hid g1
  have G2 := Lib.hid g2
  have G0 := Lib.hid g0
  clear g0 g1 g2 hl
  go_enter Try.func35, Try.ntmps35
  go_wp2
  go_loop [3, 4] (fun r i => ∃ j : Nat, j ≤ sl.size ∧ i = .int .i64 (j : Int) ∧ r = .int .u32 ((G j : Nat) : Int)) (fun _ i => sl.size - (intOf i).toNat)
  case atStart => exact ⟨0, by omega, rfl, by rw [G0.out]; rfl⟩
  case round =>
    obtain ⟨j, hj, rfl, rfl⟩ := hrel
    by_cases hlt : j < sl.size
    · obtain ⟨k1, k2, k3⟩ := G2.out j hlt
      obtain ⟨z, hz⟩ : ∃ z, G j = z := ⟨_, rfl⟩
      rw [hz] at k2 k3
      rw [hz]
      have HK := Lib.hid k3
      clear k3 hz
      go_wp2
      go_round
      case rel => exact ⟨j + 1, by omega, by go_num, by rw [HK.out]; go_num⟩
      case measure => simp [intOf]; omega
    · obtain rfl : j = sl.size := by omega
      have e2 := G1.out
      generalize G sl.size = z at *
      go_wp2
      go_ret
      exact ⟨rfl, rfl⟩

theorem Try.info9 : (Try.prog.info? 9).map (fun i => (i.zero, i.size, i.bytes)) = some (some (.string ⟨#[]⟩), 1, 16) := by kernel_rfl
/-- Texts as cells. -/
def svs (bs : List (List UInt8)) : List Value := bs.map fun b => .string (str b)
/-- A slice of texts of the call's own. -/
def Strs (W : World) (base : Nat) (v : Value) (bs : List (List UInt8)) : Prop := W.ownsRow base 9 1 v bs.length (svs bs)
theorem wpList_append_str {ops : Array Oper} {rest : List Oper} {o : Oper} {a : Act} {Q : Exit → Act → World → Prop} {w : World} (hg : o.guard = none) (s x : Operand) (t : TypeId)
    (ho : o.op = .call { callee := .builtin .append, args := #[s, x], argTypes := #[t, t] }) (ht : Try.prog.underlying t = some (.slice 9)) (base : Nat) (v : Value) (bs : List (List UInt8)) (b : List UInt8) (sb : ByteArray) (hsb : Hid (sb = str b)) (hs : a.eval s = v) (W : World) (hw : w = W.alloc (.cells #[.string sb] 9))
    (hx : a.eval x = .slice (some ⟨W.heap.size, 0, none⟩) 1 1) (hown : Strs W base v bs) (hl : bs.length < 10000000) (hb : base ≤ W.heap.size)
    (h : ∀ v' w', Strs w' base v' (bs ++ [b]) → Below base W w' → wpList Try.prog ops Q rest (a.put o.dst v') w') : wpList Try.prog ops Q (o :: rest) a w := by
  subst hw
  obtain ⟨i0, hi0, hz0, hz1, hz2⟩ := info_parts Try.info9
  refine wpList_append_own _ hg s x t ho base 9 i0 _ 1 16 ht hi0 hz0 hz1 hz2 rfl (by decide) v bs.length (svs bs) hs (hown.alloc _) ⟨W.heap.size, 0, none⟩ 1 1 [.string sb] hx rfl ?c2 ?c3 ?c4 ?c5 ?c6 ?_
  case c2 =>
    intro j u hj
    rw [Addr.add_mid, World.cell?_alloc_at _ _ _ _ rfl]
    simpa using hj
  case c3 =>
    intro u hu
    rw [List.mem_singleton.1 hu]
    rfl
  case c4 => unfold maxLen; omega
  case c5 => omega
  case c6 => simp; omega
  intro v' w' hown' hgrow _
  refine h v' w' ?_ ((((Below.refl base W)).alloc hb _).grown hgrow (by simp; omega) (by intro k hk; exact (hown.lt k hk).1))
  unfold Strs
  rw [List.length_append, show svs (bs ++ [b]) = svs bs ++ [.string sb] by simp [svs, hsb.out]]
  exact hown'

theorem Strs.below {W W' : World} {base : Nat} {v : Value} {bs : List (List UInt8)} (h : Strs W base v bs) (k : Below W.heap.size W W') : Strs W' base v bs := own_keep h (Keep.of_below (F := fun _ => False) k) (fun _ _ q => q)
theorem Strs.form {W : World} {base : Nat} {v : Value} {bs : List (List UInt8)} (h : Strs W base v bs) : ∃ A cap, v = .slice A bs.length cap := by
  rcases h.2 with ⟨rfl, h0⟩ | ⟨g, cap, cur, rfl, _⟩
  · exact ⟨none, 0, by rw [h0]⟩
  · exact ⟨_, cap, rfl⟩
theorem Strs.at {W : World} {base : Nat} {v : Value} {bs : List (List UInt8)} (h : Strs W base v bs) (i : Nat) (hi : i < bs.length) :
    ∃ g cap, v = .slice (some ⟨g, 0, none⟩) bs.length cap ∧ W.cell? ⟨g, i, none⟩ = some (.string (str bs[i])) := by
  have hr := h
  rcases h.2 with ⟨_, h0⟩ | ⟨g, cap, cur, rfl, _⟩
  · omega
  · refine ⟨g, cap, rfl, ?_⟩
    rw [World.ownsRow.cellAt (size := 1) hr i (by omega)]
    simp [svs, hi]

theorem Nums.lit (w : World) (xs : List Int) (hl : xs.length ≤ 1000) : Nums (w.alloc (.cells (us xs).toArray 63)) (.slice (some ⟨w.heap.size, 0, none⟩) xs.length xs.length) xs :=
  Nums.own (base := 0) (by
    have := World.ownsRow_lit (base := 0) (e := 63) (size := 1) w (us xs).toArray xs.length (Nat.zero_le _) (by unfold maxLen; omega) (by simp [us_length])
    simpa using this)
theorem Try.info29 : (Try.prog.info? 29).map (fun i => (i.zero, i.size, i.bytes)) = some (some (.slice none 0 0), 1, 24) := by kernel_rfl
/-- A row's block, by its type. -/
theorem own_block {W : World} {base n : Nat} {e : TypeId} {v : Value} {xs : List Value} (h : W.ownsRow base e 1 v n xs) {b : Nat} (hb : v.ownBlock = some b) : ∃ cur, W.heap[b]? = some (.cells cur e (0, 0)) ∧ base ≤ b := by
  rcases h.2 with ⟨rfl, _⟩ | ⟨g, cap, cur, rfl, hbg, hg, _⟩
  · simp [Value.ownBlock] at hb
  · obtain rfl : g = b := by simpa [Value.ownBlock] using hb
    exact ⟨cur, hg, hbg⟩
theorem Nums.form {w : World} {v : Value} {l : List Int} (h : Nums w v l) : ∃ A c, v = .slice A l.length c ∧ l.length ≤ c ∧ c ≤ maxLen := by
  obtain ⟨A, c, rfl, hc, hm, _⟩ := h
  exact ⟨A, c, rfl, hc, hm⟩
theorem Nums.len {w : World} {A : Option Addr} {k c : Nat} {l : List Int} (h : Nums w (.slice A k c) l) : l.length = k ∧ k ≤ c ∧ c ≤ maxLen := by
  obtain ⟨A', c', e, hc, hm, _⟩ := h
  cases e
  exact ⟨rfl, hc, hm⟩
theorem Nums.cut {w : World} {A : Option Addr} {k c : Nat} {l : List Int} (h : Nums w (.slice A k c) l) (n : Nat) (hn : n ≤ k) : Nums w (.slice A n c) (l.take n) := by
  obtain ⟨A', c', e, hc, hm, q⟩ := h
  cases e
  have hl : (l.take n).length = n := by simp; omega
  refine ⟨A, c, by rw [hl], by rw [hl]; omega, hm, fun hp => ?_⟩
  rw [hl] at hp
  obtain ⟨b, off, e, r⟩ := q (by omega)
  refine ⟨b, off, e, fun j hj => ?_⟩
  rw [hl] at hj
  rw [r j (by omega), getElem!_pos l j (by omega), getElem!_pos (l.take n) j (by omega)]
  simp
def Rg (l : List Int) : Prop := ∀ x ∈ l, 0 ≤ x ∧ x < 4294967296
theorem Rg.at {l : List Int} (h : Rg l) (j : Nat) (hj : j < l.length) : ∃ x : Nat, x < 4294967296 ∧ l[j]! = (x : Int) := by
  have := h l[j] (List.getElem_mem hj)
  rw [← getElem!_pos l j hj] at this
  exact ⟨l[j]!.toNat, by omega, by omega⟩
theorem ofInt_u32 (x : Nat) (hx : x < 4294967296) : (BitVec.ofInt 32 (x : Int)).toNat = x := by
  rw [BitVec.toNat_ofInt]
  omega
theorem or_u32 (k x y : Nat) (hy : y < 2 ^ k) (hx : 2 ^ k * x + y < 4294967296) : bits .or .u32 ((2 ^ k * x : Nat) : Int) (y : Int) = ((2 ^ k * x + y : Nat) : Int) := by
  have e : 2 ^ k * x ||| y = 2 ^ k * x + y := (Nat.two_pow_add_eq_or_of_lt hy x).symm
  show IntKind.u32.wrap ((BitVec.ofInt 32 ((2 ^ k * x : Nat) : Int) ||| BitVec.ofInt 32 ((y : Nat) : Int)).toNat : Int) = _
  have a1 : 2 ^ k * x < 4294967296 := Nat.lt_of_le_of_lt (Nat.le_add_right _ _) hx
  have a2 : y < 4294967296 := Nat.lt_of_le_of_lt (Nat.le_add_left _ _) hx
  rw [BitVec.toNat_or, ofInt_u32 _ a1, ofInt_u32 y a2, e]
  generalize 2 ^ k * x + y = z at *
  simp [IntKind.wrap, IntKind.bits, IntKind.signed]
  omega
/-- A block of bytes of the call's own, whole. -/
def Bk (w : World) (g : Nat) (l : List UInt8) : Prop := w.heap[g]? = some (.cells (bvs l).toArray 5 (0, 0)) ∧ l.length ≤ 1000000
theorem Bk.lt {w : World} {g : Nat} {l : List UInt8} (h : Bk w g l) : g < w.heap.size := (Array.getElem?_eq_some_iff.1 h.1).1
theorem Bk.below {w w1 : World} {g : Nat} {l : List UInt8} (h : Bk w g l) (hb : Below w.heap.size w w1) : Bk w1 g l := ⟨(hb.block g h.lt).trans h.1, h.2⟩
theorem Bk.own {w : World} {g : Nat} {l : List UInt8} (h : Bk w g l) (base : Nat) (hb : base ≤ g) : w.ownsRow base 5 1 (.slice (some ⟨g, 0, none⟩) l.length l.length) l.length (bvs l) :=
  own_of h.1 hb (bvs_length l) (by have := h.2; unfold maxLen; omega)
theorem Bk.of_own {w : World} {base g n : Nat} {l : List UInt8} (hl : l.length = n) (hm : n ≤ 1000000) (h : w.ownsRow base 5 1 (.slice (some ⟨g, 0, none⟩) n n) n (bvs l)) : Bk w g l := ⟨own_heap h, by omega⟩
theorem Bk.cell {w : World} {g : Nat} {l : List UInt8} (h : Bk w g l) (j : Nat) (hj : j < l.length) : w.cell? ⟨g, j, none⟩ = some (.int .u8 (((l.getD j 0).toNat : Nat) : Int)) := by
  rw [(h.own 0 (Nat.zero_le _)).cellAt j (by omega), bvs_get l j hj]
  simp [List.getD, hj]
theorem Bk.frozen {w : World} {g : Nat} {l : List UInt8} (h : Bk w g l) (j : Nat) : w.frozen? ⟨g, j, none⟩ = false := (h.own 0 (Nat.zero_le _)).frozenAt j
theorem Bk.set {w : World} {g : Nat} {l : List UInt8} (h : Bk w g l) (p : Nat) (x : UInt8) : Bk (w.setCell ⟨g, p, none⟩ (.int .u8 ((x.toNat : Nat) : Int))) g (l.set p x) := by
  have q := ((h.own 0 (Nat.zero_le _)).stored p (.int .u8 ((x.toNat : Nat) : Int))).1
  rw [← bvs_set] at q
  exact Bk.of_own (by simp) h.2 q
theorem Bk.byts {w : World} {g : Nat} {l : List UInt8} (h : Bk w g l) : Byts w (.slice (some ⟨g, 0, none⟩) l.length l.length) l := Byts.own (h.own 0 (Nat.zero_le _))
end Go.Proofs.Ytceoelemlokelaa
