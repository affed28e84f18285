/- The document's own Rises and Number; freelist.readFour and layFour. -/
import Derived.Test.YtnnegglhndllfaaFa
namespace Go.Proofs.Ytnnegglhndllfaa
open Go.RowKit

set_option maxHeartbeats 1600000 in
theorem rises_core (w : World) (A : Option Addr) (n c : Nat) (l : List Int) (R : Bool) (hn : n ≤ 9223372036854775807) (hl : l.length = n) (HR : Hid (L.ris 1 l = R))
    (H : Hid (0 < n → ∃ b off, A = some ⟨b, off, none⟩ ∧ ∀ j, j < n → w.cell? ⟨b, off + j, none⟩ = some (.int .u32 l[j]!))) :
    Calls Try.prog 20 #[.slice A n c] w fun e w' => e = .returned (.bool R) ∧ Below w.heap.size w w' := by
  have HL := Lib.hid hl
  clear hl
  go_enter Try.func20, Try.ntmps20
  go_wp2
  go_loopg [3] n (fun k s wr => ∃ (i : Nat) (a : Int), s = .int .i64 i ∧ i ≤ n ∧ n - i ≤ k ∧ Hid (Below w.heap.size w wr) ∧ ((i = 0 ∧ a = 1) ∨ (0 < i ∧ 2 ≤ a)) ∧ Hid (0 < i → a = l[i - 1]!) ∧ Hid (L.ris a (l.drop i) = R))
  case atStart => exact ⟨0, 1, rfl, by omega, by omega, Below.refl _ _, .inl ⟨rfl, rfl⟩, (fun h => by omega), HR⟩
  case round =>
    obtain ⟨i, a, rfl, h1, h2, HB, ha, HA, HI⟩ := hrel
    by_cases hi : i < n
    · have hz : (i : Int) < (n : Int) := by omega
      obtain ⟨b, off, rfl, hcell⟩ := H.out (by omega)
      have c0 := kept (hcell i hi) HB.out
      have HS := Lib.hid (ris_step (l := l) (i := i) (by rw [HL.out]; exact hi) a)
      obtain ⟨y, hy⟩ : ∃ y, y = l[i]! := ⟨_, rfl⟩
      rw [← hy] at c0 HS
      have HY := Lib.hid hy
      clear hy
      have e1 : (((i : Int) - 1).toNat) = i - 1 := by omega
      rcases ha with ⟨hi0, rfl⟩ | ⟨hi0, ha⟩
      · clear hcell
        by_cases hxy : 1 < y
        · have hz1 : decide (y < 2) = false := by simp; omega
          have hz2 : decide (0 < i) = false := decide_eq_false (by omega)
          clear hi0
          have HD := Lib.hid (decide_eq_true hxy)
          clear hxy
          go_wp2
          go_quiet (fail)
          go_wp2
          go_roundg (n - (i + 1))
          case measure => omega
          case rel =>
            refine ⟨i + 1, y, by simp, by omega, by omega, bdn HB.out _, .inr ⟨by omega, ?_⟩, (fun _ => HY.out), ?_⟩
            · have := of_decide_eq_true HD.out
              omega
            · have := HI.out
              rw [HS.out, HD.out] at this
              refine Lib.hid ?_
              simpa using this
        · have hz1 : decide (y < 2) = true := by simp; omega
          have HD := Lib.hid (decide_eq_false hxy)
          clear hxy hi0
          go_wp2
          go_quiet (fail)
          go_wp2
          go_ret
          refine ⟨?_, bdn HB.out _⟩
          have := HI.out
          rw [HS.out, HD.out] at this
          rw [← this]
          rfl
      · have c1 := kept (hcell (i - 1) (by omega)) HB.out
        rw [← HA.out hi0] at c1
        have hi2 : decide (0 < i) = true := decide_eq_true hi0
        have e2 : (i : Int) - 1 < (n : Int) := by omega
        have e3 : 0 ≤ (i : Int) - 1 := by omega
        clear hcell
        by_cases hy2 : y < 2
        · have hz1 : decide (y < 2) = true := decide_eq_true hy2
          have HD : Hid (decide (a < y) = false) := decide_eq_false (by omega)
          clear hy2
          go_wp2
          go_quiet (fail)
          go_wp2
          go_ret
          refine ⟨?_, bdn HB.out _⟩
          have := HI.out
          rw [HS.out, HD.out] at this
          rw [← this]
          rfl
        · have hz1 : decide (y < 2) = false := decide_eq_false hy2
          by_cases hxy : a < y
          · have hz2 : decide (y ≤ a) = false := by simp; omega
            have HD := Lib.hid (decide_eq_true hxy)
            have HG : Hid (2 ≤ y) := by show 2 ≤ y; omega
            clear hxy hy2
            go_wp2
            go_quiet (fail)
            go_wp2
            go_roundg (n - (i + 1))
            case measure => omega
            case rel =>
              refine ⟨i + 1, y, by simp, by omega, by omega, bdn HB.out _, .inr ⟨by omega, HG.out⟩, (fun _ => HY.out), ?_⟩
              have := HI.out
              rw [HS.out, HD.out] at this
              refine Lib.hid ?_
              simpa using this
          · have hz2 : decide (y ≤ a) = true := by simp; omega
            have HD := Lib.hid (decide_eq_false hxy)
            clear hxy hy2
            go_wp2
            go_quiet (fail)
            go_wp2
            go_ret
            refine ⟨?_, bdn HB.out _⟩
            have := HI.out
            rw [HS.out, HD.out] at this
            rw [← this]
            rfl
    · have hz : ¬ (i : Int) < (n : Int) := by omega
      clear ha
      go_wp2
      go_ret
      refine ⟨?_, HB.out⟩
      have := HI.out
      rw [List.drop_eq_nil_of_le (by rw [HL.out]; omega)] at this
      rw [← this]
      rfl
theorem rises_any (w : World) (v : Value) (l : List Int) (h : Nums w v l) : Calls Try.prog 20 #[v] w fun e w' => e = .returned (.bool (L.ris 1 l)) ∧ Below w.heap.size w w' := by
  obtain ⟨A, c, rfl, hc, hm, h⟩ := h
  unfold maxLen at hm
  exact rises_core w A l.length c l _ (by omega) rfl (Lib.hid rfl) (Lib.hid h)

/-! Numbers of bytes. -/
def valL (l : List UInt8) : Nat := l.foldl (fun a c => a * 256 + c.toNat) 0
theorem valL_snoc (l : List UInt8) (c : UInt8) : valL (l ++ [c]) = valL l * 256 + c.toNat := by simp [valL]
theorem foldl_lt : ∀ (l : List UInt8) (a : Nat), l.foldl (fun a c => a * 256 + c.toNat) a < (a + 1) * 256 ^ l.length
  | [], a => by simp
  | c :: l, a => by
    have := foldl_lt l (a * 256 + c.toNat)
    simp only [List.foldl_cons, List.length_cons]
    refine Nat.lt_of_lt_of_le this ?_
    rw [Nat.pow_succ', ← Nat.mul_assoc]
    exact Nat.mul_le_mul_right _ (by have := c.toNat_lt; omega)
theorem valL_lt (l : List UInt8) : valL l < 256 ^ l.length := by simpa [valL] using foldl_lt l 0
theorem valL_four (a b c d : UInt8) : valL [a, b, c, d] = a.toNat * 16777216 + b.toNat * 65536 + c.toNat * 256 + d.toNat := by
  simp only [valL, List.foldl_cons, List.foldl_nil]
  omega
theorem valL_two (a b : UInt8) : valL [a, b] = a.toNat * 256 + b.toNat := by
  simp only [valL, List.foldl_cons, List.foldl_nil]
  omega
theorem numL_facts (l : List UInt8) (hl : l.length ≤ 4) : ∃ G : Nat → Nat, G 0 = 0 ∧ G (str l).size = valL l ∧ ∀ j (h : j < (str l).size), (str l)[j].toNat < 256 ∧ G j * 256 + (str l)[j].toNat < 4294967296 ∧ G (j + 1) = G j * 256 + (str l)[j].toNat := by
  refine ⟨fun j => valL (l.take j), rfl, by show valL (l.take (str l).size) = valL l; rw [str_size, List.take_length], fun j h => ?_⟩
  have hj : j < l.length := by rwa [str_size] at h
  show (l[j]).toNat < 256 ∧ valL (l.take j) * 256 + (l[j]).toNat < 4294967296 ∧ valL (l.take (j + 1)) = valL (l.take j) * 256 + (l[j]).toNat
  have e2 : valL (l.take (j + 1)) = valL (l.take j) * 256 + (l[j]).toNat := by rw [List.take_succ_eq_append_getElem hj, valL_snoc]
  refine ⟨C.u8_lt _, ?_, e2⟩
  rw [← e2]
  have h1 := valL_lt (l.take (j + 1))
  have h2 : (l.take (j + 1)).length ≤ 4 := by simp; omega
  exact Nat.lt_of_lt_of_le h1 (Nat.le_trans (Nat.pow_le_pow_right (by omega) h2) (by omega))
theorem number_any (l : List UInt8) (hl : l.length ≤ 4) (w : World) :
    Calls Try.prog 24 #[.string (str l)] w fun e w' => e = .returned (.int .u32 ((valL l : Nat) : Int)) ∧ w = w' := by
  obtain ⟨G, g0, g1, g2⟩ := numL_facts l hl
  have hsz : (str l).size ≤ 4 := by rw [str_size]; exact hl
  generalize valL l = R at *
  generalize str l = sl at *
  have G1 := Lib.hid g1
  have G2 := Lib.hid g2
  have G0 := Lib.hid g0
  clear g0 g1 g2 hl
  go_enter Try.func24, Try.ntmps24
  go_wp2
  go_loop [3, 4] (fun r i => ∃ j : Nat, j ≤ sl.size ∧ i = .int .i64 (j : Int) ∧ r = .int .u32 ((G j : Nat) : Int)) (fun _ i => sl.size - (intOf i).toNat)
  case atStart => exact ⟨0, by omega, rfl, by rw [G0.out]; rfl⟩
  case round =>
    obtain ⟨j, hj, rfl, rfl⟩ := hrel
    by_cases hlt : j < sl.size
    · obtain ⟨k1, k2, k3⟩ := G2.out j hlt
      obtain ⟨z, hz⟩ : ∃ z, G j = z := ⟨_, rfl⟩
      rw [hz] at k2 k3
      rw [hz]
      have HK := Lib.hid k3
      clear k3 hz
      go_wp2
      go_round
      case rel => exact ⟨j + 1, by omega, by go_num, by rw [HK.out]; go_num⟩
      case measure => simp [intOf]; omega
    · obtain rfl : j = sl.size := by omega
      have e2 := G1.out
      generalize G sl.size = z at *
      go_wp2
      go_ret
      exact ⟨rfl, rfl⟩

/-- What stands in four bytes and in bits. -/
theorem ofInt_u32 (x : Nat) (hx : x < 4294967296) : (BitVec.ofInt 32 (x : Int)).toNat = x := by
  rw [BitVec.toNat_ofInt]
  omega
theorem or_u32 (k x y : Nat) (hy : y < 2 ^ k) (hx : 2 ^ k * x + y < 4294967296) : bits .or .u32 ((2 ^ k * x : Nat) : Int) (y : Int) = ((2 ^ k * x + y : Nat) : Int) := by
  have e : 2 ^ k * x ||| y = 2 ^ k * x + y := (Nat.two_pow_add_eq_or_of_lt hy x).symm
  show IntKind.u32.wrap ((BitVec.ofInt 32 ((2 ^ k * x : Nat) : Int) ||| BitVec.ofInt 32 ((y : Nat) : Int)).toNat : Int) = _
  have a1 : 2 ^ k * x < 4294967296 := Nat.lt_of_le_of_lt (Nat.le_add_right _ _) hx
  have a2 : y < 4294967296 := Nat.lt_of_le_of_lt (Nat.le_add_left _ _) hx
  rw [BitVec.toNat_or, ofInt_u32 _ a1, ofInt_u32 y a2, e]
  generalize 2 ^ k * x + y = z at *
  simp [IntKind.wrap, IntKind.bits, IntKind.signed]
  omega
theorem or_parts (x0 x1 x2 x3 : Nat) (h0 : x0 < 256) (h1 : x1 < 256) (h2 : x2 < 256) (h3 : x3 < 256) : ∃ y1 y2 y3 : Nat, bits .or .u32 ((x0 : Int) * 16777216) ((x1 : Int) * 65536) = (y1 : Int) ∧ bits .or .u32 (y1 : Int) ((x2 : Int) * 256) = (y2 : Int) ∧ bits .or .u32 (y2 : Int) (x3 : Int) = (y3 : Int) ∧
    y3 = x0 * 16777216 + x1 * 65536 + x2 * 256 + x3 := by
  refine ⟨x0 * 16777216 + x1 * 65536, x0 * 16777216 + x1 * 65536 + x2 * 256, x0 * 16777216 + x1 * 65536 + x2 * 256 + x3, ?_, ?_, ?_, rfl⟩
  · have := or_u32 24 x0 (x1 * 65536) (by omega) (by omega)
    have e1 : ((2 ^ 24 * x0 : Nat) : Int) = (x0 : Int) * 16777216 := by omega
    have e2 : ((x1 * 65536 : Nat) : Int) = (x1 : Int) * 65536 := by omega
    rw [e1, e2] at this
    rw [this]
    omega
  · have := or_u32 16 (x0 * 256 + x1) (x2 * 256) (by omega) (by omega)
    have e1 : ((2 ^ 16 * (x0 * 256 + x1) : Nat) : Int) = ((x0 * 16777216 + x1 * 65536 : Nat) : Int) := by omega
    have e2 : ((x2 * 256 : Nat) : Int) = (x2 : Int) * 256 := by omega
    rw [e1, e2] at this
    rw [this]
    omega
  · have := or_u32 8 (x0 * 65536 + x1 * 256 + x2) x3 (by omega) (by omega)
    have e1 : ((2 ^ 8 * (x0 * 65536 + x1 * 256 + x2) : Nat) : Int) = ((x0 * 16777216 + x1 * 65536 + x2 * 256 : Nat) : Int) := by omega
    rw [e1] at this
    rw [this]
    omega
theorem numAt_drop (b : List UInt8) (k : Nat) : L.numAt (b.drop k) 0 = L.numAt b k := by
  unfold L.numAt
  simp [List.getD]
theorem readfour_any (v : Value) (l : List UInt8) (w : World) (h : Byts w v l) (hl : 4 ≤ l.length) :
    Calls Try.prog 23 #[v] w fun e w' => e = .returned (.int .u32 ((L.numAt l 0 : Nat) : Int)) ∧ Below w.heap.size w w' := by
  obtain ⟨A, c, rfl, hc, h⟩ := h
  obtain ⟨b, off, rfl, hcell⟩ := h (by omega)
  have cell : ∀ j, j < 4 → w.cell? ⟨b, off + j, none⟩ = some (.int .u8 (((l.getD j 0).toNat : Nat) : Int)) := fun j hj => by
    rw [hcell j (by omega)]
    simp [List.getD, show j < l.length by omega]
  have c0 := cell 0 (by omega)
  rw [Nat.add_zero] at c0
  have c1 := cell 1 (by omega)
  have c2 := cell 2 (by omega)
  have c3 := cell 3 (by omega)
  have e : L.numAt l 0 = (l.getD 0 0).toNat * 16777216 + (l.getD 1 0).toNat * 65536 + (l.getD 2 0).toNat * 256 + (l.getD 3 0).toNat := rfl
  clear cell hcell h
  rw [e]
  have h0 := C.u8_lt (l.getD 0 0)
  have h1 := C.u8_lt (l.getD 1 0)
  have h2 := C.u8_lt (l.getD 2 0)
  have h3 := C.u8_lt (l.getD 3 0)
  generalize (l.getD 0 0).toNat = x0 at *
  generalize (l.getD 1 0).toNat = x1 at *
  generalize (l.getD 2 0).toNat = x2 at *
  generalize (l.getD 3 0).toNat = x3 at *
  obtain ⟨y1, y2, y3, o1, o2, o3, ey⟩ := or_parts x0 x1 x2 x3 h0 h1 h2 h3
  rw [← ey]
  clear ey e
  have l1 : (1 : Int) < (l.length : Int) := by omega
  have l2 : (2 : Int) < (l.length : Int) := by omega
  have l3 : (3 : Int) < (l.length : Int) := by omega
  have l0 : (0 : Int) < (l.length : Int) := by omega
  have k0 : 0 < l.length := by omega
  have k1 : 1 < l.length := by omega
  have k2 : 2 < l.length := by omega
  have k3 : 3 < l.length := by omega
  generalize l.length = n at *
  go_enter Try.func23, Try.ntmps23
  go_wp2
  go_quiet (fail)
  go_wp2
  go_ret
  exact ⟨rfl, bdn (Below.refl _ _) _⟩
end Go.Proofs.Ytnnegglhndllfaa
