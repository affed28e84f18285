/- crc.half, crc.More and crc.Sum over the table of halves: the sum of the bytes. -/
import Derived.Test.YtbffpgndjbpifaaDoorByt
import Derived.Test.YtbffpgndjbpifaaDoorCrc
import Derived.Laws.BitsAllLaws
namespace Go.Proofs.YtbffpgndjbpifaaDoor
open Go.RowKit
open C (steps bt more crc ones pol)

/-- The table of sixteen words: four steps of each half of a byte. -/
def Tab (w : World) : Prop := ∀ i, i < 16 → w.cell? ⟨0, i, none⟩ = some (.int .u32 ((steps 4 i : Nat) : Int))
theorem Tab.below {w w1 : World} (h : Tab w) (hb : Below w.heap.size w w1) : Tab w1 := fun i hi => kept (h i hi) hb

theorem half_any (r : Nat) (hr : r < 4294967296) (w : World) (h : Tab w) :
    Calls Tryd.prog 35 #[.int .u32 (r : Int)] w fun e w' => e = .returned (.int .u32 ((steps 4 r : Nat) : Int)) ∧ w' = w := by
  have ha : bits .and .u32 (r : Int) 15 = ((r % 16 : Nat) : Int) := by
    have := u32_and_nat r 15 hr (by omega)
    rw [nat_mask4] at this
    exact this
  have hs : bits .xor .u32 (((r / 16 : Nat)) : Int) ((steps 4 (r % 16) : Nat) : Int) = ((steps 4 r : Nat) : Int) := by
    rw [u32_xor_nat _ _ (by omega) (C.steps_lt 4 (by omega)), C.half_steps]
  have hd : (r : Int) / 16 = ((r / 16 : Nat) : Int) := by omega
  have hc := h (r % 16) (by omega)
  have hlt : r % 16 < 16 := by omega
  clear h
  generalize steps 4 r = R at *
  generalize steps 4 (r % 16) = S at *
  generalize r % 16 = m at *
  generalize r / 16 = q at *
  go_enter Tryd.func35, Tryd.ntmps35
  go_wp2
  go_ret
  exact ⟨rfl, rfl⟩

/-- What the walk of More wants of the sums of the first bytes. -/
theorem more_facts (s : Nat) (hs : s < 4294967296) (l : List UInt8) :
    ∃ G : Nat → Nat, bits .xor .u32 (s : Int) 4294967295 = ((G 0 : Nat) : Int) ∧ (∀ j, G j < 4294967296) ∧ bits .xor .u32 ((G l.length : Nat) : Int) 4294967295 = ((crc s l : Nat) : Int) ∧
      ∀ j (h : j < l.length), ∃ X : Nat, X < 4294967296 ∧ bits .xor .u32 ((G j : Nat) : Int) ((l[j].toNat : Nat) : Int) = ((X : Nat) : Int) ∧ steps 4 (steps 4 X) = G (j + 1) := by
  refine ⟨fun j => more (s ^^^ ones) (l.take j), ?_, fun j => C.more_lt _ (C.ones_lt hs), ?_, fun j h => ?_⟩
  · exact u32_xor_nat s 4294967295 hs (by omega)
  · have := u32_xor_nat (more (s ^^^ ones) (l.take l.length)) 4294967295 (C.more_lt _ (C.ones_lt hs)) (by omega)
    refine this.trans ?_
    simp [crc, ones]
  · have h1 : more (s ^^^ ones) (l.take j) < 4294967296 := C.more_lt _ (C.ones_lt hs)
    have h2 := C.u8_lt l[j]
    refine ⟨more (s ^^^ ones) (l.take j) ^^^ l[j].toNat, Nat.xor_lt_two_pow (n := 32) (by omega) (by omega), u32_xor_nat _ _ h1 (by omega), ?_⟩
    show _ = more (s ^^^ ones) (l.take (j + 1))
    rw [C.steps_steps, List.take_succ_eq_append_getElem h, C.more_snoc]
    rfl

set_option maxHeartbeats 400000 in
theorem more_any (s : Nat) (hs : s < 4294967296) (v : Value) (l : List UInt8) (w : World) (h : Byts w v l) (hl : l.length ≤ 1000000) (hT : Tab w) :
    Calls Tryd.prog 33 #[.int .u32 (s : Int), v] w fun e w' => e = .returned (.int .u32 ((crc s l : Nat) : Int)) ∧ w' = w := by
  obtain ⟨G, g0, g1, g2, g3⟩ := more_facts s hs l
  obtain ⟨A, c, rfl, hc, h⟩ := h
  generalize crc s l = R at *
  have H : Hid (∀ j, j < l.length → ∃ b off X x, A = some ⟨b, off, none⟩ ∧ w.cell? ⟨b, off + j, none⟩ = some (.int .u8 ((x : Nat) : Int)) ∧ x < 256 ∧ X < 4294967296 ∧ bits .xor .u32 ((G j : Nat) : Int) ((x : Nat) : Int) = ((X : Nat) : Int) ∧ steps 4 (steps 4 X) = G (j + 1)) := by
    intro j hj
    obtain ⟨b, off, e, q⟩ := h (by omega)
    obtain ⟨X, hX, e1, e2⟩ := g3 j hj
    exact ⟨b, off, X, _, e, q j hj, C.u8_lt _, hX, e1, e2⟩
  clear h g3
  have G1 := Lib.hid g1; clear g1
  have HT := Lib.hid hT; clear hT
  generalize l.length = n at *
  have G2 := Lib.hid g2; clear g2
  go_enter Tryd.func33, Tryd.ntmps33
  go_wp2
  go_loop [5, 12] (fun r i => ∃ j : Nat, j ≤ n ∧ i = .int .i64 (j : Int) ∧ r = .int .u32 ((G j : Nat) : Int)) (fun _ i => n - (intOf i).toNat)
  case atStart => exact ⟨0, by omega, rfl, rfl⟩
  case round =>
    obtain ⟨j, hj, rfl, rfl⟩ := hrel
    by_cases hlt : j < n
    · obtain ⟨b, off, X, x, rfl, a0, hx, hX, e1, e2⟩ := H.out j hlt
      have H1 := Lib.hid (half_any X hX w HT.out)
      have H2 := Lib.hid (half_any (steps 4 X) (C.steps_lt 4 hX) w HT.out)
      rw [e2] at H2
      clear e2
      generalize steps 4 X = Y at *
      obtain ⟨Gi, hi⟩ : ∃ z, G j = z := ⟨_, rfl⟩
      obtain ⟨Gj, hk⟩ : ∃ z, G (j + 1) = z := ⟨_, rfl⟩
      rw [hi] at e1
      rw [hi]
      rw [hk] at H2
      have HK := Lib.hid hk
      clear hi hk
      go_wp2_with fail
      refine H1.out.mono ?_
      rintro e w1 ⟨rfl, rfl⟩
      go_wp2_with fail
      refine H2.out.mono ?_
      rintro e w2 ⟨rfl, rfl⟩
      go_wp2
      go_round
      case rel => exact ⟨j + 1, by omega, by go_num, by rw [HK.out]⟩
      case measure => simp [intOf]; omega
    · obtain rfl : j = n := by omega
      have e2 := G2.out
      generalize G j = z at *
      go_wp2
      go_ret
      exact ⟨rfl, rfl⟩

theorem sum_any (v : Value) (l : List UInt8) (w : World) (h : Byts w v l) (hl : l.length ≤ 1000000) (hT : Tab w) :
    Calls Tryd.prog 28 #[v] w fun e w' => e = .returned (.int .u32 ((crc 0 l : Nat) : Int)) ∧ w' = w := by
  have H := Lib.hid (more_any 0 (by omega) v l w h hl hT)
  generalize crc 0 l = R at *
  clear h hT
  go_enter Tryd.func28, Tryd.ntmps28
  go_wp2_with fail
  refine H.out.mono ?_
  rintro e w1 ⟨rfl, rfl⟩
  go_wp2
  go_ret
  exact ⟨rfl, rfl⟩
end Go.Proofs.YtbffpgndjbpifaaDoor
