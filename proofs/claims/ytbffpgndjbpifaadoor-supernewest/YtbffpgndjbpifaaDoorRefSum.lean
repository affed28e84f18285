/- The document's own sums, bit by bit (cashbookref04.More and Sum), and the statements' fixed examples. -/
import Derived.Test.YtbffpgndjbpifaaDoorSum
import Derived.Lib.SlBytesConst
namespace Go.Proofs.YtbffpgndjbpifaaDoor
open Go.RowKit
open C (steps bt more crc ones pol)

/-- The first j steps of a byte, from x on, as one function: what the inner loop wants. -/
theorem step_facts (x : Nat) (hx : x < 4294967296) :
    ∃ S : Nat → Nat, S 0 = x ∧ S 8 = steps 8 x ∧ ∀ k, ∃ q : Nat, q < 4294967296 ∧ S k < 4294967296 ∧ q = S k / 2 ∧
      ((S k % 2 = 1 ∧ bits .xor .u32 ((q : Nat) : Int) 2197175160 = ((S (k + 1) : Nat) : Int)) ∨ (S k % 2 = 0 ∧ S (k + 1) = q)) := by
  refine ⟨fun k => steps k x, rfl, rfl, fun k => ?_⟩
  have h1 : steps k x < 4294967296 := C.steps_lt k hx
  have h2 : steps (k + 1) x = C.step (steps k x) := by rw [C.steps_add k 1]; rfl
  refine ⟨steps k x / 2, by omega, h1, rfl, ?_⟩
  show (steps k x % 2 = 1 ∧ bits .xor .u32 ((steps k x / 2 : Nat) : Int) 2197175160 = ((steps (k + 1) x : Nat) : Int)) ∨ (steps k x % 2 = 0 ∧ steps (k + 1) x = steps k x / 2)
  rw [h2]
  generalize steps k x = y at *
  by_cases h : y % 2 = 1
  · refine .inl ⟨h, ?_⟩
    have := u32_xor_nat (y / 2) 2197175160 (by omega) (by omega)
    refine this.trans ?_
    unfold C.step
    rw [if_pos h]
    rfl
  · refine .inr ⟨by omega, ?_⟩
    unfold C.step
    rw [if_neg h]

set_option maxHeartbeats 800000 in
theorem refmore_any (s : Nat) (hs : s < 4294967296) (l : List UInt8) (w : World) (hl : l.length ≤ 1000000) :
    Calls Tryd.prog 22 #[.int .u32 (s : Int), .string (str l)] w fun e w' => e = .returned (.int .u32 ((crc s l : Nat) : Int)) ∧ w' = w := by
  obtain ⟨G, g0, g1, g2, g3⟩ := more_facts s hs l
  generalize crc s l = R at *
  have hsz : (str l).size = l.length := str_size l
  have H : Hid (∀ j (h : j < (str l).size), ∃ X : Nat, (str l)[j].toNat < 256 ∧ X < 4294967296 ∧ bits .xor .u32 ((G j : Nat) : Int) (((str l)[j].toNat : Nat) : Int) = ((X : Nat) : Int) ∧ steps 8 X = G (j + 1)) := by
    intro j hj
    obtain ⟨X, hX, e1, e2⟩ := g3 j hj
    rw [C.steps_steps] at e2
    exact ⟨X, C.u8_lt _, hX, e1, e2⟩
  clear g3 g1
  rw [← hsz] at hl g2
  clear hsz
  generalize str l = sl at *
  have G2 := Lib.hid g2; clear g2
  go_enter Tryd.func22, Tryd.ntmps22
  go_wp2
  go_loop [5, 6] (fun r i => ∃ j : Nat, j ≤ sl.size ∧ i = .int .i64 (j : Int) ∧ r = .int .u32 ((G j : Nat) : Int)) (fun _ i => sl.size - (intOf i).toNat)
  case atStart => exact ⟨0, by omega, rfl, rfl⟩
  case round =>
    obtain ⟨j, hj, rfl, rfl⟩ := hrel
    by_cases hlt : j < sl.size
    · obtain ⟨X, hx, hX, e1, e2⟩ := H.out j hlt
      obtain ⟨S, s0, s8, sk⟩ := step_facts X hX
      obtain ⟨Gi, hi⟩ : ∃ z, G j = z := ⟨_, rfl⟩
      have HK := Lib.hid (s8.trans e2)
      have S0 := Lib.hid s0
      have SK := Lib.hid sk
      clear e2 s0 s8 sk
      rw [hi] at e1
      rw [hi]
      go_wp2
      clear e1 hx hi
      go_loop [5, 7] (fun r i => ∃ k : Nat, k ≤ 8 ∧ i = .int .i64 (k : Int) ∧ r = .int .u32 ((S k : Nat) : Int)) (fun _ i => 8 - (intOf i).toNat)
      case atStart => exact ⟨0, by omega, rfl, by rw [S0.out]⟩
      case round =>
        obtain ⟨k, hk, rfl, rfl⟩ := hrel
        by_cases hk8 : k < 8
        · obtain ⟨q, hq, hS, eq, hcase⟩ := SK.out k
          obtain ⟨z, hz⟩ : ∃ z, S k = z := ⟨_, rfl⟩
          obtain ⟨y, hy⟩ : ∃ y, S (k + 1) = y := ⟨_, rfl⟩
          rw [hz] at hS eq hcase
          rw [hy] at hcase
          rw [hz]
          have HY := Lib.hid hy
          clear hy hz
          rcases hcase with ⟨hm, hxo⟩ | ⟨hm, rfl⟩
          · have q1 : (z : Int) % 2 = 1 := by omega
            have q2 : (z : Int) / 2 = (q : Int) := by omega
            clear hm eq
            go_wp2
            go_round
            case rel => exact ⟨k + 1, by omega, by go_num, by rw [HY.out]⟩
            case measure => simp [intOf]; omega
          · have q1 : (z : Int) % 2 = 0 := by omega
            have q2 : (z : Int) / 2 = (y : Int) := by omega
            clear hm eq
            go_wp2
            go_round
            case rel => exact ⟨k + 1, by omega, by go_num, by rw [HY.out]⟩
            case measure => simp [intOf]; omega
        · obtain rfl : k = 8 := by omega
          go_wp2
          go_round
          case rel => exact ⟨j + 1, by omega, by go_num, by rw [← HK.out]⟩
          case measure => simp [intOf]; omega
    · obtain rfl : j = sl.size := by omega
      have e2 := G2.out
      generalize G sl.size = z at *
      go_wp2
      go_ret
      exact ⟨rfl, rfl⟩

theorem refsum_any (l : List UInt8) (w : World) (hl : l.length ≤ 1000000) :
    Calls Tryd.prog 12 #[.string (str l)] w fun e w' => e = .returned (.int .u32 ((crc 0 l : Nat) : Int)) ∧ w' = w := by
  have H := Lib.hid (refmore_any 0 (by omega) l w hl)
  generalize crc 0 l = R at *
  generalize str l = sl at *
  go_enter Tryd.func12, Tryd.ntmps12
  go_wp2_with fail
  refine H.out.mono ?_
  rintro e w1 ⟨rfl, rfl⟩
  go_wp2
  go_ret
  exact ⟨rfl, rfl⟩

def nine : List UInt8 := [49, 50, 51, 52, 53, 54, 55, 56, 57]
def nineC : Array Value := #[.int .u8 49, .int .u8 50, .int .u8 51, .int .u8 52, .int .u8 53, .int .u8 54, .int .u8 55, .int .u8 56, .int .u8 57]
theorem nine_cells (w : World) (fr : Nat × Nat) : Byts (w.alloc (.cells nineC 5 fr)) (.slice (some ⟨w.heap.size, 0, none⟩) 9 9) nine := by
  refine ⟨_, _, rfl, Nat.le_refl _, fun _ => ⟨w.heap.size, 0, rfl, fun j hj => ?_⟩⟩
  rw [Nat.zero_add, Go.Joins.cell_alloc_mark_at w nineC _ fr _ j rfl]
  have e : nineC = (bvs nine).toArray := rfl
  rw [e, List.getElem?_toArray, bvs_get nine j hj]
end Go.Proofs.YtbffpgndjbpifaaDoor
