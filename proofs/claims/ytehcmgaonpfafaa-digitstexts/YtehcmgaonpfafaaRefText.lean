/- The document's own Text and Short: bit by bit. -/
import Derived.Test.YtehcmgaonpfafaaTwice
namespace Go.Proofs.Ytehcmgaonpfafaa
open Go.RowKit
open W (hi lo addN addB dig MM M tw low nz alld txL hiT ch rowOf)

/-- A number's bit. -/
def bit (n j : Nat) : Nat := n / 2 ^ j % 2
/-- The digits of a number's first t bits. -/
def bl (n : Nat) : Nat → List Nat
  | 0 => []
  | t + 1 => tw (bl n t) (bit n (127 - t))
theorem bit_le (n j : Nat) : bit n j ≤ 1 := by unfold bit; omega
theorem bl_all (n t : Nat) : alld (bl n t) = true := by
  induction t with
  | zero => rfl
  | succ t ih => exact W.tw_all _ _ (bit_le _ _) ih
theorem bl_nz (n t : Nat) : nz (bl n t) = true := by
  induction t with
  | zero => rfl
  | succ t ih => exact W.tw_nz _ _ (bit_le _ _) (bl_all n t) ih
theorem tw_len (l : List Nat) : ∀ c, (tw l c).length ≤ l.length + 1 := by
  induction l with
  | nil => intro c; unfold W.tw; split <;> simp
  | cons d l ih => intro c; have := ih ((2 * d + c) / 10); simp only [W.tw, List.length_cons]; omega
theorem bl_len (n t : Nat) : (bl n t).length ≤ t := by
  induction t with
  | zero => exact Nat.le_refl _
  | succ t ih => have := tw_len (bl n t) (bit n (127 - t)); simp only [bl]; omega
theorem bl_low (n : Nat) (hn : n < MM) (t : Nat) (ht : t ≤ 128) : low (bl n t) = n / 2 ^ (128 - t) := by
  induction t with
  | zero =>
    have : MM = 2 ^ 128 := by decide
    rw [this] at hn
    rw [Nat.div_eq_of_lt hn]
    rfl
  | succ t ih =>
    simp only [bl, W.tw_low, ih (by omega)]
    have e : 128 - t = (127 - t) + 1 := by omega
    have e2 : 128 - (t + 1) = 127 - t := by omega
    rw [e, e2, Nat.pow_succ, ← Nat.div_div_eq_div_mul]
    unfold bit
    omega
theorem bl_end (n : Nat) (hn : n < MM) : low (bl n 128) = n := by rw [bl_low n hn 128 (Nat.le_refl _)]; simp
/-- A bit, taken out of its byte. -/
theorem byte_bit (n i r : Nat) (hi : i < 16) (hr : r < 8) : dig n (15 - i) / (128 / 2 ^ r) % 2 = bit n (127 - (8 * i + r)) := by
  unfold W.dig bit
  have e0 : (128 : Nat) / 2 ^ r = 2 ^ (7 - r) := by
    have : (128 : Nat) = 2 ^ 7 := rfl
    rw [this, Nat.pow_div (by omega) (by omega)]
  have e1 : (256 : Nat) = 2 ^ (7 - r) * 2 ^ (r + 1) := by
    rw [← Nat.pow_add, show 7 - r + (r + 1) = 8 by omega]
  have e2 : (256 : Nat) ^ (15 - i) * 2 ^ (7 - r) = 2 ^ (127 - (8 * i + r)) := by
    have : (256 : Nat) = 2 ^ 8 := rfl
    rw [this, ← Nat.pow_mul, ← Nat.pow_add]
    congr 1
    omega
  rw [e0, ← e2, ← Nat.div_div_eq_div_mul]
  generalize n / 256 ^ (15 - i) = x
  rw [e1, Nat.mod_mul_right_div_self, Nat.mod_mod_of_dvd]
  rw [Nat.pow_succ]
  exact Nat.dvd_mul_left _ _
theorem qbit (y z : Nat) (hy : y ≤ 255) : (wrap64 ((y : Int) / (z : Int))).tmod 2 = ((y / z % 2 : Nat) : Int) := by
  have h1 : y / z ≤ y := Nat.div_le_self _ _
  rw [← Int.natCast_ediv]
  generalize y / z = q at *
  rw [IntWalk.wrap64_in _ ⟨by omega, by omega⟩]
  rfl
theorem half_step (r : Nat) : 128 / 2 ^ (r + 1) = 128 / 2 ^ r / 2 := by rw [Nat.pow_succ, Nat.div_div_eq_div_mul]
theorem half_pos (r : Nat) (h : r < 8) : 0 < 128 / 2 ^ r ∧ 128 / 2 ^ r ≤ 128 := by
  refine ⟨?_, Nat.div_le_self _ _⟩
  have : 2 ^ r ≤ 2 ^ 7 := Nat.pow_le_pow_right (by omega) (by omega)
  exact Nat.div_pos (by simpa using this) (Nat.pow_pos (by omega))
theorem half_end : 128 / 2 ^ 8 = 0 := by decide
theorem hiT_step (l : List Nat) (k : Nat) (h : k < l.length) : hiT (l.drop k) = hiT (l.drop (k + 1)) ++ [ch l[k]] := by
  rw [List.drop_eq_getElem_cons h]
  unfold W.hiT
  rw [List.map_cons, List.reverse_cons]
theorem str_append (l m : List UInt8) : str (l ++ m) = str l ++ str m := by
  apply ByteArray.ext
  simp [str, ByteArray.data_append]

theorem ten_extract : ∀ x : Fin 10, (⟨#[48, 49, 50, 51, 52, 53, 54, 55, 56, 57]⟩ : ByteArray).extract x.val (x.val + 1) = str [ch x.val] := by decide
theorem run_digit (x : Nat) (h : x < 10) (w : World) : (Instr.slice 9 (.string ⟨#[48, 49, 50, 51, 52, 53, 54, 55, 56, 57]⟩) (some (.int .i64 (x : Int))) (some (.int .i64 ((x : Int) + 1))) none).run Try.prog w = .ok (.string (str [ch x])) w := by
  rw [run_slice_string w 9 _ _ _ _ _ Try.underlying9 (by omega) (by omega) (by simp [ByteArray.size]; omega)]
  rw [← ten_extract ⟨x, h⟩]
  congr 3

theorem run_str_add (l m : List UInt8) (h : l.length + m.length ≤ 1000) (w : World) : (Op.stringOp .add (str l) (str m)).run Try.prog w = .ok (.string (str (l ++ m))) w := by
  rw [run_string_add_sum w (str l) (str m) (by rw [str_size, str_size]; omega), str_append]
theorem hiT_len (l : List Nat) (n : Nat) (h : l.length ≤ n) : (hiT l).length ≤ n := by unfold W.hiT; simpa using h

set_option maxHeartbeats 400000 in
theorem reftext_any (n : Nat) (hn : n < MM) (w : World) : Calls Try.prog 12 #[.agg #[.int .u64 (hi n : Nat), .int .u64 (lo n : Nat)]] w fun e w' => e = .returned (.string (str (txL n))) ∧ Below w.heap.size w w' := by
  have HN := Lib.hid hn; clear hn
  go_enter Try.func12, Try.ntmps12
  go_wp2_with fail
  refine (digits_any n HN.out _).mono ?_
  rintro e w1 ⟨rfl, hr1, hb1⟩
  simp only [World.size_alloc] at hr1
  have hB1 : Below w.heap.size w w1 := btr (bal (alb _) _) hb1
  have HR := Lib.hid hr1; clear hr1 hb1
  go_wp2
  go_loopw [3, 5] (fun d i wr => ∃ k : Nat, k ≤ 16 ∧ i = .int .i64 (k : Int) ∧ Digs wr d (bl n (8 * k)) ∧ Below w1.heap.size w1 wr) (fun _ i _ => 16 - (intOf i).toNat)
  case atStart => exact ⟨0, by omega, rfl, ⟨_, _, rfl, fun h => absurd rfl h⟩, Below.refl _ _⟩
  case round =>
    obtain ⟨k, hk, rfl, hd, hB⟩ := hrel
    by_cases hlt : k < 16
    · have c0 := ((HR.out.below hB) k hlt).1
      have q1 := W.rowOf_bd n k
      have HD := Lib.hid hd; clear hd
      have hb15 : decide ((k : Int) < 16) = true := by simp; omega
      go_wp2
      go_loopw [3, 7] (fun d x wq => ∃ r : Nat, r ≤ 8 ∧ x = .int .i64 ((128 / 2 ^ r : Nat) : Int) ∧ Digs wq d (bl n (8 * k + r)) ∧ Below w1.heap.size w1 wq) (fun _ x _ => (intOf x).toNat)
      case atStart => exact ⟨0, by omega, rfl, HD.out, hB⟩
      case round =>
        clear hB c0
        obtain ⟨r, hr, rfl, hd, hB⟩ := hrel
        by_cases hr8 : r < 8
        · have hp := half_pos r hr8
          have HB := Lib.hid (byte_bit n k r hlt hr8)
          have HRW : Hid (rowOf n k = ((dig n (15 - k) : Nat) : Int)) := rfl
          have HH := Lib.hid (half_step r)
          have HL := Lib.hid (bl_len n (8 * k + r))
          have HA := Lib.hid (bl_all n (8 * k + r))
          have HE : Hid (bl n (8 * k + (r + 1)) = tw (bl n (8 * k + r)) (bit n (127 - (8 * k + r)))) := rfl
          have HBL := Lib.hid (bit_le n (127 - (8 * k + r)))
          have HD := Lib.hid hd; clear hd
          rw [HRW.out] at q1 ⊢
          generalize dig n (15 - k) = y at *
          generalize 128 / 2 ^ r = z at *
          go_wp2_with fail
          rw [qbit y z (by omega), HB.out]
          refine (twice_any _ _ _ _ HD.out HBL.out HA.out (by have := HL.out; omega)).mono ?_
          rintro e w2 ⟨v, rfl, hown, hb2⟩
          have HD2 := Lib.hid (Digs.own hown); clear hown
          have hB2 := btr hB hb2
          clear hb2
          go_wp2
          go_roundw
          case rel => exact ⟨r + 1, by omega, by rw [HH.out]; go_num, by rw [HE.out]; exact HD2.out, hB2⟩
          case measure => simp [intOf]; omega
        · obtain rfl : r = 8 := by omega
          have HD := Lib.hid hd; clear hd
          rw [half_end]
          go_wp2
          go_roundw
          case rel => exact ⟨k + 1, by omega, by go_num, HD.out, hB⟩
          case measure => simp [intOf]; omega
    · obtain rfl : k = 16 := by omega
      have hl := bl_len n 128
      have HZ := Lib.hid (bl_nz n 128)
      have HA := Lib.hid (bl_all n 128)
      have HW := Lib.hid (bl_end n HN.out)
      have hd' : Digs wr u3 (bl n 128) := hd
      clear hd
      generalize bl n 128 = l at *
      obtain ⟨A, c, rfl, hcell⟩ := hd'
      by_cases hnil : l = []
      · subst hnil
        have HT := Lib.hid (show str (txL n) = ⟨#[48]⟩ by rw [← HW.out]; show str (txL 0) = _; unfold W.txL; rfl)
        clear hcell
        go_wp2
        go_ret
        exact ⟨by rw [HT.out]; rfl, btr hB1 hB⟩
      · obtain ⟨g, rfl, hc⟩ := hcell hnil
        clear hcell
        have HC := Lib.hid hc; clear hc
        have HT := Lib.hid (W.hiT_txL l n HA.out HZ.out hnil HW.out)
        have HL := Lib.hid hnil
        have hpos : 0 < l.length := List.length_pos_iff.2 hnil
        have hne : ((l.length : Int) == 0) = false := beq_eq_false_iff_ne.2 (by omega)
        have HDD : Hid (∀ k (h : k < l.length), l[k] < 10) := fun k h => by
          have := (List.all_eq_true.1 HA.out) l[k] (List.getElem_mem h)
          simpa using this
        clear hnil
        go_wp2
        go_loopw [9, 10] (fun t i wq => ∃ k : Nat, k ≤ l.length ∧ i = .int .i64 ((k : Int) - 1) ∧ t = .string (str (hiT (l.drop k))) ∧ Below w1.heap.size w1 wq ∧ Below wr.heap.size wr wq) (fun _ i _ => (intOf i + 1).toNat)
        case atStart => exact ⟨l.length, Nat.le_refl _, rfl, by rw [List.drop_length]; rfl, hB, Below.refl _ _⟩
        case round =>
          clear hB
          obtain ⟨k, hk, rfl, rfl, hB, hBr⟩ := hrel
          by_cases hk0 : 0 < k
          · obtain ⟨j, rfl⟩ : ∃ j, k = j + 1 := ⟨k - 1, by omega⟩
            have hj : j < l.length := by omega
            have c0 := kept (HC.out j hj) hBr
            have q1 := HDD.out j hj
            have HS := Lib.hid (hiT_step l j hj)
            have HLT := Lib.hid (hiT_len (l.drop (j + 1)) l.length (by simp))
            have ej : ((j + 1 : Nat) : Int) - 1 = (j : Int) := by omega
            rw [ej]
            clear ej
            generalize l[j] = x at *
            generalize hiT (l.drop (j + 1)) = t at *
            have hrun := run_digit x q1
            have hadd := run_str_add t [ch x] (by have := HLT.out; simp; omega)
            have hw1 : IntKind.i64.wrap ((x : Int) + 1) = (x : Int) + 1 := IntWalk.i64_in _ (by omega)
            go_wp2
            go_quiet (fail)
            go_wp2
            go_roundw
            case rel => exact ⟨j, by omega, by go_num, by rw [HS.out], bdn hB _, bdn hBr _⟩
            case measure => simp [intOf]
          · obtain rfl : k = 0 := by omega
            go_wp2
            go_ret
            exact ⟨by rw [← HT.out]; rfl, btr hB1 hB⟩
end Go.Proofs.Ytehcmgaonpfafaa
