/- The library's sort at uint32: the next number of a row that mixes; the length of a number in bits. -/
import Derived.Test.YtmjjkoiepoblmaaSg
import Derived.Laws.Bits64b
import Derived.Laws.MathBits
import Derived.Lib.BitFns
import Derived.Lib.Walk
import Derived.Lib.Small
namespace Go.Proofs.Ytmjjkoiepoblmaa
open Go.RowKit Go.Sort

/-- A number of 64 bits at block s has gone on; nothing else has. -/
structure Xs (s : Nat) (w w' : World) : Prop where
  keep : Keep (fun k => k = s) w w'
  cell : ∃ z : Nat, z < 18446744073709551616 ∧ w'.cell? ⟨s, 0, none⟩ = some (.int .u64 (z : Int))
  fz : w'.frozen? ⟨s, 0, none⟩ = false
theorem Xs.here {s : Nat} {w w' : World} (h : Xs s w w') : Xs s w' w' := ⟨Keep.refl _ _, h.cell, h.fz⟩
theorem Xs.trans {s : Nat} {a c e : World} (h : Xs s a c) (k : Xs s c e) : Xs s a e := ⟨h.keep.trans k.keep (fun _ q => .inl q), k.cell, k.fz⟩
theorem Xs.drew {s : Nat} {a c : World} (h : Xs s a c) : Xs s a c.drew := ⟨h.keep.drew, h.cell, h.fz⟩
theorem Xs.set {s : Nat} {a c : World} (h : Xs s a c) (z : Nat) (hz : z < 18446744073709551616) : Xs s a (c.setCell ⟨s, 0, none⟩ (.int .u64 (z : Int))) :=
  ⟨h.keep.setCell (.inl rfl) _, ⟨z, hz, World.cell?_setCell_same _ _ _ h.cell.choose_spec.2⟩, by rw [World.frozen?_setCell]; exact h.fz⟩
theorem bits_some (op : BinOp) (x y : Int) : ∃ z : Nat, z < 18446744073709551616 ∧ bits op .u64 x y = (z : Int) := by
  have h : ∀ t : Int, ∃ z : Nat, z < 18446744073709551616 ∧ IntKind.u64.wrap t = (z : Int) := fun t => ⟨(t % 18446744073709551616).toNat, by omega, by rw [IntKind.wrap_u64]; omega⟩
  unfold bits
  exact h _

set_option maxHeartbeats 1600000 in
set_option maxRecDepth 1000000 in
theorem xor_any (s : Nat) (w : World) (h : Xs s w w) :
    Calls Try.prog 42 #[.pointer (some ⟨s, 0, none⟩)] w fun e w' => ∃ z : Nat, z < 18446744073709551616 ∧ e = .returned (.int .u64 (z : Int)) ∧ Xs s w w' := by
  obtain ⟨z, hz, c0⟩ := h.cell
  have f0 := h.fz
  have A := Lib.hid h
  clear h
  go_enter Try.func42, Try.ntmps42
  go_wp2_with fail
  go_region
  obtain ⟨z1, b1, e1⟩ := bits_some .xor (z : Int) (IntKind.u64.wrap ((z : Int) * 8192))
  rw [e1]
  obtain ⟨w1, hw1⟩ : ∃ w1, w1 = (w.setCell ⟨s, 0, none⟩ (.int .u64 (z1 : Int))).drew := ⟨_, rfl⟩
  rw [← hw1]
  have A1 := (A.out.set z1 b1).drew
  rw [← hw1] at A1
  have c1 : w1.cell? ⟨s, 0, none⟩ = some (.int .u64 (z1 : Int)) := by rw [hw1]; exact World.cell?_setCell_same _ _ _ c0
  have f1 := A1.fz
  have H1 := Lib.hid A1
  clear A1 hw1 e1 A c0 f0
  go_wp2_with fail
  go_region
  obtain ⟨z2, b2, e2⟩ := bits_some .xor (z1 : Int) ((z1 : Int) / 128)
  rw [e2]
  obtain ⟨w2, hw2⟩ : ∃ w2, w2 = (w1.setCell ⟨s, 0, none⟩ (.int .u64 (z2 : Int))).drew := ⟨_, rfl⟩
  rw [← hw2]
  have A2 := (H1.out.set z2 b2).drew
  rw [← hw2] at A2
  have c2 : w2.cell? ⟨s, 0, none⟩ = some (.int .u64 (z2 : Int)) := by rw [hw2]; exact World.cell?_setCell_same _ _ _ c1
  have f2 := A2.fz
  have H2 := Lib.hid A2
  clear A2 hw2 e2 H1 c1 f1
  go_wp2_with fail
  go_region
  obtain ⟨z3, b3, e3⟩ := bits_some .xor (z2 : Int) (IntKind.u64.wrap ((z2 : Int) * 131072))
  rw [e3]
  obtain ⟨w3, hw3⟩ : ∃ w3, w3 = (w2.setCell ⟨s, 0, none⟩ (.int .u64 (z3 : Int))).drew := ⟨_, rfl⟩
  rw [← hw3]
  have A3 := (H2.out.set z3 b3).drew
  rw [← hw3] at A3
  have c3 : w3.cell? ⟨s, 0, none⟩ = some (.int .u64 (z3 : Int)) := by rw [hw3]; exact World.cell?_setCell_same _ _ _ c2
  have f3 := A3.fz
  have H3 := Lib.hid A3
  clear A3 hw3 e3 H2 c2 f2
  go_wp2
  go_ret
  exact ⟨z3, b3, rfl, H3.out⟩

set_option maxHeartbeats 1600000 in
set_option maxRecDepth 100000 in
theorem len64_any (n : Nat) (hn : n < 65536) (w : World) : Calls Try.prog 39 #[.int .u64 (n : Int)] w fun e w' => e = .returned (.int .i64 ((Lib.bitLen n : Nat) : Int)) ∧ w = w' := by
  have hz1 : ¬ (4294967296 ≤ (n : Int)) := by omega
  have hz2 : ¬ (65536 ≤ (n : Int)) := by omega
  obtain ⟨R, hR⟩ : ∃ R, R = Lib.bitLen n := ⟨_, rfl⟩
  rw [← hR]
  go_enter Try.func39, Try.ntmps39
  generalize ht : (ByteArray.mk (List.toArray _)) = tb
  have hx : ∀ i : Nat, i ≤ 255 → ∀ w, (Instr.index 9 (.string tb) (.int .u8 (i : Int))).run Try.prog w = .ok (.int .u8 ((Lib.bitLen i : Nat) : Int)) w := fun i h1 w => by
    obtain rfl : tb = Lib.len8tab := by rw [← ht]; rfl
    rw [Lib.run_index_len8tab w _ _ _ rfl (by omega) (by omega), Lib.len8_of _ (by omega) (by omega)]
    rfl
  clear ht
  by_cases h8 : 256 ≤ n
  · have h8z : 256 ≤ (n : Int) := by omega
    have l := Lib.bitLen_le8' ((n / 256 : Nat) : Int) (by omega) (by omega)
    have s := Lib.bitLen_shift8 n (by omega) (by omega)
    rw [Int.toNat_natCast] at l
    have hx1 := hx (n / 256) (by omega)
    clear hx
    generalize Lib.bitLen (n / 256) = L at l s hx1
    have e : R = 8 + L := by omega
    have E := Lib.hid e
    have q : (n : Int) / 256 = ((n / 256 : Nat) : Int) := by omega
    have q2 : n / 256 ≤ 255 := by omega
    generalize n / 256 = m at q q2 hx1
    clear s hR e hn
    go_wp2
    go_ret
    rw [E.out]
    exact ⟨rfl, rfl⟩
  · have h8z : ¬ 256 ≤ (n : Int) := by omega
    have q2 : n ≤ 255 := by omega
    have l := Lib.bitLen_le8' (n : Int) (by omega) (by omega)
    rw [Int.toNat_natCast] at l
    have hx1 := hx n (by omega)
    clear hx
    rw [← hR] at l hx1
    clear hR hn
    go_wp2
    go_ret
    exact ⟨rfl, rfl⟩
end Go.Proofs.Ytmjjkoiepoblmaa
