/- Bytes of wide numbers: the contracts of wide.Bytes, wide.word and wide.Read. -/
import Derived.Test.YtfofhnaomlcioaaSmall
import Derived.Laws.BytesArg
import Derived.StillTailTactics
namespace Go.Proofs.Ytfofhnaomlcioaa
open Go.RowKit
open W (hi lo addN addB subN subB cmpN dig MM rowOf byTo val)

/-- A row of sixteen bytes of the call's own. -/
def Row8 (w : World) (b : Nat) (f : Nat → Int) : Prop := ∀ j, j < 16 → w.cell? ⟨b, j, none⟩ = some (.int .u8 (f j)) ∧ w.frozen? ⟨b, j, none⟩ = false
theorem Row8.congr {w : World} {b : Nat} {f g : Nat → Int} (h : Row8 w b f) (hg : ∀ j, j < 16 → f j = g j) : Row8 w b g := fun j hj => by rw [← hg j hj]; exact h j hj
theorem Row8.set {w : World} {b : Nat} {f : Nat → Int} (h : Row8 w b f) (p : Nat) (v : Int) : Row8 (w.setCell ⟨b, p, none⟩ (.int .u8 v)) b (fun j => if j = p then v else f j) := fun j hj => by
  refine ⟨?_, fzs (h j hj).2⟩
  by_cases e : j = p
  · subst e
    simp only [if_true]
    exact World.cell?_setCell_same _ _ _ (h j hj).1
  · simp only [e, if_false]
    rw [World.cell?_setCell_other _ _ _ _ (by intro h; cases h; exact e rfl)]
    exact (h j hj).1
theorem Row8.below {w w1 : World} {b : Nat} {f : Nat → Int} (h : Row8 w b f) (hb : Below w.heap.size w w1) : Row8 w1 b f := fun j hj => ⟨kept (h j hj).1 hb, keptf (h j hj).1 (h j hj).2 hb⟩
/-- Sixteen bytes 0, behind a name. -/
def nought8 : Array Value := Array.replicate 16 (.int .u8 0)
theorem Row8.made (w : World) : Row8 (w.alloc (.cells nought8 5)) w.heap.size (fun _ => 0) := fun j hj => by
  refine ⟨?_, ?_⟩
  · rw [World.cell?_alloc_at _ _ _ _ rfl]
    have : j = 0 ∨ j = 1 ∨ j = 2 ∨ j = 3 ∨ j = 4 ∨ j = 5 ∨ j = 6 ∨ j = 7 ∨ j = 8 ∨ j = 9 ∨ j = 10 ∨ j = 11 ∨ j = 12 ∨ j = 13 ∨ j = 14 ∨ j = 15 := by omega
    rcases this with rfl | rfl | rfl | rfl | rfl | rfl | rfl | rfl | rfl | rfl | rfl | rfl | rfl | rfl | rfl | rfl <;> rfl
  · simp
theorem run_make8 (w : World) : (Instr.makeSlice 22 (.int .i64 16) (.int .i64 16)).run Try.prog w = .ok (.slice (some ⟨w.heap.size, 0, none⟩) 16 16) (w.alloc (.cells nought8 5)) := by kernel_rfl

def BytesPost (n : Nat) (w : World) (e : Ending) (w' : World) : Prop :=
  e = .returned (.slice (some ⟨w.heap.size + 1, 0, none⟩) 16 16) ∧ Row8 w' (w.heap.size + 1) (rowOf n) ∧ Below w.heap.size w w'

set_option maxHeartbeats 800000 in
theorem bytes_any (n : Nat) (hn : n < MM) (w : World) : Calls Try.prog 33 #[.agg #[.int .u64 (hi n : Nat), .int .u64 (lo n : Nat)]] w (BytesPost n w) := by
  have hmk := run_make8
  have b1 := W.hi_le n hn
  have b2 := W.lo_le n
  go_enter Try.func33, Try.ntmps33
  go_wp2
  go_loopw [7] (fun i wr => ∃ k : Nat, k ≤ 8 ∧ i = .int .i64 (k : Int) ∧ Row8 wr (w.heap.size + 1) (byTo n k) ∧ wr.cell? ⟨w.heap.size, 0, none⟩ = some (.int .u64 (hi n : Nat)) ∧ wr.cell? ⟨w.heap.size, 1, none⟩ = some (.int .u64 (lo n : Nat)) ∧ Below w.heap.size w wr)
    (fun i _ => 8 - (intOf i).toNat)
  case atStart =>
    refine ⟨0, by omega, rfl, ?_, by simp [go_sem], by simp [go_sem], by repeat (first | exact Below.refl _ _ | apply bal)⟩
    have h := Row8.made (w.alloc (.cells #[.int .u64 (hi n : Nat), .int .u64 (lo n : Nat)] 35))
    simp only [World.size_alloc] at h
    exact h.congr fun j _ => W.byTo_zero n j
  case round =>
    obtain ⟨k, hk, rfl, hrow, a0, a1, hB⟩ := hrel
    by_cases hlt : k < 8
    · have c1 := (hrow k (by omega)).1
      have f1 := (hrow k (by omega)).2
      have c2 := (hrow (8 + k) (by omega)).1
      have f2 := (hrow (8 + k) (by omega)).2
      have HR := Lib.hid hrow; clear hrow
      go_wp2
      go_roundw
      case rel =>
        have hz : w.heap.size + 1 ≠ w.heap.size := by omega
        rw [W.hi_shift n k hlt, W.lo_shift n k hlt]
        refine ⟨k + 1, by omega, by go_num, ?_, cfar hz (cfar hz a0), cfar hz (cfar hz a1), (hB.setCell (by simp) _).setCell (by simp) _⟩
        exact ((HR.out.set k (rowOf n k)).set (8 + k) (rowOf n (8 + k))).congr fun j _ => W.byTo_step n k j hlt
      case measure => simp [intOf]; omega
    · have hk8 : k = 8 := by omega
      subst hk8
      have HR := Lib.hid (hrow.congr (W.byTo_all n)); clear hrow
      go_wp2
      go_ret
      exact ⟨rfl, HR.out, hB⟩

/-- Bytes at an address. -/
def Bts (w : World) (b off : Nat) (f : Nat → Nat) (n : Nat) : Prop := ∀ j, j < n → w.cell? ⟨b, off + j, none⟩ = some (.int .u8 ((f j : Nat) : Int))
theorem Bts.below {w w1 : World} {b off n : Nat} {f : Nat → Nat} (h : Bts w b off f n) (hb : Below w.heap.size w w1) : Bts w1 b off f n := fun j hj => kept (h j hj) hb

theorem or_low (t x : Nat) (ht : t ≤ 72057594037927935) (hx : x < 256) : bits .or .u64 ((t : Int) * 256) (x : Int) = ((t * 256 + x : Nat) : Int) := by
  have h := u64_or_nat (t * 256) x (by omega) (by omega)
  have e : t * 256 ||| x = t * 256 + x := by
    have := Nat.two_pow_add_eq_or_of_lt (i := 8) (b := x) (by simpa using hx) t
    rw [Nat.mul_comm t 256]
    exact this.symm
  rw [e] at h
  rw [← h]
  congr 1
theorem val_small (f : Nat → Nat) (hf : ∀ j, f j < 256) (k : Nat) (hk : k < 8) : val f k ≤ 72057594037927935 := by
  have h := W.val_lt f hf k
  have h2 : 256 ^ k ≤ 256 ^ 7 := Nat.pow_le_pow_right (by omega) (by omega)
  have h3 : (256 : Nat) ^ 7 = 72057594037927936 := by decide
  omega

set_option maxHeartbeats 800000 in
theorem word_any (b off c : Nat) (f : Nat → Nat) (hf : ∀ j, f j < 256) (w : World) (hw : Bts w b off f 8) :
    Calls Try.prog 39 #[.slice (some ⟨b, off, none⟩) 8 c] w fun e w' => e = .returned (.int .u64 ((val f 8 : Nat) : Int)) ∧ w = w' := by
  have HF := Lib.hid hf; clear hf
  go_enter Try.func39, Try.ntmps39
  go_wp2
  go_loop [3, 8] (fun t i => ∃ k : Nat, k ≤ 8 ∧ i = .int .i64 (k : Int) ∧ t = .int .u64 ((val f k : Nat) : Int)) (fun _ i => 8 - (intOf i).toNat)
  case atStart => exact ⟨0, by omega, rfl, rfl⟩
  case round =>
    obtain ⟨k, hk, rfl, rfl⟩ := hrel
    by_cases hlt : k < 8
    · have c0 := hw k hlt
      have hb1 := HF.out k
      have hb2 := val_small f HF.out k hlt
      have HE : Hid (val f (k + 1) = val f k * 256 + f k) := rfl
      have HW := Lib.hid hw; clear hw
      generalize val f k = t at *
      generalize f k = x at *
      go_wp2
      go_round
      case rel => exact ⟨k + 1, by omega, by go_num, by rw [or_low t x hb2 hb1, HE.out]⟩
      case measure => simp [intOf]; omega
    · have hk8 : k = 8 := by omega
      subst hk8
      go_wp2
      go_ret
      exact ⟨rfl, rfl⟩

set_option maxHeartbeats 800000 in
theorem read_any (b off c : Nat) (f : Nat → Nat) (hc : 16 ≤ c) (hf : ∀ j, f j < 256) (w : World) (hw : Bts w b off f 16) :
    Calls Try.prog 32 #[.slice (some ⟨b, off, none⟩) 16 c] w fun e w' =>
      e = .returned (.tuple #[.agg #[.int .u64 (hi (val f 16) : Nat), .int .u64 (lo (val f 16) : Nat)], .bool true]) ∧ Below w.heap.size w w' := by
  have HA := Lib.hid (fun (u : World) (hb : Below w.heap.size w u) => word_any b off c f hf u (fun j hj => kept (hw j (by omega)) hb))
  have HC := Lib.hid (fun (u : World) (hb : Below w.heap.size w u) => word_any b (off + 8) (c - 8) (fun j => f (8 + j)) (fun j => hf (8 + j)) u (fun j hj => by
    have h := kept (hw (8 + j) (by omega)) hb
    rwa [← Nat.add_assoc] at h))
  have E1 := Lib.hid (W.val_hi f hf)
  have E2 := Lib.hid (W.val_lo f hf)
  have h8 : (8 : Int) ≤ (c : Int) := by omega
  have h16 : (16 : Int) ≤ (c : Int) := by omega
  have hn8 : ¬ c = 8 := by omega
  clear hf hw
  go_enter Try.func32, Try.ntmps32
  go_wp2
  have n0 : (w.alloc (.cells #[.int .u64 0, .int .u64 0] 35)).cell? ⟨w.heap.size, 0, none⟩ = some (.int .u64 0) := by simp [go_sem]
  have n1 : (w.alloc (.cells #[.int .u64 0, .int .u64 0] 35)).cell? ⟨w.heap.size, 1, none⟩ = some (.int .u64 0) := by simp [go_sem]
  have m0 : (w.alloc (.cells #[.int .u64 0, .int .u64 0] 35)).frozen? ⟨w.heap.size, 0, none⟩ = false := by simp [go_sem]
  have m1 : (w.alloc (.cells #[.int .u64 0, .int .u64 0] 35)).frozen? ⟨w.heap.size, 1, none⟩ = false := by simp [go_sem]
  have hB : Below w.heap.size w (w.alloc (.cells #[.int .u64 0, .int .u64 0] 35)) := alb _
  generalize w.alloc (.cells #[.int .u64 0, .int .u64 0] 35) = u at *
  go_region_held3 (fun w' => Below w.heap.size w w')
    (first | exact hB.drew | assumption | exact ((hB.setCell (Nat.le_refl _) _).setCell (Nat.le_refl _) _).drew)
    (first
      | (go_at_call 39; ((with_reducible refine (HA.out _ ?_).mono ?_)); (first | exact hB.drew | assumption); rintro e w1 ⟨rfl, rfl⟩)
      | (go_at_call 39; ((with_reducible refine (HC.out _ ?_).mono ?_)); (first | exact hB.drew | assumption); rintro e w1 ⟨rfl, rfl⟩))
  go_wp2
  exact bodyPost_ret (v := .tuple #[.agg #[.int .u64 ((val f 8 : Nat) : Int), .int .u64 ((val (fun j => f (8 + j)) 8 : Nat) : Int)], .bool true]) (by simp [results, Try.results32, go_sem, n0, n1]) rfl ⟨by rw [E1.out, E2.out], by assumption⟩

theorem read_no (A : Option Addr) (n c : Nat) (hn : n ≠ 16) (w : World) :
    Calls Try.prog 32 #[.slice A n c] w fun e w' => e = .returned (.tuple #[.agg #[.int .u64 0, .int .u64 0], .bool false]) ∧ Below w.heap.size w w' := by
  have hne : ((n : Int) != 16) = true := by rw [bne_iff_ne]; omega
  clear hn
  go_enter Try.func32, Try.ntmps32
  go_wp2
  exact bodyPost_ret (v := .tuple #[.agg #[.int .u64 0, .int .u64 0], .bool false]) (by simp [results, Try.results32, go_sem]) rfl ⟨rfl, by
    repeat (first | exact Below.refl _ _ | apply bal)⟩
end Go.Proofs.Ytfofhnaomlcioaa
