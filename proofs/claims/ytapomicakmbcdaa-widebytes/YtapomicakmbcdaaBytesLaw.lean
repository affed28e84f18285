/- The walk of the law WideBytes. -/
import Derived.Test.YtapomicakmbcdaaTexts
import Derived.Deep.DeepCutAuto
namespace Go.Proofs.Ytapomicakmbcdaa
open Go.RowKit
open W (hi lo addN addB subN subB cmpN dig MM rowOf val rowsTo)

theorem conv_row {w : World} {b n : Nat} (h : Row8 w b (rowOf n)) : (convert 37 9 (.slice (some ⟨b, 0, none⟩) 16 16)).run Try.prog w = .ok (.string (txt n)) w :=
  run_convert_bytes_arg (P := Try.prog) w 37 5 Try.underlying37 Try.underlying5 b 0 16 16 (rowsTo n 16) (W.rowsTo_length n 16) (fun i hi => by
    rw [Nat.zero_add, W.rowsTo_get n 16 i hi]; exact (h i hi).1) 9 Try.underlying9
theorem read_back {w : World} {b n : Nat} (hn : n < MM) (h : Row8 w b (rowOf n)) :
    Calls Try.prog 23 #[.slice (some ⟨b, 0, none⟩) 16 16] w fun e w' => e = .returned (.tuple #[.agg #[.int .u64 (hi n : Nat), .int .u64 (lo n : Nat)], .bool true]) ∧ Below w.heap.size w w' := by
  have := read_any b 0 16 (fun j => dig n (15 - j)) (Nat.le_refl _) (fun j => W.dig_lt _ _) w (fun j hj => by rw [Nat.zero_add]; exact (h j hj).1)
  rw [W.val_of n hn] at this
  exact this

set_option maxHeartbeats 1600000 in
theorem bytes_core (a b : Nat) (ha : a < MM) (hb : b < MM) (A : Option Addr) (n c d : Nat) (ok : Bool) (S : ByteArray) (hn : n ≤ 100) (w : World)
    (HV : Hid (∀ W, Below w.heap.size w W → (convert 37 9 (.slice A n c)).run Try.prog W = .ok (.string S) W))
    (HRd : Hid (∀ W, Below w.heap.size w W → Calls Try.prog 23 #[.slice A n c] W fun e w' => e = .returned (.tuple #[.agg #[.int .u64 (hi d : Nat), .int .u64 (lo d : Nat)], .bool ok]) ∧ Below W.heap.size W w'))
    (HRf : Hid (∀ W, Calls Try.prog 24 #[.string S] W fun e w' => e = .returned (.tuple #[.agg #[.int .u64 (hi d : Nat), .int .u64 (lo d : Nat)], .bool ok]) ∧ Below W.heap.size W w')) :
    Calls Try.prog 7 #[.agg #[.int .u64 (hi a : Nat), .int .u64 (lo a : Nat)], .agg #[.int .u64 (hi b : Nat), .int .u64 (lo b : Nat)], .slice A n c] w fun e w' => e = .returned (.bool true) ∧ Below w.heap.size w w' := by
  have hl := txt_less a b ha hb
  have hs := txt_same a b ha hb
  have hh := halves_same a b
  have hc := cmp_neg a b
  have HL := Lib.hid hl; clear hl
  have HS := Lib.hid hs; clear hs
  have HH := Lib.hid hh; clear hh
  have HC := Lib.hid hc; clear hc
  have HA := Lib.hid ha; clear ha
  have HB := Lib.hid hb; clear hb
  go_enter Try.func7, Try.ntmps7
  go_upto_region 3 with fail
  have a0 : ((w.alloc (.cells #[.int .u64 (hi a : Nat), .int .u64 (lo a : Nat)] 24)).alloc (.cells #[.int .u64 (hi b : Nat), .int .u64 (lo b : Nat)] 24)).cell? ⟨w.heap.size, 0, none⟩ = some (.int .u64 (hi a : Nat)) := by simp [go_sem]
  have a1 : ((w.alloc (.cells #[.int .u64 (hi a : Nat), .int .u64 (lo a : Nat)] 24)).alloc (.cells #[.int .u64 (hi b : Nat), .int .u64 (lo b : Nat)] 24)).cell? ⟨w.heap.size, 1, none⟩ = some (.int .u64 (lo a : Nat)) := by simp [go_sem]
  have b0 : ((w.alloc (.cells #[.int .u64 (hi a : Nat), .int .u64 (lo a : Nat)] 24)).alloc (.cells #[.int .u64 (hi b : Nat), .int .u64 (lo b : Nat)] 24)).cell? ⟨w.heap.size + 1, 0, none⟩ = some (.int .u64 (hi b : Nat)) := by simp [go_sem]
  have b1 : ((w.alloc (.cells #[.int .u64 (hi a : Nat), .int .u64 (lo a : Nat)] 24)).alloc (.cells #[.int .u64 (hi b : Nat), .int .u64 (lo b : Nat)] 24)).cell? ⟨w.heap.size + 1, 1, none⟩ = some (.int .u64 (lo b : Nat)) := by simp [go_sem]
  have hB : Below w.heap.size w ((w.alloc (.cells #[.int .u64 (hi a : Nat), .int .u64 (lo a : Nat)] 24)).alloc (.cells #[.int .u64 (hi b : Nat), .int .u64 (lo b : Nat)] 24)) := bal (alb _) _
  generalize (w.alloc (.cells #[.int .u64 (hi a : Nat), .int .u64 (lo a : Nat)] 24)).alloc (.cells #[.int .u64 (hi b : Nat), .int .u64 (lo b : Nat)] 24) = u at *
  go_cut [7, 8] (fun x y wc => x = .string (txt a) ∧ y = .string (txt b) ∧ wc.cell? ⟨w.heap.size, 0, none⟩ = some (.int .u64 (hi a : Nat)) ∧ wc.cell? ⟨w.heap.size, 1, none⟩ = some (.int .u64 (lo a : Nat)) ∧ wc.cell? ⟨w.heap.size + 1, 0, none⟩ = some (.int .u64 (hi b : Nat)) ∧ wc.cell? ⟨w.heap.size + 1, 1, none⟩ = some (.int .u64 (lo b : Nat)) ∧ Below w.heap.size w wc)
  case first =>
    go_region_with (first
      | (go_at_call 22; ((with_reducible refine (bytes_any a HA.out _).mono ?_)); rintro e w1 ⟨rfl, r1, h1⟩; have cv1 := conv_row (b := u.heap.size + 1) r1; have y0 := kept (v := u.drew) b0 h1; have y1 := kept (v := u.drew) b1 h1)
      | (go_at_call 22; ((with_reducible refine (bytes_any b HB.out _).mono ?_)); rintro e w2 ⟨rfl, r2, h2⟩; have cv2 := conv_row r2; have cv3 := conv_row (b := u.heap.size + 1) (r1.below h2)))
    all_goals (go_wp2_with fail; go_meet; exact ⟨rfl, rfl, kept (kept (v := u.drew) a0 h1) h2, kept (kept (v := u.drew) a1 h1) h2, kept (kept (v := u.drew) b0 h1) h2, kept (kept (v := u.drew) b1 h1) h2, btr (btr hB.drew h1) h2⟩)
  case rest =>
    clear a0 a1 b0 b1 hB
    obtain ⟨rfl, rfl, a0, a1, b0, b1, hB⟩ := hcut
    go_wp2_with fail
    refine (bytes_any a HA.out _).mono ?_
    rintro e w3 ⟨rfl, r3, h3⟩
    go_wp2_with fail
    refine (read_back HA.out r3).mono ?_
    rintro e w4 ⟨rfl, h4⟩
    have hA := btr h3 h4
    replace a0 := kept a0 hA
    replace a1 := kept a1 hA
    replace b0 := kept b0 hA
    replace b1 := kept b1 hA
    replace hB := btr hB hA
    clear hA h3 h4 r3
    go_wp2_with fail
    refine (HRd.out _ (bal hB _)).mono ?_
    rintro e w5 ⟨rfl, h5⟩
    replace a0 := kept (alc a0 _) h5
    replace a1 := kept (alc a1 _) h5
    replace b0 := kept (alc b0 _) h5
    replace b1 := kept (alc b1 _) h5
    have c0 := kept (p := ⟨w4.heap.size, 0, none⟩) (x := .int .u64 (hi a : Nat)) (by simp [go_sem]) h5
    have c1 := kept (p := ⟨w4.heap.size, 1, none⟩) (x := .int .u64 (lo a : Nat)) (by simp [go_sem]) h5
    replace hB := btr (bal hB _) h5
    clear h5
    have hcv := fun o => HV.out (w5.alloc o) (bal hB o)
    go_wp2_with fail
    refine (HRf.out _).mono ?_
    rintro e w6 ⟨rfl, h6⟩
    replace a0 := kept (alc a0 _) h6
    replace a1 := kept (alc a1 _) h6
    replace b0 := kept (alc b0 _) h6
    replace b1 := kept (alc b1 _) h6
    replace c0 := kept (alc c0 _) h6
    replace c1 := kept (alc c1 _) h6
    have d0 := kept (p := ⟨w5.heap.size, 0, none⟩) (x := .int .u64 (hi d : Nat)) (by simp [go_sem]) h6
    have d1 := kept (p := ⟨w5.heap.size, 1, none⟩) (x := .int .u64 (lo d : Nat)) (by simp [go_sem]) h6
    replace hB := btr (bal hB _) h6
    clear h6 hcv
    go_wp2_with fail
    refine (fixed_any _).mono ?_
    rintro e w7 ⟨rfl, h7⟩
    replace a0 := kept (alc a0 _) h7
    replace a1 := kept (alc a1 _) h7
    replace b0 := kept (alc b0 _) h7
    replace b1 := kept (alc b1 _) h7
    replace c0 := kept (alc c0 _) h7
    replace c1 := kept (alc c1 _) h7
    replace d0 := kept (alc d0 _) h7
    replace d1 := kept (alc d1 _) h7
    have e0 := kept (p := ⟨w6.heap.size, 0, none⟩) (x := .int .u64 (hi d : Nat)) (by simp [go_sem]) h7
    have e1 := kept (p := ⟨w6.heap.size, 1, none⟩) (x := .int .u64 (lo d : Nat)) (by simp [go_sem]) h7
    replace hB := btr (bal hB _) h7
    clear h7
    go_wp2_with fail
    refine (refbytes_any a HA.out _).mono ?_
    rintro e w8 ⟨rfl, h8⟩
    replace a0 := kept a0 h8
    replace a1 := kept a1 h8
    replace b0 := kept b0 h8
    replace b1 := kept b1 h8
    replace c0 := kept c0 h8
    replace c1 := kept c1 h8
    replace d0 := kept d0 h8
    replace d1 := kept d1 h8
    replace e0 := kept e0 h8
    replace e1 := kept e1 h8
    replace hB := btr hB h8
    clear h8
    have hl := HL.out
    have hs := HS.out
    have hc := HC.out
    generalize decide (a < b) = lt at *
    have HE := HH
    generalize decide (a = b) = eq at *
    have HK := Lib.hid (cmp_any a b)
    generalize cmpN a b = cc at *
    go_wp2_with fail
    refine (HK.out _).mono ?_
    rintro e w9 ⟨rfl, h9⟩
    replace a0 := kept a0 h9
    replace a1 := kept a1 h9
    replace b0 := kept b0 h9
    replace b1 := kept b1 h9
    replace hB := btr hB h9
    clear h9
    have hh := HE.out
    clear HE HH HS HL HC
    cases hp : (((hi a : Nat) : Int) == ((hi b : Nat) : Int)) <;> cases hq : (((lo a : Nat) : Int) == ((lo b : Nat) : Int)) <;> rw [hp, hq] at hh <;> simp only [Bool.and_self, Bool.and_true, Bool.and_false] at hh <;> subst hh
    all_goals
      go_wp2
      go_ret
      exact ⟨rfl, hB⟩

theorem bytes_big (a b : Nat) (A : Option Addr) (n c : Nat) (hn : 100 < n) (w : World) :
    Calls Try.prog 7 #[.agg #[.int .u64 (hi a : Nat), .int .u64 (lo a : Nat)], .agg #[.int .u64 (hi b : Nat), .int .u64 (lo b : Nat)], .slice A n c] w fun e w' => e = .returned (.bool true) ∧ Below w.heap.size w w' := by
  go_enter Try.func7, Try.ntmps7
  go_wp2_with fail
  refine (fixed_any _).mono ?_
  rintro e w4 ⟨rfl, h4⟩
  go_wp2
  go_ret
  exact ⟨rfl, btr (bal (alb _) _) h4⟩

/-- A slice of bytes that came in. -/
def BtsO (w : World) (A : Option Addr) (f : Nat → Nat) (n : Nat) : Prop := (∀ j, f j < 256) ∧ (0 < n → ∃ b off, A = some ⟨b, off, none⟩ ∧ Bts w b off f n)
/-- The text of so many bytes. -/
def str (f : Nat → Nat) (n : Nat) : ByteArray := strOfNums ((List.range n).map fun j => ((f j : Nat) : Int))
theorem str_size (f : Nat → Nat) (n : Nat) : (str f n).size = n := by rw [str, strOfNums_size]; simp
theorem str_get (f : Nat → Nat) (hf : ∀ j, f j < 256) (n k : Nat) (h : k < (str f n).size) : ((str f n)[k]).toNat = f k := by
  have hk : k < n := by rw [str_size] at h; exact h
  have e : (str f n)[k] = (str f n).data.toList[k]'(by simpa using h) := by rfl
  rw [e]
  simp [str, strOfNums, Nat.mod_eq_of_lt (hf k)]

theorem bytes_walk (a b : Nat) (ha : a < MM) (hb : b < MM) (A : Option Addr) (n c : Nat) (f : Nat → Nat) (hnc : n ≤ c) (w : World) (hw : BtsO w A f n) :
    Calls Try.prog 7 #[.agg #[.int .u64 (hi a : Nat), .int .u64 (lo a : Nat)], .agg #[.int .u64 (hi b : Nat), .int .u64 (lo b : Nat)], .slice A n c] w fun e w' => e = .returned (.bool true) ∧ Below w.heap.size w w' := by
  by_cases hn : n ≤ 100
  · have HV : Hid (∀ W, Below w.heap.size w W → (convert 37 9 (.slice A n c)).run Try.prog W = .ok (.string (str f n)) W) := by
      intro W hB
      by_cases h0 : 0 < n
      · obtain ⟨bb, off, rfl, hc⟩ := hw.2 h0
        exact run_convert_bytes_arg (P := Try.prog) W 37 5 Try.underlying37 Try.underlying5 bb off n c _ (by simp) (fun i hi => by
          rw [kept (hc i hi) hB]
          simp [List.getD, hi]) 9 Try.underlying9
      · have e : n = 0 := by omega
        subst e
        rw [run_convert_bytes_string W 37 9 5 _ 0 c Try.underlying37 Try.underlying5 Try.underlying9]
        cases A <;> simp [Conv.bytesToString, loadCells]
        all_goals rfl
    by_cases h16 : n = 16
    · subst h16
      obtain ⟨bb, off, rfl, hc⟩ := hw.2 (by omega)
      exact bytes_core a b ha hb _ 16 c (val f 16) true (str f 16) hn w HV
        (fun W hB => read_any bb off c f hnc hw.1 W (fun j hj => kept (hc j hj) hB))
        (fun W => refread_any (str f 16) f (str_size f 16) (fun k h => str_get f hw.1 16 k h) hw.1 W)
    · exact bytes_core a b ha hb A n c 0 false (str f n) hn w HV (fun W _ => read_no A n c h16 W) (fun W => refread_no (str f n) (by rw [str_size]; exact h16) W)
  · exact bytes_big a b A n c (by omega) w
end Go.Proofs.Ytapomicakmbcdaa
