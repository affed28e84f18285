/- The statements' fixed example. -/
import Derived.Test.YtnnegglhndllfaaFi
namespace Go.Proofs.Ytnnegglhndllfaa
open Go.RowKit

theorem Nums.lit (w : World) (xs : List Int) (hl : xs.length ≤ 1000) : Nums (w.alloc (.cells (us xs).toArray 35)) (.slice (some ⟨w.heap.size, 0, none⟩) xs.length xs.length) xs :=
  Nums.own (base := 0) (by
    have := World.ownsRow_lit (base := 0) (e := 35) (size := 1) w (us xs).toArray xs.length (Nat.zero_le _) (by unfold maxLen; omega) (by simp [us_length])
    simpa using this)
/-- A body among others. -/
theorem Bods.at {W : World} {base : Nat} {v : Value} {bs : List (List UInt8)} (h : Bods W base v bs) (i : Nat) (hi : i < bs.length) :
    ∃ g cap vi, v = .slice (some ⟨g, 0, none⟩) bs.length cap ∧ W.cell? ⟨g, i, none⟩ = some vi ∧ Byts W vi bs[i] := by
  obtain ⟨vs, hr, hin⟩ := h
  obtain ⟨gi, e, _, hk⟩ := hin i hi
  rcases hr.2 with ⟨_, h0⟩ | ⟨g, cap, cur, rfl, _⟩
  · omega
  · refine ⟨g, cap, _, rfl, ?_, hk.byts⟩
    rw [hr.cellAt i (by omega), e]
theorem Bods.form {W : World} {base : Nat} {v : Value} {bs : List (List UInt8)} (h : Bods W base v bs) : ∃ A cap, v = .slice A bs.length cap := by
  obtain ⟨vs, hr, _⟩ := h
  rcases hr.2 with ⟨rfl, h0⟩ | ⟨g, cap, cur, rfl, _⟩
  · exact ⟨none, 0, by rw [h0]⟩
  · exact ⟨_, cap, rfl⟩
theorem Bods.below {W W' : World} {base : Nat} {v : Value} {bs : List (List UInt8)} (h : Bods W base v bs) (k : Below W.heap.size W W') : Bods W' base v bs := h.lets (Lets.below k)
theorem Strs.form {W : World} {base : Nat} {v : Value} {bs : List (List UInt8)} (h : Strs W base v bs) : ∃ A cap, v = .slice A bs.length cap := by
  rcases h.2 with ⟨rfl, h0⟩ | ⟨g, cap, cur, rfl, _⟩
  · exact ⟨none, 0, by rw [h0]⟩
  · exact ⟨_, cap, rfl⟩
theorem Strs.at {W : World} {base : Nat} {v : Value} {bs : List (List UInt8)} (h : Strs W base v bs) (i : Nat) (hi : i < bs.length) :
    ∃ g cap, v = .slice (some ⟨g, 0, none⟩) bs.length cap ∧ W.cell? ⟨g, i, none⟩ = some (.string (str bs[i])) := by
  have hr := h
  rcases h.2 with ⟨_, h0⟩ | ⟨g, cap, cur, rfl, _⟩
  · omega
  · refine ⟨g, cap, rfl, ?_⟩
    rw [World.ownsRow.cellAt (size := 1) hr i (by omega)]
    simp [svs, hi]

theorem fixed_list : L.bodiesE [2, 7] [9] = 0 ∧ L.bodiesL [2, 7] [9] = [[0, 0, 0, 0, 0, 2, 0, 0, 0, 2, 0, 0, 0, 7]] := by decide +kernel
set_option maxHeartbeats 400000 in
theorem fixed_any (w : World) : Calls Try.prog 7 #[] w fun e w' => e = .returned (.bool true) ∧ Below w.heap.size w w' := by
  have n1 := Nums.lit w [2, 7] (by simp)
  have n2 := Nums.lit (w.alloc (.cells (us [2, 7]).toArray 35)) [9] (by simp)
  have HBD := Lib.hid (bodies_any _ _ _ _ _ (n1.below (alb (.cells (us [9]).toArray 35))) n2 (fun x hx => by simp at hx; omega) (fun x hx => by simp at hx; omega) (by simp))
  rw [fixed_list.1, fixed_list.2] at HBD
  have HB : Hid (Below w.heap.size w ((w.alloc (.cells (us [2, 7]).toArray 35)).alloc (.cells (us [9]).toArray 35))) := bal (alb _) _
  have e1 : us [2, 7] = [.int .u32 2, .int .u32 7] := rfl
  have e2 : us [9] = [.int .u32 9] := rfl
  rw [e1, e2, World.size_alloc] at HBD
  rw [e1, e2] at HB
  rw [show ([2, 7] : List Int).length = 2 from rfl, show ([9] : List Int).length = 1 from rfl] at HBD
  clear n1 n2 e1 e2
  have HN1 := Lib.hid (fun W => need_any 1 (by omega) W)
  have HN2 := Lib.hid (fun W => need_any 124 (by omega) W)
  have HN3 := Lib.hid (fun W => need_any 125 (by omega) W)
  rw [show L.needZ 1 = 1 from rfl] at HN1
  rw [show L.needZ 124 = 1 from rfl] at HN2
  rw [show L.needZ 125 = 2 from rfl] at HN3
  go_enter Try.func7, Try.ntmps7
  go_wp2_with fail
  refine HBD.out.mono ?_
  rintro e w2 ⟨u, rfl, hb, hB⟩
  obtain ⟨g, cap, vi, rfl, c0, hby⟩ := hb.at 0 (by simp)
  have hcv := hby.conv
  have HB2 : Hid (Below w.heap.size w w2) := btr HB.out hB
  simp only [str, List.getElem_cons_zero] at hcv
  clear hb hB hby HBD HB
  go_wp2_with fail
  refine (HN1.out _).mono ?_
  rintro e w3 ⟨rfl, rfl⟩
  go_wp2_with fail
  refine (HN2.out _).mono ?_
  rintro e w3 ⟨rfl, rfl⟩
  go_wp2_with fail
  refine (HN3.out _).mono ?_
  rintro e w3 ⟨rfl, rfl⟩
  go_wp2
  go_ret
  exact ⟨rfl, HB2.out⟩
end Go.Proofs.Ytnnegglhndllfaa
