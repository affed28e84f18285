/- The document's own Open. -/
import Derived.Test.YtbffpgndjbpifaaDoorGr
import Derived.Laws.DeepStrings4
namespace Go.Proofs.YtbffpgndjbpifaaDoor
open Go.RowKit
open C (crc)

set_option maxHeartbeats 1600000 in
theorem refopen_core (n x m : Nat) (sl sA sR s6 sN sM sB sS : ByteArray) (a8 K : UInt8) (a9 a10 : Nat) (E : Int) (BB : ByteArray) (s1 s2 s3 : Bool) (w : World) (hs : sl.size = 512) (h9 : a9 < 256) (h10 : a10 < 256) (hm : (a9 : Int) * 256 + (a10 : Int) = (m : Int))
    (X1 : sl.extract 0 4 = sA) (X2 : sl.extract 4 512 = sR) (X3 : sl.extract 4 8 = sM) (X4 : Hid (m ≤ 500 → ∀ w : World, (Instr.slice 9 (.string sl) (some (.int .i64 12)) (some (.int .i64 (12 + (m : Int)))) none).run Tryd.prog w = .ok (.string sB) w))
    (I8 : sl[8].toNat = a8.toNat) (I9 : sl[9].toNat = a9) (I10 : sl[10].toNat = a10)
    (Q1 : (sA.toList == s6.toList) = s1) (Q2 : (sM.toList == sN.toList) = s2) (Q3 : (sS.toList == sl.toList) = s3)
    (HS : Hid (∀ w : World, Calls Tryd.prog 12 #[.string sR] w fun e w' => e = .returned (.int .u32 (x : Int)) ∧ Below w.heap.size w w'))
    (HX : Hid (∀ w : World, Calls Tryd.prog 11 #[.int .u32 (x : Int)] w fun e w' => e = .returned (.string s6) ∧ Below w.heap.size w w'))
    (HF : Hid (∀ w : World, Calls Tryd.prog 11 #[.int .u32 (n : Int)] w fun e w' => e = .returned (.string sN) ∧ Below w.heap.size w w'))
    (HP : Hid (m ≤ 500 → ∀ w : World, Calls Tryd.prog 20 #[.int .u32 (n : Int), .int .u8 ((a8.toNat : Nat) : Int), .string sB] w fun e w' => e = .returned (.tuple #[.string sS, .int .i64 0]) ∧ Below w.heap.size w w'))
    (HE1 : Hid (s1 = false → K = 0 ∧ BB = ⟨#[]⟩ ∧ E = 8)) (HE2 : Hid (s1 = true → s2 = false → K = 0 ∧ BB = ⟨#[]⟩ ∧ E = 4))
    (HE3 : Hid (s1 = true → s2 = true → (500 < m ∨ s3 = false) → K = 0 ∧ BB = ⟨#[]⟩ ∧ E = 2))
    (HE4 : Hid (s1 = true → s2 = true → m ≤ 500 → s3 = true → K = a8 ∧ BB = sB ∧ E = 0)) :
    Calls Tryd.prog 23 #[.int .u32 (n : Int), .string sl] w fun e w' => e = .returned (.tuple #[.int .u8 ((K.toNat : Nat) : Int), .string BB, .int .i64 E]) ∧ Below w.heap.size w w' := by
  go_enter Tryd.func23, Tryd.ntmps23
  go_wp2_with fail
  refine lin_start 7 rfl (by kernel_rfl) ?_
  have hB : Below w.heap.size w w.drew := (Below.refl _ _).drew
  generalize w.drew = u at *
  refine lin_take 0 14 (v := ?_) rfl rfl (by kernel_rfl) (by kernel_rfl) (by kernel_rfl) (fun _ _ _ _ _ h => h) (by rfl) (fun W hW => ?_) ?_
  rotate_left
  · go_simp; try rfl
  try simp only [Act.put, List.setIfInBounds_toArray, List.set_cons_zero, List.set_cons_succ]
  refine lin_take 1 15 (v := ?_) rfl rfl (by kernel_rfl) (by kernel_rfl) (by kernel_rfl) (fun _ _ _ _ _ h => h) (by rfl) (fun W hW => ?_) ?_
  rotate_left
  · go_simp; try rfl
  try simp only [Act.put, List.setIfInBounds_toArray, List.set_cons_zero, List.set_cons_succ]
  refine lin_take 2 16 (v := ?_) rfl rfl (by kernel_rfl) (by kernel_rfl) (by kernel_rfl) (fun _ _ _ _ _ h => h) (by rfl) (fun W hW => ?_) ?_
  rotate_left
  · go_simp; try rfl
  try simp only [Act.put, List.setIfInBounds_toArray, List.set_cons_zero, List.set_cons_succ]
  refine lin_take 3 17 (v := ?_) rfl rfl (by kernel_rfl) (by kernel_rfl) (by kernel_rfl) (fun _ _ _ _ _ h => h) (by rfl) (fun W hW => ?_) ?_
  rotate_left
  · go_simp; try rfl
  try simp only [Act.put, List.setIfInBounds_toArray, List.set_cons_zero, List.set_cons_succ]
  refine lin_step 4 rfl (by kernel_rfl) (fun K hK => ?_)
  go_simp
  refine (HS.out _).mono ?_
  rintro e w1 ⟨rfl, h1⟩
  refine hK.out _ _ h1 ?_
  clear hK K
  replace hB := btr hB h1
  clear h1
  refine lin_step 5 rfl (by kernel_rfl) (fun K hK => ?_)
  go_simp
  refine (HX.out _).mono ?_
  rintro e w2 ⟨rfl, h2⟩
  refine hK.out _ _ h2 ?_
  clear hK K
  replace hB := btr hB h2
  clear h2
  refine lin_take 6 20 (v := ?_) rfl rfl (by kernel_rfl) (by kernel_rfl) (by kernel_rfl) (fun _ _ _ _ _ h => h) (by rfl) (fun W hW => ?_) ?_
  rotate_left
  · go_simp; try rfl
  try simp only [Act.put, List.setIfInBounds_toArray, List.set_cons_zero, List.set_cons_succ]
  refine lin_done (by kernel_rfl) ?_
  cases s1 with
  | false =>
    obtain ⟨rfl, rfl, rfl⟩ := HE1.out (by first | rfl | trivial)
    go_wp2
    go_ret3
    exact ⟨rfl, hB⟩
  | true =>
  go_wp2_with fail
  refine lin_start 5 rfl (by kernel_rfl) ?_
  replace hB := hB.drew
  generalize w2.drew = u2 at *
  refine lin_take 0 21 (v := ?_) rfl rfl (by kernel_rfl) (by kernel_rfl) (by kernel_rfl) (fun _ _ _ _ _ h => h) (by rfl) (fun W hW => ?_) ?_
  rotate_left
  · go_simp; try rfl
  try simp only [Act.put, List.setIfInBounds_toArray, List.set_cons_zero, List.set_cons_succ]
  refine lin_take 1 22 (v := ?_) rfl rfl (by kernel_rfl) (by kernel_rfl) (by kernel_rfl) (fun _ _ _ _ _ h => h) (by rfl) (fun W hW => ?_) ?_
  rotate_left
  · go_simp; try rfl
  try simp only [Act.put, List.setIfInBounds_toArray, List.set_cons_zero, List.set_cons_succ]
  refine lin_take 2 23 (v := ?_) rfl rfl (by kernel_rfl) (by kernel_rfl) (by kernel_rfl) (fun _ _ _ _ _ h => h) (by rfl) (fun W hW => ?_) ?_
  rotate_left
  · go_simp; try rfl
  try simp only [Act.put, List.setIfInBounds_toArray, List.set_cons_zero, List.set_cons_succ]
  refine lin_step 3 rfl (by kernel_rfl) (fun K hK => ?_)
  go_simp
  refine (HF.out _).mono ?_
  rintro e w3 ⟨rfl, h3⟩
  refine hK.out _ _ h3 ?_
  clear hK K
  replace hB := btr hB h3
  clear h3
  refine lin_take 4 25 (v := ?_) rfl rfl (by kernel_rfl) (by kernel_rfl) (by kernel_rfl) (fun _ _ _ _ _ h => h) (by rfl) (fun W hW => ?_) ?_
  rotate_left
  · go_simp; try rfl
  try simp only [Act.put, List.setIfInBounds_toArray, List.set_cons_zero, List.set_cons_succ]
  refine lin_done (by kernel_rfl) ?_
  cases s2 with
  | false =>
    obtain ⟨rfl, rfl, rfl⟩ := HE2.out (by first | rfl | trivial) (by first | rfl | trivial)
    go_wp2
    go_ret3
    exact ⟨rfl, hB⟩
  | true =>
  go_wp2_with fail
  go_quiet (fail)
  replace hB := bdn hB nq
  generalize w3.drewN nq = w4 at *
  by_cases km : m ≤ 500
  · have X5 := X4.out km
    have HP2 := Lib.hid (HP.out km)
    clear X4 HP
    go_wp2_with fail
    refine (HP2.out _).mono ?_
    rintro e w5 ⟨rfl, h5⟩
    replace hB := btr hB h5
    clear h5 HP2 X5
    cases s3 with
    | false =>
      obtain ⟨rfl, rfl, rfl⟩ := HE3.out (by first | rfl | trivial) (by first | rfl | trivial) (.inr (by first | rfl | trivial))
      go_wp2
      go_ret3
      exact ⟨rfl, hB⟩
    | true =>
    obtain ⟨rfl, rfl, rfl⟩ := HE4.out (by first | rfl | trivial) (by first | rfl | trivial) km (by first | rfl | trivial)
    go_wp2
    go_ret3
    exact ⟨rfl, hB⟩
  · obtain ⟨rfl, rfl, rfl⟩ := HE3.out (by first | rfl | trivial) (by first | rfl | trivial) (.inl (by omega))
    go_wp2
    go_ret3
    exact ⟨rfl, hB⟩
theorem refopen_short (n : Int) (sl : ByteArray) (hl : sl.size ≠ 512) (w : World) :
    Calls Tryd.prog 23 #[.int .u32 n, .string sl] w fun e w' => e = .returned (.tuple #[.int .u8 0, .string ⟨#[]⟩, .int .i64 1]) ∧ Below w.heap.size w w' := by
  have hb : ((sl.size : Int) != 512) = true := by rw [bne_iff_ne]; omega
  go_enter Tryd.func23, Tryd.ntmps23
  go_wp2
  go_ret3
  exact ⟨rfl, Below.refl _ _⟩
theorem str_at (l : List UInt8) (j : Nat) (h : j < l.length) : ((str l)[j]'h).toNat = (l.getD j 0).toNat := by
  show (l[j]).toNat = _
  simp [List.getD, h]
theorem refopen_any (n : Nat) (hn : n < 4294967296) (l : List UInt8) (w : World) :
    Calls Tryd.prog 23 #[.int .u32 (n : Int), .string (str l)] w fun e w' => e = .returned (.tuple #[.int .u8 (((G.openK n l).toNat : Nat) : Int), .string (str (G.openB n l)), .int .i64 ((G.openE n l : Nat) : Int)]) ∧ Below w.heap.size w w' := by
  by_cases hl : l.length = 512
  · have hd : (l.drop 4).length ≤ 1000000 := by rw [List.length_drop]; omega
    have e1 : l.take 4 ≠ G.four (crc 0 (l.drop 4)) → G.openE n l = 8 := fun k => by unfold G.openE; rw [if_neg (by simpa using hl), if_pos k]
    have e2 : l.take 4 = G.four (crc 0 (l.drop 4)) → (l.drop 4).take 4 ≠ G.four n → G.openE n l = 4 := fun k k2 => by unfold G.openE; rw [if_neg (by simpa using hl), if_neg (by simpa using k), if_pos k2]
    have e3 : l.take 4 = G.four (crc 0 (l.drop 4)) → (l.drop 4).take 4 = G.four n → (l.getD 11 0 ≠ 0 ∨ 500 < G.len l ∨ G.zeros (l.drop (12 + G.len l)) = false) → G.openE n l = 2 := fun k k2 k3 => by
      unfold G.openE
      rw [if_neg (by simpa using hl), if_neg (by simpa using k), if_neg (by simpa using k2), if_pos k3]
    have ko : G.openE n l ≠ 0 → G.openK n l = 0 ∧ str (G.openB n l) = ⟨#[]⟩ := fun k => ⟨(G.open_no n l k).1, by rw [(G.open_no n l k).2]; rfl⟩
    have hb : G.len l ≤ 500 → ((l.drop 12).take (G.len l)).length = G.len l := fun k => by rw [List.length_take, List.length_drop]; omega
    refine refopen_core n (crc 0 (l.drop 4)) (G.len l) (str l) (str (l.take 4)) (str (l.drop 4)) (str (G.four (crc 0 (l.drop 4)))) (str (G.four n)) (str ((l.drop 4).take 4)) (str ((l.drop 12).take (G.len l))) (str (G.page n (l.getD 8 0) ((l.drop 12).take (G.len l)))) (l.getD 8 0) (G.openK n l) (l.getD 9 0).toNat (l.getD 10 0).toNat _ (str (G.openB n l))
      (decide (l.take 4 = G.four (crc 0 (l.drop 4)))) (decide ((l.drop 4).take 4 = G.four n)) (decide (G.page n (l.getD 8 0) ((l.drop 12).take (G.len l)) = l)) w hl (C.u8_lt _) (C.u8_lt _) (by unfold G.len; omega) ?_ ?_ ?_ ?_ (str_at l 8 (by omega)) (str_at l 9 (by omega)) (str_at l 10 (by omega)) (str_eq _ _) (str_eq _ _) (str_eq _ _)
      (fun w => same_below (refsum_any _ w hd)) (reffour_any _ (C.crc_lt _ (by omega))) (reffour_any n hn) ?_ ?_ ?_ ?_ ?_
    · rw [str_extract]; simp
    · rw [str_extract, List.take_of_length_le (by rw [List.length_drop]; omega)]
    · rw [str_extract]
    · intro k w
      rw [run_slice_string_if w 9 (str l) .i64 .i64 12 (12 + (G.len l : Int)) Tryd.underlying9, if_pos (by rw [str_size]; omega), if_pos (by omega)]
      have e : (12 + (G.len l : Int)).toNat = 12 + G.len l := by omega
      rw [e, str_extract]
      simp
    · intro k w
      have q := refseal_any n hn (l.getD 8 0) ((l.drop 12).take (G.len l)) (by rw [hb k]; omega) w
      have e1 : G.sealE ((l.drop 12).take (G.len l)) = 0 := if_pos (by rw [hb k]; exact k)
      have e2 : G.sealL n (l.getD 8 0) ((l.drop 12).take (G.len l)) = G.page n (l.getD 8 0) ((l.drop 12).take (G.len l)) := if_pos (by rw [hb k]; exact k)
      rw [e1, e2] at q
      exact q
    · intro k
      have k1 := e1 (of_decide_eq_false k)
      exact ⟨(ko (by omega)).1, (ko (by omega)).2, by rw [k1]; rfl⟩
    · intro k k2
      have k1 := e2 (of_decide_eq_true k) (of_decide_eq_false k2)
      exact ⟨(ko (by omega)).1, (ko (by omega)).2, by rw [k1]; rfl⟩
    · intro k k2 k3
      have k1 : G.openE n l = 2 := by
        refine e3 (of_decide_eq_true k) (of_decide_eq_true k2) ?_
        by_cases km : 500 < G.len l
        · exact .inr (.inl km)
        · have k4 : ¬ G.page n (l.getD 8 0) ((l.drop 12).take (G.len l)) = l := by
            rcases k3 with k3 | k3
            · exact absurd k3 km
            · exact of_decide_eq_false k3
          rw [G.shape n l hl (of_decide_eq_true k) (of_decide_eq_true k2) (by omega)] at k4
          by_cases k5 : l.getD 11 0 = 0
          · refine .inr (.inr ?_)
            rw [← Bool.not_eq_true]
            exact fun q => k4 ⟨k5, q⟩
          · exact .inl k5
      exact ⟨(ko (by omega)).1, (ko (by omega)).2, by rw [k1]; rfl⟩
    · intro k k2 k4 k5
      obtain ⟨q1, q2⟩ := (G.shape n l hl (of_decide_eq_true k) (of_decide_eq_true k2) k4).1 (of_decide_eq_true k5)
      have k1 := (G.openE_zero n l).2 ⟨hl, of_decide_eq_true k, of_decide_eq_true k2, q1, k4, q2⟩
      refine ⟨if_pos k1, ?_, by rw [k1]; rfl⟩
      rw [show G.openB n l = (l.drop 12).take (G.len l) from if_pos k1]
  · have e1 : G.openE n l = 1 := by unfold G.openE; rw [if_pos hl]
    have ko := G.open_no n l (by omega)
    rw [e1, ko.1, ko.2]
    exact refopen_short _ (str l) hl w
end Go.Proofs.YtbffpgndjbpifaaDoor
