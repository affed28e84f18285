/- The document's own Stamp, Pair, Halves and Parts. -/
import Derived.Test.YtfofhnaomlcioaaPartsK
namespace Go.Proofs.Ytfofhnaomlcioaa
open Go.RowKit
open W (hi lo dig MM M cmpN rowOf val)

theorem txt_str (n : Nat) : txt n = str (tail n 16) := by
  apply ByteArray.ext
  have h := txt_list n
  rw [ByteArray.toList_eq] at h
  simp only [str]
  rw [← h]
theorem str_extract (l : List UInt8) (i j : Nat) : (str l).extract i j = str ((l.drop i).take (j - i)) := by
  apply ByteArray.ext
  simp [str, ByteArray.data_extract]
theorem run_str_add (l m : List UInt8) (h : l.length + m.length ≤ 1000000) (w : World) : (Op.stringOp .add (str l) (str m)).run Try.prog w = .ok (.string (str (l ++ m))) w := by
  rw [run_string_add_sum w (str l) (str m) (by rw [str_size, str_size]; omega), str_append]
theorem refbytesK_any (n : Nat) (hn : n < MM) (w : World) : Calls Try.prog 20 #[.agg #[.int .u64 (hi n : Nat), .int .u64 (lo n : Nat)]] w fun e w' => e = .returned (.string (str (tail n 16))) ∧ Below w.heap.size w w' := by
  have h := refbytes_any n hn w
  rwa [txt_str] at h
theorem refstamp_any (n : Nat) (hn : n < 18446744073709551616) (w : World) : Calls Try.prog 22 #[.int .u64 (n : Int)] w fun e w' => e = .returned (.string (str (tail n 8))) ∧ Below w.heap.size w w' := by
  have H := Lib.hid (refbytesK_any n (small_wide n hn))
  rw [small_hi n hn, small_lo n hn] at H
  have hs : (str (tail n 16)).size = 16 := by rw [str_size, tail_length]
  have HX : Hid ((str (tail n 16)).extract 8 16 = str (tail n 8)) := by
    show (str (tail n 16)).extract 8 16 = str (tail n 8)
    rw [str_extract]
    rfl
  clear hn
  generalize str (tail n 16) = s at *
  generalize str (tail n 8) = t at *
  go_enter Try.func22, Try.ntmps22
  go_wp2_with fail
  refine (H.out _).mono ?_
  rintro e w1 ⟨rfl, hB⟩
  go_wp2
  go_ret
  exact ⟨by rw [← HX.out]; rfl, hB⟩
theorem refpair_any (a n : Nat) (ha : a < MM) (hn : n < 18446744073709551616) (w : World) :
    Calls Try.prog 23 #[.agg #[.int .u64 (hi a : Nat), .int .u64 (lo a : Nat)], .int .u64 (n : Int)] w fun e w' => e = .returned (.string (str (tail a 16 ++ tail n 8))) ∧ Below w.heap.size w w' := by
  have H1 := Lib.hid (refbytesK_any a ha)
  have H2 := Lib.hid (refstamp_any n hn)
  have hadd := run_str_add (tail a 16) (tail n 8) (by rw [tail_length, tail_length]; omega)
  clear ha hn
  generalize str (tail a 16 ++ tail n 8) = r at *
  generalize str (tail a 16) = s at *
  generalize str (tail n 8) = t at *
  go_enter Try.func23, Try.ntmps23
  go_wp2_with fail
  refine (H1.out _).mono ?_
  rintro e w1 ⟨rfl, hB1⟩
  go_wp2_with fail
  refine (H2.out _).mono ?_
  rintro e w2 ⟨rfl, hB2⟩
  go_wp2
  go_ret
  exact ⟨rfl, btr (btr (alb _) hB1) hB2⟩
theorem refreadK_any (l : List UInt8) (w : World) :
    Calls Try.prog 36 #[.string (str l)] w fun e w' => e = .returned (.tuple #[.agg #[.int .u64 (hi (rdN l) : Nat), .int .u64 (lo (rdN l) : Nat)], .bool (rdB l)]) ∧ Below w.heap.size w w' := by
  by_cases h16 : l.length = 16
  · have k := refread_any (str l) (fb l) (by rw [str_size]; exact h16) (fun j hj => by
      have hj2 : j < l.length := by rw [str_size] at hj; exact hj
      rw [fb_get l j hj2]
      rfl) (fb_lt l) w
    rw [val_nb l h16] at k
    have e1 : rdN l = nb l := if_pos h16
    have e2 : rdB l = true := decide_eq_true h16
    rw [e1, e2]
    exact k
  · have k := refread_no (str l) (by rw [str_size]; exact h16) w
    have e1 : rdN l = 0 := if_neg h16
    have e2 : rdB l = false := decide_eq_false h16
    rw [e1, e2, hi_zero, lo_zero]
    exact k
set_option maxHeartbeats 400000 in
theorem refhalves_any (l : List UInt8) (w : World) :
    Calls Try.prog 25 #[.string (str l)] w fun e w' => e = .returned (.tuple #[.int .u64 (hi (rdN l) : Nat), .int .u64 (lo (rdN l) : Nat), .bool (rdB l)]) ∧ Below w.heap.size w w' := by
  have H := Lib.hid (refreadK_any l w)
  generalize hi (rdN l) = x at *
  generalize lo (rdN l) = y at *
  generalize rdB l = z at *
  go_enter Try.func25, Try.ntmps25
  go_wp2_with fail
  refine H.out.mono ?_
  rintro e w1 ⟨rfl, hB⟩
  clear H
  go_wp2
  go_quiet (fail)
  go_wp2
  go_ret3
  exact ⟨rfl, bdn (bal hB _) _⟩

theorem refparts_math (l : List UInt8) (h : l.length = 24) : lo (rdN ([0, 0, 0, 0, 0, 0, 0, 0] ++ l.drop 16)) = nb (l.drop 16) := by
  have e : rdN ([0, 0, 0, 0, 0, 0, 0, 0] ++ l.drop 16) = nb ([0, 0, 0, 0, 0, 0, 0, 0] ++ l.drop 16) := if_pos (by simp; omega)
  rw [e, nb_lo _ _ (by simp; omega)]
set_option maxHeartbeats 400000 in
theorem refparts_any (l : List UInt8) (w : World) :
    Calls Try.prog 24 #[.string (str l)] w fun e w' => e = .returned (.tuple #[.agg #[.int .u64 (hi (ptN l) : Nat), .int .u64 (lo (ptN l) : Nat)], .int .u64 (ptS l : Nat), .bool (ptB l)]) ∧ Below w.heap.size w w' := by
  by_cases h24 : l.length = 24
  · have e1 : ptN l = nb (l.take 16) := if_pos h24
    have e2 : ptS l = nb (l.drop 16) := if_pos h24
    have e3 : ptB l = true := decide_eq_true h24
    obtain ⟨m1, m2, m4⟩ := parts_math l h24
    clear m4
    have m3 := refparts_math l h24
    have H1 := Lib.hid (refreadK_any (l.take 16))
    have H2 := Lib.hid (refreadK_any ([0, 0, 0, 0, 0, 0, 0, 0] ++ l.drop 16))
    have hs : (str l).size = 24 := by rw [str_size]; exact h24
    have x1 : (str l).extract 0 16 = str (l.take 16) := by rw [str_extract]; simp
    have x2 : (str l).extract 16 24 = str (l.drop 16) := by rw [str_extract, List.take_of_length_le (by simp; omega)]
    have hadd : ∀ w, (Op.stringOp .add ⟨#[0, 0, 0, 0, 0, 0, 0, 0]⟩ (str (l.drop 16))).run Try.prog w = .ok (.string (str ([0, 0, 0, 0, 0, 0, 0, 0] ++ l.drop 16))) w := run_str_add [0, 0, 0, 0, 0, 0, 0, 0] (l.drop 16) (by simp; omega)
    rw [m1, m2] at H1
    rw [m3] at H2
    rw [e1, e2, e3]
    clear e1 e2 e3 m1 m2 m3
    generalize nb (l.take 16) = x at *
    generalize nb (l.drop 16) = y at *
    generalize hi (rdN ([0, 0, 0, 0, 0, 0, 0, 0] ++ l.drop 16)) = z at *
    generalize rdB ([0, 0, 0, 0, 0, 0, 0, 0] ++ l.drop 16) = t at *
    generalize str ([0, 0, 0, 0, 0, 0, 0, 0] ++ l.drop 16) = s3 at *
    generalize str (l.drop 16) = s2 at *
    generalize str (l.take 16) = s1 at *
    generalize str l = s at *
    clear h24 l
    go_enter Try.func24, Try.ntmps24
    go_wp2_with fail
    refine (H1.out _).mono ?_
    rintro e w1 ⟨rfl, hB1⟩
    have d0 := kept (p := ⟨w.heap.size, 0, none⟩) (x := .int .u64 0) (by simp [go_sem]) hB1
    have d1 := kept (p := ⟨w.heap.size, 1, none⟩) (x := .int .u64 0) (by simp [go_sem]) hB1
    have g0 := keptf (p := ⟨w.heap.size, 0, none⟩) (x := .int .u64 0) (by simp [go_sem]) (by simp [go_sem]) hB1
    have g1 := keptf (p := ⟨w.heap.size, 1, none⟩) (x := .int .u64 0) (by simp [go_sem]) (by simp [go_sem]) hB1
    have hB := btr (alb _) hB1
    clear hB1
    go_wp2_with fail
    refine (H2.out _).mono ?_
    rintro e w2 ⟨rfl, hB2⟩
    have k0 := kept (alc d0 _) hB2
    have k1 := kept (alc d1 _) hB2
    have j0 := keptf (alc d0 _) (alf d0 g0 _) hB2
    have j1 := keptf (alc d1 _) (alf d1 g1 _) hB2
    have e0 := kept (p := ⟨w1.heap.size, 0, none⟩) (x := .int .u64 (hi x : Nat)) (by simp [go_sem]) hB2
    have e1 := kept (p := ⟨w1.heap.size, 1, none⟩) (x := .int .u64 (lo x : Nat)) (by simp [go_sem]) hB2
    replace hB := btr (bal hB _) hB2
    clear d0 d1 g0 g1 hB2
    have o0 := alc k0 (.cells #[.int .u64 (z : Nat), .int .u64 (y : Nat)] 35)
    have o1 := alc k1 (.cells #[.int .u64 (z : Nat), .int .u64 (y : Nat)] 35)
    have p0 := alf k0 j0 (.cells #[.int .u64 (z : Nat), .int .u64 (y : Nat)] 35)
    have p1 := alf k1 j1 (.cells #[.int .u64 (z : Nat), .int .u64 (y : Nat)] 35)
    have r0 := alc e0 (.cells #[.int .u64 (z : Nat), .int .u64 (y : Nat)] 35)
    have r1 := alc e1 (.cells #[.int .u64 (z : Nat), .int .u64 (y : Nat)] 35)
    have t1 : (w2.alloc (.cells #[.int .u64 (z : Nat), .int .u64 (y : Nat)] 35)).cell? ⟨w2.heap.size, 1, none⟩ = some (.int .u64 (y : Nat)) := by simp [go_sem]
    replace hB := bal hB (.cells #[.int .u64 (z : Nat), .int .u64 (y : Nat)] 35)
    have hlt : w.heap.size < w2.heap.size := World.block_lt_of_cell? w2 _ k0
    have hne : w.heap.size ≠ w2.heap.size := by omega
    clear k0 k1 j0 j1 e0 e1
    go_wp2
    generalize w2.alloc (.cells #[.int .u64 (z : Nat), .int .u64 (y : Nat)] 35) = u at *
    have t2 := cfar (p := 1) (x := .int .u64 (lo x : Nat)) hne (cfar (p := 0) (x := .int .u64 (hi x : Nat)) hne t1)
    go_region
    all_goals
      go_wp2
      exact bodyPost_ret (v := .tuple #[.agg #[.int .u64 (hi x : Nat), .int .u64 (lo x : Nat)], .int .u64 (y : Nat), .bool true]) (by simp [results, Try.results24, go_sem, o0, o1]) rfl ⟨rfl, by
        repeat (first | exact hB | apply bal | (refine Below.setCell ?_ (by simp) _) | (refine Below.drew ?_))⟩
  · have e1 : ptN l = 0 := if_neg h24
    have e2 : ptS l = 0 := if_neg h24
    have e3 : ptB l = false := decide_eq_false h24
    have hne : (((str l).size : Int) != 24) = true := by rw [str_size, bne_iff_ne]; omega
    rw [e1, e2, e3, hi_zero, lo_zero]
    clear h24 e1 e2 e3
    generalize str l = s at *
    go_enter Try.func24, Try.ntmps24
    go_wp2
    exact bodyPost_ret (v := .tuple #[.agg #[.int .u64 0, .int .u64 0], .int .u64 0, .bool false]) (by simp [results, Try.results24, go_sem]) rfl ⟨rfl, by
      repeat (first | exact Below.refl _ _ | apply bal)⟩
end Go.Proofs.Ytfofhnaomlcioaa
