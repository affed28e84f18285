/- key.Halves and key.Parts: what bytes are the two, or the pair, of. -/
import Derived.Test.YtfofhnaomlcioaaMake
namespace Go.Proofs.Ytfofhnaomlcioaa
open Go.RowKit
open W (hi lo dig MM M cmpN rowOf val)

/-- What sixteen bytes are read as. -/
def rdN (l : List UInt8) : Nat := if l.length = 16 then nb l else 0
def rdB (l : List UInt8) : Bool := decide (l.length = 16)
/-- What 24 bytes are the pair of. -/
def ptN (l : List UInt8) : Nat := if l.length = 24 then nb (l.take 16) else 0
def ptS (l : List UInt8) : Nat := if l.length = 24 then nb (l.drop 16) else 0
def ptB (l : List UInt8) : Bool := decide (l.length = 24)
theorem hi_zero : hi 0 = 0 := by decide
theorem lo_zero : lo 0 = 0 := by decide

theorem readK_any (v : Value) (l : List UInt8) (w : World) (h : Byts w v l) :
    Calls Try.prog 32 #[v] w fun e w' => e = .returned (.tuple #[.agg #[.int .u64 (hi (rdN l) : Nat), .int .u64 (lo (rdN l) : Nat)], .bool (rdB l)]) ∧ Below w.heap.size w w' := by
  obtain ⟨A, c, rfl, hc, h⟩ := h
  by_cases h16 : l.length = 16
  · obtain ⟨b, off, rfl, h2⟩ := h (by omega)
    have k := read_any b off c (fb l) (by omega) (fb_lt l) w (fun j hj => by rw [h2 j (by omega), fb_get l j (by omega)])
    rw [val_nb l h16] at k
    have e1 : rdN l = nb l := if_pos h16
    have e2 : rdB l = true := decide_eq_true h16
    rw [e1, e2, h16]
    exact k
  · have k := read_no A l.length c h16 w
    have e1 : rdN l = 0 := if_neg h16
    have e2 : rdB l = false := decide_eq_false h16
    rw [e1, e2, hi_zero, lo_zero]
    exact k

set_option maxHeartbeats 400000 in
theorem halves_any (v : Value) (l : List UInt8) (w : World) (h : Byts w v l) :
    Calls Try.prog 18 #[v] w fun e w' => e = .returned (.tuple #[.int .u64 (hi (rdN l) : Nat), .int .u64 (lo (rdN l) : Nat), .bool (rdB l)]) ∧ Below w.heap.size w w' := by
  have H := Lib.hid (readK_any v l w h)
  clear h
  generalize hi (rdN l) = x at *
  generalize lo (rdN l) = y at *
  generalize rdB l = z at *
  go_enter Try.func18, Try.ntmps18
  go_wp2_with fail
  refine H.out.mono ?_
  rintro e w1 ⟨rfl, hB⟩
  clear H
  go_wp2
  go_quiet (fail)
  go_wp2
  go_ret3
  exact ⟨rfl, bdn (bal hB _) _⟩

theorem parts_math (l : List UInt8) (h : l.length = 24) : rdN (l.take 16) = nb (l.take 16) ∧ rdB (l.take 16) = true ∧ lo (rdN (l.drop 8)) = nb (l.drop 16) := by
  refine ⟨if_pos (by simp; omega), decide_eq_true (by simp; omega), ?_⟩
  have e : rdN (l.drop 8) = nb (l.drop 8) := if_pos (by simp; omega)
  rw [e]
  have e2 : l.drop 8 = (l.drop 8).take 8 ++ l.drop 16 := by
    have := (List.take_append_drop 8 (l.drop 8)).symm
    rw [List.drop_drop] at this
    exact this
  rw [e2, nb_lo _ _ (by simp; omega)]

set_option maxHeartbeats 400000 in
theorem parts_any (v : Value) (l : List UInt8) (w : World) (h : Byts w v l) :
    Calls Try.prog 17 #[v] w fun e w' => e = .returned (.tuple #[.agg #[.int .u64 (hi (ptN l) : Nat), .int .u64 (lo (ptN l) : Nat)], .int .u64 (ptS l : Nat), .bool (ptB l)]) ∧ Below w.heap.size w w' := by
  by_cases h24 : l.length = 24
  · have e1 : ptN l = nb (l.take 16) := if_pos h24
    have e2 : ptS l = nb (l.drop 16) := if_pos h24
    have e3 : ptB l = true := decide_eq_true h24
    obtain ⟨m1, m2, m3⟩ := parts_math l h24
    obtain ⟨A, c, rfl, hc, h⟩ := h
    obtain ⟨b, off, rfl, h2⟩ := h (by omega)
    have B1 : Byts w (.slice (some ⟨b, off, none⟩) 16 c) (l.take 16) := by
      refine ⟨_, c, by simp [h24], by simp; omega, fun _ => ⟨b, off, rfl, fun j hj => ?_⟩⟩
      rw [h2 j (by simp at hj; omega)]
      simp
    have B2 : Byts w (.slice (some ⟨b, off + 8, none⟩) 16 (c - 8)) (l.drop 8) := by
      refine ⟨_, c - 8, by simp [h24], by simp; omega, fun _ => ⟨b, off + 8, rfl, fun j hj => ?_⟩⟩
      rw [Nat.add_assoc, h2 (8 + j) (by simp at hj; omega)]
      simp
    have H1 : Hid (∀ W, Below w.heap.size w W → _) := fun W hB => readK_any _ _ W (B1.below hB)
    have H2 : Hid (∀ W, Below w.heap.size w W → _) := fun W hB => halves_any _ _ W (B2.below hB)
    rw [m1, m2] at H1
    rw [m3] at H2
    rw [e1, e2, e3]
    clear B1 B2 h2 h e1 e2 e3 m1 m2 m3
    generalize nb (l.take 16) = x at *
    generalize nb (l.drop 16) = y at *
    generalize hi (rdN (l.drop 8)) = z at *
    generalize rdB (l.drop 8) = t at *
    rw [h24] at hc ⊢
    have h8 : (8 : Int) ≤ (c : Int) := by omega
    have h16 : (16 : Int) ≤ (c : Int) := by omega
    have hn8 : ¬ c = 8 := by omega
    clear h24 l
    go_enter Try.func17, Try.ntmps17
    go_wp2_with fail
    refine (H1.out _ (alb _)).mono ?_
    rintro e w1 ⟨rfl, hB1⟩
    have d0 := kept (p := ⟨w.heap.size, 0, none⟩) (x := .int .u64 0) (by simp [go_sem]) hB1
    have d1 := kept (p := ⟨w.heap.size, 1, none⟩) (x := .int .u64 0) (by simp [go_sem]) hB1
    have g0 := keptf (p := ⟨w.heap.size, 0, none⟩) (x := .int .u64 0) (by simp [go_sem]) (by simp [go_sem]) hB1
    have g1 := keptf (p := ⟨w.heap.size, 1, none⟩) (x := .int .u64 0) (by simp [go_sem]) (by simp [go_sem]) hB1
    have hB := btr (alb _) hB1
    clear hB1
    go_wp2_with fail
    refine (H2.out _ (bal hB _)).mono ?_
    rintro e w2 ⟨rfl, hB2⟩
    have k0 := kept (alc d0 _) hB2
    have k1 := kept (alc d1 _) hB2
    have j0 := keptf (alc d0 _) (alf d0 g0 _) hB2
    have j1 := keptf (alc d1 _) (alf d1 g1 _) hB2
    have e0 := kept (p := ⟨w1.heap.size, 0, none⟩) (x := .int .u64 (hi x : Nat)) (by simp [go_sem]) hB2
    have e1 := kept (p := ⟨w1.heap.size, 1, none⟩) (x := .int .u64 (lo x : Nat)) (by simp [go_sem]) hB2
    replace hB := btr (bal hB _) hB2
    clear d0 d1 g0 g1 hB2
    go_wp2
    exact bodyPost_ret (v := .tuple #[.agg #[.int .u64 (hi x : Nat), .int .u64 (lo x : Nat)], .int .u64 (y : Nat), .bool true]) (by simp [results, Try.results17, go_sem, k0, k1]) rfl ⟨rfl, by
      repeat (first | exact hB | apply bal | (refine Below.setCell ?_ (by simp) _))⟩
  · have e1 : ptN l = 0 := if_neg h24
    have e2 : ptS l = 0 := if_neg h24
    have e3 : ptB l = false := decide_eq_false h24
    obtain ⟨A, c, rfl, hc, h⟩ := h
    clear h
    have hne : ((l.length : Int) != 24) = true := by rw [bne_iff_ne]; omega
    rw [e1, e2, e3, hi_zero, lo_zero]
    clear h24 e1 e2 e3
    generalize l.length = n at *
    go_enter Try.func17, Try.ntmps17
    go_wp2
    exact bodyPost_ret (v := .tuple #[.agg #[.int .u64 0, .int .u64 0], .int .u64 0, .bool false]) (by simp [results, Try.results17, go_sem]) rfl ⟨rfl, by
      repeat (first | exact Below.refl _ _ | apply bal)⟩
end Go.Proofs.Ytfofhnaomlcioaa
