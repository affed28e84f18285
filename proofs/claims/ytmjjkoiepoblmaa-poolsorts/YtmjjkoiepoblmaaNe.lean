/- The library's heap.Push and heap.Pop over the row. -/
import Derived.Test.YtmjjkoiepoblmaaNd
namespace Go.Proofs.Ytmjjkoiepoblmaa
open Go.RowKit Go.Sort

theorem perm_list {n : Nat} {d d' : Array Int} (p : PermIn 0 n d d') (hd : d.size = n) : d'.toList.Perm d.toList := by
  have q := p.2.2
  have e1 : d'.extract 0 n = d' := by rw [← hd, ← p.1]; simp
  have e2 : d.extract 0 n = d := by rw [← hd]; simp
  rwa [e1, e2] at q
theorem perm_part {n m : Nat} {d d' : Array Int} (p : PermIn 0 m d d') (hm : m ≤ n) (hd : d.size = n) : d'.toList.Perm d.toList :=
  perm_list (n := n) (permIn_mono d d' 0 m 0 n (Nat.le_refl _) hm (by omega) p) hd
theorem heap_congr {d d' : Array Int} {n : Nat} (h : Heap d n) (e : ∀ k, k < n → d'[k]! = d[k]!) : Heap d' n := fun k h0 h1 => by
  rw [e k h1, e _ (by omega)]
  exact h k h0 h1
theorem arr_get (xs : List Int) (k : Nat) : xs.toArray[k]! = xs[k]! := by simp [getElem!_def]
theorem list_get (d : Array Int) (k : Nat) : d.toList[k]! = d[k]! := by simp [getElem!_def]

set_option maxHeartbeats 1600000 in
theorem hpush_any (p : Nat) (v : Value) (xs : List Int) (x : Int) (w : World) (h : Rv w p v xs) (hh : Heap xs.toArray xs.length) (hn : xs.length < 65536) :
    Calls Try.prog 21 #[.iface 52 (.pointer (some ⟨p, 0, none⟩)), .iface 27 (.int .u32 x)] w fun e w' =>
      e = .returned (.tuple #[]) ∧ ∃ v' xs', Rt w w' p v v' xs' ∧ Heap xs'.toArray xs'.length ∧ xs'.Perm (xs ++ [x]) := by
  have hm := fun k w => m_push k (some ⟨p, 0, none⟩) w
  have C := Lib.hid (push_row p v xs x w h hn)
  have HH := Lib.hid hh
  clear h hh
  go_enter Try.func21, Try.ntmps21
  go_wp2_with fail
  refine C.out.mono ?_
  rintro e w1 ⟨rfl, v1, T1⟩
  obtain ⟨g, cap, rfl⟩ := Go.Joins.ownsRow_form T1.rv.own (by simp)
  have hl : (xs ++ [x]).length = xs.length + 1 := by simp
  rw [hl] at T1
  have c1 := T1.rv.c0
  have ml := fun k => m_len k p 0 (some ⟨g, 0, none⟩) (xs.length + 1) cap w1 c1
  have hne : p ≠ g := fun e => T1.rv.ne (by rw [e]; rfl)
  have hU : UpInv (xs ++ [x]).toArray (xs.length + 1) xs.length := up_start HH.out (fun k hk => by
    rw [arr_get, arr_get, getElem!_def, getElem!_def, List.getElem?_append_left hk])
  have own := T1.rv.own
  rw [hl] at own
  have U := Lib.hid (up_any p g (xs.length + 1) cap (xs ++ [x]).toArray xs.length w1 (by simp) (own_holds own) (by omega) (by omega) hne hU c1)
  have HT := Lib.hid T1
  have L1 := Lib.hid (len_row (some ⟨g, 0, none⟩) (xs.length + 1) cap w1)
  clear T1 own hU C HH hm
  generalize hL : xs.length = L at *
  go_wp2_with (first
    | (go_at_call 63; refine L1.out.mono ?_; rintro e w2 ⟨rfl, rfl⟩)
    | (go_at_call 26; refine U.out.mono ?_; rintro e w3 ⟨rfl, d', R, P, HP⟩))
  go_end0
  have hd : d'.size = L + 1 := by rw [P.1]; simp [hL]
  have T2 := HT.out.rv.turn R hd
  refine ⟨rfl, _, d'.toList, HT.out.trans T2, ?_, ?_⟩
  · rw [Array.length_toList, hd]
    exact heap_congr HP (fun k _ => by rw [arr_get, list_get])
  · exact perm_list P (by simp [hL])

set_option maxHeartbeats 1600000 in
theorem hpop_any (p g cap : Nat) (x : Int) (r : List Int) (w : World) (h : Rv w p (.slice (some ⟨g, 0, none⟩) (r.length + 1) cap) (x :: r)) (hh : Heap (x :: r).toArray (r.length + 1)) (hn : r.length < 65536) :
    Calls Try.prog 22 #[.iface 52 (.pointer (some ⟨p, 0, none⟩))] w fun e w' =>
      e = .returned (.iface 27 (.int .u32 x)) ∧ ∃ v' xs', Rt w w' p (.slice (some ⟨g, 0, none⟩) (r.length + 1) cap) v' xs' ∧ Heap xs'.toArray xs'.length ∧ xs'.Perm r := by
  obtain ⟨m, hm⟩ : ∃ m, m = r.length := ⟨_, rfl⟩
  rw [← hm] at h hh ⊢
  have hl : (x :: r).length = m + 1 := by simp [hm]
  have c0 := h.c0
  have hne : p ≠ g := fun e => h.ne (by rw [e]; rfl)
  have own := h.own
  rw [hl] at own
  have ml := fun k => m_len k p 0 (some ⟨g, 0, none⟩) (m + 1) cap w c0
  have ms := fun k => m_swap k p 0 (some ⟨g, 0, none⟩) (m + 1) cap w c0
  have hmp := fun k w => m_pop k (some ⟨p, 0, none⟩) w
  have L1 := Lib.hid (len_row (some ⟨g, 0, none⟩) (m + 1) cap w)
  have SW := swap_row g (m + 1) cap (x :: r).toArray 0 m w (by simp [hm]) (own_holds own) (by omega) (by omega)
  rw [show ((0 : Nat) : Int) = 0 from rfl] at SW
  have SW := Lib.hid SW
  have HR := Lib.hid h
  have HH := Lib.hid hh
  have e1 : ((m + 1 : Nat) : Int) - 1 = (m : Int) := by omega
  have hn2 : m < 65536 := by omega
  have HM := Lib.hid hm
  have PX : Hid ((swp (x :: r).toArray 0 m).toList.Perm (x :: r)) := perm_list (n := m + 1) (swp_permIn (x :: r).toArray 0 (m + 1) 0 m (by omega) (by omega) (by omega) (by omega) (by simp [hm])) (by simp [hm])
  have hd1 : (swp (x :: r).toArray 0 m).size = m + 1 := by rw [size_swp]; simp [hm]
  have eM : (swp (x :: r).toArray 0 m)[m]! = x := by
    rw [swp_right _ _ _ (by simp [hm])]
    simp
  have HD1 := Lib.hid hd1
  have HEM := Lib.hid eM
  clear h hh own hm hl hn hd1 eM
  go_enter Try.func22, Try.ntmps22
  go_upto_region 3 with (first
    | (go_at_call 63; refine L1.out.mono ?_; rintro e w2 ⟨rfl, rfl⟩)
    | (go_at_call 65; refine SW.out.mono ?_; rintro e w1 ⟨rfl, R1⟩))
  have hd1 := HD1.out
  have eM := HEM.out
  have T1 := HR.out.turn R1 hd1
  have hD : DownInv (swp (x :: r).toArray 0 m) m 0 := down_start HH.out (by omega) (fun k h0 h1 => swp_other _ _ _ _ (by omega) (by omega))
  have D1 := Lib.hid (down_any p g (m + 1) cap m (swp (x :: r).toArray 0 m) w1 hd1 R1.there (by omega) (by omega) hne hD T1.rv.c0)
  have HT := Lib.hid T1
  generalize swp (x :: r).toArray 0 m = d1 at *
  clear T1 hD SW HH R1 L1 ms ml
  go_upto_region 4 with (go_at_call 27; refine D1.out.mono ?_; rintro e w2 ⟨f, rfl, d2, R2, P2, HP⟩)
  have hd2 : d2.size = m + 1 := P2.1.trans hd1
  have T2 := HT.out.rv.turn R2 hd2
  have T12 := HT.out.trans T2
  have eM2 : d2[m]! = x := (P2.2.1 m (.inr (Nat.le_refl _))).trans eM
  have e2 : d2.toList = d2.toList.take m ++ [x] := by
    apply List.ext_getElem?
    intro j
    rcases Nat.lt_trichotomy j m with hj | hj | hj
    · rw [List.getElem?_append_left (by simp; omega), List.getElem?_take_of_lt hj]
    · subst hj
      rw [List.getElem?_append_right (by simp; omega)]
      simp only [List.length_take, Array.length_toList, hd2, Nat.min_eq_left (Nat.le_succ j), Nat.sub_self]
      rw [← eM2, ← list_get, List.getElem?_eq_getElem (by simp [hd2])]
      simp [hd2]
    · rw [List.getElem?_eq_none (by simp; omega), List.getElem?_eq_none (by simp; omega)]
  have hlt : (d2.toList.take m).length = m := by simp; omega
  have rv2 := T2.rv
  rw [e2] at rv2
  have PC := pop_row p g cap (d2.toList.take m) x w2 (m + 1) (by rw [hlt]) rv2 (by omega)
  have PC := Lib.hid PC
  have HT2 := Lib.hid T12
  have PQ : Hid ((d2.toList.take m).Perm r) := by
    have q1 : d2.toList.Perm (x :: r) := (perm_part P2 (by omega) hd1).trans PX.out
    rw [e2] at q1
    have q2 : (x :: d2.toList.take m).Perm (x :: r) := (List.perm_append_singleton x _).symm.trans q1
    exact (List.perm_cons x).1 q2
  have HQ : Hid (Heap (d2.toList.take m).toArray m) := heap_congr HP (fun k hk => by
    rw [arr_get, ← list_get, getElem!_def, getElem!_def, List.getElem?_take_of_lt hk])
  clear T2 T12 rv2 D1 HT R2 P2 HP e2 PX
  go_wp2_with (go_at_call 66; refine PC.out.mono ?_; rintro e w3 ⟨rfl, v', T3⟩)
  go_ret
  refine ⟨rfl, v', _, HT2.out.trans T3, ?_, PQ.out⟩
  rw [hlt]
  exact HQ.out
end Go.Proofs.Ytmjjkoiepoblmaa
