/- The walk of the law WideSums: the list turned round, and the three sums. -/
import Derived.Test.YtapomicakmbcdaaListsTwo
import Derived.Test.YtapomicakmbcdaaOpen
namespace Go.Proofs.Ytapomicakmbcdaa
open Go.RowKit
open W (hi lo addN addB subN subB cmpN dig MM tot)

theorem Try.info24 : (Try.prog.info? 24).map (fun i => (i.zero, i.size, i.bytes)) = some (some (.agg #[.int .u64 0, .int .u64 0]), 2, 16) := by kernel_rfl

/-- The cells of a row of wide numbers. -/
def flat : List Nat → List Value
  | [] => []
  | n :: l => .int .u64 (hi n : Nat) :: .int .u64 (lo n : Nat) :: flat l
theorem flat_append (l r : List Nat) : flat (l ++ r) = flat l ++ flat r := by
  induction l with
  | nil => rfl
  | cons n l ih => simp [flat, ih]
theorem flat_length (l : List Nat) : (flat l).length = l.length * 2 := by
  induction l with
  | nil => rfl
  | cons n l ih => simp only [flat, List.length_cons, ih]; omega
theorem flat_get (l : List Nat) (k : Nat) (h : k < l.length) : (flat l)[k * 2]? = some (.int .u64 (hi (l.getD k 0) : Nat)) ∧ (flat l)[k * 2 + 1]? = some (.int .u64 (lo (l.getD k 0) : Nat)) := by
  induction l generalizing k with
  | nil => simp at h
  | cons n l ih =>
    cases k with
    | zero => simp [flat]
    | succ k =>
      have := ih k (by simpa using h)
      have e1 : (k + 1) * 2 = k * 2 + 1 + 1 := by omega
      have e2 : (k + 1) * 2 + 1 = k * 2 + 1 + 1 + 1 := by omega
      rw [e1]
      simpa [flat] using this

/-- The first k numbers of a list that is turned round. -/
def turn (l : List Nat) (k : Nat) : List Nat := l.reverse.take k
theorem turn_length (l : List Nat) (k : Nat) (h : k ≤ l.length) : (turn l k).length = k := by simp [turn]; omega
theorem turn_succ (l : List Nat) (k : Nat) (h : k < l.length) : turn l (k + 1) = turn l k ++ [l.getD (l.length - k - 1) 0] := by
  unfold turn
  rw [W.take_succ_getD _ _ (by simpa using h)]
  congr 2
  simp only [List.getD]
  rw [List.getElem?_reverse h]
  congr 2
  omega
theorem turn_all (l : List Nat) : turn l l.length = l.reverse := by
  unfold turn
  rw [show l.length = l.reverse.length by simp, List.take_length]

theorem own_wides {w : World} {base : Nat} {v : Value} {ns : List Nat} (h : w.ownsRow base 24 2 v ns.length (flat ns)) (hm : ∀ k, k < ns.length → ns.getD k 0 < MM) : ∃ A c, v = .slice A ns.length c ∧ Wides w A ns := by
  rcases h.2 with ⟨rfl, h0⟩ | ⟨g, cap, cur, rfl, _⟩
  · exact ⟨none, 0, by rw [h0], hm, fun hl => by omega⟩
  · refine ⟨some ⟨g, 0, none⟩, cap, rfl, hm, fun _ => ⟨g, 0, rfl, fun k hk => ?_⟩⟩
    have f := flat_get ns k hk
    rw [Nat.zero_add]
    exact ⟨(h.cellAt (k * 2) (by omega)).trans f.1, (h.cellAt (k * 2 + 1) (by omega)).trans f.2⟩
theorem rev_getD (ns : List Nat) (hm : ∀ k, k < ns.length → ns.getD k 0 < MM) : ∀ k, k < ns.reverse.length → ns.reverse.getD k 0 < MM := by
  intro k hk
  have hk' : k < ns.length := by simpa using hk
  have := hm (ns.length - 1 - k) (by omega)
  simp only [List.getD] at *
  rw [List.getElem?_reverse hk']
  exact this
theorem sum_rev (A : Option Addr) (c n : Nat) (ns : List Nat) (hn : ns.length ≤ 200) (hl : n = ns.length) (w : World) (hw : Wides w A ns.reverse) :
    Calls Try.prog 19 #[.slice A n c] w fun e w' =>
      e = .returned (.tuple #[.agg #[.int .u64 (hi (W.sumN ns) : Nat), .int .u64 (lo (W.sumN ns) : Nat)], .bool (W.sumB ns)]) ∧ Below w.heap.size w w' := by
  have e1 : W.sumN ns.reverse = W.sumN ns := by unfold W.sumN; rw [W.tot_reverse]
  have e2 : W.sumB ns.reverse = W.sumB ns := by unfold W.sumB; rw [W.tot_reverse]
  have e3 : n = ns.reverse.length := by simp [hl]
  rw [← e1, ← e2, e3]
  exact sum_any A c ns.reverse (by simpa using hn) w hw

set_option maxHeartbeats 800000 in
theorem sums_small (A : Option Addr) (c : Nat) (ns : List Nat) (hn : ns.length ≤ 200) (w : World) (hw : Wides w A ns) :
    Calls Try.prog 5 #[.slice A ns.length c] w fun e w' => e = .returned (.bool true) ∧ Below w.heap.size w w' := by
  obtain ⟨i0, hi0, hz0, hz1, hz2⟩ := info_parts Try.info24
  go_enter Try.func5, Try.ntmps5
  go_wp2
  go_loopw [3, 4] (fun v i wr => ∃ k : Nat, k ≤ ns.length ∧ i = .int .i64 ((ns.length : Int) - (k : Int)) ∧ wr.ownsRow w.heap.size 24 2 v k (flat (turn ns k)) ∧ Below w.heap.size w wr)
    (fun _ i _ => (intOf i).toNat)
  case atStart => exact ⟨0, by omega, by simp, World.ownsRow_nil _ _ _ _, Below.refl _ _⟩
  case round =>
    obtain ⟨k, hk, rfl, hown, hB⟩ := hrel
    by_cases hkn : k < ns.length
    · obtain ⟨b, off, rfl, x0, x1⟩ := (hw.below hB).at_ (k := ns.length - k - 1) (by omega)
      have HW := Lib.hid hw; clear hw
      have HT := Lib.hid (turn_succ ns k hkn)
      generalize ns.getD (ns.length - k - 1) 0 = m at *
      have hb0 := hB.size
      go_wp2_with (first
        | (at_builtin; refine wpList_append_own _ rfl _ _ 33 rfl w.heap.size 24 i0 _ 2 16 Try.underlying33 hi0 hz0 hz1 hz2 rfl (by omega) _ _ _ rfl (hown.alloc _) ⟨wr.heap.size, 0, none⟩ 1 1 [.int .u64 (hi m : Nat), .int .u64 (lo m : Nat)] rfl rfl ?c1 ?c2 ?c3 ?c4 ?c5 ?_)
        | go_in)
      case c1 =>
        intro j u hj
        match j, hj with
        | 0, hj => simp at hj; subst hj; simp [Addr.add, go_sem]
        | 1, hj => simp at hj; subst hj; simp [Addr.add, go_sem]
      case c2 => intro u hu; simp at hu; rcases hu with rfl | rfl <;> rfl
      case c3 => unfold maxLen; omega
      case c4 => omega
      case c5 => simp; omega
      intro v' w1 hown' hgrow _
      have hB' : Below w.heap.size w w1 := (bal hB _).grown hgrow (by simp; omega) (fun g hg => (hown.lt g hg).1)
      clear hown hgrow x0 x1
      go_wp2
      go_roundw
      case rel =>
        refine ⟨k + 1, by omega, by go_num, ?_, hB'⟩
        rw [HT.out, flat_append]
        exact hown'
      case measure => simp [intOf]; omega
    · have hkk : k = ns.length := by omega
      subst hkk
      rw [turn_all] at hown
      obtain ⟨A2, c2, rfl, hw2⟩ : ∃ A2 c2, u3 = .slice A2 ns.length c2 ∧ Wides wr A2 ns.reverse := by
        have := own_wides (v := u3) (ns := ns.reverse) (by simpa using hown) (rev_getD ns hw.1)
        simpa using this
      have HW := Lib.hid (hw.below hB); clear hw
      have HW2 := Lib.hid hw2; clear hw2 hown
      go_wp2_with fail
      refine (sum_any A c ns hn _ HW.out).mono ?_
      rintro e w1 ⟨rfl, h1⟩
      go_wp2_with fail
      refine (sum_rev A2 c2 ns.length ns hn rfl _ (HW2.out.below (btr h1 (alb _)))).mono ?_
      rintro e w2 ⟨rfl, h2⟩
      have s0 := kept (p := ⟨w1.heap.size, 0, none⟩) (x := .int .u64 (hi (W.sumN ns) : Nat)) (by simp [go_sem]) h2
      have s1 := kept (p := ⟨w1.heap.size, 1, none⟩) (x := .int .u64 (lo (W.sumN ns) : Nat)) (by simp [go_sem]) h2
      go_wp2_with fail
      refine (refsum_any A c ns hn _ (HW.out.below (btr (btr h1 (alb _)) (btr h2 (alb _))))).mono ?_
      rintro e w3 ⟨rfl, h3⟩
      replace s0 := kept (alc s0 _) h3
      replace s1 := kept (alc s1 _) h3
      have t0 := kept (p := ⟨w2.heap.size, 0, none⟩) (x := .int .u64 (hi (W.sumN ns) : Nat)) (by simp [go_sem]) h3
      have t1 := kept (p := ⟨w2.heap.size, 1, none⟩) (x := .int .u64 (lo (W.sumN ns) : Nat)) (by simp [go_sem]) h3
      have hBB := btr (btr (btr hB (btr h1 (alb _))) (btr h2 (alb _))) h3
      clear h1 h2 h3 hB
      go_wp2_with fail
      refine (fixed_any _).mono ?_
      rintro e w4 ⟨rfl, h4⟩
      replace s0 := kept (alc s0 _) h4
      replace s1 := kept (alc s1 _) h4
      replace t0 := kept (alc t0 _) h4
      replace t1 := kept (alc t1 _) h4
      have u0 := kept (p := ⟨w3.heap.size, 0, none⟩) (x := .int .u64 (hi (W.sumN ns) : Nat)) (by simp [go_sem]) h4
      have u1 := kept (p := ⟨w3.heap.size, 1, none⟩) (x := .int .u64 (lo (W.sumN ns) : Nat)) (by simp [go_sem]) h4
      go_wp2
      go_ret
      exact ⟨rfl, btr (bal hBB _) h4⟩

theorem sums_big (A : Option Addr) (n c : Nat) (hn : 200 < n) (w : World) :
    Calls Try.prog 5 #[.slice A n c] w fun e w' => e = .returned (.bool true) ∧ Below w.heap.size w w' := by
  go_enter Try.func5, Try.ntmps5
  go_wp2_with fail
  refine (fixed_any _).mono ?_
  rintro e w4 ⟨rfl, h4⟩
  go_wp2
  go_ret
  exact ⟨rfl, h4⟩

theorem sums_any (A : Option Addr) (n c : Nat) (ns : List Nat) (hl : ns.length = n) (w : World) (hw : Wides w A ns) :
    Calls Try.prog 5 #[.slice A n c] w fun e w' => e = .returned (.bool true) ∧ Below w.heap.size w w' := by
  subst hl
  by_cases hn : ns.length ≤ 200
  · exact sums_small A c ns hn w hw
  · exact sums_big A ns.length c (by omega) w
end Go.Proofs.Ytapomicakmbcdaa
