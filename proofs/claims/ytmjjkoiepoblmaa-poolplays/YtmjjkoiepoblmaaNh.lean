/- maps.Clone, slices.Clone, slices.Sort of the row; pool.List. -/
import Derived.Test.YtmjjkoiepoblmaaNg
import Derived.Test.YtmjjkoiepoblmaaSm
import Derived.Shelf.SlMaps.Clone
import Derived.Lib.SliceRun
namespace Go.Proofs.Ytmjjkoiepoblmaa
open Go.RowKit Go.Sort Go.Maps

set_option maxHeartbeats 1600000 in
theorem mclone_any (w : World) (mb : Nat) (es : Array MapEntry) (cl : Nat) (hb : w.heap[mb]? = some (.map es cl)) :
    Calls Try.prog 23 #[.map (some mb)] w fun e w' => e = .returned (.map (some w.heap.size)) ∧ w' = w.alloc (.map es cl) := by
  have hq := fun w => run_eql_map_nil_sl (P := Try.prog) w 43 _ _ (some mb) Try.underlying43
  have hf : Try.prog.funcs[28]? = some Try.f28 := by kernel_rfl
  go_enter Try.func23, Try.ntmps23
  go_wp2
  rw [run_callFunc_extern hf (by kernel_rfl) (by kernel_rfl) (by kernel_rfl) (e := Extern.MapsClone.clone) (by kernel_rfl), run_maps_clone_sl w 43 hb]
  simp only [Result.andThen]
  rw [Oper.upon_value]
  go_wp2
  rw [run_typeAssert_map_sl _ 43 20 _ _ _ Try.underlying43]
  simp only [Result.andThen]
  rw [Oper.upon_value]
  go_wp2
  go_ret
  exact ⟨rfl, rfl⟩
theorem Mp.cloned {w : World} {mb : Nat} {s : List Int} {D : DataW Unit} {es : Array MapEntry} {cl : Nat} (h : Mp w mb s D) (hb : w.heap[mb]? = some (.map es cl)) : Mp (w.alloc (.map es cl)) w.heap.size s D := by
  obtain ⟨es', cl', hb', r⟩ := h.own
  rw [hb] at hb'
  simp only [Option.some.injEq, Obj.map.injEq] at hb'
  obtain ⟨rfl, rfl⟩ := hb'
  exact ⟨⟨es, cl, (MapKept.heap_alloc w _).1, r⟩, h.size, h.has⟩

set_option maxHeartbeats 400000 in
theorem rclone_any {w : World} {v : Value} {xs : List Int} (h : w.ownsRow 0 27 1 v xs.length (us xs)) (hl : xs.length ≤ 1000000) :
    Calls Try.prog 19 #[v] w fun e w' => ∃ v', e = .returned v' ∧ w'.ownsRow w.heap.size 27 1 v' xs.length (us xs) ∧ Below w.heap.size w w' := by
  obtain ⟨i0, hi0, hz0, hz1, hz2⟩ := info_parts Try.info27
  have q : ∀ (w : World) (a : Option Addr) (n c n' c' : Nat), (binOp .eql 44 (.slice a n c) (.slice none n' c')).run Try.prog w = .ok (.bool a.isNone) w := fun w a n c n' c' => Lib.run_eql_slice_nil w _ _ a n c n' c' Try.underlying44
  rcases h.2 with ⟨rfl, h0⟩ | ⟨g, cap, cur, rfl, _⟩
  · obtain rfl : xs = [] := List.eq_nil_of_length_eq_zero h0
    go_enter Try.func19, Try.ntmps19
    go_wp2
    go_ret
    exact ⟨_, rfl, World.ownsRow_nil _ _ _ _, Below.refl _ _⟩
  · have H := Lib.hid h
    clear h
    generalize hL : xs.length = L at *
    go_enter Try.func19, Try.ntmps19
    go_wp2_with (first
      | (at_builtin; refine wpList_append_own _ rfl _ _ 44 rfl w.heap.size 27 i0 _ 1 4 Try.underlying44 hi0 hz0 hz1 hz2 rfl (by omega) _ _ _ rfl (World.ownsRow_lit w #[] 0 (Nat.le_refl _) (by unfold maxLen; omega) rfl) ⟨g, 0, none⟩ L cap (us xs) rfl ?c1 ?c2 ?c3 ?c4 ?c5 ?c6 ?_)
      | go_in)
    case c1 => rw [us_length, Nat.mul_one, hL]
    case c2 =>
      intro j u hj
      have := H.out.cells rfl j u hj
      exact alc this _
    case c3 => exact us_one xs
    case c4 => unfold maxLen; omega
    case c5 => omega
    case c6 => simp
    intro v' w2 hown hgrow _
    have hB : Below w.heap.size w w2 := (alb _).grown hgrow (by simp) (by intro k hk; simp [Value.ownBlock] at hk; omega)
    clear hgrow
    go_wp2
    go_ret
    exact ⟨_, rfl, by simpa using hown, hB⟩

set_option maxRecDepth 1000000 in
theorem insert_nil (w : World) : Calls Try.prog 29 #[.slice none 0 0, .int .i64 0, .int .i64 0] w fun e w' => e = .returned (.tuple #[]) ∧ w = w' := by
  go_enter Try.func29, Try.ntmps29
  go_wp2
  go_loopg [6] 0 (fun _ s wr => s = .int .i64 1 ∧ w = wr)
  case atStart => exact ⟨rfl, rfl⟩
  case round =>
    obtain ⟨rfl, rfl⟩ := hrel
    go_wp2
    go_end0
    exact ⟨rfl, rfl⟩
set_option maxRecDepth 1000000 in
theorem pdq_nil (w : World) : Calls Try.prog 24 #[.slice none 0 0, .int .i64 0, .int .i64 0, .int .i64 0] w fun e w' => e = .returned (.tuple #[]) ∧ w = w' := by
  go_enter Try.func24, Try.ntmps24
  go_wp2
  go_loopg [1, 2] 0 (fun _ s s2 wr => s = .int .i64 0 ∧ s2 = .int .i64 0 ∧ w = wr)
  case atStart => exact ⟨rfl, rfl, rfl⟩
  case round =>
    obtain ⟨rfl, rfl, rfl⟩ := hrel
    have C := insert_nil w
    go_wp2_with (go_at_call 29; refine C.mono ?_; rintro e w1 ⟨rfl, rfl⟩)
    (try simp only [Exit.inBlock, Exit.then]); refine bodyPost_ret (results_none rfl _ _ _) rfl ?_
    exact ⟨rfl, rfl⟩
theorem sort_nil (w : World) : Calls Try.prog 20 #[.slice none 0 0] w fun e w' => e = .returned (.tuple #[]) ∧ w = w' := by
  have C1 := len_any 0 (by decide) w
  rw [show Lib.bitLen 0 = 0 by decide] at C1
  have C2 := pdq_nil w
  go_enter Try.func20, Try.ntmps20
  go_wp2_with (first
    | (go_at_call 25; refine C1.mono ?_; rintro e w1 ⟨rfl, rfl⟩)
    | (go_at_call 24; refine C2.mono ?_; rintro e w1 ⟨rfl, rfl⟩))
  go_end0
  exact ⟨rfl, rfl⟩
theorem sorted_le {d : Array Int} {n : Nat} (h : SortedIn ltInt 0 n d) (hd : d.size = n) : d.toList.Pairwise (· ≤ ·) := by
  rw [List.pairwise_iff_getElem]
  intro i j hi hj hij
  have := h i j (Nat.zero_le _) hij (by simpa [hd] using hj)
  rw [← list_get, ← list_get, getElem!_def, getElem!_def, List.getElem?_eq_getElem hi, List.getElem?_eq_getElem hj] at this
  simpa [ltInt] using this
/-- A row of its own, sorted. -/
theorem rsort_any {w : World} {base : Nat} {v : Value} {xs s : List Int} (h : w.ownsRow base 27 1 v xs.length (us xs)) (hl : xs.length < 65536) (hp : xs.Perm s) (hr : Ris s) :
    Calls Try.prog 20 #[v] w fun e w' => e = .returned (.tuple #[]) ∧ w'.ownsRow base 27 1 v s.length (us s) ∧ Keep (fun b => v.ownBlock = some b) w w' := by
  rcases h.2 with ⟨rfl, h0⟩ | ⟨g, cap, cur, rfl, _⟩
  · obtain rfl : xs = [] := List.eq_nil_of_length_eq_zero h0
    obtain rfl : s = [] := List.Perm.nil_eq hp |>.symm
    exact (sort_nil w).mono fun e w' q => ⟨q.1, World.ownsRow_nil _ _ _ _, by rw [← q.2]; exact Keep.refl _ _⟩
  · have C := sort_any g 0 cap xs.toArray w (own_holds h) (by simpa using hl)
    rw [List.size_toArray] at C
    refine C.mono ?_
    rintro e w' ⟨rfl, d', P, S, R⟩
    have hd : d'.size = xs.length := by rw [P.1]; simp
    have e1 : d'.toList = s := by
      have q1 : d'.toList.Perm s := (perm_list P (by simp)).trans hp
      refine rising_eq ?_ hr.up q1
      have le := sorted_le S hd
      have nd : d'.toList.Pairwise (· ≠ ·) := q1.symm.pairwise (hr.up.imp (fun h => by omega)) (fun h => h.symm)
      exact (le.and nd).imp (fun ⟨a, b⟩ => by omega)
    have o2 := own_of_rw h R hd
    rw [e1] at o2
    refine ⟨rfl, ?_, R.keep.mono (fun k _ e => by rw [e]; rfl)⟩
    rw [← hp.length_eq]
    exact o2
theorem list_any (w : World) (p : Nat) (F : Nat → Prop) (s : List Int) (h : Po w p F s) (hl : s.length < 65536) :
    Calls Try.prog 12 #[.pointer (some ⟨p, 0, none⟩)] w fun e w' => ∃ v', e = .returned v' ∧ w'.ownsRow w.heap.size 27 1 v' s.length (us s) ∧ Below w.heap.size w w' := by
  obtain ⟨mb, v, xs, D, P, _⟩ := h
  have c0 := P.rv.c0
  have hx : xs.length = s.length := P.perm.length_eq
  obtain ⟨A, cap, hv⟩ : ∃ A cap, v = .slice A xs.length cap := by
    rcases P.rv.own.2 with ⟨q, e⟩ | ⟨k, cap, cur, q, _⟩
    · exact ⟨none, 0, by rw [q, e]⟩
    · exact ⟨_, _, q⟩
  have HP := Lib.hid P
  have C := Lib.hid (rclone_any P.rv.own (by omega))
  have hl2 : Hid (xs.length < 65536) := by
    rw [hx]
    exact hl
  clear P hx
  rw [hv] at c0 C
  clear hv
  obtain ⟨L, hL⟩ : ∃ L, L = xs.length := ⟨_, rfl⟩
  rw [← hL] at c0 C
  have HL := Lib.hid hL
  clear hL
  go_enter Try.func12, Try.ntmps12
  go_upto_region 2 with (go_at_call 19; refine C.out.mono ?_; rintro e w1 ⟨v1, rfl, o1, B1⟩)
  rw [HL.out] at o1
  have S := Lib.hid (rsort_any o1 hl2.out HP.out.perm HP.out.ris)
  have HO := Lib.hid o1
  have HB := Lib.hid B1
  clear o1 B1 C
  go_wp2_with (go_at_call 20; refine S.out.mono ?_; rintro e w2 ⟨rfl, o2, K2⟩)
  go_ret
  exact ⟨v1, rfl, o2, HB.out.trans (K2.below HB.out.size (fun b hb => (HO.out.lt b hb).1))⟩
end Go.Proofs.Ytmjjkoiepoblmaa
