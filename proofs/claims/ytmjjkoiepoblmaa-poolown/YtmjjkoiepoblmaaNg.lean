/- pool.New, Len, Has, Put, Take. -/
import Derived.Test.YtmjjkoiepoblmaaNf
namespace Go.Proofs.Ytmjjkoiepoblmaa
open Go.RowKit Go.Sort Go.Maps

theorem new_any (w : World) : Calls Try.prog 8 #[] w fun e w' => ∃ p, e = .returned (.pointer (some ⟨p, 0, none⟩)) ∧ Below w.heap.size w w' ∧ ∃ F, Po w' p F [] ∧ ∀ b, F b → w.heap.size ≤ b := by
  have hmm := @run_makeMap Try.prog
  go_enter Try.func8, Try.ntmps8
  go_wp2
  go_ret
  have e1 : (w.alloc (.map #[] 0)).heap.size = w.heap.size + 1 := by simp
  have k1 : Below (w.heap.size + 1) (w.alloc (.map #[] 0)) ((w.alloc (.map #[] 0)).alloc (.cells #[.slice none 0 0, .map (some w.heap.size)] 46)) := by
    rw [← e1]
    exact alb _
  have hB : Below w.heap.size w ((w.alloc (.map #[] 0)).alloc (.cells #[.slice none 0 0, .map (some w.heap.size)] 46)) := (alb _).alloc (by simp) _
  have c : ∀ j, ((w.alloc (.map #[] 0)).alloc (.cells #[.slice none 0 0, .map (some w.heap.size)] 46)).cell? ⟨w.heap.size + 1, j, none⟩ = (#[.slice none 0 0, .map (some w.heap.size)] : Array Value)[j]? := fun j => World.cell?_alloc_at _ _ _ _ (by simp)
  refine ⟨w.heap.size + 1, rfl, hB, fp (w.heap.size + 1) w.heap.size (.slice none 0 0), ⟨w.heap.size, .slice none 0 0, [], .map [], ⟨⟨c 0, by simp [go_sem], World.ownsRow_nil _ _ _ _, by simp [Value.ownBlock]⟩, fun k h0 h1 => by simp at h1, List.Perm.refl _, Ris.nil, c 1, (Mp.made w).keep (F := fun _ => False) (Keep.of_below (by rw [e1]; exact k1)) (fun q => q), by omega, by simp [Value.ownBlock]⟩, fun b => Iff.rfl⟩, ?_⟩
  rintro b (rfl | hb | rfl)
  · omega
  · simp [Value.ownBlock] at hb
  · omega
theorem plen_any (w : World) (p : Nat) (F : Nat → Prop) (s : List Int) (h : Po w p F s) : Calls Try.prog 10 #[.pointer (some ⟨p, 0, none⟩)] w fun e w' => e = .returned (.int .i64 s.length) ∧ w = w' := by
  obtain ⟨mb, v, xs, D, P, _⟩ := h
  have c1 := P.c1
  have hown := P.map.own
  have e := P.map.size
  rw [← e]
  rw [← e] at hown
  clear P e
  go_enter Try.func10, Try.ntmps10
  go_wp2_with (first
    | (at_len; refine wpList_len_own _ rfl _ 43 rfl 27 50 Try.underlying43 _ mb _ D rfl hown ?_)
    | go_in)
  go_ret
  exact ⟨rfl, rfl⟩
theorem phas_any (w : World) (p : Nat) (F : Nat → Prop) (s : List Int) (n : Int) (h : Po w p F s) (h0 : 0 ≤ n) (h1 : n < 4294967296) : Calls Try.prog 15 #[.pointer (some ⟨p, 0, none⟩), .int .u32 n] w fun e w' => e = .returned (.bool (decide (n ∈ s))) ∧ Below w.heap.size w w' := by
  obtain ⟨mb, v, xs, D, P, _⟩ := h
  have c1 := P.c1
  have hown := P.map.own
  have e := P.map.has n h0 h1
  rw [← e]
  have hkey := key_u32 h0 h1
  clear P e
  go_enter Try.func15, Try.ntmps15
  go_wp2_with (first
    | (at_lookup; refine wpList_lookup_own_unit _ rfl _ _ 43 rfl 27 50 klaw Try.underlying43 (zero_unit _) mb _ D rfl hown _ _ rfl hkey ?_)
    | go_in)
  go_ret
  exact ⟨rfl, alb _⟩

theorem turn_keep {w w' : World} {mb : Nat} (h : w.mapTurned w' mb) : Keep (fun b => b = mb) w w' := (Keep.refl _ w).grown h.grown (fun k hk => .inl (by simpa using hk.symm))
set_option maxHeartbeats 1600000 in
theorem put_new (w : World) (p mb : Nat) (v : Value) (xs s : List Int) (D : DataW Unit) (n : Int) (HP : Hid (Pl w p mb v xs s D)) (h0 : 0 ≤ n) (h1 : n < 4294967296) (hn : n ∉ s) (hl : s.length < 65535)
    (HH : Hid (Calls Try.prog 15 #[.pointer (some ⟨p, 0, none⟩), .int .u32 n] w fun e w' => e = .returned (.bool false) ∧ Below w.heap.size w w')) :
    Calls Try.prog 13 #[.pointer (some ⟨p, 0, none⟩), .int .u32 n] w fun e w' => e = .returned (.bool true) ∧ ∃ v' xs' D', Pl w' p mb v' xs' (putS n s) D' ∧ Keep (fp p mb v) w w' ∧ ∀ b, v'.ownBlock = some b → v.ownBlock = some b ∨ w.heap.size ≤ b := by
  have hkey := key_u32 h0 h1
  have hnl : s.length < maxLen := by unfold maxLen; omega
  have hxl : xs.length = s.length := HP.out.perm.length_eq
  go_enter Try.func13, Try.ntmps13
  go_upto_region 3 with (go_at_call 15; refine HH.out.mono ?_; rintro e w1 ⟨rfl, hB⟩)
  have HB := Lib.hid hB
  have P1 := HP.out.keep (F := fun _ => False) (Keep.of_below HB.out) (fun _ _ q => q)
  have c1 := P1.c1
  have hown := P1.map.own
  have HP1 := Lib.hid P1
  clear P1 hB
  go_upto_region 4 with (first
    | (at_mapUpdate; refine wpList_mapUpdate_in _ rfl _ _ _ 43 rfl 27 50 klaw Try.underlying43 _ mb _ D rfl hown hnl _ _ _ rfl rfl hkey _ _ unitElem_mk ?_; intro w3 hown3 hturn3)
    | go_in)
  have K3 := turn_keep hturn3
  have hR3 : Rv w3 p v xs := HP1.out.rv.keep K3 (fun b hb e => by
    subst e
    rcases hb with e | e
    · exact HP1.out.nem e
    · exact HP1.out.neb e)
  have hM3 := HP1.out.map.put HP1.out.ris h0 h1 hn hown3
  have hc3 : w3.cell? ⟨p, 1, none⟩ = some (.map (some mb)) := K3.cell c1 (fun e => HP1.out.nem e.symm)
  have C := Lib.hid (hpush_any p v xs n w3 hR3 HP1.out.heap (by omega))
  have H3 : Hid (Rv w3 p v xs ∧ Mp w3 mb (putS n s) (D.put (.int .u32 n) (.agg [])) ∧ Keep (fun b => b = mb) _ w3) := ⟨hR3, hM3, K3⟩
  clear hR3 hM3 K3 hturn3 hown3 hown c1
  go_wp2_with (go_at_call 21; refine C.out.mono ?_; rintro e w4 ⟨rfl, v4, xs4, T, HP4, PM⟩)
  go_ret
  obtain ⟨_, hM, K3⟩ := H3.out
  have kw : Keep (fp p mb v) w w3 := ((Keep.of_below (F := fun _ => False) HB.out).mono (fun _ _ q => q.elim)).trans K3 (fun i e => .inl (.inr (.inr e)))
  have hs3 : w.heap.size ≤ w3.heap.size := kw.size
  have hmb : mb < w.heap.size := HP.out.map.lt
  have nb4 : v4.ownBlock ≠ some mb := fun e => by
    rcases T.blk mb e with q | q
    · exact HP1.out.neb q
    · omega
  have nfm : ¬ fr p v mb := by
    rintro (e | e)
    · exact HP1.out.nem e
    · exact HP1.out.neb e
  refine ⟨rfl, v4, xs4, _, ⟨T.rv, HP4, ?_, HP1.out.ris.put h0 h1, T.rest 1 _ (by omega) hc3, hM.keep T.keep nfm, HP1.out.nem, nb4⟩, kw.trans T.keep (fun i hi => .inl (hi.imp id (fun q => .inl q))), fun b hb => (T.blk b hb).imp id (fun q => by omega)⟩
  exact PM.trans ((List.perm_append_singleton n xs).trans ((HP1.out.perm.cons n).trans (putS_perm hn).symm))

theorem put_old (w : World) (p : Nat) (n : Int) (HH : Hid (Calls Try.prog 15 #[.pointer (some ⟨p, 0, none⟩), .int .u32 n] w fun e w' => e = .returned (.bool true) ∧ Below w.heap.size w w')) :
    Calls Try.prog 13 #[.pointer (some ⟨p, 0, none⟩), .int .u32 n] w fun e w' => e = .returned (.bool false) ∧ Below w.heap.size w w' := by
  go_enter Try.func13, Try.ntmps13
  go_wp2_with (go_at_call 15; refine HH.out.mono ?_; rintro e w1 ⟨rfl, hB⟩)
  go_ret
  exact ⟨rfl, hB⟩
theorem put_any (w : World) (p : Nat) (F : Nat → Prop) (s : List Int) (n : Int) (h : Po w p F s) (h0 : 0 ≤ n) (h1 : n < 4294967296) (hl : s.length < 65535) :
    Calls Try.prog 13 #[.pointer (some ⟨p, 0, none⟩), .int .u32 n] w fun e w' => e = .returned (.bool (!decide (n ∈ s))) ∧ Turned w w' p F (putS n s) := by
  have HH := phas_any w p F s n h h0 h1
  by_cases hn : n ∈ s
  · rw [decide_eq_true hn] at HH ⊢
    refine (put_old w p n (Lib.hid HH)).mono ?_
    rintro e w' ⟨rfl, hB⟩
    rw [putS_in h.ris hn]
    exact ⟨rfl, F, h.below hB, (Keep.of_below (F := fun _ => False) hB).mono (fun _ _ q => q.elim), fun b hb => .inl hb⟩
  · rw [decide_eq_false hn] at HH ⊢
    obtain ⟨mb, v, xs, D, P, e⟩ := h
    refine (put_new w p mb v xs s D n (Lib.hid P) h0 h1 hn hl (Lib.hid HH)).mono ?_
    rintro e w' ⟨rfl, v', xs', D', P', K, B⟩
    refine ⟨rfl, fp p mb v', ⟨mb, v', xs', D', P', fun b => Iff.rfl⟩, K.mono (fun b _ hb => (e b).2 hb), ?_⟩
    rintro b (rfl | hb | rfl)
    · exact .inl ((e _).2 (.inl rfl))
    · rcases B b hb with q | q
      · exact .inl ((e b).2 (.inr (.inl q)))
      · exact .inr q
    · exact .inl ((e _).2 (.inr (.inr rfl)))
theorem take_none (w : World) (p : Nat) (F : Nat → Prop) (h : Po w p F []) : Calls Try.prog 14 #[.pointer (some ⟨p, 0, none⟩)] w fun e w' => e = .returned (.tuple #[.int .u32 0, .bool false]) ∧ w = w' := by
  have C := plen_any w p F [] h
  go_enter Try.func14, Try.ntmps14
  go_wp2_with (go_at_call 10; refine C.mono ?_; rintro e w1 ⟨rfl, rfl⟩)
  go_ret2
  exact ⟨rfl, rfl⟩
theorem head_least {x : Int} {r xs : List Int} (hh : Heap xs.toArray xs.length) (hp : xs.Perm (x :: r)) (hr : Ris (x :: r)) : ∃ ys, xs = x :: ys ∧ ys.Perm r := by
  cases xs with
  | nil => simp at hp
  | cons y ys =>
    have e : y = x := by
      have h1 : x ∈ y :: ys := hp.symm.subset (by simp)
      have h2 : y ∈ x :: r := hp.subset (by simp)
      obtain ⟨k, hk, ek⟩ := List.getElem_of_mem h1
      have h3 := heap_least hh k hk
      rw [arr_get, arr_get, getElem!_def, getElem!_def, List.getElem?_eq_getElem hk, ek] at h3
      simp at h3
      rcases List.mem_cons.1 h2 with q | q
      · exact q
      · have := hr.lt y q
        omega
    subst e
    exact ⟨ys, rfl, (List.perm_cons y).1 hp⟩
set_option maxHeartbeats 1600000 in
theorem take_core (w : World) (p mb : Nat) (v : Value) (xs s : List Int) (D : DataW Unit) (x : Int) (HP : Hid (Pl w p mb v xs (x :: s) D)) (hl : s.length < 65535)
    (HH : Hid (Calls Try.prog 10 #[.pointer (some ⟨p, 0, none⟩)] w fun e w' => e = .returned (.int .i64 ((s.length + 1 : Nat) : Int)) ∧ w = w')) :
    Calls Try.prog 14 #[.pointer (some ⟨p, 0, none⟩)] w fun e w' => e = .returned (.tuple #[.int .u32 x, .bool true]) ∧ ∃ v' xs' D', Pl w' p mb v' xs' s D' ∧ Keep (fp p mb v) w w' ∧ ∀ b, v'.ownBlock = some b → v.ownBlock = some b ∨ w.heap.size ≤ b := by
  obtain ⟨ys, rfl, hys⟩ := head_least HP.out.heap HP.out.perm HP.out.ris
  obtain ⟨h0, h1⟩ := HP.out.ris.rng x (by simp)
  have hkey := key_u32 h0 h1
  have hyl : ys.length = s.length := hys.length_eq
  obtain ⟨g, cap, rfl⟩ := Go.Joins.ownsRow_form HP.out.rv.own (by simp)
  have hv : (x :: ys).length = ys.length + 1 := by simp
  have C := hpop_any p g cap x ys w (by rw [← hv]; exact HP.out.rv) (by rw [← hv]; exact HP.out.heap) (by omega)
  rw [← hv] at C
  have C := Lib.hid C
  generalize hV : (Value.slice (some ⟨g, 0, none⟩) (x :: ys).length cap) = v at *
  have hz : ((s.length + 1 : Nat) : Int) ≠ 0 := by omega
  generalize ((s.length + 1 : Nat) : Int) = z at *
  clear hv hV
  have hz2 : (z == 0) = false := by simpa using hz
  have hta : ∀ w, (Instr.typeAssert (.iface 27 (.int .u32 x)) 20 27 false).run Try.prog w = .ok (.int .u32 x) w := fun w => by kernel_rfl
  go_enter Try.func14, Try.ntmps14
  go_upto_region 4 with (first
    | (go_at_call 10; refine HH.out.mono ?_; rintro e w1 ⟨rfl, rfl⟩)
    | (go_at_call 22; refine C.out.mono ?_; rintro e w2 ⟨rfl, v2, xs2, T, HP2, PM⟩))
  have hM2 := HP.out.map.keep T.keep (by
    rintro (e | e)
    · exact HP.out.nem e
    · exact HP.out.neb e)
  have c2 := T.rest 1 _ (by omega) HP.out.c1
  have hown := hM2.own
  have HM := Lib.hid hM2
  have HT := Lib.hid T
  clear C HH hM2 T
  go_wp2_with (first
    | (at_delete; refine wpList_delete_own _ rfl _ _ 43 27 rfl 50 klaw Try.underlying43 _ mb _ D rfl hown _ _ rfl hkey ?_; intro w3 hown3 hturn3)
    | go_in)
  go_ret2
  have K3 := turn_keep hturn3
  have nb2 : v2.ownBlock ≠ some mb := fun e => by
    rcases HT.out.blk mb e with q | q
    · exact HP.out.neb q
    · have := HP.out.map.lt
      omega
  refine ⟨rfl, v2, xs2, _, ⟨HT.out.rv.keep K3 ?_, HP2, PM.trans hys, HP.out.ris.tail, K3.cell c2 (fun e => HP.out.nem e.symm), HM.out.del HP.out.ris hown3, HP.out.nem, nb2⟩, ?_, HT.out.blk⟩
  · rintro b (rfl | hb) e
    · exact HP.out.nem e.symm
    · rw [e] at hb
      exact nb2 hb
  · refine (HT.out.keep.mono (fun b _ hb => ?_)).trans K3 (fun i e => .inl (.inr (.inr e)))
    exact hb.imp id (fun q => .inl q)
theorem take_some (w : World) (p : Nat) (F : Nat → Prop) (x : Int) (s : List Int) (h : Po w p F (x :: s)) (hl : s.length < 65535) : Calls Try.prog 14 #[.pointer (some ⟨p, 0, none⟩)] w fun e w' => e = .returned (.tuple #[.int .u32 x, .bool true]) ∧ Turned w w' p F s := by
  have HH := plen_any w p F (x :: s) h
  obtain ⟨mb, v, xs, D, P, e⟩ := h
  refine (take_core w p mb v xs s D x (Lib.hid P) hl (Lib.hid HH)).mono ?_
  rintro e w' ⟨rfl, v', xs', D', P', K, B⟩
  refine ⟨rfl, fp p mb v', ⟨mb, v', xs', D', P', fun b => Iff.rfl⟩, K.mono (fun b _ hb => (e b).2 hb), ?_⟩
  rintro b (rfl | hb | rfl)
  · exact .inl ((e _).2 (.inl rfl))
  · rcases B b hb with q | q
    · exact .inl ((e b).2 (.inr (.inl q)))
    · exact .inr q
  · exact .inl ((e _).2 (.inr (.inr rfl)))
end Go.Proofs.Ytmjjkoiepoblmaa
