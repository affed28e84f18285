/- Contracts that the claim reaches (Nh Lin Lh Ni Nj Va Vc Crc Gm Um Ua). -/
import Derived.Test.YtlcnefeikejcaaaGreatDoorPl02
import Derived.Shelf.SlMaps.Clone
import Derived.Lib.SliceRun
import Derived.Deep.RegionHeld3
import Derived.Deep.DeepCutAuto
import Derived.Lib.AppendZeros
import Derived.Test.YtlcnefeikejcaaaGreatDoorRows
import Derived.Laws.StructEq
namespace Go.Proofs.YtlcnefeikejcaaaGreatDoor
open Go.RowKit Go.Sort Go.Maps
set_option maxHeartbeats 1600000 in
set_option maxRecDepth 100000 in
theorem mclone_any (w : World) (mb : Nat) (es : Array MapEntry) (cl : Nat) (hb : w.heap[mb]? = some (.map es cl)) :
    Calls Tryz.prog 156 #[.map (some mb)] w fun e w' => e = .returned (.map (some w.heap.size)) ∧ w' = w.alloc (.map es cl) := by
  have hq := fun w => run_eql_map_nil_sl (P := Tryz.prog) w 183 _ _ (some mb) Tryz.underlying183
  have hf : Tryz.prog.funcs[157]? = some Tryz.f157 := by kernel_rfl
  go_enter Tryz.func156, Tryz.ntmps156
  go_wp2
  rw [run_callFunc_extern hf (by kernel_rfl) (by kernel_rfl) (by kernel_rfl) (e := Extern.MapsClone.clone) (by kernel_rfl), run_maps_clone_sl w 183 hb]
  simp only [Result.andThen]
  rw [Oper.upon_value]
  go_wp2
  rw [run_typeAssert_map_sl _ 183 20 _ _ _ Tryz.underlying183]
  simp only [Result.andThen]
  rw [Oper.upon_value]
  go_wp2
  go_ret
  exact ⟨rfl, rfl⟩
theorem Mp.cloned {w : World} {mb : Nat} {s : List Int} {D : DataW Unit} {es : Array MapEntry} {cl : Nat} (h : Mp w mb s D) (hb : w.heap[mb]? = some (.map es cl)) : Mp (w.alloc (.map es cl)) w.heap.size s D := by
  obtain ⟨es', cl', hb', r⟩ := h.own
  rw [hb] at hb'
  simp only [Option.some.injEq, Obj.map.injEq] at hb'
  obtain ⟨rfl, rfl⟩ := hb'
  exact ⟨⟨es, cl, (MapKept.heap_alloc w _).1, r⟩, h.size, h.has⟩
set_option maxHeartbeats 400000 in
theorem rclone_any {w : World} {v : Value} {xs : List Int} (h : w.ownsRow 0 31 1 v xs.length (us xs)) (hl : xs.length ≤ 1000000) :
    Calls Tryz.prog 108 #[v] w fun e w' => ∃ v', e = .returned v' ∧ w'.ownsRow w.heap.size 31 1 v' xs.length (us xs) ∧ Below w.heap.size w w' := by
  obtain ⟨i0, hi0, hz0, hz1, hz2⟩ := info_parts Tryz.info31
  have q : ∀ (w : World) (a : Option Addr) (n c n' c' : Nat), (binOp .eql 181 (.slice a n c) (.slice none n' c')).run Tryz.prog w = .ok (.bool a.isNone) w := fun w a n c n' c' => Lib.run_eql_slice_nil w _ _ a n c n' c' Tryz.underlying181
  rcases h.2 with ⟨rfl, h0⟩ | ⟨g, cap, cur, rfl, _⟩
  · obtain rfl : xs = [] := List.eq_nil_of_length_eq_zero h0
    go_enter Tryz.func108, Tryz.ntmps108
    go_wp2
    go_ret
    exact ⟨_, rfl, World.ownsRow_nil _ _ _ _, Below.refl _ _⟩
  · have H := Lib.hid h
    clear h
    generalize hL : xs.length = L at *
    go_enter Tryz.func108, Tryz.ntmps108
    go_wp2_with (first
      | (at_builtin; refine wpList_append_own _ rfl _ _ 181 rfl w.heap.size 31 i0 _ 1 4 Tryz.underlying181 hi0 hz0 hz1 hz2 rfl (by omega) _ _ _ rfl (World.ownsRow_lit w #[] 0 (Nat.le_refl _) (by unfold maxLen; omega) rfl) ⟨g, 0, none⟩ L cap (us xs) rfl ?c1 ?c2 ?c3 ?c4 ?c5 ?c6 ?_)
      | go_in)
    case c1 => rw [us_length, Nat.mul_one, hL]
    case c2 =>
      intro j u hj
      have := H.out.cells rfl j u hj
      exact alc this _
    case c3 => exact us_one xs
    case c4 => unfold maxLen; omega
    case c5 => omega
    case c6 => simp
    intro v' w2 hown hgrow _
    have hB : Below w.heap.size w w2 := (alb _).grown hgrow (by simp) (by intro k hk; simp [Value.ownBlock] at hk; omega)
    clear hgrow
    go_wp2
    go_ret
    exact ⟨_, rfl, by simpa using hown, hB⟩
set_option maxRecDepth 1000000 in
theorem insert_nil (w : World) : Calls Tryz.prog 136 #[.slice none 0 0, .int .i64 0, .int .i64 0] w fun e w' => e = .returned (.tuple #[]) ∧ w = w' := by
  go_enter Tryz.func136, Tryz.ntmps136
  go_wp2
  go_loopg [6] 0 (fun _ s wr => s = .int .i64 1 ∧ w = wr)
  case atStart => exact ⟨rfl, rfl⟩
  case round =>
    obtain ⟨rfl, rfl⟩ := hrel
    go_wp2
    go_end0
    exact ⟨rfl, rfl⟩
set_option maxRecDepth 1000000 in
theorem pdq_nil (w : World) : Calls Tryz.prog 110 #[.slice none 0 0, .int .i64 0, .int .i64 0, .int .i64 0] w fun e w' => e = .returned (.tuple #[]) ∧ w = w' := by
  go_enter Tryz.func110, Tryz.ntmps110
  go_wp2
  go_loopg [1, 2] 0 (fun _ s s2 wr => s = .int .i64 0 ∧ s2 = .int .i64 0 ∧ w = wr)
  case atStart => exact ⟨rfl, rfl, rfl⟩
  case round =>
    obtain ⟨rfl, rfl, rfl⟩ := hrel
    have C := insert_nil w
    go_wp2_with (go_at_call 136; refine C.mono ?_; rintro e w1 ⟨rfl, rfl⟩)
    (try simp only [Exit.inBlock, Exit.then]); refine bodyPost_ret (results_none rfl _ _ _) rfl ?_
    exact ⟨rfl, rfl⟩
theorem sort_nil (w : World) : Calls Tryz.prog 109 #[.slice none 0 0] w fun e w' => e = .returned (.tuple #[]) ∧ w = w' := by
  have C1 := len_any 0 (by decide) w
  rw [show Lib.bitLen 0 = 0 by decide] at C1
  have C2 := pdq_nil w
  go_enter Tryz.func109, Tryz.ntmps109
  go_wp2_with (first
    | (go_at_call 111; refine C1.mono ?_; rintro e w1 ⟨rfl, rfl⟩)
    | (go_at_call 110; refine C2.mono ?_; rintro e w1 ⟨rfl, rfl⟩))
  go_end0
  exact ⟨rfl, rfl⟩
theorem sorted_le {d : Array Int} {n : Nat} (h : SortedIn ltInt 0 n d) (hd : d.size = n) : d.toList.Pairwise (· ≤ ·) := by
  rw [List.pairwise_iff_getElem]
  intro i j hi hj hij
  have := h i j (Nat.zero_le _) hij (by simpa [hd] using hj)
  rw [← list_get, ← list_get, getElem!_def, getElem!_def, List.getElem?_eq_getElem hi, List.getElem?_eq_getElem hj] at this
  simpa [ltInt] using this
theorem rsort_any {w : World} {base : Nat} {v : Value} {xs s : List Int} (h : w.ownsRow base 31 1 v xs.length (us xs)) (hl : xs.length < 65536) (hp : xs.Perm s) (hr : Ris s) :
    Calls Tryz.prog 109 #[v] w fun e w' => e = .returned (.tuple #[]) ∧ w'.ownsRow base 31 1 v s.length (us s) ∧ Keep (fun b => v.ownBlock = some b) w w' := by
  rcases h.2 with ⟨rfl, h0⟩ | ⟨g, cap, cur, rfl, _⟩
  · obtain rfl : xs = [] := List.eq_nil_of_length_eq_zero h0
    obtain rfl : s = [] := List.Perm.nil_eq hp |>.symm
    exact (sort_nil w).mono fun e w' q => ⟨q.1, World.ownsRow_nil _ _ _ _, by rw [← q.2]; exact Keep.refl _ _⟩
  · have C := sort_any g 0 cap xs.toArray w (own_holds h) (by simpa using hl)
    rw [List.size_toArray] at C
    refine C.mono ?_
    rintro e w' ⟨rfl, d', P, S, R⟩
    have hd : d'.size = xs.length := by rw [P.1]; simp
    have e1 : d'.toList = s := by
      have q1 : d'.toList.Perm s := (perm_list P (by simp)).trans hp
      refine rising_eq ?_ hr.up q1
      have le := sorted_le S hd
      have nd : d'.toList.Pairwise (· ≠ ·) := q1.symm.pairwise (hr.up.imp (fun h => by omega)) (fun h => h.symm)
      exact (le.and nd).imp (fun ⟨a, b⟩ => by omega)
    have o2 := own_of_rw h R hd
    rw [e1] at o2
    refine ⟨rfl, ?_, R.keep.mono (fun k _ e => by rw [e]; rfl)⟩
    rw [← hp.length_eq]
    exact o2
theorem list_any (w : World) (p : Nat) (F : Nat → Prop) (s : List Int) (h : Po w p F s) (hl : s.length < 65536) :
    Calls Tryz.prog 64 #[.pointer (some ⟨p, 0, none⟩)] w fun e w' => ∃ v', e = .returned v' ∧ w'.ownsRow w.heap.size 31 1 v' s.length (us s) ∧ Below w.heap.size w w' := by
  obtain ⟨mb, v, xs, D, P, _⟩ := h
  have c0 := P.rv.c0
  have hx : xs.length = s.length := P.perm.length_eq
  obtain ⟨A, cap, hv⟩ : ∃ A cap, v = .slice A xs.length cap := by
    rcases P.rv.own.2 with ⟨q, e⟩ | ⟨k, cap, cur, q, _⟩
    · exact ⟨none, 0, by rw [q, e]⟩
    · exact ⟨_, _, q⟩
  have HP := Lib.hid P
  have C := Lib.hid (rclone_any P.rv.own (by omega))
  have hl2 : Hid (xs.length < 65536) := by
    rw [hx]
    exact hl
  clear P hx
  rw [hv] at c0 C
  clear hv
  obtain ⟨L, hL⟩ : ∃ L, L = xs.length := ⟨_, rfl⟩
  rw [← hL] at c0 C
  have HL := Lib.hid hL
  clear hL
  go_enter Tryz.func64, Tryz.ntmps64
  go_upto_region 2 with (go_at_call 108; refine C.out.mono ?_; rintro e w1 ⟨v1, rfl, o1, B1⟩)
  rw [HL.out] at o1
  have S := Lib.hid (rsort_any o1 hl2.out HP.out.perm HP.out.ris)
  have HO := Lib.hid o1
  have HB := Lib.hid B1
  clear o1 B1 C
  go_wp2_with (go_at_call 109; refine S.out.mono ?_; rintro e w2 ⟨rfl, o2, K2⟩)
  go_ret
  exact ⟨v1, rfl, o2, HB.out.trans (K2.below HB.out.size (fun b hb => (HO.out.lt b hb).1))⟩
end Go.Proofs.YtlcnefeikejcaaaGreatDoor
namespace Go.Proofs.YtlcnefeikejcaaaGreatDoor
open Go.RowKit
section
variable {P : Program} {ops : Array Oper} {Q : Exit → Act → World → Prop}
theorem held_mono {md : Region.Mode} {S T : World → Prop} (h : ∀ w, T w → S w) : ∀ (fuel : Nat) (listed : Array Bool) (a : Act) (w : World), wpAnyH P md ops Q T fuel listed a w → wpAnyH P md ops Q S fuel listed a w
  | 0, _, _, _, k => k
  | fuel + 1, _, _, _, k => ⟨k.1, fun i hi => wpOp_mono (fun a' w' q => ⟨h w' q.1, held_mono h fuel _ a' w' q.2⟩) (k.2 i hi)⟩
def Lin (P : Program) (ops : Array Oper) (Q : Exit → Act → World → Prop) (fuel : Nat) (listed : Array Bool) (a : Act) (w : World) : Prop :=
  wpAnyH P .any ops Q (fun w' => Below w.heap.size w w') fuel listed a w
theorem lin_start (n : Nat) {id : Nat} {a : Act} {w : World} (hn : ops.size = n) (hm : P.follows .mixedOrders = true) (h : Lin P ops Q n (Array.replicate n false) a w.drew) : (Code.region id ops true).wp P Q a w := by
  subst hn
  exact wp_region_held hm h
theorem lin_done {fuel : Nat} {listed : Array Bool} {a : Act} {w : World} (hr : Region.ready .any ops listed = []) (h : Q .normal a w) : Lin P ops Q fuel listed a w :=
  wpAnyH_done hr h fuel
theorem put_back (hQ : ∀ c t u a w, Q (.panic c) (Act.put a (some t) u) w → Q (.panic c) a w) {d : Option Tmp} {v : Value} : ∀ c a w, Q (.panic c) (Act.put a d v) w → Q (.panic c) a w := by
  intro c a w h
  cases d with
  | none => exact h
  | some t => exact hQ c t v a w h
theorem lin_take (i t : Nat) {oi : Oper} {v : Value} {fuel : Nat} {listed : Array Bool} {a : Act} {w : World} (hi : ops[i]? = some oi) (hd : oi.dst = some t)
    (hs : Region.noSelect ops = true) (hf : Region.free .any ops listed i = true) (hr : (Region.ready .any ops listed).contains i = true)
    (hQ : ∀ c t u a w, Q (.panic c) (Act.put a (some t) u) w → Q (.panic c) a w) (hw : Region.wanted oi (yielded ops a.tmps) = true)
    (hy : ∀ W, Below w.heap.size w W → (execOp a.eval oi).run P W = .ok (.value v) W)
    (h : Lin P ops Q fuel (listed.setIfInBounds i true) (a.put (some t) v) w) : Lin P ops Q (fuel + 1) listed a w :=
  wpAnyH_take hi hs hf hr (put_back hQ) (Or.inl ⟨hw, hy⟩) (Below.refl _ _) (by rw [hd]; exact h)
theorem lin_skip (i t : Nat) {oi : Oper} {fuel : Nat} {listed : Array Bool} {a : Act} {w : World} (hi : ops[i]? = some oi) (hd : oi.dst = some t)
    (hs : Region.noSelect ops = true) (hf : Region.free .any ops listed i = true) (hr : (Region.ready .any ops listed).contains i = true)
    (hQ : ∀ c t u a w, Q (.panic c) (Act.put a (some t) u) w → Q (.panic c) a w) (hw : Region.wanted oi (yielded ops a.tmps) = false)
    (h : Lin P ops Q fuel (listed.setIfInBounds i true) (a.put (some t) undef) w) : Lin P ops Q (fuel + 1) listed a w :=
  wpAnyH_take hi hs hf hr (put_back hQ) (Or.inr ⟨hw, rfl⟩) (Below.refl _ _) (by rw [hd]; exact h)
theorem lin_step (i : Nat) {o : Oper} {fuel : Nat} {listed : Array Bool} {a : Act} {w : World} (ho : ops[i]? = some o) (hr : Region.ready .any ops listed = [i])
    (h : ∀ K : Act → World → Prop, Shut (∀ a' w', Below w.heap.size w w' → Lin P ops Q fuel (listed.setIfInBounds i true) a' w' → K a' w') → if Region.wanted o (yielded ops a.tmps) = true then Oper.wp P o a w K Q else K (a.put o.dst undef) w) :
    Lin P ops Q (fuel + 1) listed a w := by
  refine wpAnyH_all hr (by simp) (fun j hj => ?_)
  obtain rfl : j = i := by simpa using hj
  exact wpOp_step ho (fun K hK => h K (fun a' w' hb hl => hK a' w' ⟨hb, held_mono (fun u hu => btr hb hu) _ _ _ _ hl⟩))
end
end Go.Proofs.YtlcnefeikejcaaaGreatDoor
namespace Go.Proofs.YtlcnefeikejcaaaGreatDoor
open Go.RowKit
section
variable {P : Program} {ops : Array Oper} {Q : Exit → Act → World → Prop} {S : World → Prop}
theorem lh_start (n : Nat) (S : World → Prop) {id : Nat} {a : Act} {w : World} (hn : ops.size = n) (hm : P.follows .mixedOrders = true) (h : wpAnyH P .any ops Q S n (Array.replicate n false) a w.drew) : (Code.region id ops true).wp P Q a w := by
  subst hn
  exact wp_region_held hm h
theorem lh_done {fuel : Nat} {listed : Array Bool} {a : Act} {w : World} (hr : Region.ready .any ops listed = []) (h : Q .normal a w) : wpAnyH P .any ops Q S fuel listed a w := wpAnyH_done hr h fuel
theorem lh_take (i t : Nat) {oi : Oper} {v : Value} {fuel : Nat} {listed : Array Bool} {a : Act} {w : World} (hi : ops[i]? = some oi) (hd : oi.dst = some t)
    (hs : Region.noSelect ops = true) (hf : Region.free .any ops listed i = true) (hr : (Region.ready .any ops listed).contains i = true)
    (hQ : ∀ c t u a w, Q (.panic c) (Act.put a (some t) u) w → Q (.panic c) a w) (hw : Region.wanted oi (yielded ops a.tmps) = true) (hS : S w)
    (hy : ∀ W, S W → (execOp a.eval oi).run P W = .ok (.value v) W)
    (h : wpAnyH P .any ops Q S fuel (listed.setIfInBounds i true) (a.put (some t) v) w) : wpAnyH P .any ops Q S (fuel + 1) listed a w :=
  wpAnyH_take hi hs hf hr (put_back hQ) (Or.inl ⟨hw, hy⟩) hS (by rw [hd]; exact h)
def Does (P : Program) (ops : Array Oper) (Q : Exit → Act → World → Prop) (S : World → Prop) (i : Nat) (o : Oper) (fuel : Nat) (listed : Array Bool) (a : Act) (w : World) : Prop :=
  ∀ K : Act → World → Prop, Shut (∀ a' w', S w' → wpAnyH P .any ops Q S fuel (listed.setIfInBounds i true) a' w' → K a' w') → Oper.wp P o a w K Q
theorem does_op {i : Nat} {o : Oper} {fuel : Nat} {listed : Array Bool} {a : Act} {w : World} (ho : ops[i]? = some o) (hg : o.guard = none) (h : Does P ops Q S i o fuel listed a w) :
    wpOp P ops Q i (fun a' w' => S w' ∧ wpAnyH P .any ops Q S fuel (listed.setIfInBounds i true) a' w') a w :=
  wpOp_step ho (fun K hK => by rw [if_pos (by simp [Region.wanted, hg])]; exact h K (fun a' w' hb hl => hK a' w' ⟨hb, hl⟩))
theorem lh_one (i : Nat) {o : Oper} {fuel : Nat} {listed : Array Bool} {a : Act} {w : World} (ho : ops[i]? = some o) (hg : o.guard = none) (hr : Region.ready .any ops listed = [i])
    (h : Does P ops Q S i o fuel listed a w) : wpAnyH P .any ops Q S (fuel + 1) listed a w := by
  refine wpAnyH_all hr (by simp) (fun j hj => ?_)
  obtain rfl := List.mem_singleton.1 hj
  exact does_op ho hg h
theorem lh_two (i j : Nat) {oi oj : Oper} {fuel : Nat} {listed : Array Bool} {a : Act} {w : World} (ho : ops[i]? = some oi) (ho2 : ops[j]? = some oj) (hg : oi.guard = none) (hg2 : oj.guard = none) (hr : Region.ready .any ops listed = [i, j])
    (h : Does P ops Q S i oi fuel listed a w) (h2 : Does P ops Q S j oj fuel listed a w) : wpAnyH P .any ops Q S (fuel + 1) listed a w := by
  refine wpAnyH_all hr (by simp) (fun k hk => ?_)
  rcases List.mem_cons.1 hk with rfl | hk
  · exact does_op ho hg h
  · obtain rfl := List.mem_singleton.1 hk
    exact does_op ho2 hg2 h2
end
end Go.Proofs.YtlcnefeikejcaaaGreatDoor
namespace Go.Proofs.YtlcnefeikejcaaaGreatDoor
open Go.RowKit Go.Sort Go.Maps
theorem own_form {w : World} {base size n : Nat} {e : TypeId} {v : Value} {xs : List Value} (h : w.ownsRow base e size v n xs) : ∃ A c, v = .slice A n c := by
  rcases h.2 with ⟨rfl, e⟩ | ⟨k, cap, cur, rfl, _⟩
  · rw [e]
    exact ⟨_, _, rfl⟩
  · exact ⟨_, _, rfl⟩
set_option maxHeartbeats 1600000 in
theorem copy_any (w : World) (p : Nat) (F : Nat → Prop) (s : List Int) (h : Po w p F s) (hl : s.length < 65536) :
    Calls Tryz.prog 130 #[.pointer (some ⟨p, 0, none⟩)] w fun e w' => ∃ q, e = .returned (.pointer (some ⟨q, 0, none⟩)) ∧ Below w.heap.size w w' ∧ ∃ G, Po w' q G s ∧ ∀ b, G b → w.heap.size ≤ b := by
  obtain ⟨mb, v, xs, D, P, _⟩ := h
  have hx : xs.length = s.length := P.perm.length_eq
  obtain ⟨A, n, cap, hv⟩ : ∃ A n cap, v = .slice A n cap := by
    rcases P.rv.own.2 with ⟨q, e⟩ | ⟨k, cap, cur, q, _⟩
    · exact ⟨none, 0, 0, q⟩
    · exact ⟨_, _, _, q⟩
  obtain ⟨es, cl, hb, _⟩ := id P.map.own
  have HR : Hid (∀ W, Below w.heap.size w W → Calls Tryz.prog 108 #[v] W fun e w' => ∃ v', e = .returned v' ∧ w'.ownsRow W.heap.size 31 1 v' xs.length (us xs) ∧ Below W.heap.size W w') :=
    fun W hW => rclone_any ((P.keep (F := fun _ => False) (Keep.of_below hW) (fun _ _ q => q)).rv.own) (by omega)
  have HM : Hid (∀ W, Below w.heap.size w W → Calls Tryz.prog 156 #[.map (some mb)] W fun e w' => e = .returned (.map (some W.heap.size)) ∧ Below W.heap.size W w' ∧ Mp w' W.heap.size s D ∧ W.heap.size < w'.heap.size) := fun W hW => by
    have hbW : W.heap[mb]? = some (.map es cl) := (hW.block mb P.map.lt).trans hb
    refine (mclone_any W mb es cl hbW).mono ?_
    rintro e w' ⟨rfl, rfl⟩
    exact ⟨rfl, alb _, (P.map.keep (F := fun _ => False) (Keep.of_below hW) (fun q => q)).cloned hbW, by simp⟩
  have HP := Lib.hid P
  have C0 := Lib.hid P.rv.c0
  have C1 := Lib.hid P.c1
  rw [hv] at C0 HR
  have FIN : Hid (∀ W v' q (hB : Below w.heap.size w W) (ho : W.ownsRow w.heap.size 31 1 v' xs.length (us xs)) (hm : Mp W q s D) (hq : w.heap.size ≤ q) (hne : v'.ownBlock ≠ some q) (t : TypeId), Below w.heap.size w (W.alloc (.cells #[v', .map (some q)] t)) ∧ ∃ G, Po (W.alloc (.cells #[v', .map (some q)] t)) W.heap.size G s ∧ ∀ b, G b → w.heap.size ≤ b) := by
    intro W v' q hB ho hm hq hne t
    have c : ∀ j, (W.alloc (.cells #[v', .map (some q)] t)).cell? ⟨W.heap.size, j, none⟩ = (#[v', .map (some q)] : Array Value)[j]? := fun j => World.cell?_alloc_at _ _ _ _ rfl
    have ka : Keep (fun _ => False) W (W.alloc (.cells #[v', .map (some q)] t)) := Keep.of_below (alb _)
    have hql : q < W.heap.size := hm.lt
    refine ⟨hB.alloc hB.size _, fp W.heap.size q v', ⟨q, v', xs, D, ⟨⟨c 0, by simp [go_sem], Go.Joins.ownsRow_le (own_keep ho ka (fun _ _ h => h)) (Nat.zero_le _), fun e => ?_⟩, HP.out.heap, HP.out.perm, HP.out.ris, c 1, hm.keep ka (fun h => h), by omega, hne⟩, fun b => Iff.rfl⟩, ?_⟩
    · have := (ho.lt _ e).2
      omega
    · rintro b (rfl | hb | rfl)
      · exact hB.size
      · exact (ho.lt b hb).1
      · exact hq
  clear P hb hv hx
  generalize xs.length = L at *
  go_enter Tryz.func130, Tryz.ntmps130
  go_wp2_with fail
  have hS : Hid (Below w.heap.size w w.drew) := (Below.refl _ _).drew
  refine lh_start 13 (fun W => Below w.heap.size w W) rfl (by kernel_rfl) ?_
  refine lh_take 0 3 (v := ?_) rfl rfl (by kernel_rfl) (by kernel_rfl) (by kernel_rfl) (fun _ _ _ _ _ h => h) (by rfl) hS.out (fun W hW => ?_) ?_
  rotate_left
  · go_simp; try rfl
  try simp only [Act.put, List.setIfInBounds_toArray, List.set_cons_zero, List.set_cons_succ]
  refine lh_take 1 4 (v := ?_) rfl rfl (by kernel_rfl) (by kernel_rfl) (by kernel_rfl) (fun _ _ _ _ _ h => h) (by rfl) hS.out (fun W hW => ?_) ?_
  rotate_left
  · go_simp; try rfl
  try simp only [Act.put, List.setIfInBounds_toArray, List.set_cons_zero, List.set_cons_succ]
  refine lh_take 2 5 (v := ?_) rfl rfl (by kernel_rfl) (by kernel_rfl) (by kernel_rfl) (fun _ _ _ _ _ h => h) (by rfl) hS.out (fun W hW => ?_) ?_
  rotate_left
  · go_simp; try rfl
  try simp only [Act.put, List.setIfInBounds_toArray, List.set_cons_zero, List.set_cons_succ]
  refine lh_take 3 6 (v := ?_) rfl rfl (by kernel_rfl) (by kernel_rfl) (by kernel_rfl) (fun _ _ _ _ _ h => h) (by rfl) hS.out (fun W hW => ?_) ?_
  rotate_left
  · have q := kept C0.out hW; go_simp; try rfl
  try simp only [Act.put, List.setIfInBounds_toArray, List.set_cons_zero, List.set_cons_succ]
  refine lh_take 5 8 (v := ?_) rfl rfl (by kernel_rfl) (by kernel_rfl) (by kernel_rfl) (fun _ _ _ _ _ h => h) (by rfl) hS.out (fun W hW => ?_) ?_
  rotate_left
  · go_simp; try rfl
  try simp only [Act.put, List.setIfInBounds_toArray, List.set_cons_zero, List.set_cons_succ]
  refine lh_take 6 9 (v := ?_) rfl rfl (by kernel_rfl) (by kernel_rfl) (by kernel_rfl) (fun _ _ _ _ _ h => h) (by rfl) hS.out (fun W hW => ?_) ?_
  rotate_left
  · go_simp; try rfl
  try simp only [Act.put, List.setIfInBounds_toArray, List.set_cons_zero, List.set_cons_succ]
  refine lh_take 7 10 (v := ?_) rfl rfl (by kernel_rfl) (by kernel_rfl) (by kernel_rfl) (fun _ _ _ _ _ h => h) (by rfl) hS.out (fun W hW => ?_) ?_
  rotate_left
  · go_simp; try rfl
  try simp only [Act.put, List.setIfInBounds_toArray, List.set_cons_zero, List.set_cons_succ]
  refine lh_take 8 11 (v := ?_) rfl rfl (by kernel_rfl) (by kernel_rfl) (by kernel_rfl) (fun _ _ _ _ _ h => h) (by rfl) hS.out (fun W hW => ?_) ?_
  rotate_left
  · have q := kept C1.out hW; go_simp; try rfl
  try simp only [Act.put, List.setIfInBounds_toArray, List.set_cons_zero, List.set_cons_succ]
  generalize w.drew = u at *
  have hSu := hS
  refine lh_one 4 rfl rfl (by kernel_rfl) (fun K hK => ?_)
  go_simp
  refine (HR.out u hS.out).mono ?_
  rintro e w1 ⟨v', rfl, ho, hb⟩
  obtain ⟨A', c', hv'⟩ := own_form ho
  subst hv'
  have hB2 := Lib.hid (btr hS.out hb)
  refine hK.out _ _ hB2.out ?_
  clear hK K
  have hS := hB2
  have HO := Lib.hid (Go.Joins.ownsRow_le ho hSu.out.size)
  have HLT := Lib.hid ho.lt
  clear ho hb
  try simp only [Act.put, List.setIfInBounds_toArray, List.set_cons_zero, List.set_cons_succ]
  refine lh_one 9 rfl rfl (by kernel_rfl) (fun K hK => ?_)
  go_simp
  refine (HM.out w1 hS.out).mono ?_
  rintro e w2 ⟨rfl, hb2, hm, hlt⟩
  have hB3 := Lib.hid (btr hS.out hb2)
  refine hK.out _ _ hB3.out ?_
  clear hK K
  have HO2 := own_keep (F := fun _ => False) HO.out (Keep.of_below hb2) (fun _ _ h => h)
  have FF : Hid (∀ t, _) := FIN.out w2 _ w1.heap.size hB3.out HO2 hm hB2.out.size (fun e => by have := (HLT.out _ e).2; omega)
  have hS := hB3
  clear HO2 hm hb2
  try simp only [Act.put, List.setIfInBounds_toArray, List.set_cons_zero, List.set_cons_succ]
  refine lh_take 10 13 (v := ?_) rfl rfl (by kernel_rfl) (by kernel_rfl) (by kernel_rfl) (fun _ _ _ _ _ h => h) (by rfl) hS.out (fun W hW => ?_) ?_
  rotate_left
  · go_simp; try rfl
  try simp only [Act.put, List.setIfInBounds_toArray, List.set_cons_zero, List.set_cons_succ]
  refine lh_one 11 rfl rfl (by kernel_rfl) (fun K hK => ?_)
  go_simp
  obtain ⟨Z1, Z2⟩ := FF.out 185
  have Z := Lib.hid Z2
  refine hK.out _ _ Z1 ?_
  have hS := Lib.hid Z1
  clear hK K Z1 Z2
  try simp only [Act.put, List.setIfInBounds_toArray, List.set_cons_zero, List.set_cons_succ]
  refine lh_take 12 2 (v := ?_) rfl rfl (by kernel_rfl) (by kernel_rfl) (by kernel_rfl) (fun _ _ _ _ _ h => h) (by rfl) hS.out (fun W hW => ?_) ?_
  rotate_left
  · go_simp; try rfl
  try simp only [Act.put, List.setIfInBounds_toArray, List.set_cons_zero, List.set_cons_succ]
  refine lh_done (by kernel_rfl) ?_
  go_wp2
  go_ret
  exact ⟨_, rfl, hS.out, Z.out⟩
end Go.Proofs.YtlcnefeikejcaaaGreatDoor
namespace Go.Proofs.YtlcnefeikejcaaaGreatDoor
open Go.RowKit Go.Sort
def Nums (w : World) (v : Value) (l : List Int) : Prop := ∃ A c, v = .slice A l.length c ∧ l.length ≤ c ∧ c ≤ maxLen ∧ (0 < l.length → ∃ b off, A = some ⟨b, off, none⟩ ∧ ∀ j, j < l.length → w.cell? ⟨b, off + j, none⟩ = some (.int .u32 l[j]!))
theorem Nums.nil (w : World) : Nums w (.slice none 0 0) [] := ⟨none, 0, rfl, Nat.le_refl _, Nat.zero_le _, by simp⟩
theorem Nums.keep {F : Nat → Prop} {w w' : World} {v : Value} {l : List Int} (h : Nums w v l) (k : Keep F w w') (hf : ∀ b, v.ownBlock = some b → ¬ F b) : Nums w' v l := by
  obtain ⟨A, c, rfl, hc, hm, h⟩ := h
  refine ⟨A, c, rfl, hc, hm, fun h0 => ?_⟩
  obtain ⟨b, off, rfl, hcell⟩ := h h0
  exact ⟨b, off, rfl, fun j hj => k.cell (hcell j hj) (hf b rfl)⟩
theorem Nums.below {w w' : World} {v : Value} {l : List Int} (h : Nums w v l) (k : Below w.heap.size w w') : Nums w' v l := h.keep (F := fun _ => False) (Keep.of_below k) (fun _ _ q => q)
theorem Nums.own {w : World} {base : Nat} {v : Value} {l : List Int} (h : w.ownsRow base 31 1 v l.length (us l)) : Nums w v l := by
  rcases h.2 with ⟨rfl, h0⟩ | ⟨g, cap, cur, rfl, _, _, hc, hm, _⟩
  · rw [List.eq_nil_of_length_eq_zero h0]
    exact Nums.nil w
  · refine ⟨_, cap, rfl, hc, hm, fun _ => ⟨g, 0, rfl, fun j hj => ?_⟩⟩
    rw [h.cellAt (0 + j) (by omega), Nat.zero_add, us_get l j hj]
theorem wpList_append_one {ops : Array Oper} {rest : List Oper} {o : Oper} {a : Act} {Q : Exit → Act → World → Prop} {w : World} (hg : o.guard = none) (s x : Operand) (t : TypeId)
    (ho : o.op = .call { callee := .builtin .append, args := #[s, x], argTypes := #[t, t] }) (ht : Tryz.prog.underlying t = some (.slice 31)) (base : Nat) (v : Value) (xs : List Int) (n : Int) (hs : a.eval s = v) (W : World) (hw : w = W.alloc (.cells #[.int .u32 n] 31))
    (hx : a.eval x = .slice (some ⟨W.heap.size, 0, none⟩) 1 1) (hown : W.ownsRow base 31 1 v xs.length (us xs)) (hl : xs.length < 1000000) (hb : base ≤ W.heap.size)
    (h : ∀ v' w', w'.ownsRow base 31 1 v' (xs ++ [n]).length (us (xs ++ [n])) → Below base W w' → wpList Tryz.prog ops Q rest (a.put o.dst v') w') : wpList Tryz.prog ops Q (o :: rest) a w := by
  subst hw
  obtain ⟨i0, hi0, hz0, hz1, hz2⟩ := info_parts Tryz.info31
  refine wpList_append_own _ hg s x t ho base 31 i0 _ 1 4 ht hi0 hz0 hz1 hz2 rfl (by decide) v xs.length (us xs) hs (hown.alloc _) ⟨W.heap.size, 0, none⟩ 1 1 [.int .u32 n] hx rfl ?c2 ?c3 ?c4 ?c5 ?c6 ?_
  case c2 =>
    intro j u hj
    rw [Addr.add_mid, World.cell?_alloc_at _ _ _ _ rfl]
    simpa using hj
  case c3 =>
    intro u hu
    rw [List.mem_singleton.1 hu]
    rfl
  case c4 => unfold maxLen; omega
  case c5 => omega
  case c6 => simp; omega
  intro v' w' hown' hgrow _
  refine h v' w' ?_ ((((Below.refl base W)).alloc hb _).grown hgrow (by simp; omega) (by intro k hk; exact (hown.lt k hk).1))
  rw [List.length_append, show us (xs ++ [n]) = us xs ++ [.int .u32 n] by simp [us]]
  exact hown'
theorem rhas_any (w : World) (v : Value) (l : List Int) (x : Int) (h : Nums w v l) : Calls Tryz.prog 36 #[v, .int .u32 x] w fun e w' => e = .returned (.bool (decide (x ∈ l))) ∧ w = w' := by
  obtain ⟨A, c, rfl, hc, hm, h⟩ := h
  have H := Lib.hid h
  clear h
  have hlm : l.length ≤ maxLen := by omega
  unfold maxLen at hlm
  go_enter Tryz.func36, Tryz.ntmps36
  go_wp2
  go_loopg [5] l.length (fun k s wr => ∃ i : Nat, s = .int .i64 i ∧ i ≤ l.length ∧ l.length - i ≤ k ∧ w = wr ∧ Hid (∀ j, j < i → l[j]! ≠ x))
  case atStart => exact ⟨0, rfl, by omega, by omega, rfl, fun j hj => by omega⟩
  case round =>
    obtain ⟨i, rfl, h1, h2, rfl, HI⟩ := hrel
    by_cases hi : i < l.length
    · obtain ⟨b, off, rfl, hcell⟩ := H.out (by omega)
      have c0 := hcell i hi
      obtain ⟨y, hy⟩ : ∃ y, y = l[i]! := ⟨_, rfl⟩
      rw [← hy] at c0
      have HY := Lib.hid hy
      clear hcell hy
      by_cases hxy : y = x
      · have hz : (y == x) = true := by simpa using hxy
        go_wp2
        go_ret
        refine ⟨?_, rfl⟩
        have : x ∈ l := by
          rw [← hxy, HY.out, getElem!_def, List.getElem?_eq_getElem hi]
          exact List.getElem_mem hi
        rw [decide_eq_true this]
        rfl
      · have hz : (y == x) = false := by simpa using hxy
        go_wp2
        go_roundg (l.length - (i + 1))
        case measure => omega
        case rel =>
          refine ⟨i + 1, by simp, by omega, by omega, rfl, fun j hj => ?_⟩
          rcases Nat.lt_or_ge j i with q | q
          · exact HI.out j q
          · obtain rfl : j = i := by omega
            rw [← HY.out]
            exact hxy
    · have hz : ¬ (i : Int) < (l.length : Int) := by omega
      go_wp2
      go_ret
      refine ⟨?_, rfl⟩
      have : x ∉ l := fun hx => by
        obtain ⟨k, hk, e⟩ := List.getElem_of_mem hx
        have := HI.out k (by omega)
        rw [getElem!_def, List.getElem?_eq_getElem hk] at this
        exact this e
      rw [decide_eq_false this]
      rfl
def refp (n : Int) (d : Bool) : List Int → List Int
  | [] => if d then [] else [n]
  | x :: r => (if !d && decide (n ≤ x) then [n] else []) ++ (if x = n then [] else [x]) ++ refp n (d || decide (n ≤ x)) r
theorem refp_done (n : Int) : ∀ r : List Int, (∀ x ∈ r, n < x) → refp n true r = r
  | [], _ => rfl
  | x :: r, h => by
    have h0 := h x (by simp)
    have ih := refp_done n r (fun y hy => h y (by simp [hy]))
    have hne : ¬ x = n := by omega
    simp [refp, ih, hne]
theorem refp_put (n : Int) : ∀ s : List Int, s.Pairwise (· < ·) → refp n false s = putS n s
  | [], _ => rfl
  | x :: r, h => by
    obtain ⟨h1, h2⟩ := List.pairwise_cons.1 h
    rcases Int.lt_trichotomy n x with q | q | q
    · have e1 : n ≤ x := by omega
      have hne : ¬ x = n := by omega
      have ih := refp_done n r (fun y hy => by have := h1 y hy; omega)
      simp [refp, putS, e1, q, hne, ih]
    · subst q
      have ih := refp_done n r h1
      simp [refp, putS, ih]
    · have e1 : ¬ n ≤ x := by omega
      have e2 : ¬ n < x := by omega
      have hne : ¬ x = n := by omega
      have hne2 : ¬ n = x := by omega
      have ih := refp_put n r h2
      simp [refp, putS, e1, e2, hne, hne2, ih]
set_option maxHeartbeats 3200000 in
theorem rput_core (w : World) (A : Option Addr) (c : Nat) (l : List Int) (x : Int) (R : List Int) (HR : Hid (refp x false l = R)) (hl : l.length < 60000)
    (H : Hid (0 < l.length → ∃ b off, A = some ⟨b, off, none⟩ ∧ ∀ j, j < l.length → w.cell? ⟨b, off + j, none⟩ = some (.int .u32 l[j]!))) :
    Calls Tryz.prog 37 #[.slice A l.length c, .int .u32 x] w fun e w' => ∃ v', e = .returned v' ∧ w'.ownsRow w.heap.size 31 1 v' R.length (us R) ∧ Below w.heap.size w w' := by
  go_enter Tryz.func37, Tryz.ntmps37
  go_wp2
  go_loopg [5, 6, 7] l.length (fun k s5 s6 s7 wr => ∃ (i : Nat) (dn : Bool) (o : List Int), s7 = .int .i64 i ∧ s6 = .bool dn ∧ i ≤ l.length ∧ l.length - i ≤ k ∧ o.length ≤ 2 * i ∧ Hid (wr.ownsRow w.heap.size 31 1 s5 o.length (us o)) ∧ Hid (Below w.heap.size w wr) ∧ Hid (o ++ refp x dn (l.drop i) = R))
  case atStart =>
    refine ⟨0, false, [], rfl, rfl, by omega, by omega, by simp, ?_, ?_, HR⟩
    · exact World.ownsRow_lit w #[] 0 (Nat.le_refl _) (by unfold maxLen; omega) rfl
    · exact alb _
  case round =>
    obtain ⟨i, dn, o, rfl, rfl, h1, h2, h3, HO, HB, HE⟩ := hrel
    by_cases hi : i < l.length
    · have hz : (i : Int) < (l.length : Int) := by omega
      obtain ⟨b, off, rfl, hcell⟩ := H.out (by omega)
      obtain ⟨y, hy⟩ : ∃ y, y = l[i]! := ⟨_, rfl⟩
      have c0 := hcell i hi
      have hsz := HB.out.size
      have hown := HO.out
      rw [← hy] at c0
      have ed : l.drop i = y :: l.drop (i + 1) := by
        rw [List.drop_eq_getElem_cons hi, hy, getElem!_def, List.getElem?_eq_getElem hi]
      have HE2 : Hid (o ++ ((if !dn && decide (x ≤ y) then [x] else []) ++ (if y = x then [] else [y]) ++ refp x (dn || decide (x ≤ y)) (l.drop (i + 1))) = R) := by
        have := HE.out
        rw [ed, refp] at this
        exact this
      have hc0 := kept c0 HB.out
      have HC := Lib.hid c0
      clear hcell hy ed HE c0
      cases dn with
      | true =>
        have hz2x : True := trivial
        have OWN := HO
        by_cases hxy : y = x
        · have hz3 : (y == x) = true := by simpa using hxy
          go_wp2
          go_roundg (l.length - (i + 1))
          case measure => omega
          case rel =>
            refine ⟨i + 1, true, o, by simp, rfl, by omega, by omega, by first | omega | (simp; omega), OWN, HB, ?_⟩
            have := HE2.out
            refine Lib.hid ?_
            simpa [hxy, hz2x] using this
        · have hz3 : (y == x) = false := by simpa using hxy
          go_wp2_with (first
            | (at_builtin; refine wpList_append_one rfl _ _ 37 rfl Tryz.underlying37 w.heap.size _ (o) y rfl wr rfl rfl OWN.out (by first | omega | (simp; omega)) (HB).out.size ?_; intro v3 w3 hown3 hb3)
            | go_in)
          go_roundg (l.length - (i + 1))
          case measure => omega
          case rel =>
            refine ⟨i + 1, true, o ++ [y], by simp, rfl, by omega, by omega, by first | omega | (simp; omega), hown3, Lib.hid ((HB).out.trans hb3), ?_⟩
            have := HE2.out
            refine Lib.hid ?_
            simpa [hxy, hz2x] using this

      | false =>
        by_cases hxl : x ≤ y
        · have hz2x : x ≤ y := hxl
          go_upto_region 8 with (first
            | (at_builtin; refine wpList_append_one rfl _ _ 37 rfl Tryz.underlying37 w.heap.size _ o x rfl wr rfl rfl hown (by omega) hsz ?_; intro v2 w2 hown2 hb2)
            | go_in)
          have OWN : Hid (w2.ownsRow w.heap.size 31 1 v2 (o ++ [x]).length (us (o ++ [x]))) := hown2
          have HB2 : Hid (Below w.heap.size w w2) := HB.out.trans hb2
          have hc2 := kept (HC.out) HB2.out
          clear hc0 hown2 hb2
          by_cases hxy : y = x
          · have hz3 : (y == x) = true := by simpa using hxy
            go_wp2
            go_roundg (l.length - (i + 1))
            case measure => omega
            case rel =>
              refine ⟨i + 1, true, o ++ [x], by simp, rfl, by omega, by omega, by first | omega | (simp; omega), OWN, HB2, ?_⟩
              have := HE2.out
              refine Lib.hid ?_
              simpa [hxy, hz2x] using this
          · have hz3 : (y == x) = false := by simpa using hxy
            go_wp2_with (first
              | (at_builtin; refine wpList_append_one rfl _ _ 37 rfl Tryz.underlying37 w.heap.size _ (o ++ [x]) y rfl w2 rfl rfl OWN.out (by first | omega | (simp; omega)) (HB2).out.size ?_; intro v3 w3 hown3 hb3)
              | go_in)
            go_roundg (l.length - (i + 1))
            case measure => omega
            case rel =>
              refine ⟨i + 1, true, o ++ [x] ++ [y], by simp, rfl, by omega, by omega, by first | omega | (simp; omega), hown3, Lib.hid ((HB2).out.trans hb3), ?_⟩
              have := HE2.out
              refine Lib.hid ?_
              simpa [hxy, hz2x] using this

        · have hz2x : ¬ x ≤ y := hxl
          have hz2d : decide (x ≤ y) = false := decide_eq_false hxl
          have OWN := HO
          by_cases hxy : y = x
          · omega
          · have hz3 : (y == x) = false := by simpa using hxy
            go_wp2_with (first
              | (at_builtin; refine wpList_append_one rfl _ _ 37 rfl Tryz.underlying37 w.heap.size _ (o) y rfl wr rfl rfl OWN.out (by first | omega | (simp; omega)) (HB).out.size ?_; intro v3 w3 hown3 hb3)
              | go_in)
            go_roundg (l.length - (i + 1))
            case measure => omega
            case rel =>
              refine ⟨i + 1, false, o ++ [y], by simp, rfl, by omega, by omega, by first | omega | (simp; omega), hown3, Lib.hid ((HB).out.trans hb3), ?_⟩
              have := HE2.out
              rw [hz2d] at this
              refine Lib.hid ?_
              simpa [hxy] using this
    · have hz : ¬ (i : Int) < (l.length : Int) := by omega
      have hsz := HB.out.size
      have hown := HO.out
      have HE2 : Hid (o ++ refp x dn [] = R) := by
        have := HE.out
        rw [List.drop_eq_nil_of_le (by omega)] at this
        exact this
      cases dn with
      | true =>
        go_wp2
        go_ret
        refine ⟨_, rfl, ?_, HB.out⟩
        have e : o = R := by simpa [refp] using HE2.out
        rw [← e]
        exact HO.out
      | false =>
        go_wp2_with (first
          | (at_builtin; refine wpList_append_one rfl _ _ 37 rfl Tryz.underlying37 w.heap.size _ o x rfl wr rfl rfl hown (by omega) hsz ?_; intro v2 w2 hown2 hb2)
          | go_in)
        go_ret
        refine ⟨_, rfl, ?_, HB.out.trans hb2⟩
        have e : o ++ [x] = R := by simpa [refp] using HE2.out
        rw [← e]
        exact hown2
theorem rput_any (w : World) (v : Value) (l : List Int) (x : Int) (h : Nums w v l) (hr : Ris l) (hl : l.length < 60000) :
    Calls Tryz.prog 37 #[v, .int .u32 x] w fun e w' => ∃ v', e = .returned v' ∧ w'.ownsRow w.heap.size 31 1 v' (putS x l).length (us (putS x l)) ∧ Below w.heap.size w w' := by
  obtain ⟨A, c, rfl, hc, hm, h⟩ := h
  exact rput_core w A c l x _ (refp_put x l hr.up) hl h
theorem rsame_diff (w : World) (A A2 : Option Addr) (n m c c2 : Nat) (hne : ((n : Int) == (m : Int)) = false) : Calls Tryz.prog 18 #[.slice A n c, .slice A2 m c2] w fun e w' => e = .returned (.bool false) ∧ Below w.heap.size w w' := by
  go_enter Tryz.func18, Tryz.ntmps18
  go_wp2
  go_ret
  exact ⟨rfl, Below.refl _ _⟩
set_option maxHeartbeats 1600000 in
theorem rsame_core (w : World) (A A2 : Option Addr) (n c c2 : Nat) (l m : List Int) (hl : l.length = n) (hm : m.length = n) (hn : n ≤ 9223372036854775807)
    (H : Hid (0 < n → ∃ b off, A = some ⟨b, off, none⟩ ∧ ∀ j, j < n → w.cell? ⟨b, off + j, none⟩ = some (.int .u32 l[j]!)))
    (H2 : Hid (0 < n → ∃ b off, A2 = some ⟨b, off, none⟩ ∧ ∀ j, j < n → w.cell? ⟨b, off + j, none⟩ = some (.int .u32 m[j]!))) :
    Calls Tryz.prog 18 #[.slice A n c, .slice A2 n c2] w fun e w' => e = .returned (.bool (decide (l = m))) ∧ Below w.heap.size w w' := by
  obtain ⟨r, hr⟩ : ∃ r, r = decide (l = m) := ⟨_, rfl⟩
  rw [← hr]
  have HR := Lib.hid hr
  have HL := Lib.hid hl
  have HM := Lib.hid hm
  clear hr hl hm
  go_enter Tryz.func18, Tryz.ntmps18
  go_wp2
  go_loopg [5] n (fun k s wr => ∃ i : Nat, s = .int .i64 i ∧ i ≤ n ∧ n - i ≤ k ∧ Hid (Below w.heap.size w wr) ∧ Hid (∀ j, j < i → l[j]! = m[j]!))
  case atStart => exact ⟨0, rfl, by omega, by omega, Below.refl _ _, fun j hj => by omega⟩
  case round =>
    obtain ⟨i, rfl, h1, h2, HB, HI⟩ := hrel
    by_cases hi : i < n
    · have hz : (i : Int) < (n : Int) := by omega
      obtain ⟨b, off, rfl, hcell⟩ := H.out (by omega)
      obtain ⟨b2, off2, rfl, hcell2⟩ := H2.out (by omega)
      have c0 := kept (hcell i hi) HB.out
      have c1 := kept (hcell2 i hi) HB.out
      obtain ⟨y, hy⟩ : ∃ y, y = l[i]! := ⟨_, rfl⟩
      obtain ⟨z, hzz⟩ : ∃ z, z = m[i]! := ⟨_, rfl⟩
      rw [← hy] at c0
      rw [← hzz] at c1
      have HY := Lib.hid hy
      have HZ := Lib.hid hzz
      clear hcell hcell2 hy hzz
      by_cases hxy : y = z
      · have hz3 : (y == z) = true := by simpa using hxy
        go_wp2_with fail
        go_region
        go_wp2
        go_roundg (n - (i + 1))
        case measure => omega
        case rel =>
          refine ⟨i + 1, by simp, by omega, by omega, HB.out.drew, fun j hj => ?_⟩
          rcases Nat.lt_or_ge j i with q | q
          · exact HI.out j q
          · obtain rfl : j = i := by omega
            rw [← HY.out, ← HZ.out]
            exact hxy
      · have hz3 : (y == z) = false := by simpa using hxy
        go_wp2_with fail
        go_region
        go_wp2
        go_ret
        refine ⟨?_, HB.out.drew⟩
        have : ¬ l = m := fun e => hxy (by rw [HY.out, HZ.out, e])
        rw [HR.out, decide_eq_false this]
        rfl
    · have hz : ¬ (i : Int) < (n : Int) := by omega
      go_wp2
      go_ret
      refine ⟨?_, HB.out⟩
      have : l = m := by
        refine List.ext_getElem (HL.out.trans HM.out.symm) (fun j h1 h2 => ?_)
        have := HI.out j (by have := HL.out; omega)
        rw [getElem!_def, getElem!_def, List.getElem?_eq_getElem h1, List.getElem?_eq_getElem h2] at this
        exact this
      rw [HR.out, decide_eq_true this]
      rfl
theorem rsame_any (w : World) (v v2 : Value) (l m : List Int) (h : Nums w v l) (h2 : Nums w v2 m) :
    Calls Tryz.prog 18 #[v, v2] w fun e w' => e = .returned (.bool (decide (l = m))) ∧ Below w.heap.size w w' := by
  obtain ⟨A, c, rfl, hc, hm, h⟩ := h
  obtain ⟨A2, c2, rfl, hc2, hm2, h2⟩ := h2
  by_cases e : l.length = m.length
  · rw [← e] at h2 ⊢
    refine rsame_core w A A2 l.length c c2 l m rfl e.symm ?_ (Lib.hid h) (Lib.hid h2)
    unfold maxLen at hm
    omega
  · have hne : ((l.length : Int) == (m.length : Int)) = false := by
      rw [beq_eq_false_iff_ne]
      omega
    refine (rsame_diff w A A2 l.length m.length c c2 hne).mono ?_
    rintro e' w' ⟨rfl, hB⟩
    have : ¬ l = m := fun q => e (by rw [q])
    rw [decide_eq_false this]
    exact ⟨rfl, hB⟩
end Go.Proofs.YtlcnefeikejcaaaGreatDoor
namespace Go.Proofs.YtlcnefeikejcaaaGreatDoor
open Go.RowKit Go.Maps
structure Fr where
  n : Int
  k : UInt8
  b : List UInt8
structure Wk where
  free : List Int
  defd : List Int
  fresh : List Fr
def putF (f : Fr) : List Fr → List Fr
  | [] => [f]
  | x :: r => if f.n < x.n then f :: x :: r else if f.n = x.n then f :: r else x :: putF f r
def delF (n : Int) (fs : List Fr) : List Fr := fs.filter (fun f => decide (f.n ≠ n))
def nums (fs : List Fr) : List Int := fs.map Fr.n
theorem nums_put (f : Fr) : ∀ fs : List Fr, nums (putF f fs) = putS f.n (nums fs)
  | [] => rfl
  | x :: r => by
    unfold putF
    simp only [nums, List.map_cons, putS]
    split
    · rfl
    · split
      · rename_i h; simp [h]
      · simp only [List.map_cons]
        rw [show (putF f r).map Fr.n = putS f.n (r.map Fr.n) from nums_put f r]
theorem mem_putF (f g : Fr) : ∀ {fs : List Fr}, Ris (nums fs) → (g ∈ putF f fs ↔ g = f ∨ (g ∈ fs ∧ g.n ≠ f.n))
  | [], _ => by simp [putF]
  | x :: r, h => by
    have hlt : ∀ y ∈ r, x.n < y.n := fun y hy => h.lt y.n (List.mem_map.2 ⟨y, hy, rfl⟩)
    have ht : Ris (nums r) := h.tail
    unfold putF
    split
    · rename_i h1
      constructor
      · intro hg
        rcases List.mem_cons.1 hg with e | hg
        · exact .inl e
        · refine .inr ⟨hg, ?_⟩
          rcases List.mem_cons.1 hg with rfl | hg
          · omega
          · have := hlt g hg; omega
      · rintro (rfl | ⟨hg, _⟩)
        · simp
        · exact List.mem_cons_of_mem _ hg
    · split
      · rename_i h1 h2
        constructor
        · intro hg
          rcases List.mem_cons.1 hg with e | hg
          · exact .inl e
          · refine .inr ⟨List.mem_cons_of_mem _ hg, ?_⟩
            have := hlt g hg; omega
        · rintro (rfl | ⟨hg, hn⟩)
          · simp
          · rcases List.mem_cons.1 hg with rfl | hg
            · exact absurd h2.symm hn
            · exact List.mem_cons_of_mem _ hg
      · rename_i h1 h2
        rw [List.mem_cons, mem_putF f g ht, List.mem_cons]
        constructor
        · rintro (rfl | h | h)
          · exact .inr ⟨.inl rfl, fun e => h2 e.symm⟩
          · exact .inl h
          · exact .inr ⟨.inr h.1, h.2⟩
        · rintro (h | ⟨h | h, hn⟩)
          · exact .inr (.inl h)
          · exact .inl h
          · exact .inr (.inr ⟨h, hn⟩)
theorem mem_delF (n : Int) (g : Fr) (fs : List Fr) : g ∈ delF n fs ↔ g ∈ fs ∧ g.n ≠ n := by simp [delF]
theorem nums_del (n : Int) (fs : List Fr) : nums (delF n fs) = (nums fs).filter (fun x => decide (x ≠ n)) := by
  simp only [nums, delF, List.filter_map]
  rfl
theorem Ris.filter {s : List Int} (h : Ris s) (q : Int → Bool) : Ris (s.filter q) := ⟨h.up.filter q, fun x hx => h.rng x (List.mem_filter.1 hx).1⟩
theorem len_delF {n : Int} {fs : List Fr} (h : Ris (nums fs)) (hn : n ∈ nums fs) : (delF n fs).length + 1 = fs.length := by
  induction fs with
  | nil => simp [nums] at hn
  | cons x r ih =>
    have hlt : ∀ y ∈ nums r, x.n < y := fun y hy => h.lt y hy
    by_cases e : x.n = n
    · have e2 : delF n (x :: r) = r := by
        unfold delF
        rw [List.filter_cons_of_neg (by simp [e])]
        refine List.filter_eq_self.2 (fun y hy => ?_)
        have := hlt y.n (List.mem_map.2 ⟨y, hy, rfl⟩)
        simp
        omega
      rw [e2, List.length_cons]
    · have hn' : n ∈ nums r := by
        simp only [nums, List.map_cons, List.mem_cons] at hn ⊢
        rcases hn with rfl | hn
        · exact absurd rfl e
        · exact hn
      have e2 : delF n (x :: r) = x :: delF n r := by
        unfold delF
        rw [List.filter_cons_of_pos (by simp [e])]
      rw [e2, List.length_cons, List.length_cons, ih h.tail hn']
theorem len_putF {f : Fr} {fs : List Fr} (h : Ris (nums fs)) : (putF f fs).length = if f.n ∈ nums fs then fs.length else fs.length + 1 := by
  have e := len_putS h f.n
  have e2 : (nums (putF f fs)).length = (putF f fs).length := by simp [nums]
  have e3 : (nums fs).length = fs.length := by simp [nums]
  rw [← nums_put, e2, e3] at e
  exact e
def allE : Value → Option (DataW Value × List MemPlace) := fun v => some (.held v, [])
theorem allE_inv {v : Value} {d : DataW Value} {ps : List MemPlace} (h : allE v = some (d, ps)) : d = .held v := by
  unfold allE at h
  simp at h
  exact h.1.symm
def cva (k : UInt8) (v : Value) : Value := .agg #[.int .u8 ((k.toNat : Nat) : Int), v]
theorem bkeep {F : Nat → Prop} {w w' : World} {v : Value} {l : List UInt8} (h : Byts w v l) (k : Keep F w w') (hf : 0 < l.length → ∀ b, v.ownBlock = some b → ¬ F b) : Byts w' v l := by
  obtain ⟨A, c, rfl, hc, h⟩ := h
  refine ⟨A, c, rfl, hc, fun h0 => ?_⟩
  obtain ⟨b, off, rfl, hcell⟩ := h h0
  exact ⟨b, off, rfl, fun j hj => k.cell (hcell j hj) (hf h0 b rfl)⟩
theorem blt {w : World} {v : Value} {l : List UInt8} (h : Byts w v l) (h0 : 0 < l.length) : ∀ b, v.ownBlock = some b → b < w.heap.size := by
  obtain ⟨A, c, rfl, hc, h⟩ := h
  obtain ⟨b, off, rfl, hcell⟩ := h h0
  intro g hg
  simp only [Value.ownBlock, Option.some.injEq] at hg
  subst hg
  exact World.block_lt_of_cell? w _ (hcell 0 h0)
structure Mc (w : World) (col : Nat → Nat) (mb : Nat) (fs : List Fr) (D : DataW Value) : Prop where
  own : w.ownsMap Tryz.prog 31 allE mb fs.length D
  size : Maps.size D = fs.length
  ris : Ris (nums fs)
  has : ∀ x, 0 ≤ x → x < 4294967296 → Maps.has D (.int .u32 x) = decide (x ∈ nums fs)
  at_ : ∀ f ∈ fs, ∃ v, (∀ zd, D.atKey (.int .u32 f.n) zd = .held (cva f.k v)) ∧ Byts w v f.b ∧ (0 < f.b.length → ∀ g, v.ownBlock = some g → col g = 7)
theorem Mc.lt {w : World} {col : Nat → Nat} {mb : Nat} {fs : List Fr} {D : DataW Value} (h : Mc w col mb fs D) : mb < w.heap.size := h.own.lt
theorem Mc.keep {F : Nat → Prop} {w w' : World} {col : Nat → Nat} {mb : Nat} {fs : List Fr} {D : DataW Value} (h : Mc w col mb fs D) (k : Keep F w w') (hf : ¬ F mb) (h7 : ∀ b, col b = 7 → ¬ F b) : Mc w' col mb fs D := by
  obtain ⟨es, clock, hb, r⟩ := h.own
  refine ⟨⟨es, clock, (k.block mb (Array.getElem?_eq_some_iff.1 hb).1 hf).trans hb, r⟩, h.size, h.ris, h.has, fun f hx => ?_⟩
  obtain ⟨v, h1, h2, h3⟩ := h.at_ f hx
  exact ⟨v, h1, bkeep h2 k (fun h0 b hb => h7 b (h3 h0 b hb)), h3⟩
theorem Mc.recol {w : World} {col col' : Nat → Nat} {mb : Nat} {fs : List Fr} {D : DataW Value} (h : Mc w col mb fs D) (hc : ∀ b, b < w.heap.size → col' b = col b) : Mc w col' mb fs D :=
  ⟨h.own, h.size, h.ris, h.has, fun f hx => by
    obtain ⟨v, h1, h2, h3⟩ := h.at_ f hx
    exact ⟨v, h1, h2, fun h0 g hg => (hc g (blt h2 h0 g hg)).trans (h3 h0 g hg)⟩⟩
theorem Mc.made (w : World) (col : Nat → Nat) : Mc (w.alloc (.map #[] 0)) col w.heap.size [] (.map []) := ⟨World.ownsMap_made _ _ _ _, rfl, Ris.nil, fun x _ _ => by simp [Maps.has, nums], fun f hf => by simp at hf⟩
theorem own_tightV {w : World} {b n : Nat} {D : DataW Value} (h : w.ownsMap Tryz.prog 31 allE b n D) : w.ownsMap Tryz.prog 31 allE b (Maps.size D) D := by
  obtain ⟨es, clock, hb, F, _, rfl⟩ := h
  exact ⟨es, clock, hb, F, by simp [Maps.size, length_sorted], rfl⟩
theorem Mc.put {F : Nat → Prop} {w w' : World} {col : Nat → Nat} {mb : Nat} {fs : List Fr} {D : DataW Value} (h : Mc w col mb fs D) (f : Fr) (v : Value) (h0 : 0 ≤ f.n) (h1 : f.n < 4294967296) (k : Keep F w w') (h7 : ∀ b, col b = 7 → ¬ F b)
    (hv : Byts w' v f.b) (hc : 0 < f.b.length → ∀ g, v.ownBlock = some g → col g = 7)
    (o : w'.ownsMap Tryz.prog 31 allE mb (fs.length + 1) (D.put (.int .u32 f.n) (.held (cva f.k v)))) : Mc w' col mb (putF f fs) (D.put (.int .u32 f.n) (.held (cva f.k v))) := by
  have T := h.own.tidy klaw
  have M := h.own.isMap
  have e := Maps.size_put (k := .int .u32 f.n) T (.held (cva f.k v) : DataW Value)
  rw [h.has f.n h0 h1, h.size] at e
  have el := len_putF (f := f) h.ris
  have es : Maps.size (D.put (.int .u32 f.n) (.held (cva f.k v) : DataW Value)) = (putF f fs).length := by
    rw [e, el]
    by_cases q : f.n ∈ nums fs
    · rw [if_pos q, if_pos (by simpa using q)]
    · rw [if_neg q, if_neg (by simpa using q)]
  refine ⟨by rw [← es]; exact own_tightV o, es, by rw [nums_put]; exact h.ris.put h0 h1, fun x x0 x1 => ?_, fun g hg => ?_⟩
  · rw [nums_put]
    by_cases hx : x = f.n
    · subst hx
      rw [Maps.has_put_same M (by simp [WideAt.IsKeyLit])]
      simp [mem_putS]
    · rw [Maps.has_put_other (by intro q; simp at q; exact hx q), h.has x x0 x1]
      simp [mem_putS, hx]
  · rcases (mem_putF f g h.ris).1 hg with rfl | ⟨hg, hn⟩
    · exact ⟨v, fun zd => Maps.atKey_put_same M (by simp [WideAt.IsKeyLit]) _ _, hv, hc⟩
    · obtain ⟨u, q1, q2, q3⟩ := h.at_ g hg
      exact ⟨u, fun zd => by rw [Maps.atKey_put_other (by intro q; simp at q; exact hn q)]; exact q1 zd, bkeep q2 k (fun h0 b hb => h7 b (q3 h0 b hb)), q3⟩
theorem Mc.del {F : Nat → Prop} {w w' : World} {col : Nat → Nat} {mb : Nat} {fs : List Fr} {D : DataW Value} (h : Mc w col mb fs D) (n : Int) (h0 : 0 ≤ n) (h1 : n < 4294967296) (hn : n ∈ nums fs) (k : Keep F w w') (h7 : ∀ b, col b = 7 → ¬ F b)
    (o : w'.ownsMap Tryz.prog 31 allE mb fs.length (D.del (.int .u32 n))) : Mc w' col mb (delF n fs) (D.del (.int .u32 n)) := by
  have T := h.own.tidy klaw
  have e := Maps.size_del (k := .int .u32 n) T
  rw [h.has n h0 h1, if_pos (by simpa using hn), h.size] at e
  have el := len_delF h.ris hn
  have es : Maps.size (D.del (.int .u32 n)) = (delF n fs).length := by omega
  refine ⟨by rw [← es]; exact own_tightV o, es, by rw [nums_del]; exact h.ris.filter _, fun x x0 x1 => ?_, fun g hg => ?_⟩
  · rw [nums_del]
    by_cases hx : x = n
    · subst hx
      rw [Maps.has_del_same]
      simp
    · rw [Maps.has_del_other (by intro q; simp at q; exact hx q), h.has x x0 x1]
      simp [hx]
  · obtain ⟨hg, hne⟩ := (mem_delF n g fs).1 hg
    obtain ⟨u, q1, q2, q3⟩ := h.at_ g hg
    exact ⟨u, fun zd => by rw [Maps.atKey_del_other (by intro q; simp at q; exact hne q)]; exact q1 zd, bkeep q2 k (fun h0 b hb => h7 b (q3 h0 b hb)), q3⟩
structure Stt (w : World) (col : Nat → Nat) (c pf pd mb : Nat) (x : Wk) : Prop where
  free : ∃ F, Po w pf F x.free ∧ ∀ b, F b → col b = c
  defd : ∃ F, Po w pd F x.defd ∧ ∀ b, F b → col b = c + 1
  map : ∃ D, Mc w col mb x.fresh D
  cm : col mb = c + 2
theorem Stt.keep {F : Nat → Prop} {w w' : World} {col : Nat → Nat} {c pf pd mb : Nat} {x : Wk} (h : Stt w col c pf pd mb x) (k : Keep F w w') (hf : ∀ b, (col b = c ∨ col b = c + 1 ∨ col b = c + 2 ∨ col b = 7) → ¬ F b) : Stt w' col c pf pd mb x := by
  obtain ⟨⟨F1, P1, e1⟩, ⟨F2, P2, e2⟩, ⟨D, M⟩, cm⟩ := h
  exact ⟨⟨F1, P1.keep k (fun b hb => hf b (.inl (e1 b hb))), e1⟩, ⟨F2, P2.keep k (fun b hb => hf b (.inr (.inl (e2 b hb)))), e2⟩, ⟨D, M.keep k (hf mb (.inr (.inr (.inl cm)))) (fun b hb => hf b (.inr (.inr (.inr hb))))⟩, cm⟩
theorem Stt.below {w w' : World} {col : Nat → Nat} {c pf pd mb : Nat} {x : Wk} (h : Stt w col c pf pd mb x) (k : Below w.heap.size w w') : Stt w' col c pf pd mb x := h.keep (F := fun _ => False) (Keep.of_below k) (fun _ _ q => q)
theorem Stt.recol {w : World} {col col' : Nat → Nat} {c pf pd mb : Nat} {x : Wk} (h : Stt w col c pf pd mb x) (hc : ∀ b, b < w.heap.size → col' b = col b) : Stt w col' c pf pd mb x := by
  obtain ⟨⟨F1, P1, e1⟩, ⟨F2, P2, e2⟩, ⟨D, M⟩, cm⟩ := h
  exact ⟨⟨F1, P1, fun b hb => (hc b (P1.lt b hb)).trans (e1 b hb)⟩, ⟨F2, P2, fun b hb => (hc b (P2.lt b hb)).trans (e2 b hb)⟩, ⟨D, M.recol hc⟩, (hc mb M.lt).trans cm⟩
def upd (col : Nat → Nat) (n i : Nat) : Nat → Nat := fun b => if b < n then col b else i
theorem upd_old {col : Nat → Nat} {n i b : Nat} (h : b < n) : upd col n i b = col b := if_pos h
theorem upd_new {col : Nat → Nat} {n i b : Nat} (h : n ≤ b) : upd col n i b = i := if_neg (by omega)
end Go.Proofs.YtlcnefeikejcaaaGreatDoor
namespace Go.Proofs.YtlcnefeikejcaaaGreatDoor
open Go.RowKit Go.Sort Go.Maps
def Real (v : Value) : Prop := ∀ n c, v = .slice none n c → n = 0 ∧ c = 0
theorem Real.own {w : World} {base size n : Nat} {e : TypeId} {v : Value} {xs : List Value} (h : w.ownsRow base e size v n xs) : Real v := by
  intro n' c' e
  rcases h.2 with ⟨q, _⟩ | ⟨k, cap, cur, q, _⟩
  · rw [q] at e
    simp only [Value.slice.injEq] at e
    exact ⟨e.2.1.symm, e.2.2.symm⟩
  · rw [q] at e
    simp at e
theorem Real.nil : Real (.slice none 0 0) := fun n c e => by
  simp only [Value.slice.injEq] at e
  exact ⟨e.2.1.symm, e.2.2.symm⟩
theorem Real.some (a : Addr) (n c : Nat) : Real (.slice (some a) n c) := fun n' c' e => by simp at e
theorem nums_cells {w : World} {A : Option Addr} {n c : Nat} {l : List Int} (h : Nums w (.slice A n c) l) (hl : n = l.length) (ad : Addr) (ha : A = some ad) : ∀ j u, (us l)[j]? = some u → w.cell? (ad.add j) = some u := by
  intro j u hj
  have hjl : j < l.length := by rw [← us_length]; exact (List.getElem?_eq_some_iff.1 hj).1
  obtain ⟨A', c', e, _, _, q0⟩ := h
  obtain ⟨b, off, e2, q⟩ := q0 (by omega)
  simp only [Value.slice.injEq] at e
  obtain ⟨rfl, _, _⟩ := e
  rw [e2] at ha
  simp only [Option.some.injEq] at ha
  subst ha
  rw [Addr.add_mid, q j hjl, ← hj, us_get l j hjl]
theorem wpList_append_nums {w : World} {ops : Array Oper} {rest : List Oper} {o : Oper} {a : Act} {Q : Exit → Act → World → Prop} (hg : o.guard = none) (s x : Operand) (t : TypeId)
    (ho : o.op = .call { callee := .builtin .append, args := #[s, x], argTypes := #[t, t] }) (ht : Tryz.prog.underlying t = some (.slice 31)) (base : Nat)
    (v : Value) (xs : List Int) (hs : a.eval s = v) (hown : w.ownsRow base 31 1 v xs.length (us xs)) (vx : Value) (l : List Int) (hx : a.eval x = vx) (hn : Nums w vx l) (hr : Real vx) (hlen : xs.length + l.length ≤ 1000000) (hbase : base ≤ w.heap.size)
    (h : ∀ v' w', w'.ownsRow base 31 1 v' (xs ++ l).length (us (xs ++ l)) → w.grownBy w' v.ownBlock → wpList Tryz.prog ops Q rest (a.put o.dst v') w') : wpList Tryz.prog ops Q (o :: rest) a w := by
  obtain ⟨i0, hi0, hz0, hz1, hz2⟩ := info_parts Tryz.info31
  have e : us (xs ++ l) = us xs ++ us l := by simp [us]
  refine wpList_plain hg fun K hK => ?_
  obtain ⟨A, c, rfl, hc, hm, q⟩ := id hn
  cases A with
  | none =>
    obtain ⟨h1, rfl⟩ := hr _ _ rfl
    obtain rfl : l = [] := List.eq_nil_of_length_eq_zero h1
    have hr := run_append_owned_none (P := Tryz.prog) w base t o.type 31 i0 1 ht hi0 v xs.length (us xs) hown
    unfold Oper.wp execOp
    simp only [ho, resolve, invoke, builtin, Sem.run_bind, Sem.run_pure, Result.andThen_ok, List.map_toArray, List.map_cons, List.map_nil, hs, hx, List.length_nil, hr]
    exact hK _ _ (h v w (by simpa using hown) (World.grownBy.refl _ _))
  | some ad =>
    obtain ⟨v', w', hr, h2, h3, _⟩ := run_append_own (P := Tryz.prog) w base t o.type 31 i0 _ 1 4 ht hi0 hz0 hz1 hz2 rfl (by decide) v xs.length (us xs) hown ad l.length c (us l) (by rw [us_length, Nat.mul_one]) (nums_cells hn rfl ad rfl) (us_one l) (by unfold maxLen; omega) (by omega) hbase
    unfold Oper.wp execOp
    simp only [ho, resolve, invoke, builtin, Sem.run_bind, Sem.run_pure, Result.andThen_ok, List.map_toArray, List.map_cons, List.map_nil, hs, hx, hr]
    refine hK _ _ (h v' w' ?_ h3)
    rw [e, List.length_append]
    exact h2
set_option maxRecDepth 100000 in
set_option maxHeartbeats 400000 in
theorem nclone_any (v : Value) (l : List Int) (w : World) (h : Nums w v l) (hr : Real v) (hl : l.length ≤ 1000000) :
    Calls Tryz.prog 65 #[v] w fun e w' => ∃ v', e = .returned v' ∧ w'.ownsRow w.heap.size 31 1 v' l.length (us l) ∧ Below w.heap.size w w' := by
  have q : ∀ (w : World) (a : Option Addr) (n c n' c' : Nat), (binOp .eql 37 (.slice a n c) (.slice none n' c')).run Tryz.prog w = .ok (.bool a.isNone) w := fun w a n c n' c' => Lib.run_eql_slice_nil w _ _ a n c n' c' Tryz.underlying37
  obtain ⟨A, c, e, hc, hm, _⟩ := id h
  cases A with
  | none =>
    obtain ⟨h1, h2⟩ := hr _ _ e
    obtain rfl : l = [] := List.eq_nil_of_length_eq_zero h1
    subst e
    clear h hr
    go_enter Tryz.func65, Tryz.ntmps65
    go_wp2
    go_ret
    exact ⟨_, rfl, World.ownsRow_nil _ _ _ _, Below.refl _ _⟩
  | some ad =>
    subst e
    have HN := Lib.hid h
    have HR := Lib.hid hr
    have H0 : Hid (∀ t, (w.alloc (.cells #[] t)).ownsRow w.heap.size t 1 (.slice (some ⟨w.heap.size, 0, none⟩) 0 0) 0 (us [])) := fun t => World.ownsRow_lit w #[] 0 (Nat.le_refl _) (by unfold maxLen; omega) rfl
    clear h hr
    go_enter Tryz.func65, Tryz.ntmps65
    go_wp2_with (first
      | (at_builtin; refine wpList_append_nums rfl _ _ 37 rfl Tryz.underlying37 w.heap.size _ [] rfl (H0.out _) _ l rfl (HN.out.below (alb _)) HR.out (by simp; omega) (by simp) ?_)
      | go_in)
    intro v' w2 hown hgrow
    have hB : Below w.heap.size w w2 := (alb _).grown hgrow (by simp) (by intro k hk; simp [Value.ownBlock] at hk; omega)
    clear hgrow
    go_wp2
    go_ret
    exact ⟨_, rfl, by simpa using hown, hB⟩
set_option maxRecDepth 100000 in
set_option maxHeartbeats 400000 in
theorem ngrow_any (n : Nat) (hn : n ≤ 1000000) (w : World) :
    Calls Tryz.prog 168 #[.slice none 0 0, .int .i64 (n : Int)] w fun e w' => ∃ v', e = .returned v' ∧ w'.ownsRow w.heap.size 31 1 v' 0 (us []) ∧ Below w.heap.size w w' := by
  obtain ⟨i0, hi0, hz0, hz1, hz2⟩ := info_parts Tryz.info31
  by_cases h0 : n = 0
  · subst h0
    go_enter Tryz.func168, Tryz.ntmps168
    go_wp2
    go_ret
    exact ⟨_, rfl, World.ownsRow_nil _ _ _ _, Below.refl _ _⟩
  · have hpos : 0 < n := by omega
    have hr := Lib.run_append_nil_zeros (P := Tryz.prog) w 37 3 37 31 i0 _ .i64 .i64 Tryz.underlying37 Tryz.underlying3 hi0 hz0 n hpos (by omega) (by omega) (by rw [hz2]; omega)
    have hge := grownCap_ge w n 0 31
    have hmx := grownCap_le_maxLen w n 0 31 (by unfold maxLen; omega)
    generalize grownCap w n 0 31 = cap at *
    have hcs : (Builtin.zeroCells (Value.int .u32 0).cells n ++ Builtin.zeroCells (Value.int .u32 0).cells (cap - n)).size = cap * 1 := by
      simp [Builtin.zeroCells, Value.cells]
      omega
    generalize Builtin.zeroCells (Value.int .u32 0).cells n ++ Builtin.zeroCells (Value.int .u32 0).cells (cap - n) = cur at *
    have HR := Lib.hid hr; clear hr
    have hcap : ¬ cap = 0 := by omega
    go_enter Tryz.func168, Tryz.ntmps168
    go_wp2_with (first
      | (at_builtin; refine Lib.wpList_append_run _ rfl _ _ 37 3 rfl _ _ rfl rfl _ _ HR.out ?_)
      | go_in)
    go_wp2
    go_ret
    refine ⟨_, rfl, World.ownsRow_made (base := w.heap.size) (size := 1) w.drew cur cap (Nat.le_refl _) hmx hcs, ?_⟩
    exact bal ((Below.refl _ _).drew) _
def pre (l1 l2 : List Int) : Nat → List Int
  | 0 => []
  | 1 => l1
  | _ => l1 ++ l2
theorem pre_len (l1 l2 : List Int) (k : Nat) : (pre l1 l2 k).length ≤ l1.length + l2.length := by
  match k with
  | 0 => simp [pre]
  | 1 => simp [pre]
  | k + 2 => simp [pre]
theorem two_nums {w : World} {b : Nat} {v1 v2 : Value} {l1 l2 : List Int} (h1 : Nums w v1 l1) (h2 : Nums w v2 l2) (r1 : Real v1) (r2 : Real v2)
    (c1 : w.cell? ⟨b, 0, none⟩ = some v1) (c2 : w.cell? ⟨b, 1, none⟩ = some v2) (k : Nat) (hk : k < 2) :
    ∃ (l : List Int) (A : Option Addr) (c : Nat), w.cell? ⟨b, k, none⟩ = some (.slice A l.length c) ∧ Nums w (.slice A l.length c) l ∧ Real (.slice A l.length c) ∧ l.length ≤ l1.length + l2.length ∧ pre l1 l2 (k + 1) = pre l1 l2 k ++ l := by
  obtain ⟨A1, d1, e1, _⟩ := id h1
  obtain ⟨A2, d2, e2, _⟩ := id h2
  subst e1 e2
  match k, hk with
  | 0, _ => exact ⟨l1, A1, d1, c1, h1, r1, by omega, rfl⟩
  | 1, _ => exact ⟨l2, A2, d2, c2, h2, r2, by omega, rfl⟩
set_option maxRecDepth 100000 in
set_option maxHeartbeats 1600000 in
theorem nconcat_any (b c : Nat) (v1 v2 : Value) (l1 l2 : List Int) (w : World) (h1 : Nums w v1 l1) (h2 : Nums w v2 l2) (r1 : Real v1) (r2 : Real v2) (hs : l1.length + l2.length ≤ 300000)
    (c1 : w.cell? ⟨b, 0, none⟩ = some v1) (c2 : w.cell? ⟨b, 1, none⟩ = some v2) :
    Calls Tryz.prog 149 #[.slice (some ⟨b, 0, none⟩) 2 c] w fun e w' => ∃ v', e = .returned v' ∧ w'.ownsRow w.heap.size 31 1 v' (l1 ++ l2).length (us (l1 ++ l2)) ∧ Below w.heap.size w w' := by
  have HT := Lib.hid (two_nums h1 h2 r1 r2 c1 c2)
  have HL := Lib.hid (pre_len l1 l2)
  clear h1 h2 r1 r2 c1 c2
  have e0 : pre l1 l2 0 = [] := rfl
  have e2 : pre l1 l2 2 = l1 ++ l2 := rfl
  have E0 := Lib.hid e0
  have E2 := Lib.hid e2
  clear e0 e2
  rw [← E2.out]
  have hs2 := Lib.hid hs
  generalize pre l1 l2 = P at *
  generalize l1.length + l2.length = M at *
  go_enter Tryz.func149, Tryz.ntmps149
  go_wp2
  go_loop [3, 11] (fun z i => ∃ k : Nat, k ≤ 2 ∧ i = .int .i64 (k : Int) ∧ z = .int .i64 (((P k).length : Nat) : Int)) (fun _ i => 2 - (intOf i).toNat)
  case atStart => exact ⟨0, by omega, rfl, by rw [E0.out]; rfl⟩
  case round =>
    obtain ⟨k, hk, rfl, rfl⟩ := hrel
    have b1 := HL.out k
    by_cases hlt : k < 2
    · obtain ⟨l, A, d, a0, _, _, hl, hp⟩ := HT.out k hlt
      have HP := Lib.hid hp; clear hp
      generalize hz : (P k).length = z at *
      have HZ := Lib.hid hz
      clear hz
      generalize hl2 : l.length = L at *
      have HL2 := Lib.hid hl2
      clear hl2
      go_wp2
      go_round
      case rel => exact ⟨k + 1, by omega, by go_num, by rw [HP.out, List.length_append, HZ.out, HL2.out]; go_num⟩
      case measure => simp [intOf]; omega
    · obtain rfl : k = 2 := by omega
      have HG := Lib.hid (ngrow_any (P 2).length (by omega))
      generalize hz : (P 2).length = z at *
      go_wp2_with fail
      refine (HG.out w).mono ?_
      rintro e w1 ⟨v1, rfl, hown, hB⟩
      clear HG
      go_wp2
      go_loopw [6, 27] (fun v i wr => ∃ k : Nat, k ≤ 2 ∧ i = .int .i64 (k : Int) ∧ wr.ownsRow w.heap.size 31 1 v (P k).length (us (P k)) ∧ Below w.heap.size w wr) (fun _ i _ => 2 - (intOf i).toNat)
      case atStart => exact ⟨0, by omega, rfl, by rw [E0.out]; exact hown, hB⟩
      case round =>
        clear hown hB hk
        obtain ⟨k, hk, rfl, hown, hB⟩ := hrel
        by_cases hlt : k < 2
        · obtain ⟨l, A, d, a0, hn, hreal, hl, hp⟩ := HT.out k hlt
          have b2 := HL.out k
          have HP := Lib.hid hp; clear hp
          replace a0 := kept a0 hB
          have HN := Lib.hid (hn.below hB)
          have HR := Lib.hid hreal
          clear hn hreal
          have hbs := hB.size
          have hm := hs2.out
          have HO := Lib.hid hown
          go_wp2_with (first
            | (at_builtin; refine wpList_append_nums rfl _ _ 37 rfl Tryz.underlying37 w.heap.size _ (P k) rfl HO.out _ l rfl HN.out HR.out (by omega) hbs ?_)
            | go_in)
          intro v' w2 hown' hgrow
          have hB' : Below w.heap.size w w2 := hB.grown hgrow hbs (fun g hg => (hown.lt g hg).1)
          clear hown hgrow a0 HN HR HO
          go_wp2
          go_roundw
          case rel =>
            refine ⟨k + 1, by omega, by go_num, ?_, hB'⟩
            rw [HP.out, List.length_append]
            exact hown'
          case measure => simp [intOf]; omega
        · obtain rfl : k = 2 := by omega
          have HO := Lib.hid hown; clear hown
          have HZ := Lib.hid hz
          clear hz
          rw [← HZ.out]
          go_wp2
          go_ret
          exact ⟨_, rfl, HO.out, hB⟩
set_option maxRecDepth 100000 in
theorem nsort_nil (w : World) : Calls Tryz.prog 66 #[.slice none 0 0] w fun e w' => e = .returned (.tuple #[]) ∧ w = w' := by
  have C1 := len_any 0 (by decide) w
  rw [show Lib.bitLen 0 = 0 by decide] at C1
  have C2 := pdq_nil w
  go_enter Tryz.func66, Tryz.ntmps66
  go_wp2_with (first
    | (go_at_call 111; refine C1.mono ?_; rintro e w1 ⟨rfl, rfl⟩)
    | (go_at_call 110; refine C2.mono ?_; rintro e w1 ⟨rfl, rfl⟩))
  go_end0
  exact ⟨rfl, rfl⟩
set_option maxRecDepth 100000 in
theorem nsort_core (b o cap : Nat) (d : Array Int) (w : World) (hH : Holds eU w b o d) (hsz : d.size < 65536) :
    Calls Tryz.prog 66 #[.slice (some ⟨b, o, none⟩) d.size cap] w fun e w' =>
      e = .returned (.tuple #[]) ∧ ∃ d', PermIn 0 d.size d d' ∧ SortedIn ltInt 0 d.size d' ∧ Rw w b o d' w' := by
  have C1 := len_any d.size hsz w
  have h16 := len_16 d.size hsz
  generalize Lib.bitLen d.size = L at C1 h16
  have C2 := Lib.hid (pdq_any d.size b o cap d 0 d.size L w hH (Nat.zero_le _) (Nat.le_refl _) hsz (by omega) (by omega) (.inl rfl))
  go_enter Tryz.func66, Tryz.ntmps66
  go_wp2_with (first
    | (go_at_call 111; refine C1.mono ?_; rintro e w1 ⟨rfl, rfl⟩)
    | (go_at_call 110; refine C2.out.mono ?_; rintro e w1 ⟨rfl, d', p, s, R⟩))
  go_end0
  exact ⟨rfl, d', p, s, R⟩
theorem nsort_any {w : World} {base : Nat} {v : Value} {xs s : List Int} (h : w.ownsRow base 31 1 v xs.length (us xs)) (hl : xs.length < 65536) (hp : xs.Perm s) (hr : Ris s) :
    Calls Tryz.prog 66 #[v] w fun e w' => e = .returned (.tuple #[]) ∧ w'.ownsRow base 31 1 v s.length (us s) ∧ Keep (fun b => v.ownBlock = some b) w w' := by
  rcases h.2 with ⟨rfl, h0⟩ | ⟨g, cap, cur, rfl, _⟩
  · obtain rfl : xs = [] := List.eq_nil_of_length_eq_zero h0
    obtain rfl : s = [] := List.Perm.nil_eq hp |>.symm
    exact (nsort_nil w).mono fun e w' q => ⟨q.1, World.ownsRow_nil _ _ _ _, by rw [← q.2]; exact Keep.refl _ _⟩
  · have C := nsort_core g 0 cap xs.toArray w (own_holds h) (by simpa using hl)
    rw [List.size_toArray] at C
    refine C.mono ?_
    rintro e w' ⟨rfl, d', P, S, R⟩
    have hd : d'.size = xs.length := by rw [P.1]; simp
    have e1 : d'.toList = s := by
      have q1 : d'.toList.Perm s := (perm_list P (by simp)).trans hp
      refine rising_eq ?_ hr.up q1
      have le := sorted_le S hd
      have nd : d'.toList.Pairwise (· ≠ ·) := q1.symm.pairwise (hr.up.imp (fun h => by omega)) (fun h => h.symm)
      exact (le.and nd).imp (fun ⟨a, b⟩ => by omega)
    have o2 := own_of_rw h R hd
    rw [e1] at o2
    refine ⟨rfl, ?_, R.keep.mono (fun k _ e => by rw [e]; rfl)⟩
    rw [← hp.length_eq]
    exact o2
end Go.Proofs.YtlcnefeikejcaaaGreatDoor
namespace Go.Proofs.YtlcnefeikejcaaaGreatDoor.C
def pol : Nat := 2197175160
def ones : Nat := 4294967295
def step (r : Nat) : Nat := if r % 2 = 1 then r / 2 ^^^ pol else r / 2
def steps : Nat → Nat → Nat
  | 0, r => r
  | n + 1, r => steps n (step r)
def bt (r c : Nat) : Nat := steps 8 (r ^^^ c)
def more (r : Nat) (l : List UInt8) : Nat := l.foldl (fun r c => bt r c.toNat) r
def crc (s : Nat) (l : List UInt8) : Nat := more (s ^^^ ones) l ^^^ ones
def num : List UInt8 → Nat
  | [] => 0
  | c :: l => c.toNat + 256 * num l
theorem xor_div (a b : Nat) : (a ^^^ b) / 2 = a / 2 ^^^ b / 2 := by
  have := @Nat.xor_div_two_pow a b 1
  simpa using this
theorem xor_mod (a b : Nat) : (a ^^^ b) % 2 = (a % 2 + b % 2) % 2 := by
  have := @Nat.xor_mod_two_pow a b 1
  simp only [Nat.pow_one] at this
  rw [this]
  have h1 : a % 2 = 0 ∨ a % 2 = 1 := by omega
  have h2 : b % 2 = 0 ∨ b % 2 = 1 := by omega
  rcases h1 with h1 | h1 <;> rcases h2 with h2 | h2 <;> rw [h1, h2] <;> rfl
theorem xac (a b p : Nat) : (a ^^^ b) ^^^ p = (a ^^^ p) ^^^ b := by rw [Nat.xor_assoc, Nat.xor_comm b p, ← Nat.xor_assoc]
theorem xpp (a b p : Nat) : (a ^^^ p) ^^^ (b ^^^ p) = a ^^^ b := by rw [Nat.xor_assoc, Nat.xor_comm b p, ← Nat.xor_assoc p p b, Nat.xor_self, Nat.zero_xor]
theorem step_xor (a b : Nat) : step (a ^^^ b) = step a ^^^ step b := by
  unfold step
  rw [xor_mod, xor_div]
  have h1 : a % 2 = 0 ∨ a % 2 = 1 := by omega
  have h2 : b % 2 = 0 ∨ b % 2 = 1 := by omega
  rcases h1 with h1 | h1 <;> rcases h2 with h2 | h2 <;> rw [h1, h2] <;> simp
  · rw [Nat.xor_assoc]
  · rw [xac]
  · rw [xpp]
theorem steps_xor (n : Nat) : ∀ a b, steps n (a ^^^ b) = steps n a ^^^ steps n b := by
  induction n with
  | zero => intro a b; rfl
  | succ n ih => intro a b; simp only [steps]; rw [step_xor, ih]
theorem step_even (a : Nat) : step (2 * a) = a := by
  unfold step
  rw [if_neg (by omega)]
  omega
theorem steps_pow (n : Nat) : ∀ a, steps n (2 ^ n * a) = a := by
  induction n with
  | zero => intro a; simp [steps]
  | succ n ih =>
    intro a
    have e : 2 ^ (n + 1) * a = 2 * (2 ^ n * a) := by rw [Nat.pow_succ, Nat.mul_comm (2 ^ n) 2, Nat.mul_assoc]
    simp only [steps]
    rw [e, step_even, ih]
theorem steps_add (m n : Nat) : ∀ a, steps (m + n) a = steps n (steps m a) := by
  induction m with
  | zero => intro a; simp [steps]
  | succ m ih =>
    intro a
    have e : m + 1 + n = (m + n) + 1 := by omega
    rw [e]
    simp only [steps]
    rw [ih]
theorem step_lt {a : Nat} (h : a < 4294967296) : step a < 4294967296 := by
  unfold step
  split
  · exact Nat.xor_lt_two_pow (n := 32) (by omega) (by unfold pol; omega)
  · omega
theorem steps_lt (n : Nat) : ∀ {a : Nat}, a < 4294967296 → steps n a < 4294967296 := by
  induction n with
  | zero => intro a h; exact h
  | succ n ih => intro a h; exact ih (step_lt h)
theorem low_xor (n c x : Nat) (h : c < 2 ^ n) : c + 2 ^ n * x = c ^^^ (2 ^ n * x) := by
  have h1 : (2 ^ n * x) % 2 ^ n = 0 := Nat.mul_mod_right _ _
  apply Nat.eq_of_testBit_eq
  intro i
  rw [Nat.testBit_xor, Nat.add_comm, Nat.testBit_two_pow_mul_add _ h, Nat.testBit_two_pow_mul]
  by_cases hi : i < n
  · simp [hi, Nat.not_le.2 hi]
  · have : c < 2 ^ i := Nat.lt_of_lt_of_le h (Nat.pow_le_pow_right (by omega) (by omega))
    simp [hi, Nat.le_of_not_lt hi, Nat.testBit_lt_two_pow this]
theorem half_steps (r : Nat) : r / 16 ^^^ steps 4 (r % 16) = steps 4 r := by
  have e : r = r % 16 + 2 ^ 4 * (r / 16) := by omega
  have k := low_xor 4 (r % 16) (r / 16) (by omega)
  have e2 : steps 4 r = steps 4 (r % 16 ^^^ 2 ^ 4 * (r / 16)) := by rw [← k, ← e]
  rw [e2, steps_xor, steps_pow, Nat.xor_comm]
theorem steps_steps (r : Nat) : steps 4 (steps 4 r) = steps 8 r := (steps_add 4 4 r).symm
theorem u8_lt (c : UInt8) : c.toNat < 256 := c.toNat_lt
theorem bt_lt {r : Nat} (c : UInt8) (h : r < 4294967296) : bt r c.toNat < 4294967296 :=
  steps_lt 8 (Nat.xor_lt_two_pow (n := 32) (by omega) (by have := u8_lt c; omega))
theorem more_lt (l : List UInt8) : ∀ {r : Nat}, r < 4294967296 → more r l < 4294967296 := by
  induction l with
  | nil => intro r h; exact h
  | cons c l ih => intro r h; exact ih (bt_lt c h)
theorem ones_lt {s : Nat} (h : s < 4294967296) : s ^^^ ones < 4294967296 := Nat.xor_lt_two_pow (n := 32) (by omega) (by unfold ones; omega)
theorem crc_lt {s : Nat} (l : List UInt8) (h : s < 4294967296) : crc s l < 4294967296 := ones_lt (more_lt l (ones_lt h))
theorem more_snoc (r : Nat) (l : List UInt8) (c : UInt8) : more r (l ++ [c]) = bt (more r l) c.toNat := by simp [more]
end Go.Proofs.YtlcnefeikejcaaaGreatDoor.C
namespace Go.Proofs.YtlcnefeikejcaaaGreatDoor
namespace G
open C (crc num)
def four (n : Nat) : List UInt8 := [UInt8.ofNat (n / 16777216), UInt8.ofNat (n / 65536), UInt8.ofNat (n / 256), UInt8.ofNat n]
def two (n : Nat) : List UInt8 := [UInt8.ofNat (n / 256), UInt8.ofNat n]
theorem four_length (n : Nat) : (four n).length = 4 := rfl
theorem two_length (n : Nat) : (two n).length = 2 := rfl
theorem two_of (a c : UInt8) : two (a.toNat * 256 + c.toNat) = [a, c] := by
  have ha := a.toNat_lt
  have hc := c.toNat_lt
  unfold two
  congr 1
  · apply UInt8.toNat_inj.1
    simp only [UInt8.toNat_ofNat']
    omega
  · congr 1
    apply UInt8.toNat_inj.1
    simp only [UInt8.toNat_ofNat']
    omega
theorem of_two (n : Nat) (h : n < 65536) : (UInt8.ofNat (n / 256)).toNat * 256 + (UInt8.ofNat n).toNat = n := by
  simp only [UInt8.toNat_ofNat']
  omega
def rest (n : Nat) (k : UInt8) (l : List UInt8) : List UInt8 := four n ++ (k :: (two l.length ++ (0 :: (l ++ List.replicate (500 - l.length) 0))))
def page (n : Nat) (k : UInt8) (l : List UInt8) : List UInt8 := four (crc 0 (rest n k l)) ++ rest n k l
theorem rest_length (n : Nat) (k : UInt8) (l : List UInt8) (h : l.length ≤ 500) : (rest n k l).length = 508 := by
  simp [rest, four_length, two_length]
  omega
theorem page_length (n : Nat) (k : UInt8) (l : List UInt8) (h : l.length ≤ 500) : (page n k l).length = 512 := by
  simp [page, four_length, rest_length n k l h]
def sealE (l : List UInt8) : Nat := if l.length ≤ 500 then 0 else 3
def sealL (n : Nat) (k : UInt8) (l : List UInt8) : List UInt8 := if l.length ≤ 500 then page n k l else []
def len (b : List UInt8) : Nat := (b.getD 9 0).toNat * 256 + (b.getD 10 0).toNat
def zeros (b : List UInt8) : Bool := b.all (fun x => x == 0)
theorem zeros_iff (b : List UInt8) : zeros b = true ↔ b = List.replicate b.length 0 := by
  unfold zeros
  rw [List.all_eq_true]
  constructor
  · intro h
    exact List.eq_replicate_iff.2 ⟨rfl, fun x hx => by simpa using h x hx⟩
  · intro h x hx
    have := (List.eq_replicate_iff.1 h).2 x hx
    simpa using this
def openE (n : Nat) (b : List UInt8) : Nat :=
  if b.length ≠ 512 then 1 else if b.take 4 ≠ four (crc 0 (b.drop 4)) then 8 else if (b.drop 4).take 4 ≠ four n then 4
  else if b.getD 11 0 ≠ 0 ∨ 500 < len b ∨ zeros (b.drop (12 + len b)) = false then 2 else 0
def openK (n : Nat) (b : List UInt8) : UInt8 := if openE n b = 0 then b.getD 8 0 else 0
def openB (n : Nat) (b : List UInt8) : List UInt8 := if openE n b = 0 then (b.drop 12).take (len b) else []
theorem twelve (b : List UInt8) (h : b.length = 512) : ∃ a0 a1 a2 a3 a4 a5 a6 a7 a8 a9 a10 a11 t, b = [a0, a1, a2, a3] ++ ([a4, a5, a6, a7] ++ (a8 :: a9 :: a10 :: a11 :: t)) ∧ t.length = 500 := by
  match b, h with
  | a0 :: a1 :: a2 :: a3 :: a4 :: a5 :: a6 :: a7 :: a8 :: a9 :: a10 :: a11 :: t, h => exact ⟨a0, a1, a2, a3, a4, a5, a6, a7, a8, a9, a10, a11, t, rfl, by simpa using h⟩
theorem shape (n : Nat) (b : List UInt8) (h : b.length = 512) (h1 : b.take 4 = four (crc 0 (b.drop 4))) (h2 : (b.drop 4).take 4 = four n) (hm : len b ≤ 500) :
    page n (b.getD 8 0) ((b.drop 12).take (len b)) = b ↔ b.getD 11 0 = 0 ∧ zeros (b.drop (12 + len b)) = true := by
  have hd : ∀ m, b.drop (12 + m) = (b.drop 12).drop m := fun m => by rw [List.drop_drop]
  rw [hd, zeros_iff]
  obtain ⟨a0, a1, a2, a3, a4, a5, a6, a7, a8, a9, a10, a11, t, rfl, ht⟩ := twelve b h
  have e9 : len ([a0, a1, a2, a3] ++ ([a4, a5, a6, a7] ++ (a8 :: a9 :: a10 :: a11 :: t))) = a9.toNat * 256 + a10.toNat := rfl
  rw [e9] at hm ⊢
  have ed : List.drop 12 ([a0, a1, a2, a3] ++ ([a4, a5, a6, a7] ++ (a8 :: a9 :: a10 :: a11 :: t))) = t := rfl
  have e4 : List.drop 4 ([a0, a1, a2, a3] ++ ([a4, a5, a6, a7] ++ (a8 :: a9 :: a10 :: a11 :: t))) = [a4, a5, a6, a7] ++ (a8 :: a9 :: a10 :: a11 :: t) := rfl
  have e5 : List.take 4 ([a0, a1, a2, a3] ++ ([a4, a5, a6, a7] ++ (a8 :: a9 :: a10 :: a11 :: t))) = [a0, a1, a2, a3] := rfl
  have e6 : List.take 4 ([a4, a5, a6, a7] ++ (a8 :: a9 :: a10 :: a11 :: t)) = [a4, a5, a6, a7] := rfl
  have e8 : List.getD ([a0, a1, a2, a3] ++ ([a4, a5, a6, a7] ++ (a8 :: a9 :: a10 :: a11 :: t))) 8 0 = a8 := rfl
  have e11 : List.getD ([a0, a1, a2, a3] ++ ([a4, a5, a6, a7] ++ (a8 :: a9 :: a10 :: a11 :: t))) 11 0 = a11 := rfl
  rw [e4, e5] at h1
  rw [e4, e6] at h2
  rw [ed, e8, e11]
  have hl : (t.take (a9.toNat * 256 + a10.toNat)).length = a9.toNat * 256 + a10.toNat := by simp; omega
  have hr : rest n a8 (t.take (a9.toNat * 256 + a10.toNat)) = [a4, a5, a6, a7] ++ (a8 :: a9 :: a10 :: (0 :: (t.take (a9.toNat * 256 + a10.toNat) ++ List.replicate (500 - (a9.toNat * 256 + a10.toNat)) 0))) := by
    unfold rest
    rw [hl, two_of, ← h2]
    rfl
  have hdl : (t.drop (a9.toNat * 256 + a10.toNat)).length = 500 - (a9.toNat * 256 + a10.toNat) := by simp; omega
  rw [hdl]
  generalize a9.toNat * 256 + a10.toNat = m at *
  constructor
  · intro k
    have k2 := congrArg (List.drop 4) k
    rw [e4] at k2
    have k3 : rest n a8 (t.take m) = [a4, a5, a6, a7] ++ (a8 :: a9 :: a10 :: a11 :: t) := k2
    rw [hr] at k3
    simp only [List.append_cancel_left_eq, List.cons.injEq, true_and] at k3
    refine ⟨k3.1.symm, ?_⟩
    have k4 := congrArg (List.drop m) k3.2
    rw [← k4, List.drop_append, hl]
    simp
  · rintro ⟨rfl, k⟩
    have k3 : rest n a8 (t.take m) = [a4, a5, a6, a7] ++ (a8 :: a9 :: a10 :: 0 :: t) := by
      rw [hr, ← k, List.take_append_drop]
    unfold page
    rw [k3, ← h1]
theorem openE_zero (n : Nat) (b : List UInt8) : openE n b = 0 ↔ b.length = 512 ∧ b.take 4 = four (crc 0 (b.drop 4)) ∧ (b.drop 4).take 4 = four n ∧ b.getD 11 0 = 0 ∧ len b ≤ 500 ∧ zeros (b.drop (12 + len b)) = true := by
  unfold openE
  constructor
  · intro h
    split at h
    · omega
    · split at h
      · omega
      · split at h
        · omega
        · split at h
          · omega
          · rename_i h1 h2 h3 h4
            simp only [ne_eq, Decidable.not_not, not_or, Nat.not_lt, Bool.not_eq_false] at h1 h2 h3 h4
            exact ⟨h1, h2, h3, h4.1, h4.2.1, h4.2.2⟩
  · rintro ⟨h1, h2, h3, h4, h5, h6⟩
    rw [if_neg (by simpa using h1), if_neg (by simpa using h2), if_neg (by simpa using h3), if_neg]
    simp only [ne_eq, not_or, Decidable.not_not, Nat.not_lt, Bool.not_eq_false]
    exact ⟨h4, h5, h6⟩
theorem page_parts (n : Nat) (k : UInt8) (l : List UInt8) (h : l.length ≤ 500) :
    (page n k l).take 4 = four (crc 0 ((page n k l).drop 4)) ∧ ((page n k l).drop 4).take 4 = four n ∧ (page n k l).getD 8 0 = k ∧ (page n k l).getD 11 0 = 0 ∧ len (page n k l) = l.length ∧ (page n k l).drop 12 = l ++ List.replicate (500 - l.length) 0 := by
  refine ⟨rfl, rfl, rfl, rfl, ?_, rfl⟩
  exact of_two l.length (by omega)
theorem page_open_self (n : Nat) (k : UInt8) (l : List UInt8) (h : l.length ≤ 500) : openE n (page n k l) = 0 := by
  obtain ⟨h1, h2, h3, h4, h5, h6⟩ := page_parts n k l h
  rw [openE_zero]
  refine ⟨page_length n k l h, h1, h2, h4, by omega, ?_⟩
  rw [zeros_iff, ← List.drop_drop, h6, h5]
  simp
theorem page_back (n : Nat) (k : UInt8) (l : List UInt8) (h : l.length ≤ 500) : openK n (page n k l) = k ∧ openB n (page n k l) = l := by
  obtain ⟨h1, h2, h3, h4, h5, h6⟩ := page_parts n k l h
  unfold openK openB
  rw [if_pos (page_open_self n k l h), if_pos (page_open_self n k l h), h3, h5, h6]
  simp
theorem open_no (n : Nat) (b : List UInt8) (h : openE n b ≠ 0) : openK n b = 0 ∧ openB n b = [] := ⟨if_neg h, if_neg h⟩
end G
end Go.Proofs.YtlcnefeikejcaaaGreatDoor
namespace Go.Proofs.YtlcnefeikejcaaaGreatDoor
namespace U
open G (four page openE openK openB)
def be : Nat → Nat → List UInt8
  | 0, _ => []
  | k + 1, n => UInt8.ofNat (n / 256 ^ k) :: be k n
theorem be_length : ∀ k n, (be k n).length = k
  | 0, _ => rfl
  | k + 1, n => by simp [be, be_length k n]
theorem be_four (n : Nat) : be 4 n = four n := by simp [be, four]
def val (l : List UInt8) : Nat := l.foldl (fun n c => n * 256 + c.toNat) 0
theorem val_snoc (l : List UInt8) (c : UInt8) : val (l ++ [c]) = val l * 256 + c.toNat := by simp [val]
theorem fold_lt : ∀ (l : List UInt8) (a : Nat), l.foldl (fun n c => n * 256 + c.toNat) a < (a + 1) * 256 ^ l.length
  | [], a => by simp
  | c :: l, a => by
    have hc := c.toNat_lt
    have h := fold_lt l (a * 256 + c.toNat)
    have e : (a * 256 + c.toNat + 1) * 256 ^ l.length ≤ ((a + 1) * 256) * 256 ^ l.length := Nat.mul_le_mul_right _ (by omega)
    rw [List.length_cons, Nat.pow_succ, Nat.mul_comm (256 ^ l.length) 256, ← Nat.mul_assoc]
    exact Nat.lt_of_lt_of_le h e
theorem val_lt (l : List UInt8) : val l < 256 ^ l.length := by
  have := fold_lt l 0
  rwa [Nat.zero_add, Nat.one_mul] at this
theorem fold_be : ∀ (k n a : Nat), (be k n).foldl (fun n c => n * 256 + c.toNat) a = a * 256 ^ k + n % 256 ^ k
  | 0, n, a => by simp [be, Nat.mod_one]
  | k + 1, n, a => by
    show (be k n).foldl _ (a * 256 + (UInt8.ofNat (n / 256 ^ k)).toNat) = _
    have e1 : (UInt8.ofNat (n / 256 ^ k)).toNat = n / 256 ^ k % 256 := by simp
    have e2 := Nat.mod_mul (x := n) (a := 256 ^ k) (b := 256)
    rw [fold_be k n, e1, Nat.pow_succ, e2, Nat.add_mul, Nat.mul_assoc, Nat.mul_comm 256 (256 ^ k), Nat.mul_comm (n / 256 ^ k % 256)]
    omega
theorem val_be (k n : Nat) (h : n < 256 ^ k) : val (be k n) = n := by
  unfold val
  rw [fold_be, Nat.mod_eq_of_lt h]
  simp
theorem val_four (n : Nat) (h : n < 4294967296) : val (four n) = n := by
  rw [← be_four]
  exact val_be 4 n (by omega)
def body (q : Nat) (r : List Nat) : List UInt8 := be 8 q ++ r.flatMap four
theorem flat_length : ∀ r : List Nat, (r.flatMap four).length = 4 * r.length
  | [] => rfl
  | x :: r => by
    rw [List.flatMap_cons, List.length_append, flat_length r, List.length_cons, G.four_length]
    omega
theorem flat_drop : ∀ (r : List Nat) (i : Nat), (r.flatMap four).drop (4 * i) = (r.drop i).flatMap four
  | r, 0 => by simp
  | [], i + 1 => by simp
  | x :: r, i + 1 => by
    rw [List.flatMap_cons, List.drop_succ_cons, ← flat_drop r i, show 4 * (i + 1) = 4 + 4 * i by omega, ← List.drop_drop]
    rfl
theorem body_length (q : Nat) (r : List Nat) (h : r.length = 27) : (body q r).length = 116 := by
  rw [body, List.length_append, be_length, flat_length, h]
def seqOf (b : List UInt8) : Nat := val (b.take 8)
def rootAt (b : List UInt8) (i : Nat) : Nat := val ((b.drop (8 + 4 * i)).take 4)
def rootsOf (b : List UInt8) : List Nat := (List.range 27).map (rootAt b)
theorem rootsOf_length (b : List UInt8) : (rootsOf b).length = 27 := by simp [rootsOf]
theorem rootsOf_get (b : List UInt8) (i : Nat) (h : i < 27) : (rootsOf b)[i]? = some (rootAt b i) := by simp [rootsOf, h]
theorem rootAt_lt (b : List UInt8) (i : Nat) : rootAt b i < 4294967296 := by
  have h := val_lt ((b.drop (8 + 4 * i)).take 4)
  have e : ((b.drop (8 + 4 * i)).take 4).length ≤ 4 := by simp; omega
  have := Nat.pow_le_pow_right (n := 256) (by omega) e
  unfold rootAt
  omega
theorem rootsOf_lt (b : List UInt8) : ∀ x ∈ rootsOf b, x < 4294967296 := by
  intro x hx
  simp only [rootsOf, List.mem_map] at hx
  obtain ⟨i, _, rfl⟩ := hx
  exact rootAt_lt b i
theorem seqOf_lt (b : List UInt8) : seqOf b < 18446744073709551616 := by
  have h := val_lt (b.take 8)
  have e : (b.take 8).length ≤ 8 := by simp; omega
  have := Nat.pow_le_pow_right (n := 256) (by omega) e
  unfold seqOf
  omega
theorem seqOf_body (q : Nat) (r : List Nat) (h : q < 18446744073709551616) : seqOf (body q r) = q := by
  unfold seqOf body
  rw [List.take_left' (be_length 8 q)]
  exact val_be 8 q (by omega)
theorem rootsOf_body (q : Nat) (r : List Nat) (h : r.length = 27) (hr : ∀ x ∈ r, x < 4294967296) : rootsOf (body q r) = r := by
  apply List.ext_getElem?
  intro i
  by_cases hi : i < 27
  · rw [rootsOf_get _ i hi, List.getElem?_eq_getElem (by omega)]
    congr 1
    unfold rootAt body
    rw [← List.drop_drop, List.drop_left' (be_length 8 q), flat_drop, List.drop_eq_getElem_cons (by omega), List.flatMap_cons, List.take_left' (G.four_length _)]
    exact val_four _ (hr _ (List.getElem_mem _))
  · rw [List.getElem?_eq_none (by rw [rootsOf_length]; omega), List.getElem?_eq_none (by omega)]
def readE (p : Int) (b : List UInt8) : Nat :=
  if p < 0 ∨ 1 < p then 1 else if openE p.toNat b ≠ 0 then openE p.toNat b
  else if openK p.toNat b ≠ 1 ∨ (openB p.toNat b).length ≠ 116 then 2 else if seqOf (openB p.toNat b) % 2 ≠ p.toNat then 2 else 0
def none27 : List Nat := List.replicate 27 0
def readQ (p : Int) (b : List UInt8) : Nat := if readE p b = 0 then seqOf (openB p.toNat b) else 0
def readR (p : Int) (b : List UInt8) : List Nat := if readE p b = 0 then rootsOf (openB p.toNat b) else none27
theorem readR_length (p : Int) (b : List UInt8) : (readR p b).length = 27 := by
  unfold readR
  split
  · exact rootsOf_length _
  · rfl
theorem readR_lt (p : Int) (b : List UInt8) : ∀ x ∈ readR p b, x < 4294967296 := by
  unfold readR
  split
  · exact rootsOf_lt _
  · intro x hx
    have := (List.mem_replicate.1 hx).2
    omega
theorem readQ_lt (p : Int) (b : List UInt8) : readQ p b < 18446744073709551616 := by
  unfold readQ
  split
  · exact seqOf_lt _
  · omega
theorem readE_zero (p : Nat) (b : List UInt8) (hp : p < 2) : readE p b = 0 ↔ openE p b = 0 ∧ openK p b = 1 ∧ (openB p b).length = 116 ∧ seqOf (openB p b) % 2 = p := by
  unfold readE
  rw [if_neg (by omega), Int.toNat_natCast]
  constructor
  · intro h
    split at h
    · omega
    · split at h
      · omega
      · split at h
        · omega
        · rename_i h1 h2 h3
          simp only [ne_eq, Decidable.not_not, not_or] at h1 h2 h3
          exact ⟨h1, h2.1, h2.2, h3⟩
  · rintro ⟨h1, h2, h3, h4⟩
    rw [if_neg (by simpa using h1), if_neg (by simp [h2, h3]), if_neg (by simpa using h4)]
def wr (q : Nat) (r : List Nat) : List UInt8 := page (q % 2) 1 (body q r)
theorem wr_length (q : Nat) (r : List Nat) (h : r.length = 27) : (wr q r).length = 512 := G.page_length _ _ _ (by rw [body_length q r h]; omega)
theorem read_own (q : Nat) (r : List Nat) (h : r.length = 27) (hq : q < 18446744073709551616) (hr : ∀ x ∈ r, x < 4294967296) (p : Nat) (hp : p = q % 2) :
    readE p (wr q r) = 0 ∧ readQ p (wr q r) = q ∧ readR p (wr q r) = r := by
  subst hp
  have hl : (body q r).length ≤ 500 := by rw [body_length q r h]; omega
  have h1 := G.page_open_self (q % 2) 1 (body q r) hl
  obtain ⟨h2, h3⟩ := G.page_back (q % 2) 1 (body q r) hl
  have e : readE ((q % 2 : Nat) : Int) (wr q r) = 0 := (readE_zero (q % 2) _ (by omega)).2 ⟨h1, h2, by unfold wr; rw [h3]; exact body_length q r h, by unfold wr; rw [h3, seqOf_body q r hq]⟩
  refine ⟨e, ?_, ?_⟩
  · unfold readQ
    rw [if_pos e, Int.toNat_natCast]
    unfold wr
    rw [h3]
    exact seqOf_body q r hq
  · unfold readR
    rw [if_pos e, Int.toNat_natCast]
    unfold wr
    rw [h3]
    exact rootsOf_body q r h hr
def fst (a b : List UInt8) : Bool := readE 0 a == 0 && (readE 1 b != 0 || decide (readQ 1 b < readQ 0 a))
def newE (a b : List UInt8) : Nat := if readE 0 a ≠ 0 ∧ readE 1 b ≠ 0 then 5 else 0
def newQ (a b : List UInt8) : Nat := if fst a b then readQ 0 a else readQ 1 b
def newR (a b : List UInt8) : List Nat := if fst a b then readR 0 a else readR 1 b
theorem newR_length (a b : List UInt8) : (newR a b).length = 27 := by
  unfold newR
  split <;> exact readR_length _ _
theorem newR_lt (a b : List UInt8) : ∀ x ∈ newR a b, x < 4294967296 := by
  unfold newR
  split <;> exact readR_lt _ _
theorem newQ_lt (a b : List UInt8) : newQ a b < 18446744073709551616 := by
  unfold newQ
  split <;> exact readQ_lt _ _
theorem new_cases (a b : List UInt8) :
    (readE 0 a ≠ 0 ∧ readE 1 b ≠ 0 ∧ newE a b = 5 ∧ newQ a b = 0 ∧ newR a b = none27) ∨ (readE 0 a = 0 ∧ (readE 1 b ≠ 0 ∨ (readE 1 b = 0 ∧ readQ 1 b < readQ 0 a)) ∧ newE a b = 0 ∧ newQ a b = readQ 0 a ∧ newR a b = readR 0 a) ∨
    (readE 1 b = 0 ∧ (readE 0 a ≠ 0 ∨ (readE 0 a = 0 ∧ ¬ readQ 1 b < readQ 0 a)) ∧ newE a b = 0 ∧ newQ a b = readQ 1 b ∧ newR a b = readR 1 b) := by
  by_cases h0 : readE 0 a = 0
  · by_cases h1 : readE 1 b = 0
    · by_cases h2 : readQ 1 b < readQ 0 a
      · have f : fst a b = true := by simp [fst, h0, h2]
        exact .inr (.inl ⟨h0, .inr ⟨h1, h2⟩, if_neg (by simp [h0]), if_pos f, if_pos f⟩)
      · have f : ¬ fst a b = true := by simp [fst, h0, h1, h2]
        exact .inr (.inr ⟨h1, .inr ⟨h0, h2⟩, if_neg (by simp [h0]), if_neg f, if_neg f⟩)
    · have f : fst a b = true := by simp [fst, h0, h1]
      exact .inr (.inl ⟨h0, .inl h1, if_neg (by simp [h0]), if_pos f, if_pos f⟩)
  · have f : ¬ fst a b = true := by simp [fst, h0]
    by_cases h1 : readE 1 b = 0
    · exact .inr (.inr ⟨h1, .inl h0, if_neg (by simp [h1]), if_neg f, if_neg f⟩)
    · refine .inl ⟨h0, h1, if_pos ⟨h0, h1⟩, ?_, ?_⟩
      · rw [newQ, if_neg f, readQ, if_neg h1]
      · rw [newR, if_neg f, readR, if_neg h1]
theorem new_first (a b : List UInt8) (h0 : readE 0 a = 0) (h : readE 1 b ≠ 0 ∨ readQ 1 b < readQ 0 a) : newE a b = 0 ∧ newQ a b = readQ 0 a ∧ newR a b = readR 0 a := by
  have f : fst a b = true := by
    rcases h with h | h <;> simp [fst, h0, h]
  exact ⟨if_neg (by simp [h0]), if_pos f, if_pos f⟩
theorem new_second (a b : List UInt8) (h1 : readE 1 b = 0) (h : readE 0 a ≠ 0 ∨ ¬ readQ 1 b < readQ 0 a) : newE a b = 0 ∧ newQ a b = readQ 1 b ∧ newR a b = readR 1 b := by
  have f : ¬ fst a b = true := by
    rcases h with h | h <;> simp [fst, h1, h]
  exact ⟨if_neg (by simp [h1]), if_neg f, if_neg f⟩
theorem turn_new (q m : Nat) (r r2 : List Nat) (hl : r.length = 27) (hl2 : r2.length = 27) (hr : ∀ x ∈ r, x < 4294967296) (hr2 : ∀ x ∈ r2, x < 4294967296) (hm : m = q + 1) (hq : m < 18446744073709551616) :
    (m % 2 = 0 → newE (wr m r2) (wr q r) = 0 ∧ newQ (wr m r2) (wr q r) = m ∧ newR (wr m r2) (wr q r) = r2) ∧ (m % 2 = 1 → newE (wr q r) (wr m r2) = 0 ∧ newQ (wr q r) (wr m r2) = m ∧ newR (wr q r) (wr m r2) = r2) := by
  constructor
  · intro h
    obtain ⟨a1, a2, a3⟩ := read_own m r2 hl2 hq hr2 0 (by omega)
    obtain ⟨b1, b2, b3⟩ := read_own q r hl (by omega) hr 1 (by omega)
    obtain ⟨c1, c2, c3⟩ := new_first (wr m r2) (wr q r) a1 (.inr (by rw [show readQ 1 (wr q r) = q from b2, show readQ 0 (wr m r2) = m from a2]; omega))
    exact ⟨c1, c2.trans a2, c3.trans a3⟩
  · intro h
    obtain ⟨a1, a2, a3⟩ := read_own m r2 hl2 hq hr2 1 (by omega)
    obtain ⟨b1, b2, b3⟩ := read_own q r hl (by omega) hr 0 (by omega)
    obtain ⟨c1, c2, c3⟩ := new_second (wr q r) (wr m r2) a1 (.inr (by rw [show readQ 0 (wr q r) = q from b2, show readQ 1 (wr m r2) = m from a2]; omega))
    exact ⟨c1, c2.trans a2, c3.trans a3⟩
theorem turn_old (q : Nat) (r : List Nat) (t : List UInt8) (hl : r.length = 27) (hr : ∀ x ∈ r, x < 4294967296) (hq : q < 18446744073709551616) :
    (q % 2 = 1 → readE 0 t ≠ 0 → newE t (wr q r) = 0 ∧ newQ t (wr q r) = q ∧ newR t (wr q r) = r) ∧ (q % 2 = 0 → readE 1 t ≠ 0 → newE (wr q r) t = 0 ∧ newQ (wr q r) t = q ∧ newR (wr q r) t = r) := by
  constructor
  · intro h ht
    obtain ⟨b1, b2, b3⟩ := read_own q r hl hq hr 1 (by omega)
    obtain ⟨c1, c2, c3⟩ := new_second t (wr q r) b1 (.inl ht)
    exact ⟨c1, c2.trans b2, c3.trans b3⟩
  · intro h ht
    obtain ⟨b1, b2, b3⟩ := read_own q r hl hq hr 0 (by omega)
    obtain ⟨c1, c2, c3⟩ := new_first (wr q r) t b1 (.inl ht)
    exact ⟨c1, c2.trans b2, c3.trans b3⟩
end U
end Go.Proofs.YtlcnefeikejcaaaGreatDoor
namespace Go.Proofs.YtlcnefeikejcaaaGreatDoor
open Go.RowKit
def svs (q : Nat) (r : List Nat) : List Value := .int .u64 (q : Int) :: r.map fun x => .int .u32 ((x : Nat) : Int)
def sva (q : Nat) (r : List Nat) : Array Value := (svs q r).toArray
theorem svs_length {q : Nat} {r : List Nat} (h : r.length = 27) : (svs q r).length = 28 := by simp [svs, h]
theorem sva_size {q : Nat} {r : List Nat} (h : r.length = 27) : (sva q r).size = 28 := by simp [sva, svs, h]
theorem svs_one (q : Nat) (r : List Nat) : ∀ v ∈ svs q r, v.oneCell' = true := by
  intro v hv
  simp only [svs, List.mem_cons, List.mem_map] at hv
  rcases hv with rfl | ⟨x, _, rfl⟩
  · rfl
  · rfl
theorem svs_set (q : Nat) (r : List Nat) (i x : Nat) : svs q (r.set i x) = (svs q r).set (i + 1) (.int .u32 ((x : Nat) : Int)) := by simp [svs, List.map_set]
theorem svs_get (q : Nat) (r : List Nat) (i : Nat) (h : i < r.length) : (svs q r)[i + 1]? = some (.int .u32 ((r[i] : Nat) : Int)) := by simp [svs, h]
theorem Tryz.sizeS36 : (Tryz.prog.info? 36).map (·.size) = some 28 := by kernel_rfl
theorem info_svs {q : Nat} {r : List Nat} (h : r.length = 27) : (Tryz.prog.info? 36).map (·.size) = some (svs q r).length := by rw [svs_length h]; exact Tryz.sizeS36
theorem info_sva {q : Nat} {r : List Nat} (h : r.length = 27) : (Tryz.prog.info? 36).map (·.size) = some (sva q r).size := by rw [sva_size h]; exact Tryz.sizeS36
theorem one_sva (q : Nat) (r : List Nat) : (sva q r).all (·.oneCell') = true := all_oneCell_toArray (svs_one q r)
def Sup (w : World) (b q : Nat) (r : List Nat) : Prop := w.rangeAt b 0 (svs q r) ∧ w.there b 0 28 ∧ r.length = 27
theorem Sup.cell0 {w : World} {b q : Nat} {r : List Nat} (h : Sup w b q r) : w.cell? ⟨b, 0, none⟩ = some (.int .u64 (q : Int)) := h.1 0 _ rfl
theorem Sup.lt {w : World} {b q : Nat} {r : List Nat} (h : Sup w b q r) : b < w.heap.size := World.block_lt_of_cell? w ⟨b, 0, none⟩ h.cell0
theorem Sup.cell {w : World} {b q : Nat} {r : List Nat} (h : Sup w b q r) (i : Nat) (hi : i < 27) : w.cell? ⟨b, i + 1, none⟩ = some (.int .u32 ((r.getD i 0 : Nat) : Int)) := by
  have hl := h.2.2
  have := h.1 (i + 1) _ (svs_get q r i (by omega))
  rw [Nat.zero_add] at this
  rw [this]
  simp [List.getD, show i < r.length by omega]
theorem Sup.frozen {w : World} {b q : Nat} {r : List Nat} (h : Sup w b q r) (j : Nat) (hj : j < 28) : w.frozen? ⟨b, j, none⟩ = false := by
  have := (h.2.1 j hj).2
  rwa [Nat.zero_add] at this
theorem Sup.keep {F : Nat → Prop} {w w1 : World} {b q : Nat} {r : List Nat} (h : Sup w b q r) (hk : Keep F w w1) (hf : ¬ F b) : Sup w1 b q r := ⟨range_keep h.1 hk hf, there_keep h.2.1 hk hf, h.2.2⟩
theorem Sup.below {w w1 : World} {b q : Nat} {r : List Nat} (h : Sup w b q r) (hb : Below w.heap.size w w1) : Sup w1 b q r := h.keep (F := fun _ => False) (Keep.of_below hb) (fun h => h)
theorem there_new (w : World) (c : Array Value) (t : TypeId) (n : Nat) (hn : c.size = n) : (w.alloc (.cells c t)).there w.heap.size 0 n := fun j hj => by
  subst hn
  refine ⟨?_, by simp⟩
  rw [World.cell?_alloc_at _ _ _ _ rfl]
  simp
  omega
theorem Sup.made (w : World) (q : Nat) (r : List Nat) (h : r.length = 27) : Sup (w.alloc (.cells (sva q r) 36)) w.heap.size q r := by
  refine ⟨fun j v hv => ?_, there_new w _ _ 28 (sva_size h), h⟩
  rw [Nat.zero_add, World.cell?_alloc_at _ _ _ _ rfl]
  simpa [sva] using hv
theorem Sup.stored {w : World} {b q : Nat} {r : List Nat} (ht : w.there b 0 28) (h : r.length = 27) : Sup (w.setCells b 0 (svs q r)) b q r :=
  ⟨World.rangeAt_setCells_same _ _ _ _ (by rw [svs_length h]; exact ht), World.there_setCells ht _ _ _, h⟩
theorem Sup.set {w : World} {b q : Nat} {r : List Nat} (h : Sup w b q r) (i x : Nat) (hi : i < 27) : Sup (w.setCell ⟨b, i + 1, none⟩ (.int .u32 ((x : Nat) : Int))) b q (r.set i x) := by
  refine ⟨fun j v hv => ?_, fun j hj => ?_, by simpa using h.2.2⟩
  · rw [svs_set] at hv
    rw [Nat.zero_add]
    by_cases e : j = i + 1
    · subst e
      rw [World.cell?_setCell_same _ _ _ (h.cell i hi)]
      rw [List.getElem?_set_self (by rw [svs_length h.2.2]; omega)] at hv
      exact hv
    · rw [World.cell?_setCell_other _ _ _ _ (by intro k; cases k; exact e rfl)]
      rw [List.getElem?_set_ne (fun k => e k.symm)] at hv
      have := h.1 j v hv
      rwa [Nat.zero_add] at this
  · obtain ⟨h1, h2⟩ := h.2.1 j hj
    refine ⟨?_, by rw [World.frozen?_setCell]; exact h2⟩
    exact World.isSome_setCells b [.int .u32 ((x : Nat) : Int)] (i + 1) w _ h1
theorem Sup.setQ {w : World} {b q : Nat} {r : List Nat} (h : Sup w b q r) (x : Nat) : Sup (w.setCell ⟨b, 0, none⟩ (.int .u64 ((x : Nat) : Int))) b x r := by
  refine ⟨fun j v hv => ?_, fun j hj => ?_, h.2.2⟩
  · rw [Nat.zero_add]
    cases j with
    | zero =>
      rw [World.cell?_setCell_same _ _ _ h.cell0]
      exact hv
    | succ j =>
      rw [World.cell?_setCell_other _ _ _ _ (by simp)]
      have := h.1 (j + 1) v hv
      rwa [Nat.zero_add] at this
  · obtain ⟨h1, h2⟩ := h.2.1 j hj
    refine ⟨?_, by rw [World.frozen?_setCell]; exact h2⟩
    exact World.isSome_setCells b [.int .u64 ((x : Nat) : Int)] 0 w _ h1
theorem wpList_load_sup {ops : Array Oper} {rest : List Oper} {op : Oper} {a : Act} {w : World} {Q : Exit → Act → World → Prop} (hgd : op.guard = none) (x : Operand) (ho : op.op = .load 36 x)
    (b q : Nat) (r : List Nat) (hx : a.eval x = .pointer (some ⟨b, 0, none⟩)) (hs : Sup w b q r) (h : wpList Tryz.prog ops Q rest (a.put op.dst (.agg (sva q r))) w) : wpList Tryz.prog ops Q (op :: rest) a w :=
  wpList_load_mid hgd 36 x ho b 0 hx (svs q r) _ hs.1 Tryz.underlying36 rfl (info_svs hs.2.2) h
theorem wpList_store_sup {ops : Array Oper} {rest : List Oper} {op : Oper} {a : Act} {w : World} {Q : Exit → Act → World → Prop} (hgd : op.guard = none) (x y : Operand) (ho : op.op = .store 36 x y)
    (b q : Nat) (r : List Nat) (hx : a.eval x = .pointer (some ⟨b, 0, none⟩)) (hy : a.eval y = .agg (sva q r)) (hr : r.length = 27) (ht : w.there b 0 28)
    (h : ∀ w', Hid (Sup w' b q r) → Keep (fun k => k = b) w w' → wpList Tryz.prog ops Q rest (a.put op.dst undef) w') : wpList Tryz.prog ops Q (op :: rest) a w :=
  wpList_store_mid hgd 36 x y ho b 0 (sva q r) hx hy (by rw [sva_size hr]; exact ht) (info_sva hr) (one_sva q r)
    (h _ (Sup.stored ht hr) (Keep.setCells (F := fun k => k = b) (Keep.refl _ _) (.inl rfl) 0 _))
theorem run_load_sup {op : Oper} {a : Act} {w : World} (x : Operand) (ho : op.op = .load 36 x) (b q : Nat) (r : List Nat) (hx : a.eval x = .pointer (some ⟨b, 0, none⟩)) (hs : Sup w b q r) :
    (execOp a.eval op).run Tryz.prog w = .ok (.value (.agg (sva q r))) w := by
  unfold execOp
  simp only [ho, hx, Instr.loadAt, Instr.sureAddr, Sem.run_bind, Sem.run_pure, Result.andThen_ok, run_loadVar_mid w b 0 36 (svs q r) _ hs.1 Tryz.underlying36 rfl (info_svs hs.2.2)]
  rfl
theorem results_sup {fn : Func} {t u : Tmp} (h : fn.results = #[.cell t 36, .tmp u]) (tmps : Array Value) (w : World) (b q : Nat) (r : List Nat) (v : Value) (ht : tmps.getD t undef = .pointer (some ⟨b, 0, none⟩)) (hu : tmps.getD u undef = v) (hs : Sup w b q r) :
    (results fn tmps).run Tryz.prog w = .ok (.tuple #[.agg (sva q r), v]) w := by
  have hl := run_loadVar_mid (P := Tryz.prog) w b 0 36 (svs q r) _ hs.1 Tryz.underlying36 rfl (info_svs hs.2.2)
  have ht' : tmps[t]?.getD undef = .pointer (some ⟨b, 0, none⟩) := by simpa using ht
  have hu' : tmps[u]?.getD undef = v := by simpa using hu
  simp only [results, h]
  simp [ht', hu', asAddr, hl]
  rfl
theorem results_sup1 {fn : Func} {t : Tmp} (h : fn.results = #[.cell t 36]) (tmps : Array Value) (w : World) (b q : Nat) (r : List Nat) (ht : tmps.getD t undef = .pointer (some ⟨b, 0, none⟩)) (hs : Sup w b q r) :
    (results fn tmps).run Tryz.prog w = .ok (.agg (sva q r)) w := by
  have hl := run_loadVar_mid (P := Tryz.prog) w b 0 36 (svs q r) _ hs.1 Tryz.underlying36 rfl (info_svs hs.2.2)
  have ht' : tmps[t]?.getD undef = .pointer (some ⟨b, 0, none⟩) := by simpa using ht
  simp only [results, h]
  simp [ht', asAddr, hl]
  rfl
end Go.Proofs.YtlcnefeikejcaaaGreatDoor
