/- pool.Copy. -/
import Derived.Test.YtmjjkoiepoblmaaNh
import Derived.Test.YtmjjkoiepoblmaaLh
namespace Go.Proofs.Ytmjjkoiepoblmaa
open Go.RowKit Go.Sort Go.Maps

theorem own_form {w : World} {base size n : Nat} {e : TypeId} {v : Value} {xs : List Value} (h : w.ownsRow base e size v n xs) : ∃ A c, v = .slice A n c := by
  rcases h.2 with ⟨rfl, e⟩ | ⟨k, cap, cur, rfl, _⟩
  · rw [e]
    exact ⟨_, _, rfl⟩
  · exact ⟨_, _, rfl⟩
set_option maxHeartbeats 1600000 in
theorem copy_any (w : World) (p : Nat) (F : Nat → Prop) (s : List Int) (h : Po w p F s) (hl : s.length < 65536) :
    Calls Try.prog 17 #[.pointer (some ⟨p, 0, none⟩)] w fun e w' => ∃ q, e = .returned (.pointer (some ⟨q, 0, none⟩)) ∧ Below w.heap.size w w' ∧ ∃ G, Po w' q G s ∧ ∀ b, G b → w.heap.size ≤ b := by
  obtain ⟨mb, v, xs, D, P, _⟩ := h
  have hx : xs.length = s.length := P.perm.length_eq
  obtain ⟨A, n, cap, hv⟩ : ∃ A n cap, v = .slice A n cap := by
    rcases P.rv.own.2 with ⟨q, e⟩ | ⟨k, cap, cur, q, _⟩
    · exact ⟨none, 0, 0, q⟩
    · exact ⟨_, _, _, q⟩
  obtain ⟨es, cl, hb, _⟩ := id P.map.own
  have HR : Hid (∀ W, Below w.heap.size w W → Calls Try.prog 19 #[v] W fun e w' => ∃ v', e = .returned v' ∧ w'.ownsRow W.heap.size 27 1 v' xs.length (us xs) ∧ Below W.heap.size W w') :=
    fun W hW => rclone_any ((P.keep (F := fun _ => False) (Keep.of_below hW) (fun _ _ q => q)).rv.own) (by omega)
  have HM : Hid (∀ W, Below w.heap.size w W → Calls Try.prog 23 #[.map (some mb)] W fun e w' => e = .returned (.map (some W.heap.size)) ∧ Below W.heap.size W w' ∧ Mp w' W.heap.size s D ∧ W.heap.size < w'.heap.size) := fun W hW => by
    have hbW : W.heap[mb]? = some (.map es cl) := (hW.block mb P.map.lt).trans hb
    refine (mclone_any W mb es cl hbW).mono ?_
    rintro e w' ⟨rfl, rfl⟩
    exact ⟨rfl, alb _, (P.map.keep (F := fun _ => False) (Keep.of_below hW) (fun q => q)).cloned hbW, by simp⟩
  have HP := Lib.hid P
  have C0 := Lib.hid P.rv.c0
  have C1 := Lib.hid P.c1
  rw [hv] at C0 HR
  have FIN : Hid (∀ W v' q (hB : Below w.heap.size w W) (ho : W.ownsRow w.heap.size 27 1 v' xs.length (us xs)) (hm : Mp W q s D) (hq : w.heap.size ≤ q) (hne : v'.ownBlock ≠ some q) (t : TypeId), Below w.heap.size w (W.alloc (.cells #[v', .map (some q)] t)) ∧ ∃ G, Po (W.alloc (.cells #[v', .map (some q)] t)) W.heap.size G s ∧ ∀ b, G b → w.heap.size ≤ b) := by
    intro W v' q hB ho hm hq hne t
    have c : ∀ j, (W.alloc (.cells #[v', .map (some q)] t)).cell? ⟨W.heap.size, j, none⟩ = (#[v', .map (some q)] : Array Value)[j]? := fun j => World.cell?_alloc_at _ _ _ _ rfl
    have ka : Keep (fun _ => False) W (W.alloc (.cells #[v', .map (some q)] t)) := Keep.of_below (alb _)
    have hql : q < W.heap.size := hm.lt
    refine ⟨hB.alloc hB.size _, fp W.heap.size q v', ⟨q, v', xs, D, ⟨⟨c 0, by simp [go_sem], Go.Joins.ownsRow_le (own_keep ho ka (fun _ _ h => h)) (Nat.zero_le _), fun e => ?_⟩, HP.out.heap, HP.out.perm, HP.out.ris, c 1, hm.keep ka (fun h => h), by omega, hne⟩, fun b => Iff.rfl⟩, ?_⟩
    · have := (ho.lt _ e).2
      omega
    · rintro b (rfl | hb | rfl)
      · exact hB.size
      · exact (ho.lt b hb).1
      · exact hq
  clear P hb hv hx
  generalize xs.length = L at *
  go_enter Try.func17, Try.ntmps17
  go_wp2_with fail
  have hS : Hid (Below w.heap.size w w.drew) := (Below.refl _ _).drew
  refine lh_start 13 (fun W => Below w.heap.size w W) rfl (by kernel_rfl) ?_
  refine lh_take 0 3 (v := ?_) rfl rfl (by kernel_rfl) (by kernel_rfl) (by kernel_rfl) (fun _ _ _ _ _ h => h) (by rfl) hS.out (fun W hW => ?_) ?_
  rotate_left
  · go_simp; try rfl
  try simp only [Act.put, List.setIfInBounds_toArray, List.set_cons_zero, List.set_cons_succ]
  refine lh_take 1 4 (v := ?_) rfl rfl (by kernel_rfl) (by kernel_rfl) (by kernel_rfl) (fun _ _ _ _ _ h => h) (by rfl) hS.out (fun W hW => ?_) ?_
  rotate_left
  · go_simp; try rfl
  try simp only [Act.put, List.setIfInBounds_toArray, List.set_cons_zero, List.set_cons_succ]
  refine lh_take 2 5 (v := ?_) rfl rfl (by kernel_rfl) (by kernel_rfl) (by kernel_rfl) (fun _ _ _ _ _ h => h) (by rfl) hS.out (fun W hW => ?_) ?_
  rotate_left
  · go_simp; try rfl
  try simp only [Act.put, List.setIfInBounds_toArray, List.set_cons_zero, List.set_cons_succ]
  refine lh_take 3 6 (v := ?_) rfl rfl (by kernel_rfl) (by kernel_rfl) (by kernel_rfl) (fun _ _ _ _ _ h => h) (by rfl) hS.out (fun W hW => ?_) ?_
  rotate_left
  · have q := kept C0.out hW; go_simp; try rfl
  try simp only [Act.put, List.setIfInBounds_toArray, List.set_cons_zero, List.set_cons_succ]
  refine lh_take 5 8 (v := ?_) rfl rfl (by kernel_rfl) (by kernel_rfl) (by kernel_rfl) (fun _ _ _ _ _ h => h) (by rfl) hS.out (fun W hW => ?_) ?_
  rotate_left
  · go_simp; try rfl
  try simp only [Act.put, List.setIfInBounds_toArray, List.set_cons_zero, List.set_cons_succ]
  refine lh_take 6 9 (v := ?_) rfl rfl (by kernel_rfl) (by kernel_rfl) (by kernel_rfl) (fun _ _ _ _ _ h => h) (by rfl) hS.out (fun W hW => ?_) ?_
  rotate_left
  · go_simp; try rfl
  try simp only [Act.put, List.setIfInBounds_toArray, List.set_cons_zero, List.set_cons_succ]
  refine lh_take 7 10 (v := ?_) rfl rfl (by kernel_rfl) (by kernel_rfl) (by kernel_rfl) (fun _ _ _ _ _ h => h) (by rfl) hS.out (fun W hW => ?_) ?_
  rotate_left
  · go_simp; try rfl
  try simp only [Act.put, List.setIfInBounds_toArray, List.set_cons_zero, List.set_cons_succ]
  refine lh_take 8 11 (v := ?_) rfl rfl (by kernel_rfl) (by kernel_rfl) (by kernel_rfl) (fun _ _ _ _ _ h => h) (by rfl) hS.out (fun W hW => ?_) ?_
  rotate_left
  · have q := kept C1.out hW; go_simp; try rfl
  try simp only [Act.put, List.setIfInBounds_toArray, List.set_cons_zero, List.set_cons_succ]
  generalize w.drew = u at *
  have hSu := hS
  refine lh_one 4 rfl rfl (by kernel_rfl) (fun K hK => ?_)
  go_simp
  refine (HR.out u hS.out).mono ?_
  rintro e w1 ⟨v', rfl, ho, hb⟩
  obtain ⟨A', c', hv'⟩ := own_form ho
  subst hv'
  have hB2 := Lib.hid (btr hS.out hb)
  refine hK.out _ _ hB2.out ?_
  clear hK K
  have hS := hB2
  have HO := Lib.hid (Go.Joins.ownsRow_le ho hSu.out.size)
  have HLT := Lib.hid ho.lt
  clear ho hb
  try simp only [Act.put, List.setIfInBounds_toArray, List.set_cons_zero, List.set_cons_succ]
  refine lh_one 9 rfl rfl (by kernel_rfl) (fun K hK => ?_)
  go_simp
  refine (HM.out w1 hS.out).mono ?_
  rintro e w2 ⟨rfl, hb2, hm, hlt⟩
  have hB3 := Lib.hid (btr hS.out hb2)
  refine hK.out _ _ hB3.out ?_
  clear hK K
  have HO2 := own_keep (F := fun _ => False) HO.out (Keep.of_below hb2) (fun _ _ h => h)
  have FF : Hid (∀ t, _) := FIN.out w2 _ w1.heap.size hB3.out HO2 hm hB2.out.size (fun e => by have := (HLT.out _ e).2; omega)
  have hS := hB3
  clear HO2 hm hb2
  try simp only [Act.put, List.setIfInBounds_toArray, List.set_cons_zero, List.set_cons_succ]
  refine lh_take 10 13 (v := ?_) rfl rfl (by kernel_rfl) (by kernel_rfl) (by kernel_rfl) (fun _ _ _ _ _ h => h) (by rfl) hS.out (fun W hW => ?_) ?_
  rotate_left
  · go_simp; try rfl
  try simp only [Act.put, List.setIfInBounds_toArray, List.set_cons_zero, List.set_cons_succ]
  refine lh_one 11 rfl rfl (by kernel_rfl) (fun K hK => ?_)
  go_simp
  obtain ⟨Z1, Z2⟩ := FF.out 46
  have Z := Lib.hid Z2
  refine hK.out _ _ Z1 ?_
  have hS := Lib.hid Z1
  clear hK K Z1 Z2
  try simp only [Act.put, List.setIfInBounds_toArray, List.set_cons_zero, List.set_cons_succ]
  refine lh_take 12 2 (v := ?_) rfl rfl (by kernel_rfl) (by kernel_rfl) (by kernel_rfl) (fun _ _ _ _ _ h => h) (by rfl) hS.out (fun W hW => ?_) ?_
  rotate_left
  · go_simp; try rfl
  try simp only [Act.put, List.setIfInBounds_toArray, List.set_cons_zero, List.set_cons_succ]
  refine lh_done (by kernel_rfl) ?_
  go_wp2
  go_ret
  exact ⟨_, rfl, hS.out, Z.out⟩
end Go.Proofs.Ytmjjkoiepoblmaa
