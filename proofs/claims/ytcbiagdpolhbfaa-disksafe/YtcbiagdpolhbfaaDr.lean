/- disk.Copy. -/
import Derived.Test.YtcbiagdpolhbfaaDo
namespace Go.Proofs.Ytcbiagdpolhbfaa
open Go.RowKit
open D (St)

theorem clone_blocks {w : World} {a : Addr} {n cap : Nat} (xs : List Value) (hx : xs.length = n * 512) (hc : ∀ j u, xs[j]? = some u → w.cell? (a.add j) = some u) (h1 : ∀ u ∈ xs, u.oneCell' = true) (hn : n ≤ 1000000) :
    Calls Try.prog 31 #[.slice (some a) n cap] w fun e w' => ∃ v', e = .returned v' ∧ w'.ownsRow w.heap.size 73 512 v' n xs ∧ Below w.heap.size w w' := by
  obtain ⟨i0, hi0, hz0, hz1, hz2⟩ := info_parts Try.infoZ73
  have hzs : (Value.agg zb).cells.size = 512 := zb_size
  have HC := Lib.hid hc
  have H1 := Lib.hid h1
  clear hc h1
  generalize zb = Z at *
  have q : ∀ (w : World) (a : Option Addr) (n c n' c' : Nat), (binOp .eql 62 (.slice a n c) (.slice none n' c')).run Try.prog w = .ok (.bool a.isNone) w := fun w a n c n' c' => Lib.run_eql_slice_nil w _ _ a n c n' c' Try.underlying62
  go_enter Try.func31, Try.ntmps31
  go_wp2_with (first
    | (at_builtin; refine wpList_append_own _ rfl _ _ 62 rfl w.heap.size 73 i0 _ 512 512 Try.underlying62 hi0 hz0 hz1 hz2 hzs (by decide) _ _ _ rfl (World.ownsRow_lit w #[] 0 (Nat.le_refl _) (by unfold maxLen; omega) rfl) a n cap xs rfl hx ?c2 H1.out ?c4 ?c5 ?c6 ?_)
    | go_in)
  case c2 =>
    intro j u hj
    exact alc (HC.out j u hj) _
  case c4 => unfold maxLen; omega
  case c5 => omega
  case c6 => simp
  intro v' w2 hown hgrow _
  have hB : Below w.heap.size w w2 := (alb _).grown hgrow (by simp) (by intro k hk; simp [Value.ownBlock] at hk; omega)
  clear hgrow
  go_wp2
  go_ret
  exact ⟨_, rfl, by simpa using hown, hB⟩

theorem clone_writes {w : World} {a : Addr} {n cap : Nat} (xs : List Value) (hx : xs.length = n * 513) (hc : ∀ j u, xs[j]? = some u → w.cell? (a.add j) = some u) (h1 : ∀ u ∈ xs, u.oneCell' = true) (hn : n ≤ 1000000) :
    Calls Try.prog 32 #[.slice (some a) n cap] w fun e w' => ∃ v', e = .returned v' ∧ w'.ownsRow w.heap.size 75 513 v' n xs ∧ Below w.heap.size w w' := by
  obtain ⟨i0, hi0, hz0, hz1, hz2⟩ := info_parts Try.infoZ75
  have hzs : (Value.agg (wz (0, D.zero))).cells.size = 513 := wz_size (x := (0, D.zero)) List.length_replicate
  have HC := Lib.hid hc
  have H1 := Lib.hid h1
  clear hc h1
  generalize (wz (0, D.zero)) = Z at *
  have q : ∀ (w : World) (a : Option Addr) (n c n' c' : Nat), (binOp .eql 63 (.slice a n c) (.slice none n' c')).run Try.prog w = .ok (.bool a.isNone) w := fun w a n c n' c' => Lib.run_eql_slice_nil w _ _ a n c n' c' Try.underlying63
  go_enter Try.func32, Try.ntmps32
  go_wp2_with (first
    | (at_builtin; refine wpList_append_own _ rfl _ _ 63 rfl w.heap.size 75 i0 _ 513 520 Try.underlying63 hi0 hz0 hz1 hz2 hzs (by decide) _ _ _ rfl (World.ownsRow_lit w #[] 0 (Nat.le_refl _) (by unfold maxLen; omega) rfl) a n cap xs rfl hx ?c2 H1.out ?c4 ?c5 ?c6 ?_)
    | go_in)
  case c2 =>
    intro j u hj
    exact alc (HC.out j u hj) _
  case c4 => unfold maxLen; omega
  case c5 => omega
  case c6 => simp
  intro v' w2 hown hgrow _
  have hB : Below w.heap.size w w2 := (alb _).grown hgrow (by simp) (by intro k hk; simp [Value.ownBlock] at hk; omega)
  clear hgrow
  go_wp2
  go_ret
  exact ⟨_, rfl, by simpa using hown, hB⟩

theorem clone_none (w : World) :
    Calls Try.prog 32 #[.slice none 0 0] w fun e w' => e = .returned (.slice none 0 0) ∧ w' = w := by
  have q : ∀ (w : World) (a : Option Addr) (n c n' c' : Nat), (binOp .eql 63 (.slice a n c) (.slice none n' c')).run Try.prog w = .ok (.bool a.isNone) w := fun w a n c n' c' => Lib.run_eql_slice_nil w _ _ a n c n' c' Try.underlying63
  go_enter Try.func32, Try.ntmps32
  go_wp2
  go_ret
  exact ⟨rfl, rfl⟩

theorem wall_one (l : List (Nat × List UInt8)) : ∀ u ∈ wall l, u.oneCell' = true := by
  intro u hu
  obtain ⟨x, _, hx⟩ := List.mem_flatMap.1 hu
  rcases List.mem_cons.1 hx with rfl | hx
  · rfl
  · exact bvs_one _ u hx
theorem clone_wv {w : World} {wv : Value} {n : Nat} {xs : List Value} (h : w.ownsRow 0 75 513 wv n xs) (h1 : ∀ u ∈ xs, u.oneCell' = true) (hn : n ≤ 1000000) :
    Calls Try.prog 32 #[wv] w fun e w' => ∃ v', e = .returned v' ∧ w'.ownsRow w.heap.size 75 513 v' n xs ∧ Below w.heap.size w w' := by
  rcases h.2 with ⟨rfl, h0⟩ | ⟨g, cap, cur, rfl, _⟩
  · subst h0
    obtain rfl : xs = [] := List.eq_nil_of_length_eq_zero (by simpa using h.1)
    exact (clone_none w).mono fun e w' q => ⟨_, q.1, World.ownsRow_nil _ _ _ _, by rw [q.2]; exact Below.refl _ _⟩
  · exact clone_writes xs h.1 (fun j u hu => h.cells rfl j u hu) h1 hn

theorem copy_any {w : World} {p g : Nat} {wv : Value} {s : St} (h : Dsk w p g wv s) (hn : s.waits.length ≤ 1000000) :
    Calls Try.prog 17 #[.pointer (some ⟨p, 0, none⟩)] w fun e w' => ∃ p2 g2 wv2, e = .returned (.pointer (some ⟨p2, 0, none⟩)) ∧ Own w' p2 g2 wv2 s w.heap.size ∧ Below w.heap.size w w' := by
  have hz := (zero_of_info Try.zero65).1
  obtain ⟨A, cap, rfl⟩ := wv_form h
  have H := Lib.hid h
  obtain ⟨cc, c0⟩ := h.c0
  have c1 := h.c1
  have c2 := h.c2
  have c3 := h.c3
  have c4 := h.c4
  clear h
  generalize hL : s.waits.length = L at *
  generalize hS : s.safe.length = S at *
  generalize hF : s.fuse = fu at *
  generalize hD : s.down = dn at *
  generalize hW : (s.writes : Int) = wr at *
  have HX := Lib.hid (H.out.ok.full)
  obtain ⟨X, hX⟩ : ∃ X, X = (#[.slice (some ⟨g, 0, none⟩) S cc, .slice A L cap, .int .i64 fu, .bool dn, .int .i64 wr] : Array Value) := ⟨_, rfl⟩
  have hA : Below w.heap.size w (w.alloc (.cells X 65)) := alb _
  have k0 := kept c0 hA
  have k1 := kept c1 hA
  have n0 : (w.alloc (.cells X 65)).cell? ⟨w.heap.size, 0, none⟩ = some (.slice (some ⟨g, 0, none⟩) S cc) := by rw [World.cell?_alloc_at _ _ _ _ rfl, hX]; rfl
  have n1 : (w.alloc (.cells X 65)).cell? ⟨w.heap.size, 1, none⟩ = some (.slice A L cap) := by rw [World.cell?_alloc_at _ _ _ _ rfl, hX]; rfl
  have n2 : (w.alloc (.cells X 65)).cell? ⟨w.heap.size, 2, none⟩ = some (.int .i64 fu) := by rw [World.cell?_alloc_at _ _ _ _ rfl, hX]; rfl
  have n3 : (w.alloc (.cells X 65)).cell? ⟨w.heap.size, 3, none⟩ = some (.bool dn) := by rw [World.cell?_alloc_at _ _ _ _ rfl, hX]; rfl
  have n4 : (w.alloc (.cells X 65)).cell? ⟨w.heap.size, 4, none⟩ = some (.int .i64 wr) := by rw [World.cell?_alloc_at _ _ _ _ rfl, hX]; rfl
  have nf : Hid (∀ i, (w.alloc (.cells X 65)).frozen? ⟨w.heap.size, i, none⟩ = false) := fun i => by simp
  rw [hX] at hA k0 k1 n0 n1 n2 n3 n4 nf
  have hp := H.out.plt
  have HZ : Hid (w.heap.size < (w.alloc (.cells #[.slice (some ⟨g, 0, none⟩) S cc, .slice A L cap, .int .i64 fu, .bool dn, .int .i64 wr] 65)).heap.size) := by simp [Hid]
  have N := Lib.hid (And.intro n0 (And.intro n1 (And.intro n2 (And.intro n3 n4))))
  have HA := Lib.hid hA
  clear hX X n0 n1 n2 n3 n4 hA
  go_enter Try.func17, Try.ntmps17
  go_wp2_with fail
  generalize w.alloc (.cells #[.slice (some ⟨g, 0, none⟩) S cc, .slice A L cap, .int .i64 fu, .bool dn, .int .i64 wr] 65) = w1 at *
  have HD1 := Lib.hid (H.out.below HA.out)
  refine (clone_blocks (sall s.safe) ?d1 ?d2 (sall_one _) ?d3).mono ?_
  case d1 => rw [sall_length _ HX.out, hS]
  case d2 =>
    intro j u hj
    have hjl : j < S * 512 := by
      have := (List.getElem?_eq_some_iff.1 hj).1
      rwa [sall_length _ HX.out, hS] at this
    have hi : j / 512 < s.safe.length := by omega
    have e : j = j / 512 * 512 + j % 512 := by omega
    rw [e, sall_get _ HX.out _ hi _ (by omega)] at hj
    have := HD1.out.safe _ hi _ _ hj
    rw [← e] at this
    rw [Addr.add_mid, Nat.zero_add]
    exact this
  case d3 => have := H.out.ok.many; omega
  rintro e w2 ⟨v1, rfl, ho1, hb1⟩
  obtain ⟨g2, cap2, rfl⟩ := Go.Joins.ownsRow_form ho1 (by have := H.out.ok.few; omega)
  have m0 := kept N.out.1 hb1
  have f0 := keptf N.out.1 (nf.out 0) hb1
  have HO1 := Lib.hid ho1
  have HG2 := Lib.hid (ho1.lt g2 rfl)
  have HB1 := Lib.hid hb1
  have m1 := kept k1 hb1
  have HK2 : Hid (Keep (fun b => b = w.heap.size) w2 (w2.setCell ⟨w.heap.size, 0, none⟩ (.slice (some ⟨g2, 0, none⟩) S cap2))) := Keep.setCell (F := fun b => b = w.heap.size) (Keep.refl _ _) (.inl rfl) _
  have m1' := HK2.out.cell m1 (by show ¬ p = w.heap.size; omega)
  have M2 := Lib.hid (World.cell?_setCell_same w2 ⟨w.heap.size, 0, none⟩ (.slice (some ⟨g2, 0, none⟩) S cap2) m0)
  clear ho1 hb1 m1
  go_wp2_with fail
  have HD3 := Lib.hid ((HD1.out.below HB1.out).keep HK2.out (fun b hb e => by have := H.out.lt b hb; omega))
  have F3 : Hid (∀ i, (w2.setCell ⟨w.heap.size, 0, none⟩ (.slice (some ⟨g2, 0, none⟩) S cap2)).frozen? ⟨w.heap.size, i, none⟩ = false) := fun i => by
    rw [World.frozen?_setCell, World.frozen?_of_block (w := w1) (a := ⟨w.heap.size, i, none⟩) (HB1.out.block _ HZ.out)]
    exact nf.out i
  have N3 : Hid ((w2.setCell ⟨w.heap.size, 0, none⟩ (.slice (some ⟨g2, 0, none⟩) S cap2)).cell? ⟨w.heap.size, 1, none⟩ = some (.slice A L cap) ∧ (w2.setCell ⟨w.heap.size, 0, none⟩ (.slice (some ⟨g2, 0, none⟩) S cap2)).cell? ⟨w.heap.size, 2, none⟩ = some (.int .i64 fu) ∧ (w2.setCell ⟨w.heap.size, 0, none⟩ (.slice (some ⟨g2, 0, none⟩) S cap2)).cell? ⟨w.heap.size, 3, none⟩ = some (.bool dn) ∧ (w2.setCell ⟨w.heap.size, 0, none⟩ (.slice (some ⟨g2, 0, none⟩) S cap2)).cell? ⟨w.heap.size, 4, none⟩ = some (.int .i64 wr)) :=
    ⟨by rw [World.cell?_setCell_other _ _ _ _ (by simp)]; exact kept N.out.2.1 HB1.out, by rw [World.cell?_setCell_other _ _ _ _ (by simp)]; exact kept N.out.2.2.1 HB1.out, by rw [World.cell?_setCell_other _ _ _ _ (by simp)]; exact kept N.out.2.2.2.1 HB1.out, by rw [World.cell?_setCell_other _ _ _ _ (by simp)]; exact kept N.out.2.2.2.2 HB1.out⟩
  have G2 : Hid (w.heap.size < g2) := Nat.lt_of_lt_of_le HZ.out HG2.out.1
  have HO3 := Lib.hid (own_keep HO1.out HK2.out (fun b hb e => by
    have e2 : g2 = b := Option.some.inj hb
    have := G2.out
    omega))
  have HB3 : Hid (Below w.heap.size w (w2.setCell ⟨w.heap.size, 0, none⟩ (.slice (some ⟨g2, 0, none⟩) S cap2))) :=
    (((Keep.of_below (F := fun _ => False) (btr HA.out HB1.out)).setCell (p := ⟨w.heap.size, 0, none⟩) (.inr (Nat.le_refl _)) _).below (Nat.le_refl _) (fun _ h => h.elim))
  generalize w2.setCell ⟨w.heap.size, 0, none⟩ (.slice (some ⟨g2, 0, none⟩) S cap2) = w3 at *
  refine (clone_wv (by have := HD3.out.waits; rwa [hL] at this) (wall_one _) hn).mono ?_
  rintro e w4 ⟨v2, rfl, ho2, hb2⟩
  obtain ⟨A2, cap3, rfl⟩ : ∃ A cap, v2 = .slice A L cap := by
    rcases ho2.2 with ⟨rfl, e⟩ | ⟨k, cap, cur, rfl, _⟩
    · rw [e]; exact ⟨_, _, rfl⟩
    · exact ⟨_, _, rfl⟩
  have t1 := kept N3.out.1 hb2
  have tf := keptf N3.out.1 (F3.out 1) hb2
  have KF : Hid (Keep (fun b => b = w.heap.size) w4 (w4.setCell ⟨w.heap.size, 1, none⟩ (.slice A2 L cap3))) := Keep.setCell (F := fun b => b = w.heap.size) (Keep.refl _ _) (.inl rfl) _
  have HB4 : Hid (Below w.heap.size w (w4.setCell ⟨w.heap.size, 1, none⟩ (.slice A2 L cap3))) :=
    (((Keep.of_below (F := fun _ => False) (btr HB3.out hb2)).setCell (p := ⟨w.heap.size, 1, none⟩) (.inr (Nat.le_refl _)) _).below (Nat.le_refl _) (fun _ h => h.elim))
  have L3 : Hid (g2 < w3.heap.size ∧ w.heap.size < w3.heap.size) := ⟨(HO3.out.lt g2 rfl).2, World.block_lt_of_cell? w3 _ N3.out.1⟩
  have X2 : Hid (∀ b, (Value.slice A2 L cap3).ownBlock = some b → w3.heap.size ≤ b) := fun b hb => (ho2.lt b hb).1
  have HD : Hid (Dsk (w4.setCell ⟨w.heap.size, 1, none⟩ (.slice A2 L cap3)) w.heap.size g2 (.slice A2 L cap3) s) := by
    have ho4 := own_keep (Go.Joins.ownsRow_le (own_keep (F := fun _ => False) HO3.out (Keep.of_below hb2) (fun _ _ h => h)) (Nat.zero_le _)) KF.out (fun b hb e => by
      have e2 : g2 = b := Option.some.inj hb
      have := G2.out
      omega)
    obtain ⟨b1, b2⟩ := blocks_own ho4 hS HX.out
    have ho5 := own_keep (Go.Joins.ownsRow_le ho2 (Nat.zero_le _)) KF.out (fun b hb e => by
      have := X2.out b hb
      have := L3.out
      omega)
    refine ⟨H.out.ok, ⟨cap2, ?_⟩, ?_, ?_, ?_, ?_, fun i => ?_, b1, b2, ?_, by have := G2.out; omega, fun e => by have := X2.out _ e; have := L3.out; omega, fun e => by have := X2.out _ e; have := L3.out; omega⟩
    · rw [World.cell?_setCell_other _ _ _ _ (by simp), hS]; exact kept M2.out hb2
    · exact World.cell?_setCell_same _ _ _ t1
    · rw [World.cell?_setCell_other _ _ _ _ (by simp), hF]; exact kept N3.out.2.1 hb2
    · rw [World.cell?_setCell_other _ _ _ _ (by simp), hD]; exact kept N3.out.2.2.1 hb2
    · rw [World.cell?_setCell_other _ _ _ _ (by simp), hW]; exact kept N3.out.2.2.2 hb2
    · rw [World.frozen?_setCell, World.frozen?_of_block (w := w3) (a := ⟨w.heap.size, i, none⟩) (hb2.block _ L3.out.2)]
      exact F3.out i
    · rw [hL]; exact ho5
  clear ho2 hb2
  go_wp2
  go_ret
  refine ⟨w.heap.size, g2, _, rfl, ⟨HD.out, ?_⟩, HB4.out⟩
  rintro b (rfl | rfl | q)
  · exact Nat.le_refl _
  · exact Nat.le_of_lt G2.out
  · have := X2.out b q
    have := L3.out
    omega
end Go.Proofs.Ytcbiagdpolhbfaa
