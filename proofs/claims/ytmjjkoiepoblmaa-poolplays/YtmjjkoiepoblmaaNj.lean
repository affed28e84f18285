/- Slices of numbers, and the document's own Has, Put, Same. -/
import Derived.Test.YtmjjkoiepoblmaaNd
import Derived.Test.YtmjjkoiepoblmaaNs
namespace Go.Proofs.Ytmjjkoiepoblmaa
open Go.RowKit Go.Sort

/-- A slice of these numbers. -/
def Nums (w : World) (v : Value) (l : List Int) : Prop := ∃ A c, v = .slice A l.length c ∧ l.length ≤ c ∧ c ≤ maxLen ∧ (0 < l.length → ∃ b off, A = some ⟨b, off, none⟩ ∧ ∀ j, j < l.length → w.cell? ⟨b, off + j, none⟩ = some (.int .u32 l[j]!))
theorem Nums.nil (w : World) : Nums w (.slice none 0 0) [] := ⟨none, 0, rfl, Nat.le_refl _, Nat.zero_le _, by simp⟩
theorem Nums.keep {F : Nat → Prop} {w w' : World} {v : Value} {l : List Int} (h : Nums w v l) (k : Keep F w w') (hf : ∀ b, v.ownBlock = some b → ¬ F b) : Nums w' v l := by
  obtain ⟨A, c, rfl, hc, hm, h⟩ := h
  refine ⟨A, c, rfl, hc, hm, fun h0 => ?_⟩
  obtain ⟨b, off, rfl, hcell⟩ := h h0
  exact ⟨b, off, rfl, fun j hj => k.cell (hcell j hj) (hf b rfl)⟩
theorem Nums.below {w w' : World} {v : Value} {l : List Int} (h : Nums w v l) (k : Below w.heap.size w w') : Nums w' v l := h.keep (F := fun _ => False) (Keep.of_below k) (fun _ _ q => q)
theorem Nums.own {w : World} {base : Nat} {v : Value} {l : List Int} (h : w.ownsRow base 27 1 v l.length (us l)) : Nums w v l := by
  rcases h.2 with ⟨rfl, h0⟩ | ⟨g, cap, cur, rfl, _, _, hc, hm, _⟩
  · rw [List.eq_nil_of_length_eq_zero h0]
    exact Nums.nil w
  · refine ⟨_, cap, rfl, hc, hm, fun _ => ⟨g, 0, rfl, fun j hj => ?_⟩⟩
    rw [h.cellAt (0 + j) (by omega), Nat.zero_add, us_get l j hj]
/-- One number more behind a row of the call's own. -/
theorem wpList_append_one {ops : Array Oper} {rest : List Oper} {o : Oper} {a : Act} {Q : Exit → Act → World → Prop} {w : World} (hg : o.guard = none) (s x : Operand) (t : TypeId)
    (ho : o.op = .call { callee := .builtin .append, args := #[s, x], argTypes := #[t, t] }) (ht : Try.prog.underlying t = some (.slice 27)) (base : Nat) (v : Value) (xs : List Int) (n : Int) (hs : a.eval s = v) (W : World) (hw : w = W.alloc (.cells #[.int .u32 n] 27))
    (hx : a.eval x = .slice (some ⟨W.heap.size, 0, none⟩) 1 1) (hown : W.ownsRow base 27 1 v xs.length (us xs)) (hl : xs.length < 1000000) (hb : base ≤ W.heap.size)
    (h : ∀ v' w', w'.ownsRow base 27 1 v' (xs ++ [n]).length (us (xs ++ [n])) → Below base W w' → wpList Try.prog ops Q rest (a.put o.dst v') w') : wpList Try.prog ops Q (o :: rest) a w := by
  subst hw
  obtain ⟨i0, hi0, hz0, hz1, hz2⟩ := info_parts Try.info27
  refine wpList_append_own _ hg s x t ho base 27 i0 _ 1 4 ht hi0 hz0 hz1 hz2 rfl (by decide) v xs.length (us xs) hs (hown.alloc _) ⟨W.heap.size, 0, none⟩ 1 1 [.int .u32 n] hx rfl ?c2 ?c3 ?c4 ?c5 ?c6 ?_
  case c2 =>
    intro j u hj
    rw [Addr.add_mid, World.cell?_alloc_at _ _ _ _ rfl]
    simpa using hj
  case c3 =>
    intro u hu
    rw [List.mem_singleton.1 hu]
    rfl
  case c4 => unfold maxLen; omega
  case c5 => omega
  case c6 => simp; omega
  intro v' w' hown' hgrow _
  refine h v' w' ?_ ((((Below.refl base W)).alloc hb _).grown hgrow (by simp; omega) (by intro k hk; exact (hown.lt k hk).1))
  rw [List.length_append, show us (xs ++ [n]) = us xs ++ [.int .u32 n] by simp [us]]
  exact hown'

theorem rhas_any (w : World) (v : Value) (l : List Int) (x : Int) (h : Nums w v l) : Calls Try.prog 16 #[v, .int .u32 x] w fun e w' => e = .returned (.bool (decide (x ∈ l))) ∧ w = w' := by
  obtain ⟨A, c, rfl, hc, hm, h⟩ := h
  have H := Lib.hid h
  clear h
  have hlm : l.length ≤ maxLen := by omega
  unfold maxLen at hlm
  go_enter Try.func16, Try.ntmps16
  go_wp2
  go_loopg [5] l.length (fun k s wr => ∃ i : Nat, s = .int .i64 i ∧ i ≤ l.length ∧ l.length - i ≤ k ∧ w = wr ∧ Hid (∀ j, j < i → l[j]! ≠ x))
  case atStart => exact ⟨0, rfl, by omega, by omega, rfl, fun j hj => by omega⟩
  case round =>
    obtain ⟨i, rfl, h1, h2, rfl, HI⟩ := hrel
    by_cases hi : i < l.length
    · obtain ⟨b, off, rfl, hcell⟩ := H.out (by omega)
      have c0 := hcell i hi
      obtain ⟨y, hy⟩ : ∃ y, y = l[i]! := ⟨_, rfl⟩
      rw [← hy] at c0
      have HY := Lib.hid hy
      clear hcell hy
      by_cases hxy : y = x
      · have hz : (y == x) = true := by simpa using hxy
        go_wp2
        go_ret
        refine ⟨?_, rfl⟩
        have : x ∈ l := by
          rw [← hxy, HY.out, getElem!_def, List.getElem?_eq_getElem hi]
          exact List.getElem_mem hi
        rw [decide_eq_true this]
        rfl
      · have hz : (y == x) = false := by simpa using hxy
        go_wp2
        go_roundg (l.length - (i + 1))
        case measure => omega
        case rel =>
          refine ⟨i + 1, by simp, by omega, by omega, rfl, fun j hj => ?_⟩
          rcases Nat.lt_or_ge j i with q | q
          · exact HI.out j q
          · obtain rfl : j = i := by omega
            rw [← HY.out]
            exact hxy
    · have hz : ¬ (i : Int) < (l.length : Int) := by omega
      go_wp2
      go_ret
      refine ⟨?_, rfl⟩
      have : x ∉ l := fun hx => by
        obtain ⟨k, hk, e⟩ := List.getElem_of_mem hx
        have := HI.out k (by omega)
        rw [getElem!_def, List.getElem?_eq_getElem hk] at this
        exact this e
      rw [decide_eq_false this]
      rfl

/-- What the document's Put still adds, behind some numbers. -/
def refp (n : Int) (d : Bool) : List Int → List Int
  | [] => if d then [] else [n]
  | x :: r => (if !d && decide (n ≤ x) then [n] else []) ++ (if x = n then [] else [x]) ++ refp n (d || decide (n ≤ x)) r
theorem refp_done (n : Int) : ∀ r : List Int, (∀ x ∈ r, n < x) → refp n true r = r
  | [], _ => rfl
  | x :: r, h => by
    have h0 := h x (by simp)
    have ih := refp_done n r (fun y hy => h y (by simp [hy]))
    have hne : ¬ x = n := by omega
    simp [refp, ih, hne]
theorem refp_put (n : Int) : ∀ s : List Int, s.Pairwise (· < ·) → refp n false s = putS n s
  | [], _ => rfl
  | x :: r, h => by
    obtain ⟨h1, h2⟩ := List.pairwise_cons.1 h
    rcases Int.lt_trichotomy n x with q | q | q
    · have e1 : n ≤ x := by omega
      have hne : ¬ x = n := by omega
      have ih := refp_done n r (fun y hy => by have := h1 y hy; omega)
      simp [refp, putS, e1, q, hne, ih]
    · subst q
      have ih := refp_done n r h1
      simp [refp, putS, ih]
    · have e1 : ¬ n ≤ x := by omega
      have e2 : ¬ n < x := by omega
      have hne : ¬ x = n := by omega
      have hne2 : ¬ n = x := by omega
      have ih := refp_put n r h2
      simp [refp, putS, e1, e2, hne, hne2, ih]

set_option maxHeartbeats 3200000 in
theorem rput_core (w : World) (A : Option Addr) (c : Nat) (l : List Int) (x : Int) (R : List Int) (HR : Hid (refp x false l = R)) (hl : l.length < 60000)
    (H : Hid (0 < l.length → ∃ b off, A = some ⟨b, off, none⟩ ∧ ∀ j, j < l.length → w.cell? ⟨b, off + j, none⟩ = some (.int .u32 l[j]!))) :
    Calls Try.prog 18 #[.slice A l.length c, .int .u32 x] w fun e w' => ∃ v', e = .returned v' ∧ w'.ownsRow w.heap.size 27 1 v' R.length (us R) ∧ Below w.heap.size w w' := by
  go_enter Try.func18, Try.ntmps18
  go_wp2
  go_loopg [5, 6, 7] l.length (fun k s5 s6 s7 wr => ∃ (i : Nat) (dn : Bool) (o : List Int), s7 = .int .i64 i ∧ s6 = .bool dn ∧ i ≤ l.length ∧ l.length - i ≤ k ∧ o.length ≤ 2 * i ∧ Hid (wr.ownsRow w.heap.size 27 1 s5 o.length (us o)) ∧ Hid (Below w.heap.size w wr) ∧ Hid (o ++ refp x dn (l.drop i) = R))
  case atStart =>
    refine ⟨0, false, [], rfl, rfl, by omega, by omega, by simp, ?_, ?_, HR⟩
    · exact World.ownsRow_lit w #[] 0 (Nat.le_refl _) (by unfold maxLen; omega) rfl
    · exact alb _
  case round =>
    obtain ⟨i, dn, o, rfl, rfl, h1, h2, h3, HO, HB, HE⟩ := hrel
    by_cases hi : i < l.length
    · have hz : (i : Int) < (l.length : Int) := by omega
      obtain ⟨b, off, rfl, hcell⟩ := H.out (by omega)
      obtain ⟨y, hy⟩ : ∃ y, y = l[i]! := ⟨_, rfl⟩
      have c0 := hcell i hi
      have hsz := HB.out.size
      have hown := HO.out
      rw [← hy] at c0
      have ed : l.drop i = y :: l.drop (i + 1) := by
        rw [List.drop_eq_getElem_cons hi, hy, getElem!_def, List.getElem?_eq_getElem hi]
      have HE2 : Hid (o ++ ((if !dn && decide (x ≤ y) then [x] else []) ++ (if y = x then [] else [y]) ++ refp x (dn || decide (x ≤ y)) (l.drop (i + 1))) = R) := by
        have := HE.out
        rw [ed, refp] at this
        exact this
      have hc0 := kept c0 HB.out
      have HC := Lib.hid c0
      clear hcell hy ed HE c0
      cases dn with
      | true =>
        have hz2x : True := trivial
        have OWN := HO
        by_cases hxy : y = x
        · have hz3 : (y == x) = true := by simpa using hxy
          go_wp2
          go_roundg (l.length - (i + 1))
          case measure => omega
          case rel =>
            refine ⟨i + 1, true, o, by simp, rfl, by omega, by omega, by first | omega | (simp; omega), OWN, HB, ?_⟩
            have := HE2.out
            refine Lib.hid ?_
            simpa [hxy, hz2x] using this
        · have hz3 : (y == x) = false := by simpa using hxy
          go_wp2_with (first
            | (at_builtin; refine wpList_append_one rfl _ _ 26 rfl Try.underlying26 w.heap.size _ (o) y rfl wr rfl rfl OWN.out (by first | omega | (simp; omega)) (HB).out.size ?_; intro v3 w3 hown3 hb3)
            | go_in)
          go_roundg (l.length - (i + 1))
          case measure => omega
          case rel =>
            refine ⟨i + 1, true, o ++ [y], by simp, rfl, by omega, by omega, by first | omega | (simp; omega), hown3, Lib.hid ((HB).out.trans hb3), ?_⟩
            have := HE2.out
            refine Lib.hid ?_
            simpa [hxy, hz2x] using this

      | false =>
        by_cases hxl : x ≤ y
        · have hz2x : x ≤ y := hxl
          go_upto_region 8 with (first
            | (at_builtin; refine wpList_append_one rfl _ _ 26 rfl Try.underlying26 w.heap.size _ o x rfl wr rfl rfl hown (by omega) hsz ?_; intro v2 w2 hown2 hb2)
            | go_in)
          have OWN : Hid (w2.ownsRow w.heap.size 27 1 v2 (o ++ [x]).length (us (o ++ [x]))) := hown2
          have HB2 : Hid (Below w.heap.size w w2) := HB.out.trans hb2
          have hc2 := kept (HC.out) HB2.out
          clear hc0 hown2 hb2
          by_cases hxy : y = x
          · have hz3 : (y == x) = true := by simpa using hxy
            go_wp2
            go_roundg (l.length - (i + 1))
            case measure => omega
            case rel =>
              refine ⟨i + 1, true, o ++ [x], by simp, rfl, by omega, by omega, by first | omega | (simp; omega), OWN, HB2, ?_⟩
              have := HE2.out
              refine Lib.hid ?_
              simpa [hxy, hz2x] using this
          · have hz3 : (y == x) = false := by simpa using hxy
            go_wp2_with (first
              | (at_builtin; refine wpList_append_one rfl _ _ 26 rfl Try.underlying26 w.heap.size _ (o ++ [x]) y rfl w2 rfl rfl OWN.out (by first | omega | (simp; omega)) (HB2).out.size ?_; intro v3 w3 hown3 hb3)
              | go_in)
            go_roundg (l.length - (i + 1))
            case measure => omega
            case rel =>
              refine ⟨i + 1, true, o ++ [x] ++ [y], by simp, rfl, by omega, by omega, by first | omega | (simp; omega), hown3, Lib.hid ((HB2).out.trans hb3), ?_⟩
              have := HE2.out
              refine Lib.hid ?_
              simpa [hxy, hz2x] using this

        · have hz2x : ¬ x ≤ y := hxl
          have hz2d : decide (x ≤ y) = false := decide_eq_false hxl
          have OWN := HO
          by_cases hxy : y = x
          · omega
          · have hz3 : (y == x) = false := by simpa using hxy
            go_wp2_with (first
              | (at_builtin; refine wpList_append_one rfl _ _ 26 rfl Try.underlying26 w.heap.size _ (o) y rfl wr rfl rfl OWN.out (by first | omega | (simp; omega)) (HB).out.size ?_; intro v3 w3 hown3 hb3)
              | go_in)
            go_roundg (l.length - (i + 1))
            case measure => omega
            case rel =>
              refine ⟨i + 1, false, o ++ [y], by simp, rfl, by omega, by omega, by first | omega | (simp; omega), hown3, Lib.hid ((HB).out.trans hb3), ?_⟩
              have := HE2.out
              rw [hz2d] at this
              refine Lib.hid ?_
              simpa [hxy] using this
    · have hz : ¬ (i : Int) < (l.length : Int) := by omega
      have hsz := HB.out.size
      have hown := HO.out
      have HE2 : Hid (o ++ refp x dn [] = R) := by
        have := HE.out
        rw [List.drop_eq_nil_of_le (by omega)] at this
        exact this
      cases dn with
      | true =>
        go_wp2
        go_ret
        refine ⟨_, rfl, ?_, HB.out⟩
        have e : o = R := by simpa [refp] using HE2.out
        rw [← e]
        exact HO.out
      | false =>
        go_wp2_with (first
          | (at_builtin; refine wpList_append_one rfl _ _ 26 rfl Try.underlying26 w.heap.size _ o x rfl wr rfl rfl hown (by omega) hsz ?_; intro v2 w2 hown2 hb2)
          | go_in)
        go_ret
        refine ⟨_, rfl, ?_, HB.out.trans hb2⟩
        have e : o ++ [x] = R := by simpa [refp] using HE2.out
        rw [← e]
        exact hown2
theorem rput_any (w : World) (v : Value) (l : List Int) (x : Int) (h : Nums w v l) (hr : Ris l) (hl : l.length < 60000) :
    Calls Try.prog 18 #[v, .int .u32 x] w fun e w' => ∃ v', e = .returned v' ∧ w'.ownsRow w.heap.size 27 1 v' (putS x l).length (us (putS x l)) ∧ Below w.heap.size w w' := by
  obtain ⟨A, c, rfl, hc, hm, h⟩ := h
  exact rput_core w A c l x _ (refp_put x l hr.up) hl h

theorem rsame_diff (w : World) (A A2 : Option Addr) (n m c c2 : Nat) (hne : ((n : Int) == (m : Int)) = false) : Calls Try.prog 11 #[.slice A n c, .slice A2 m c2] w fun e w' => e = .returned (.bool false) ∧ Below w.heap.size w w' := by
  go_enter Try.func11, Try.ntmps11
  go_wp2
  go_ret
  exact ⟨rfl, Below.refl _ _⟩
set_option maxHeartbeats 1600000 in
theorem rsame_core (w : World) (A A2 : Option Addr) (n c c2 : Nat) (l m : List Int) (hl : l.length = n) (hm : m.length = n) (hn : n ≤ 9223372036854775807)
    (H : Hid (0 < n → ∃ b off, A = some ⟨b, off, none⟩ ∧ ∀ j, j < n → w.cell? ⟨b, off + j, none⟩ = some (.int .u32 l[j]!)))
    (H2 : Hid (0 < n → ∃ b off, A2 = some ⟨b, off, none⟩ ∧ ∀ j, j < n → w.cell? ⟨b, off + j, none⟩ = some (.int .u32 m[j]!))) :
    Calls Try.prog 11 #[.slice A n c, .slice A2 n c2] w fun e w' => e = .returned (.bool (decide (l = m))) ∧ Below w.heap.size w w' := by
  obtain ⟨r, hr⟩ : ∃ r, r = decide (l = m) := ⟨_, rfl⟩
  rw [← hr]
  have HR := Lib.hid hr
  have HL := Lib.hid hl
  have HM := Lib.hid hm
  clear hr hl hm
  go_enter Try.func11, Try.ntmps11
  go_wp2
  go_loopg [5] n (fun k s wr => ∃ i : Nat, s = .int .i64 i ∧ i ≤ n ∧ n - i ≤ k ∧ Hid (Below w.heap.size w wr) ∧ Hid (∀ j, j < i → l[j]! = m[j]!))
  case atStart => exact ⟨0, rfl, by omega, by omega, Below.refl _ _, fun j hj => by omega⟩
  case round =>
    obtain ⟨i, rfl, h1, h2, HB, HI⟩ := hrel
    by_cases hi : i < n
    · have hz : (i : Int) < (n : Int) := by omega
      obtain ⟨b, off, rfl, hcell⟩ := H.out (by omega)
      obtain ⟨b2, off2, rfl, hcell2⟩ := H2.out (by omega)
      have c0 := kept (hcell i hi) HB.out
      have c1 := kept (hcell2 i hi) HB.out
      obtain ⟨y, hy⟩ : ∃ y, y = l[i]! := ⟨_, rfl⟩
      obtain ⟨z, hzz⟩ : ∃ z, z = m[i]! := ⟨_, rfl⟩
      rw [← hy] at c0
      rw [← hzz] at c1
      have HY := Lib.hid hy
      have HZ := Lib.hid hzz
      clear hcell hcell2 hy hzz
      by_cases hxy : y = z
      · have hz3 : (y == z) = true := by simpa using hxy
        go_wp2_with fail
        go_region
        go_wp2
        go_roundg (n - (i + 1))
        case measure => omega
        case rel =>
          refine ⟨i + 1, by simp, by omega, by omega, HB.out.drew, fun j hj => ?_⟩
          rcases Nat.lt_or_ge j i with q | q
          · exact HI.out j q
          · obtain rfl : j = i := by omega
            rw [← HY.out, ← HZ.out]
            exact hxy
      · have hz3 : (y == z) = false := by simpa using hxy
        go_wp2_with fail
        go_region
        go_wp2
        go_ret
        refine ⟨?_, HB.out.drew⟩
        have : ¬ l = m := fun e => hxy (by rw [HY.out, HZ.out, e])
        rw [HR.out, decide_eq_false this]
        rfl
    · have hz : ¬ (i : Int) < (n : Int) := by omega
      go_wp2
      go_ret
      refine ⟨?_, HB.out⟩
      have : l = m := by
        refine List.ext_getElem (HL.out.trans HM.out.symm) (fun j h1 h2 => ?_)
        have := HI.out j (by have := HL.out; omega)
        rw [getElem!_def, getElem!_def, List.getElem?_eq_getElem h1, List.getElem?_eq_getElem h2] at this
        exact this
      rw [HR.out, decide_eq_true this]
      rfl
theorem rsame_any (w : World) (v v2 : Value) (l m : List Int) (h : Nums w v l) (h2 : Nums w v2 m) :
    Calls Try.prog 11 #[v, v2] w fun e w' => e = .returned (.bool (decide (l = m))) ∧ Below w.heap.size w w' := by
  obtain ⟨A, c, rfl, hc, hm, h⟩ := h
  obtain ⟨A2, c2, rfl, hc2, hm2, h2⟩ := h2
  by_cases e : l.length = m.length
  · rw [← e] at h2 ⊢
    refine rsame_core w A A2 l.length c c2 l m rfl e.symm ?_ (Lib.hid h) (Lib.hid h2)
    unfold maxLen at hm
    omega
  · have hne : ((l.length : Int) == (m.length : Int)) = false := by
      rw [beq_eq_false_iff_ne]
      omega
    refine (rsame_diff w A A2 l.length m.length c c2 hne).mono ?_
    rintro e' w' ⟨rfl, hB⟩
    have : ¬ l = m := fun q => e (by rw [q])
    rw [decide_eq_false this]
    exact ⟨rfl, hB⟩
end Go.Proofs.Ytmjjkoiepoblmaa
