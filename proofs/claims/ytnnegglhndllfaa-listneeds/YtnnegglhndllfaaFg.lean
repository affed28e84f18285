/- The document's own Bodies. -/
import Derived.Test.YtnnegglhndllfaaFf
namespace Go.Proofs.Ytnnegglhndllfaa
open Go.RowKit
open G (four two)

theorem Try.info9 : (Try.prog.info? 9).map (fun i => (i.zero, i.size, i.bytes)) = some (some (.string ⟨#[]⟩), 1, 16) := by kernel_rfl
/-- Texts as cells. -/
def svs (bs : List (List UInt8)) : List Value := bs.map fun b => .string (str b)
/-- A slice of texts of the call's own. -/
def Strs (W : World) (base : Nat) (v : Value) (bs : List (List UInt8)) : Prop := W.ownsRow base 9 1 v bs.length (svs bs)
theorem wpList_append_str {ops : Array Oper} {rest : List Oper} {o : Oper} {a : Act} {Q : Exit → Act → World → Prop} {w : World} (hg : o.guard = none) (s x : Operand) (t : TypeId)
    (ho : o.op = .call { callee := .builtin .append, args := #[s, x], argTypes := #[t, t] }) (ht : Try.prog.underlying t = some (.slice 9)) (base : Nat) (v : Value) (bs : List (List UInt8)) (b : List UInt8) (sb : ByteArray) (hsb : Hid (sb = str b)) (hs : a.eval s = v) (W : World) (hw : w = W.alloc (.cells #[.string sb] 9))
    (hx : a.eval x = .slice (some ⟨W.heap.size, 0, none⟩) 1 1) (hown : Strs W base v bs) (hl : bs.length < 10000000) (hb : base ≤ W.heap.size)
    (h : ∀ v' w', Strs w' base v' (bs ++ [b]) → Below base W w' → wpList Try.prog ops Q rest (a.put o.dst v') w') : wpList Try.prog ops Q (o :: rest) a w := by
  subst hw
  obtain ⟨i0, hi0, hz0, hz1, hz2⟩ := info_parts Try.info9
  refine wpList_append_own _ hg s x t ho base 9 i0 _ 1 16 ht hi0 hz0 hz1 hz2 rfl (by decide) v bs.length (svs bs) hs (hown.alloc _) ⟨W.heap.size, 0, none⟩ 1 1 [.string sb] hx rfl ?c2 ?c3 ?c4 ?c5 ?c6 ?_
  case c2 =>
    intro j u hj
    rw [Addr.add_mid, World.cell?_alloc_at _ _ _ _ rfl]
    simpa using hj
  case c3 =>
    intro u hu
    rw [List.mem_singleton.1 hu]
    rfl
  case c4 => unfold maxLen; omega
  case c5 => omega
  case c6 => simp; omega
  intro v' w' hown' hgrow _
  refine h v' w' ?_ ((((Below.refl base W)).alloc hb _).grown hgrow (by simp; omega) (by intro k hk; exact (hown.lt k hk).1))
  unfold Strs
  rw [List.length_append, show svs (bs ++ [b]) = svs bs ++ [.string sb] by simp [svs, hsb.out]]
  exact hown'

theorem Strs.below {W W' : World} {base : Nat} {v : Value} {bs : List (List UInt8)} (h : Strs W base v bs) (k : Below W.heap.size W W') : Strs W' base v bs := own_keep h (Keep.of_below (F := fun _ => False) k) (fun _ _ q => q)
theorem part_at (l : List Int) (j t : Nat) (h : t < (L.part l j).length) : (L.part l j)[t]! = l[123 * j + t]! := by
  have h2 := h
  rw [L.part_length] at h2
  rw [getElem!_pos _ t h, getElem!_pos l (123 * j + t) (by omega)]
  simp [L.part]

theorem rb_bad (w : World) (A A2 : Option Addr) (n c m c2 : Nat) (r1 : Bool) (h : r1 = false ∨ (r1 = true ∧ 123 * m < n)) (hm : m ≤ 70368744177664)
    (H1 : Hid (Calls Try.prog 20 #[.slice A n c] w fun e w' => e = .returned (.bool r1) ∧ Below w.heap.size w w')) :
    Calls Try.prog 11 #[.slice A n c, .slice A2 m c2] w fun e w' => e = .returned (.tuple #[.slice none 0 0, .int .i64 1]) ∧ Below w.heap.size w w' := by
  rcases h with rfl | ⟨rfl, h⟩
  · go_enter Try.func11, Try.ntmps11
    go_wp2_with fail
    refine H1.out.mono ?_
    rintro e w1 ⟨rfl, hB⟩
    go_wp2
    go_ret2
    exact ⟨rfl, hB⟩
  · have h1 : 123 * (m : Int) < (n : Int) := by omega
    go_enter Try.func11, Try.ntmps11
    go_wp2_with fail
    refine H1.out.mono ?_
    rintro e w1 ⟨rfl, hB⟩
    go_wp2
    go_ret2
    exact ⟨rfl, hB⟩

/-- What the inner loop has laid behind so many rounds. -/
def flTo (nx : Int) (q : List Int) (j : Nat) : List UInt8 := four nx.toNat ++ (two q.length ++ (q.take j).flatMap (fun x => four x.toNat))
theorem flTo_zero (nx : Int) (q : List Int) : flTo nx q 0 = four nx.toNat ++ two q.length := by simp [flTo]
theorem flTo_next (nx : Int) (q : List Int) (j : Nat) (h : j < q.length) : flTo nx q j ++ four (q[j]!).toNat = flTo nx q (j + 1) := by
  unfold flTo
  have et : q.take (j + 1) = q.take j ++ [q[j]!] := by rw [List.take_succ_eq_append_getElem h, getElem!_pos q j h]
  rw [et, List.flatMap_append]
  simp
theorem flTo_all (nx : Int) (q : List Int) : flTo nx q q.length = L.bodyL nx q := by
  unfold flTo L.bodyL
  rw [List.take_length]
theorem flTo_length (nx : Int) (q : List Int) (j : Nat) (h : j ≤ q.length) : (flTo nx q j).length = 6 + 4 * j := by
  simp only [flTo, List.length_append, G.four_length, G.two_length, L.flat_length, List.length_take]
  omega

set_option maxRecDepth 100000 in
set_option maxHeartbeats 1600000 in
theorem rb_core (w : World) (A A2 : Option Addr) (n c m c2 : Nat) (l p : List Int) (E : Int) (bs : List (List UInt8)) (hle : n ≤ 123 * m) (hm : m ≤ 1000000) (HL : Hid (l.length = n)) (HK : Hid (p.length = m)) (RL : Hid (Rg l)) (RP : Hid (Rg p))
    (HN : Hid (0 < n → ∃ b off, A = some ⟨b, off, none⟩ ∧ ∀ j, j < n → w.cell? ⟨b, off + j, none⟩ = some (.int .u32 l[j]!)))
    (HP : Hid (0 < m → ∃ b off, A2 = some ⟨b, off, none⟩ ∧ ∀ j, j < m → w.cell? ⟨b, off + j, none⟩ = some (.int .u32 p[j]!)))
    (H1 : Hid (Calls Try.prog 20 #[.slice A n c] w fun e w' => e = .returned (.bool true) ∧ Below w.heap.size w w'))
    (E1 : Hid (L.onD p = false → E = 1 ∧ bs = [])) (E2 : Hid (L.onD p = true → E = 0 ∧ bs = (List.range m).map (L.bodyAt l p))) :
    Calls Try.prog 11 #[.slice A n c, .slice A2 m c2] w fun e w' => ∃ v, e = .returned (.tuple #[v, .int .i64 E]) ∧ Strs w' w.heap.size v bs ∧ Below w.heap.size w w' := by
  have hle2 : decide (123 * (m : Int) < (n : Int)) = false := by simp; omega
  go_enter Try.func11, Try.ntmps11
  go_wp2_with fail
  refine H1.out.mono ?_
  rintro e w1 ⟨rfl, hB1⟩
  have HB1 := Lib.hid hB1
  clear hB1 H1
  go_wp2_with fail
  go_loopg [6] m (fun g s wr => ∃ (i : Nat), s = .int .i64 i ∧ i ≤ m ∧ m - i ≤ g ∧ wr = w1 ∧ Hid (L.onD (p.drop i) = L.onD p))
  case atStart => exact ⟨0, rfl, by omega, by omega, rfl, rfl⟩
  case round =>
    obtain ⟨i, rfl, h1, h2, rfl, HI⟩ := hrel
    by_cases hi : i < m
    · have hz : (i : Int) < (m : Int) := by omega
      obtain ⟨b, off, rfl, hcell⟩ := HP.out (by omega)
      have c0 := kept (hcell i hi) HB1.out
      have HS := Lib.hid (ond_step (l := p) (i := i) (by rw [HK.out]; exact hi))
      generalize p[i]! = y at *
      clear hcell
      by_cases hxy : 2 ≤ y
      · have hz3 : ¬ y < 2 := by omega
        go_wp2
        go_roundg (m - (i + 1))
        case measure => omega
        case rel =>
          refine ⟨i + 1, by simp, by omega, by omega, rfl, ?_⟩
          have := HI.out
          rw [HS.out] at this
          refine Lib.hid ?_
          simpa [hxy] using this
      · have hz3 : y < 2 := by omega
        have HD := Lib.hid (decide_eq_false hxy)
        clear hxy
        have HE : Hid (L.onD p = false) := by
          have := HI.out
          rw [HS.out, HD.out] at this
          exact this.symm
        obtain ⟨rfl, rfl⟩ := E1.out HE.out
        go_wp2
        go_ret2
        exact ⟨_, rfl, World.ownsRow_nil _ _ _ _, HB1.out⟩
    · have hz : ¬ (i : Int) < (m : Int) := by omega
      have HE : Hid (L.onD p = true) := by
        have := HI.out
        rw [List.drop_eq_nil_of_le (by rw [HK.out]; omega)] at this
        exact this.symm
      obtain ⟨rfl, rfl⟩ := E2.out HE.out
      clear E1 E2 HI HE
      obtain rfl : i = m := by omega
      clear hz h2 hi
      go_wp2_with fail
      have HB2 : Hid (Below w.heap.size w (wr.alloc (.cells #[] 9))) := bal HB1.out _
      have HO2 : Hid (Strs (wr.alloc (.cells #[] 9)) w.heap.size (.slice (some ⟨wr.heap.size, 0, none⟩) 0 0) []) := World.ownsRow_lit wr #[] 0 HB1.out.size (by unfold maxLen; omega) rfl
      clear HB1
      generalize wr.alloc (.cells #[] 9) = w2 at *
      generalize wr.heap.size = a2 at *
      go_loopg [7, 8, 9] i (fun g s7 s8 s9 wr => ∃ (j a : Nat), s9 = .int .i64 (j : Int) ∧ j ≤ i ∧ i - j ≤ g ∧ s8 = .int .i64 (a : Int) ∧ Hid (a = min n (123 * j)) ∧ Hid (Strs wr w.heap.size s7 ((List.range j).map (L.bodyAt l p))) ∧ Hid (Below w.heap.size w wr))
      case atStart => exact ⟨0, 0, rfl, by omega, by omega, rfl, by show 0 = _; omega, HO2, HB2⟩
      case round =>
        obtain ⟨j, a, rfl, j1, j2, rfl, EA, HO, HB⟩ := hrel
        by_cases hj : j < i
        · have hz : (j : Int) < (i : Int) := by omega
          obtain ⟨q, hq⟩ : ∃ q, q = L.part l j := ⟨_, rfl⟩
          obtain ⟨k, hk⟩ : ∃ k, k = (L.part l j).length := ⟨_, rfl⟩
          have hk2 : k = min 123 (n - 123 * j) := by rw [hk, L.part_length, HL.out]
          obtain ⟨nx, hnx⟩ : ∃ nx, L.nextOf p j = ((nx : Nat) : Int) := by
            have := L.nextOf_rng RP.out j
            exact ⟨(L.nextOf p j).toNat, by omega⟩
          have hnlt : nx < 4294967296 := by
            have := L.nextOf_rng RP.out j
            omega
          have HQL : Hid (q.length = k) := by show q.length = k; rw [hq, hk]
          have HQ := Lib.hid hq
          have HNX := Lib.hid hnx
          have HKA : Hid (k = min 123 (n - a)) := by
            have := EA.out
            show k = _
            omega
          have han : a ≤ n := by have := EA.out; omega
          clear hq hk hnx hk2
          obtain ⟨sF, hsF⟩ : ∃ sF, sF = str (four nx) := ⟨_, rfl⟩
          have HSF := Lib.hid hsF
          clear hsF
          obtain ⟨d, hd⟩ : ∃ d, decide ((j : Int) + 1 < (i : Int)) = d := ⟨_, rfl⟩
          have HDD := Lib.hid hd
          go_upto_if 46 with fail
          clear hd
          go_cut [10] from 47 to 83 (fun x wc => x = .string sF ∧ Hid (Below wr.heap.size wr wc))
          case first =>
            cases d with
            | true =>
              have hl : j + 1 < i := by
                have := of_decide_eq_true HDD.out
                omega
              obtain ⟨b, off, rfl, hcell⟩ := HP.out (by omega)
              have c0 := kept (hcell (j + 1) hl) HB.out
              have en : p[j + 1]! = (nx : Int) := by
                rw [← HNX.out, ← getD_get! p (j + 1) (by rw [HK.out]; exact hl)]
                rfl
              rw [en] at c0
              clear hcell en
              have HF := Lib.hid (reffour_any nx hnlt)
              rw [← HSF.out] at HF
              go_wp2_with fail
              refine (HF.out _).mono ?_
              rintro e w3 ⟨rfl, h3⟩
              go_wp2
              go_meet
              exact ⟨rfl, h3⟩
            | false =>
              have hl : ¬ j + 1 < i := by
                have := of_decide_eq_false HDD.out
                omega
              have e0 : nx = 0 := by
                have := L.nextOf_last (p := p) (i := j) (by rw [HK.out]; exact hl)
                rw [HNX.out] at this
                omega
              have es : Hid (sF = ⟨#[0, 0, 0, 0]⟩) := by show sF = _; rw [HSF.out, e0]; rfl
              go_wp2
              go_meet
              exact ⟨by rw [es.out], Below.refl _ _⟩
          case rest =>
            obtain ⟨rfl, HC⟩ := hcut
            clear HDD
            have HBc : Hid (Below w.heap.size w wc) := btr HB.out HC.out
            have hna : (n : Int) - (a : Int) = ((n - a : Nat) : Int) := by omega
            go_upto_if 58 with fail
            go_cut [11] from 59 to 83 (fun x w' => x = .int .i64 (k : Int) ∧ w' = wc)
            case first =>
              by_cases h123 : 123 < n - a
              · have hz2 : (123 : Int) < ((n - a : Nat) : Int) := by omega
                have ek : Hid (k = 123) := by have := HKA.out; show k = _; omega
                go_wp2
                go_meet
                exact ⟨by rw [ek.out]; rfl, rfl⟩
              · have hz2 : ¬ (123 : Int) < ((n - a : Nat) : Int) := by omega
                have ek : Hid (k = n - a) := by have := HKA.out; show k = _; omega
                go_wp2
                go_meet
                exact ⟨by rw [ek.out], rfl⟩
            case rest =>
              obtain ⟨rfl, rfl⟩ := hcut
              obtain ⟨sT, hsT⟩ : ∃ sT, sT = str (two k) := ⟨_, rfl⟩
              obtain ⟨s0, hs0⟩ : ∃ s0, s0 = str (flTo (nx : Int) q 0) := ⟨_, rfl⟩
              have hk123 : k ≤ 123 := by have := HKA.out; omega
              have HT := Lib.hid (reftwo_any k (by omega))
              rw [← hsT] at HT
              have A0 : Hid (∀ W, (Op.stringOp .add sF sT).run Try.prog W = .ok (.string s0) W) := fun W => by
                rw [HSF.out, hsT, run_str_add (four nx) (two k) (by rw [G.four_length, G.two_length]; omega) W, hs0, flTo_zero, HQL.out, Int.toNat_natCast]
              have HS0 := Lib.hid hs0
              clear hsT hs0
              go_wp2_with fail
              refine (HT.out _).mono ?_
              rintro e w4 ⟨rfl, h4⟩
              have HB4 : Hid (Below w.heap.size w w4) := btr HBc.out h4
              have HO4 : Hid (Strs w4 w.heap.size u7 ((List.range j).map (L.bodyAt l p))) := (HO.out.below HC.out).below h4
              have z0 := A0.out w4
              clear h4 HBc HC HT A0 hna
              go_wp2_with fail
              go_loopg [10, 12] k (fun g s10 s12 wr => ∃ (t : Nat) (sP : ByteArray), s12 = .int .i64 (t : Int) ∧ t ≤ k ∧ k - t ≤ g ∧ s10 = .string sP ∧ Hid (sP = str (flTo (nx : Int) q t)) ∧ Hid (Below w.heap.size w wr) ∧ Hid (Strs wr w.heap.size u7 ((List.range j).map (L.bodyAt l p))))
              case atStart => exact ⟨0, s0, rfl, by omega, by omega, rfl, HS0, HB4, HO4⟩
              case round =>
                obtain ⟨t, sP, rfl, t1, t2, rfl, HSP, HB5, HO5⟩ := hrel
                by_cases ht : t < k
                · have hz3 : (t : Int) < (k : Int) := by omega
                  have hkn : k ≤ n - a := by have := HKA.out; omega
                  obtain ⟨b, off, rfl, hcell⟩ := HN.out (by omega)
                  obtain ⟨y, hy⟩ : ∃ y, y = a + t := ⟨_, rfl⟩
                  have hyn : y < n := by omega
                  have hat : (a : Int) + (t : Int) = (y : Int) := by omega
                  have c0 := kept (hcell y hyn) HB5.out
                  have hrg : Rg q := fun z hz => RL.out z (L.part_mem (by rw [← HQ.out]; exact hz))
                  obtain ⟨x, hx, ex⟩ := hrg.at t (by rw [HQL.out]; exact ht)
                  have ey : l[y]! = (x : Int) := by
                    have hpl : (L.part l j).length = k := by rw [← HQ.out]; exact HQL.out
                    have e1 := part_at l j t (by rw [hpl]; exact ht)
                    rw [← HQ.out, ex] at e1
                    have e2 : y = 123 * j + t := by
                      have := EA.out
                      have := HKA.out
                      omega
                    rw [e2]
                    exact e1.symm
                  rw [ey] at c0
                  obtain ⟨sX, hsX⟩ : ∃ sX, sX = str (four x) := ⟨_, rfl⟩
                  obtain ⟨sN, hsN⟩ : ∃ sN, sN = str (flTo (nx : Int) q (t + 1)) := ⟨_, rfl⟩
                  have HF := Lib.hid (reffour_any x hx)
                  rw [← hsX] at HF
                  have A1 : Hid (∀ W, (Op.stringOp .add sP sX).run Try.prog W = .ok (.string sN) W) := fun W => by
                    rw [HSP.out, hsX, run_str_add _ _ (by rw [flTo_length _ _ _ (by rw [HQL.out]; omega), G.four_length]; omega) W, hsN, ← flTo_next _ _ _ (by rw [HQL.out]; exact ht), ex, Int.toNat_natCast]
                  have HSN := Lib.hid hsN
                  clear hcell hrg ex ey hsX hsN hy
                  go_wp2_with fail
                  refine (HF.out _).mono ?_
                  rintro e w5 ⟨rfl, h5⟩
                  have HB6 : Hid (Below w.heap.size w w5) := btr HB5.out h5
                  have HO6 : Hid (Strs w5 w.heap.size u7 ((List.range j).map (L.bodyAt l p))) := HO5.out.below h5
                  have z1 := A1.out w5
                  clear h5 HF A1
                  go_wp2
                  go_roundg (k - (t + 1))
                  case measure => omega
                  case rel => exact ⟨t + 1, sN, by simp, by omega, by omega, rfl, HSN, HB6, HO6⟩
                · have hz3 : ¬ (t : Int) < (k : Int) := by omega
                  obtain rfl : t = k := by omega
                  have HSB : Hid (sP = str (L.bodyAt l p j)) := by
                    show sP = _
                    rw [HSP.out, ← HQL.out, flTo_all, ← HNX.out, HQ.out]
                    rfl
                  obtain ⟨y, hy⟩ : ∃ y, y = a + t := ⟨_, rfl⟩
                  have hyn : y ≤ n := by have := HKA.out; omega
                  have hat : (a : Int) + (t : Int) = (y : Int) := by omega
                  have EY : Hid (y = min n (123 * (j + 1))) := by
                    have := EA.out
                    have := HKA.out
                    show y = _
                    omega
                  clear hy
                  go_wp2_with (first
                    | (at_builtin; refine wpList_append_str rfl _ _ 30 rfl Try.underlying30 w.heap.size _ ((List.range j).map (L.bodyAt l p)) (L.bodyAt l p j) sP HSB rfl wr rfl rfl HO5.out (by simp; omega) HB5.out.size ?_; intro v6 w6 hown6 hb6)
                    | go_in)
                  go_roundg (i - (j + 1))
                  case measure => omega
                  case rel =>
                    refine ⟨j + 1, y, by simp, by omega, by omega, rfl, EY, ?_, HB5.out.trans hb6⟩
                    rw [List.range_succ, List.map_append]
                    exact hown6
        · have hz : ¬ (j : Int) < (i : Int) := by omega
          obtain rfl : j = i := by omega
          go_wp2
          go_ret2
          exact ⟨_, rfl, HO.out, HB.out⟩
theorem refbodies_any (w : World) (v v2 : Value) (l p : List Int) (h : Nums w v l) (h2 : Nums w v2 p) (rl : Rg l) (rp : Rg p) (hm : p.length ≤ 1000000) :
    Calls Try.prog 11 #[v, v2] w fun e w' => ∃ u, e = .returned (.tuple #[u, .int .i64 ((L.bodiesE l p : Nat) : Int)]) ∧ Strs w' w.heap.size u (L.bodiesL l p) ∧ Below w.heap.size w w' := by
  have H1 := Lib.hid (rises_any w v l h)
  obtain ⟨A, c, rfl, hc, hcm, hn⟩ := h
  obtain ⟨A2, c2, rfl, hc2, hcm2, hp⟩ := h2
  by_cases hg : L.ris 1 l = true ∧ l.length ≤ 123 * p.length
  · rw [hg.1] at H1
    refine rb_core w A A2 l.length c p.length c2 l p _ _ hg.2 hm rfl rfl rl rp hn hp H1 (Lib.hid fun q => ?_) (Lib.hid fun q => ?_)
    · have : ¬ L.bodiesE l p = 0 := fun e => by
        have := (L.bodiesE_zero e).2.1
        rw [q] at this
        cases this
      have e1 : L.bodiesE l p = 1 := (L.bodiesE_cases l p).resolve_left this
      exact ⟨by rw [e1]; rfl, L.bodiesL_no this⟩
    · have : L.bodiesE l p = 0 := by
        unfold L.bodiesE
        rw [if_pos ⟨hg.1, q, hg.2⟩]
      exact ⟨by rw [this]; rfl, L.bodiesL_ok this⟩
  · have q : ¬ L.bodiesE l p = 0 := fun e => hg ⟨(L.bodiesE_zero e).1, (L.bodiesE_zero e).2.2⟩
    have q1 : L.bodiesE l p = 1 := (L.bodiesE_cases l p).resolve_left q
    rw [L.bodiesL_no q, q1]
    refine (rb_bad w A A2 l.length c p.length c2 _ ?_ (by omega) H1).mono ?_
    · by_cases a1 : L.ris 1 l = true
      · refine .inr ⟨a1, ?_⟩
        have : ¬ l.length ≤ 123 * p.length := fun a3 => hg ⟨a1, a3⟩
        omega
      · exact .inl (by simpa using a1)
    · rintro e w' ⟨rfl, hB⟩
      exact ⟨_, rfl, World.ownsRow_nil _ _ _ _, hB⟩
end Go.Proofs.Ytnnegglhndllfaa
