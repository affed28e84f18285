/- Contracts that the claim reaches (Wr Ws Tied Gi). -/
import Derived.Test.YtlcnefeikejcaaaGreatDoorPl10
import Derived.Test.YtlcnefeikejcaaaGreatDoorCards
import Derived.Test.YtlcnefeikejcaaaGreatDoorTie
import Derived.Deep.DeepHandedRow
import Derived.Lib.LaidTab
import Derived.ChangeOld
namespace Go.Proofs.YtlcnefeikejcaaaGreatDoor
open Go.RowKit Go.Sort Go.Maps
open D (St)
structure Hx (w0 W : World) (c : Nat → Nat) (p : Nat) (dv : Value) (s : Pm) : Prop where
  below : Below w0.heap.size w0 W
  old : ∀ b, b < w0.heap.size → c b = 99
  new : ∀ b, W.heap.size ≤ b → c b = 0
  pg : Pgr W c p dv s
def Off (W : World) (c : Nat → Nat) (v : Value) : Prop := ∀ b, v.ownBlock = some b → b < W.heap.size ∧ ¬ Pgs c b
structure Nxt (W W' : World) (c c' : Nat → Nat) : Prop where
  same : ∀ b, b < W.heap.size → c' b = c b
  keep : Keep (Pgs c) W W'
theorem Hx.on {w0 W W' : World} {c : Nat → Nat} {p : Nat} {dv : Value} {s : Pm} (h : Hx w0 W c p dv s) (k : Below W.heap.size W W') : Hx w0 W' c p dv s :=
  ⟨btr h.below k, h.old, fun b hb => h.new b (Nat.le_trans k.size hb), h.pg.below k⟩
theorem Nxt.on {W W' : World} {c : Nat → Nat} (k : Below W.heap.size W W') : Nxt W W' c c := ⟨fun _ _ => rfl, Keep.of_below k⟩
theorem Hx.chg {w0 W W' : World} {c : Nat → Nat} {p : Nat} {dv : Value} {s s' : Pm} (h : Hx w0 W c p dv s) (k : Chg W W' c p dv s') : ∃ c', Hx w0 W' c' p dv s' ∧ Nxt W W' c c' := by
  obtain ⟨col', a, P, K⟩ := k
  obtain ⟨c', hc⟩ : ∃ c' : Nat → Nat, c' = fun b => if b < W'.heap.size then col' b else 0 := ⟨_, rfl⟩
  have e1 : ∀ b, b < W'.heap.size → c' b = col' b := fun b hb => by rw [hc]; exact if_pos hb
  have e2 : ∀ b, W'.heap.size ≤ b → c' b = 0 := fun b hb => by rw [hc]; exact if_neg (by omega)
  have sz := K.size
  have s0 := h.below.size
  refine ⟨c', ⟨h.below.trans (K.below s0 (fun b hb => ?_)), fun b hb => ?_, e2, P.recol e1⟩, fun b hb => (e1 b (by omega)).trans (a b hb), K⟩
  · rcases Nat.lt_or_ge b w0.heap.size with q | q
    · have h1 := h.old b q
      have h2 := hb.2
      omega
    · exact q
  · rw [e1 b (by omega), a b (by omega)]
    exact h.old b hb
theorem Hx.tab {w0 W : World} {c : Nat → Nat} {p : Nat} {dv : Value} {s : Pm} (h : Hx w0 W c p dv s) (hT : Tab w0) : Tab W := hT.below h.below
theorem Hx.size {w0 W : World} {c : Nat → Nat} {p : Nat} {dv : Value} {s : Pm} (h : Hx w0 W c p dv s) (h0 : 0 < w0.heap.size) : 0 < W.heap.size := Nat.lt_of_lt_of_le h0 h.below.size
theorem Off.nxt {W W' : World} {c c' : Nat → Nat} {v : Value} (h : Off W c v) (k : Nxt W W' c c') : Off W' c' v := fun b hb => by
  obtain ⟨h1, h2⟩ := h b hb
  refine ⟨Nat.lt_of_lt_of_le h1 k.keep.size, ?_⟩
  unfold Pgs
  rw [k.same b h1]
  exact h2
def Asd (W : World) (c : Nat → Nat) (v : Value) (l : List Int) : Prop := Nums W v l ∧ Off W c v
theorem Asd.nxt {W W' : World} {c c' : Nat → Nat} {v : Value} {l : List Int} (h : Asd W c v l) (k : Nxt W W' c c') : Asd W' c' v l :=
  ⟨h.1.keep k.keep (fun b hb => (h.2 b hb).2), h.2.nxt k⟩
theorem Asd.own {w0 W W' : World} {c : Nat → Nat} {p : Nat} {dv : Value} {s : Pm} {v : Value} {l : List Int} (h : Hx w0 W c p dv s) (o : W'.ownsRow W.heap.size 31 1 v l.length (us l)) : Asd W' c v l :=
  ⟨Nums.own o, fun b hb => by
    have h1 := o.lt b hb
    refine ⟨h1.2, fun q => ?_⟩
    have h2 := h.new b h1.1
    have h3 := q.1
    omega⟩
theorem Asd.nil (W : World) (c : Nat → Nat) : Asd W c (.slice none 0 0) [] := ⟨Nums.nil W, fun b hb => by simp [Value.ownBlock] at hb⟩
theorem Nums.at {W : World} {A : Option Addr} {n c : Nat} {l : List Int} (h : Nums W (.slice A n c) l) (h0 : 0 < l.length) : ∃ b off, A = some ⟨b, off, none⟩ ∧ ∀ j, j < l.length → W.cell? ⟨b, off + j, none⟩ = some (.int .u32 l[j]!) := by
  obtain ⟨A', c', e, hc, hm, q⟩ := h
  cases e
  exact q h0
theorem Byts.at {W : World} {A : Option Addr} {n c : Nat} {l : List UInt8} (h : Byts W (.slice A n c) l) (h0 : 0 < l.length) : ∃ b off, A = some ⟨b, off, Option.none⟩ ∧ ∀ j (h : j < l.length), W.cell? ⟨b, off + j, Option.none⟩ = some (.int .u8 ((l[j].toNat : Nat) : Int)) := by
  obtain ⟨A', c', e, hc, q⟩ := h
  cases e
  exact q h0
theorem Hx.off {w0 W : World} {c : Nat → Nat} {p : Nat} {dv : Value} {s : Pm} {v : Value} (h : Hx w0 W c p dv s) (hv : ∀ b, v.ownBlock = some b → b < w0.heap.size) : Off W c v := fun b hb => by
  have h1 := hv b hb
  refine ⟨Nat.lt_of_lt_of_le h1 h.below.size, fun q => ?_⟩
  have h2 := h.old b h1
  have h3 := q.2
  omega
theorem Made.hx {w w' : World} {dp p n : Nat} (h : Made w w' (fun _ => 99) dp p n) (b : Below w.heap.size w w') : ∃ c, Hx w w' c p (.pointer (some ⟨dp, 0, none⟩)) (Pm.born n) := by
  obtain ⟨g, col', a, P⟩ := h
  obtain ⟨c', hc⟩ : ∃ c' : Nat → Nat, c' = fun b => if b < w'.heap.size then col' b else 0 := ⟨_, rfl⟩
  have e1 : ∀ b, b < w'.heap.size → c' b = col' b := fun b hb => by rw [hc]; exact if_pos hb
  have e2 : ∀ b, w'.heap.size ≤ b → c' b = 0 := fun b hb => by rw [hc]; exact if_neg (by omega)
  have sz := b.size
  exact ⟨c', b, fun k hk => (e1 k (by omega)).trans (a k hk), e2, P.pg.recol e1⟩
section
variable {w0 W : World} {c : Nat → Nat} {p : Nat} {dv : Value} {s : Pm}
def Then (w0 W W' : World) (c : Nat → Nat) (p : Nat) (dv : Value) (s' : Pm) : Prop := ∃ c', Hx w0 W' c' p dv s' ∧ Nxt W W' c c'
theorem Hx.make (h : Hx w0 W c p dv s) (k : UInt8) (v : Value) (l : List UInt8) (hv : Byts W v l) (ho : Off W c v) :
    Calls Tryz.prog 33 #[.pointer (some ⟨p, 0, none⟩), .int .u8 ((k.toNat : Nat) : Int), v] W fun e w' => e = .returned (.tuple #[.int .u32 (s.make k l).2.1, .int .i64 (s.make k l).2.2]) ∧ Then w0 W w' c p dv (s.make k l).1 := by
  refine (pmake_any W c p dv s h.pg k v l hv (fun _ b hb q => (ho b hb).2 ⟨by omega, by omega⟩)).mono ?_
  rintro e w' ⟨rfl, ch⟩
  exact ⟨rfl, h.chg ch⟩
theorem Hx.drop (h : Hx w0 W c p dv s) (n : Int) (n0 : 0 ≤ n) (n1 : n < 4294967296) :
    Calls Tryz.prog 35 #[.pointer (some ⟨p, 0, none⟩), .int .u32 n] W fun e w' => e = .returned (.int .i64 (s.drop n).2) ∧ Then w0 W w' c p dv (s.drop n).1 := by
  refine (drop_any W c p dv s h.pg n n0 n1).mono ?_
  rintro e w' ⟨rfl, ch⟩
  exact ⟨rfl, h.chg ch⟩
end
theorem Off.new {W W' : World} {c : Nat → Nat} (hc : ∀ b, W.heap.size ≤ b → c b = 0) {v : Value} (h : ∀ b, v.ownBlock = some b → W.heap.size ≤ b ∧ b < W'.heap.size) : Off W' c v := fun b hb => by
  obtain ⟨h1, h2⟩ := h b hb
  refine ⟨h2, fun q => ?_⟩
  have h3 := hc b h1
  have h4 := q.1
  omega
theorem Off.none (W : World) (c : Nat → Nat) (n k : Nat) : Off W c (.slice none n k) := fun b hb => by simp [Value.ownBlock] at hb
end Go.Proofs.YtlcnefeikejcaaaGreatDoor
namespace Go.Proofs.YtlcnefeikejcaaaGreatDoor
open Go.RowKit Go.Sort Go.Maps
open D (St)
set_option maxRecDepth 100000
theorem tmod_nat (a m : Nat) : ((a : Int)).tmod (m : Int) = ((a % m : Nat) : Int) := by
  rw [Int.tmod_eq_emod_of_nonneg (by omega)]
  rfl
set_option maxHeartbeats 6400000 in
theorem least_core (w : World) (n0 : Nat) (A : Option Addr) (L c : Nat) (l : List UInt8) (hL : l.length = L) (hv : Byts w (.slice A L c) l) (hT : Tab w) (hw0 : 0 < w.heap.size) :
    Calls Tryz.prog 7 #[.int .u8 (n0 : Int), .slice A L c] w fun e w' => e = .returned (.bool true) ∧ Below w.heap.size w w' := by
  obtain ⟨N, hN⟩ : ∃ N, N = 8 + n0 % 33 := ⟨_, rfl⟩
  have h8 : 8 ≤ N := by omega
  have h40 : N ≤ 40 := by omega
  have e0 : 8 + (n0 : Int) % 33 = (N : Int) := by omega
  have E0 := Lib.hid e0
  clear e0
  have HM := Lib.hid (lmade_any w (fun _ => 99) N h8 (by omega) hT rfl hw0)
  have HN := Lib.hid h40
  have HN8 := Lib.hid h8
  have HT := Lib.hid hT
  have HV := Lib.hid hv
  have H0 := Lib.hid hw0
  have HL := Lib.hid hL
  clear hN h8 h40 hT hv hw0 hL
  go_enter Tryz.func7, Tryz.ntmps7
  go_wp2_with fail
  rw [E0.out]
  refine HM.out.mono ?_
  rintro e w1 ⟨dp, p, rfl, m1, b1⟩
  obtain ⟨c1, hx⟩ := m1.hx b1
  have HX1 := Lib.hid hx
  have LS1 := Lib.hid (born_lst N)
  have HF := Lib.hid (born_free HN8.out HN.out)
  have RI := Lib.hid (born_ok (n := N) HN8.out (by have := HN.out; omega)).free
  have HP := Lib.hid (free_any hx.pg)
  clear m1 b1 hx HM E0
  generalize hF0 : (Pm.born N).x.free = F at *
  generalize Pm.born N = s0 at *
  clear hF0
  go_wp2_with fail
  refine HP.out.mono ?_
  rintro e w2 ⟨v2, rfl, o2, b2⟩
  have R2 := Lib.hid (Asd.own HX1.out o2)
  obtain ⟨A2, cc2, hv2⟩ := own_form o2
  subst hv2
  generalize hm : F.length = m at *
  have HMM := Lib.hid hm
  have HX2 := Lib.hid (HX1.out.on b2)
  have m40 : m ≤ 40 := by
    have h1 := HF.out
    have h2 := HN.out
    omega
  have mpos : 0 < m := by
    have h1 := HF.out
    have h2 := HN8.out
    omega
  clear o2 b2 hm HP
  go_wp2
  go_loopg [39] m (fun k s39 wr => ∃ (i : Nat) (s : Pm) (cc : Nat → Nat), s39 = .int .i64 (i : Int) ∧ i ≤ m ∧ m - i ≤ k ∧ Hid (Hx w wr cc p (.pointer (some ⟨dp, 0, none⟩)) s) ∧ Hid (Asd wr cc (.slice A2 m cc2) F) ∧ Hid (Lst s (F.drop i) (fun x => x ∈ F.take i)))
  case atStart => exact ⟨0, s0, c1, rfl, by omega, by omega, HX2.out, R2.out, LS1.out⟩
  case round =>
    obtain ⟨i, s, cc, rfl, h1, h2, HX, HR, LS⟩ := hrel
    by_cases hi : i < m
    · have hz : (i : Int) < (m : Int) := by omega
      obtain ⟨nb, off, rfl, hcell⟩ := HR.out.1.at (by rw [HMM.out]; omega)
      have ci := hcell i (by rw [HMM.out]; exact hi)
      obtain ⟨x, hxx⟩ : ∃ x, x = F[i]! := ⟨_, rfl⟩
      rw [← hxx] at ci
      have HXX := Lib.hid hxx
      obtain ⟨kb, hkb⟩ : ∃ kb : UInt8, kb = UInt8.ofNat i := ⟨_, rfl⟩
      have qk : IntKind.u8.wrap (i : Int) = ((kb.toNat : Nat) : Int) := by
        rw [hkb, IntKind.wrap_u8]
        simp
      clear hcell hxx hkb
      go_wp2_with fail
      have HXA := Lib.hid (HX.out.on (alb (.cells #[.int .u8 ((kb.toNat : Nat) : Int)] 5)))
      have MK := HXA.out.make 3 (.slice (some ⟨wr.heap.size, 0, none⟩) 1 1) [kb] (Byts.lit wr [kb] (by simp)) (Off.new HX.out.new (fun b hb => by
        simp only [Value.ownBlock, Option.some.injEq] at hb
        subst hb
        simp))
      obtain ⟨e1, L1⟩ := LS.out.next (by rw [HMM.out]; exact hi) 3 (l := [kb]) (by simp)
      rw [e1, ← HXX.out] at MK
      have HL1 := Lib.hid L1
      have NA : Hid (Nxt wr (wr.alloc (.cells #[.int .u8 ((kb.toNat : Nat) : Int)] 5)) cc cc) := Nxt.on (alb _)
      refine MK.mono ?_
      clear MK e1 L1 HX LS
      rintro e w4 ⟨rfl, cc4, hx4, nx4⟩
      have HX4 := Lib.hid hx4
      have HR4 := Lib.hid ((HR.out.nxt NA.out).nxt nx4)
      have RM := Lib.hid (room_any hx4.pg)
      clear hx4 nx4 HR NA HXA
      have hfl : (F.drop (i + 1)).length = m - (i + 1) := by rw [List.length_drop, HMM.out]
      rw [HL1.out.f, hfl, show ((m - (i + 1) : Nat) : Int) = (m : Int) - 1 - (i : Int) by omega] at RM
      clear hfl
      go_wp2_with fail
      refine RM.out.mono ?_
      rintro e w5 ⟨rfl, rfl⟩
      go_wp2
      go_roundg (m - (i + 1))
      case measure => omega
      case rel => exact ⟨i + 1, _, cc4, by simp, by omega, by omega, HX4.out, HR4.out, HL1.out⟩
    · have hz : ¬ (i : Int) < (m : Int) := by omega
      have ef : F.drop i = [] := List.drop_eq_nil_of_le (by rw [HMM.out]; omega)
      have L1 := LS.out
      rw [ef] at L1
      have LB : Hid (Lst s [] (fun x => x ∈ F ∧ x ∉ ([] : List Int))) := ⟨L1.o, L1.f, fun x => by
        have et : F.take i = F := List.take_of_length_le (by rw [HMM.out]; omega)
        rw [L1.m, et]
        simp⟩
      have MK := HX.out.make 3 (.slice none 0 0) [] (Byts.none wr) (Off.none _ _ _ _)
      rw [L1.none 3 (by simp)] at MK
      clear ef L1 LS
      go_wp2_with fail
      refine MK.mono ?_
      clear MK
      rintro e w4 ⟨rfl, cc4, hx4, nx4⟩
      have HX4 := Lib.hid hx4
      have HR4 := Lib.hid (HR.out.nxt nx4)
      have FX := Lib.hid (lfixed_any w4 (hx4.tab HT.out) (hx4.size H0.out))
      clear hx4 nx4 HR HX
      by_cases hbig : 40 < L
      · have hz2 : 40 < (L : Int) := by omega
        go_wp2_with fail
        refine FX.out.mono ?_
        rintro e w5 ⟨rfl, b5⟩
        go_wp2
        go_ret
        exact ⟨rfl, btr HX4.out.below b5⟩
      · have hz2 : ¬ 40 < (L : Int) := by omega
        clear FX
        go_wp2
        go_loopg [15, 83] L (fun k s15 s83 wr => ∃ (j : Nat) (back : List Int) (s : Pm) (cc : Nat → Nat), s83 = .int .i64 (j : Int) ∧ j ≤ L ∧ L - j ≤ k ∧ Hid (Hx w wr cc p (.pointer (some ⟨dp, 0, none⟩)) s) ∧ Hid (Asd wr cc (.slice A2 m cc2) F) ∧ Hid (Asd wr cc s15 back) ∧ Hid (Lst s back (fun x => x ∈ F ∧ x ∉ back)))
        case atStart => exact ⟨0, [], s, cc4, rfl, by omega, by omega, HX4.out, HR4.out, Asd.nil _ _, LB.out⟩
        case round =>
          clear HX4 HR4 LB
          obtain ⟨j, back, s, cc, rfl, j1, j2, HX, HR, HBK, LS⟩ := hrel
          have RB : Hid (Ris back) := by
            have := HX.out.pg.ok.free
            rw [LS.out.f] at this
            exact this
          have BL : Hid (back.length < 60000) := by
            have h1 := HX.out.pg.ok.freep.len HX.out.pg.ok.free HX.out.pg.ok.bl
            rw [LS.out.f] at h1
            exact Nat.lt_of_le_of_lt h1 (by omega)
          obtain ⟨A3, c3, hs3, hc3, hm3⟩ := HBK.out.1.form
          subst hs3
          by_cases hj : j < L
          · have hz3 : (j : Int) < (L : Int) := by omega
            obtain ⟨ab, aoff, rfl, acell⟩ := (HV.out.below HX.out.below).at (by rw [HL.out]; omega)
            obtain ⟨y, hy⟩ : ∃ y, y = (l[j]'(by rw [HL.out]; exact hj)).toNat := ⟨_, rfl⟩
            have aj := acell j (by rw [HL.out]; exact hj)
            rw [← hy] at aj
            have hy8 : y < 256 := by rw [hy]; exact UInt8.toNat_lt _
            clear acell hy
            obtain ⟨nb, off, rfl, hcell⟩ := HR.out.1.at (by rw [HMM.out]; omega)
            obtain ⟨z, hzz⟩ : ∃ z, z = y % m := ⟨_, rfl⟩
            have hk : z < m := by rw [hzz]; exact Nat.mod_lt _ mpos
            have ym : (y : Int) % (m : Int) = (z : Int) := by rw [hzz]; rfl
            have ym2 : (y : Int).tmod (m : Int) = (z : Int) := by rw [hzz]; exact tmod_nat y m
            have ck := hcell z (by rw [HMM.out]; exact hk)
            obtain ⟨x, hxx⟩ : ∃ x, x = F[z]! := ⟨_, rfl⟩
            rw [← hxx] at ck
            clear hzz
            have HXF : Hid (x ∈ F) := by
              have hk2 : z < F.length := by rw [HMM.out]; exact hk
              have e := hxx
              rw [getElem!_def, List.getElem?_eq_getElem hk2] at e
              rw [e]
              exact List.getElem_mem hk2
            have x0 := (RI.out.rng x HXF.out).1
            have x1 := (RI.out.rng x HXF.out).2
            have DR := HX.out.drop x x0 x1
            obtain ⟨e1, L1⟩ := LS.out.turn RB.out HXF.out
            rw [e1] at DR
            have HL1 := Lib.hid L1
            have HS := Lib.hid (fun W => rhas_any W (.slice A3 back.length c3) back x)
            clear hcell hxx e1 L1 LS
            go_wp2_with fail
            by_cases hb : x ∈ back
            · rw [if_pos hb] at DR
              refine DR.mono ?_
              clear DR
              rintro e w4 ⟨rfl, cc4, hx4, nx4⟩
              have HX4 := Lib.hid hx4
              have HR4 := Lib.hid (HR.out.nxt nx4)
              have HB4 := Lib.hid (HBK.out.nxt nx4)
              clear hx4 nx4 HX HR HBK
              have S5 := HS.out w4 HB4.out.1
              rw [decide_eq_true hb] at S5
              have HBB := Lib.hid hb
              clear hb
              go_wp2_with fail
              refine S5.mono ?_
              clear S5
              rintro e w5 ⟨rfl, rfl⟩
              have PT := rput_any w4 _ back x HB4.out.1 RB.out BL.out
              go_wp2_with fail
              refine PT.mono ?_
              clear PT
              rintro e w5 ⟨v5, rfl, o5, b5⟩
              have HB5 := Lib.hid (Asd.own HX4.out o5)
              have HX5 := Lib.hid (HX4.out.on b5)
              have HR5 := Lib.hid (HR4.out.nxt (Nxt.on b5))
              clear o5 b5 HX4 HR4 HB4
              go_wp2
              go_roundg (L - (j + 1))
              case measure => omega
              case rel => exact ⟨j + 1, putS x back, _, cc4, by simp, by omega, by omega, HX5.out, HR5.out, HB5.out, HL1.out⟩
            · rw [if_neg hb] at DR
              refine DR.mono ?_
              clear DR
              rintro e w4 ⟨rfl, cc4, hx4, nx4⟩
              have HX4 := Lib.hid hx4
              have HR4 := Lib.hid (HR.out.nxt nx4)
              have HB4 := Lib.hid (HBK.out.nxt nx4)
              clear hx4 nx4 HX HR HBK
              have S5 := HS.out w4 HB4.out.1
              rw [decide_eq_false hb] at S5
              have HBB := Lib.hid hb
              clear hb
              go_wp2_with fail
              refine S5.mono ?_
              clear S5
              rintro e w5 ⟨rfl, rfl⟩
              have PT := rput_any w4 _ back x HB4.out.1 RB.out BL.out
              go_wp2_with fail
              refine PT.mono ?_
              clear PT
              rintro e w5 ⟨v5, rfl, o5, b5⟩
              have HB5 := Lib.hid (Asd.own HX4.out o5)
              have HX5 := Lib.hid (HX4.out.on b5)
              have HR5 := Lib.hid (HR4.out.nxt (Nxt.on b5))
              clear o5 b5 HX4 HR4 HB4
              go_wp2
              go_roundg (L - (j + 1))
              case measure => omega
              case rel => exact ⟨j + 1, putS x back, _, cc4, by simp, by omega, by omega, HX5.out, HR5.out, HB5.out, HL1.out⟩
          · have hz3 : ¬ (j : Int) < (L : Int) := by omega
            obtain ⟨mb, hmb⟩ : ∃ mb, mb = back.length := ⟨_, rfl⟩
            have HMB := Lib.hid hmb
            have LC : Hid (∃ P, Lst s (back.drop 0) P) := ⟨_, by rw [List.drop_zero]; exact LS.out⟩
            rw [← HMB.out] at HBK
            rw [← HMB.out]
            have mbl : mb < 60000 := by rw [HMB.out]; exact BL.out
            clear hmb LS HR
            go_wp2
            go_loopg [118] mb (fun k s118 wr => ∃ (i : Nat) (s : Pm) (cc : Nat → Nat), s118 = .int .i64 (i : Int) ∧ i ≤ mb ∧ mb - i ≤ k ∧ Hid (Hx w wr cc p (.pointer (some ⟨dp, 0, none⟩)) s) ∧ Hid (Asd wr cc (.slice A3 mb c3) back) ∧ Hid (∃ P, Lst s (back.drop i) P))
            case atStart => exact ⟨0, s, cc, rfl, by omega, by omega, HX.out, HBK.out, LC.out⟩
            case round =>
              clear HX HBK LC
              obtain ⟨g, s, cc, rfl, g1, g2, HX, HBK, LS⟩ := hrel
              by_cases hg : g < mb
              · have hz4 : (g : Int) < (mb : Int) := by omega
                obtain ⟨nb, off, rfl, hcell⟩ := HBK.out.1.at (by rw [← HMB.out]; omega)
                have cg := hcell g (by rw [← HMB.out]; exact hg)
                obtain ⟨x, hxx⟩ : ∃ x, x = back[g]! := ⟨_, rfl⟩
                rw [← hxx] at cg
                have HXX := Lib.hid hxx
                have MK := HX.out.make 4 (.slice none 0 0) [] (Byts.none wr) (Off.none _ _ _ _)
                obtain ⟨P, LP⟩ := LS.out
                obtain ⟨e1, P', L1⟩ := LP.again (by rw [← HMB.out]; exact hg) 4 (l := []) (by simp)
                rw [e1, ← HXX.out] at MK
                have HL1 : Hid (∃ P, Lst (s.make 4 []).1 (back.drop (g + 1)) P) := ⟨P', L1⟩
                clear hcell hxx e1 L1 LP LS
                go_wp2_with fail
                refine MK.mono ?_
                clear MK
                rintro e w4 ⟨rfl, cc4, hx4, nx4⟩
                have HX4 := Lib.hid hx4
                have HB4 := Lib.hid (HBK.out.nxt nx4)
                clear hx4 nx4 HBK HX
                go_wp2
                go_roundg (mb - (g + 1))
                case measure => omega
                case rel => exact ⟨g + 1, _, cc4, by simp, by omega, by omega, HX4.out, HB4.out, HL1.out⟩
              · have hz4 : ¬ (g : Int) < (mb : Int) := by omega
                obtain ⟨P, LP⟩ := LS.out
                rw [List.drop_eq_nil_of_le (by rw [← HMB.out]; omega)] at LP
                have HLP := Lib.hid LP
                clear LP LS
                have FX := Lib.hid (lfixed_any wr (HX.out.tab HT.out) (HX.out.size H0.out))
                go_wp2_with fail
                refine FX.out.mono ?_
                rintro e w5 ⟨rfl, b5⟩
                have HX5 := Lib.hid (HX.out.on b5)
                have RM := room_any HX5.out.pg
                rw [HLP.out.f] at RM
                clear b5
                go_wp2_with fail
                refine RM.mono ?_
                clear RM
                rintro e w6 ⟨rfl, rfl⟩
                go_wp2
                go_ret
                exact ⟨rfl, HX5.out.below⟩
theorem least_any (v : Value) (k : UInt8) (l : List UInt8) (w : World) (hv : Byts w v l) (hT : Tab w) :
    Calls Tryz.prog 7 #[.int .u8 ((k.toNat : Nat) : Int), v] w fun e w' => e = .returned (.bool true) ∧ Below w.heap.size w w' := by
  obtain ⟨A, c, rfl⟩ := hv.form
  exact least_core w k.toNat A _ c l rfl hv hT (World.block_lt_of_cell? w ⟨0, 0, none⟩ (hT 0 (by omega)))
end Go.Proofs.YtlcnefeikejcaaaGreatDoor
namespace Go.Proofs.YtlcnefeikejcaaaGreatDoor
open Go.ChangeShapes Go.WideShapes Go.ChangeAt Go.RowKit
open C (steps)
theorem gHalves : Tryz.prog.globalNamed "cashbook/crc.halves" = some 0 := by kernel_rfl
theorem gHalvesType : (Tryz.prog.globals[0]?).map (·.type) = some 259 := by kernel_rfl
theorem cellsHalves : Tryz.prog.cellsOf 259 = 16 := by kernel_rfl
theorem cellsWord : Tryz.prog.cellsOf 31 = 1 := by kernel_rfl
def halvesZ : List Int := [0, 274646895, 549293790, 820201905, 1098587580, 1361435347, 1640403810, 1905808397, 2197175160, 2460548119, 2722870694, 2987750089, 3280807620, 3553878443, 3811616794, 4084100981]
theorem halvesZ_steps : ∀ i, i < 16 → halvesZ.getD i 0 = ((steps 4 i : Nat) : Int) := by decide +kernel
theorem table {W : World} (h : laidMetH Tryz.prog [("cashbook/crc.halves", Rows.laid_cashbook_crc_halves)] W) : Lib.TabIs Tryz.prog W "cashbook/crc.halves" .u32 halvesZ :=
  Lib.tabIs_of_head (rest := []) gHalves gHalvesType Tryz.underlying259 Tryz.underlying31 cellsWord cellsHalves h
theorem tab_of {W : World} (h : laidMetH Tryz.prog [("cashbook/crc.halves", Rows.laid_cashbook_crc_halves)] W) : Tab W := fun i hi => by
  have := (table h).cell gHalves i (by simpa [halvesZ] using hi)
  rw [halvesZ_steps i hi] at this
  exact this
noncomputable def laidWorld (os : Os) : World :=
  { World.holding Tryz.prog os ⟨#[], #[], []⟩ with heap := (World.holding Tryz.prog os ⟨#[], #[], []⟩).heap.modify 0 fun
      | .cells _ t frozen => .cells (halvesZ.map (Value.int .u32)).toArray t frozen
      | o => o }
end Go.Proofs.YtlcnefeikejcaaaGreatDoor
namespace Go.Proofs.YtlcnefeikejcaaaGreatDoor
open Go.ChangeShapes Go.WideShapes Go.ChangeAt Go.RowKit
theorem byte_of {z : Int} (h : (Lit.int .u8 z).wf = true) : ∃ x : UInt8, z = ((x.toNat : Nat) : Int) := by
  have b : 0 ≤ z ∧ z ≤ 255 := by simpa [Lit.wf, IntKind.min, IntKind.max, IntKind.signed, IntKind.bits] using h
  refine ⟨UInt8.ofNat z.toNat, ?_⟩
  have : (UInt8.ofNat z.toNat).toNat = z.toNat := by simp; omega
  rw [this]
  omega
set_option maxRecDepth 100000 in
theorem open_byte {H : Type} {enc : TypeId × Value → H} {u : World} {r : Reach} {b0 base : Nat} {sp : Nat → Bool} {held : Bool} {v : Value} {d : DataW H} {p : List MemPlace}
    (hv : Value.okWide Tryz.prog u r b0 5 v) (h : DataW.Trod enc Tryz.prog u base sp held 5 v d p) : ∃ x : UInt8, v = .int .u8 ((x.toNat : Nat) : Int) := by
  obtain ⟨z, rfl, _, _, hw⟩ := open_int Tryz.underlying5 hv h
  obtain ⟨x, rfl⟩ := byte_of hw
  exact ⟨x, rfl⟩
end Go.Proofs.YtlcnefeikejcaaaGreatDoor
