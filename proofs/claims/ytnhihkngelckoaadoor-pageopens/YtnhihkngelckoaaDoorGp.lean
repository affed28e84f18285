/- The walk of the law PageOpens. -/
import Derived.Test.YtnhihkngelckoaaDoorGf
import Derived.Test.YtnhihkngelckoaaDoorApp
import Derived.Lib.LazyBuf
namespace Go.Proofs.YtnhihkngelckoaaDoor
open Go.RowKit
open C (crc)

theorem sizeOf_byte (w : World) : (Go.sizeOf 5).run Tryd.prog w = .ok 1 w := by
  obtain ⟨i0, hi0, _, hz1, _⟩ := info_parts Tryd.info5
  simp [sizeOf, typeInfo, hi0, hz1]
theorem Byts.cap {w : World} {A : Option Addr} {k c : Nat} {l : List UInt8} (h : Byts w (.slice A k c) l) : k ≤ c := by
  obtain ⟨A', c2, e, hc, _⟩ := h
  simp only [Value.slice.injEq] at e
  omega
theorem own_keep_below {w w1 : World} {base : Nat} {v : Value} {n : Nat} {xs : List Value} (h : w.ownsRow base 5 1 v n xs) (hb : Below w.heap.size w w1) : w1.ownsRow base 5 1 v n xs := by
  refine ⟨h.1, ?_⟩
  rcases h.2 with h2 | ⟨g, cap, cur, e, hg, hh, h3⟩
  · exact .inl h2
  · exact .inr ⟨g, cap, cur, e, hg, (hb.block g (Array.getElem?_eq_some_iff.1 hh).1).trans hh, h3⟩
theorem own_block {w : World} {base n : Nat} {v : Value} {xs : List Value} (h : w.ownsRow base 5 1 v n xs) (g : Nat) (hv : v.ownBlock = some g) : base ≤ g := by
  rcases h.2 with ⟨rfl, _⟩ | ⟨g', cap, cur, rfl, hg, _⟩
  · cases hv
  · have e : g' = g := by simpa [Value.ownBlock] using hv
    omega
/-- Four bytes of a text are laid over a row's first ones. -/
theorem Byts.mend {w : World} {base g cap : Nat} {l f : List UInt8} (h : w.ownsRow base 5 1 (.slice (some ⟨g, 0, Option.none⟩) 512 cap) 512 (bvs l)) (hl : l.length = 512) (hf : f.length = 4) :
    Byts (w.setCells g 0 (bvs f)) (.slice (some ⟨g, 0, Option.none⟩) 512 cap) (f ++ l.drop 4) := by
  have hn : (f ++ l.drop 4).length = 512 := by simp; omega
  have hc : 512 ≤ cap := by
    rcases h.2 with ⟨e, _⟩ | ⟨g', cap', cur, e, _, _, hc, _⟩
    · cases e
    · cases e; exact hc
  have there : ∀ j, j < 512 → w.cell? ⟨g, 0 + j, Option.none⟩ = some (.int .u8 (((l.getD j 0).toNat : Nat) : Int)) := by
    intro j hj
    rw [Nat.zero_add, h.cellAt j hj, bvs_get l j (by omega)]
    simp [List.getD, show j < l.length by omega]
  refine ⟨_, cap, by rw [hn], by rw [hn]; exact hc, fun _ => ⟨g, 0, rfl, fun j hj => ?_⟩⟩
  rw [hn] at hj
  by_cases h4 : j < 4
  · have q := World.cell?_setCells_in g (bvs f) 0 w (fun i hi => by
      rw [bvs_length, hf] at hi
      rw [there i (by omega)]
      rfl) j (by rw [bvs_length]; omega)
    rw [q]
    simp [bvs, show j < f.length by omega]
  · rw [World.cell?_setCells_out g (bvs f) 0 w ⟨g, 0 + j, Option.none⟩ (fun _ _ => .inr (by rw [bvs_length, hf]; show 0 + 4 ≤ 0 + j; omega)), there j hj]
    have e : (f ++ l.drop 4)[j] = l[j] := by
      rw [List.getElem_append_right (by omega)]
      simp [hf]
      congr 1
      omega
    rw [e]
    simp [List.getD, show j < l.length by omega]
theorem wpList_mend {w : World} {ops : Array Oper} {rest : List Oper} {o : Oper} {a : Act} {Q : Exit → Act → World → Prop} (hgd : o.guard = none) (d s : Operand)
    (ho : o.op = .call { callee := .builtin .copy, args := #[d, s], argTypes := #[23, 9] }) (base g cap : Nat) (l f : List UInt8) (t : ByteArray)
    (hd : a.eval d = .slice (some ⟨g, 0, none⟩) 512 cap) (hs : a.eval s = .string t) (ht : t = str f) (hf : f.length = 4) (hl : l.length = 512)
    (hown : w.ownsRow base 5 1 (.slice (some ⟨g, 0, none⟩) 512 cap) 512 (bvs l)) (B : Nat) (w0 : World) (hB : Below B w0 w) (hBg : B ≤ g)
    (h : ∀ w', Hid (Byts w' (.slice (some ⟨g, 0, none⟩) 512 cap) (f ++ l.drop 4)) → Below B w0 w' → wpList Tryd.prog ops Q rest (a.put o.dst (goInt 4)) w') : wpList Tryd.prog ops Q (o :: rest) a w := by
  subst ht
  have hr := Go.run_copy_string (P := Tryd.prog) w 23 9 o.type 5 g 0 512 cap (str f) Tryd.underlying23 sizeOf_byte (by rw [str_size]; omega)
    (fun j hj => by
      rw [str_size] at hj
      rw [Nat.zero_add, hown.cellAt j (by omega), bvs_get l j (by omega)]
      rfl) (fun j _ => hown.frozenAt (0 + j))
  rw [str_size, hf, str_list] at hr
  have hr2 : (Builtin.copy_ #[23, 9] o.type #[.slice (some ⟨g, 0, none⟩) 512 cap, .string (str f)]).run Tryd.prog w = .ok (goInt 4) (w.setCells g 0 (bvs f)) := hr
  refine wpList_plain hgd fun K hK => ?_
  unfold Oper.wp execOp
  simp only [ho, resolve, invoke, builtin, Sem.run_bind, Sem.run_pure, Result.andThen_ok, List.map_toArray, List.map_cons, List.map_nil, hd, hs, hr2]
  exact hK _ _ (h _ (Byts.mend hown hl hf) (Go.below_setCells hBg _ _ _ hB))

set_option maxHeartbeats 3200000 in
theorem opens_core (n len : Nat) (A : Option Addr) (c : Nat) (l : List UInt8) (o : Bool) (w : World) (hn : n < 4294967296) (hl : len ≤ 600) (HL : Hid (l.length = len)) (QA : Hid (Byts w (.slice A len c) l)) (HT : Hid (Tab w)) :
    Calls Tryd.prog 4 #[.int .u32 (n : Int), .slice A len c, .bool o] w fun e w' => e = .returned (.bool true) ∧ Below w.heap.size w w' := by
  have hd : decide ((600 : Int) < (len : Int)) = false := by simp; omega
  have HF : Hid (∀ W : World, Below w.heap.size w W → Calls Tryd.prog 7 #[] W fun e w' => e = .returned (.bool true) ∧ Below W.heap.size W w') := fun W hB => fixed_any W (HT.out.below hB)
  have HM : Hid (∀ (x : Nat) (W : World), x < 4294967296 → Calls Tryd.prog 11 #[.int .u32 (x : Int)] W fun e w' => e = .returned (.string (str (G.four x))) ∧ Below W.heap.size W w') := fun x W hx => reffour_any x hx W
  go_enter Tryd.func4, Tryd.ntmps4
  go_wp2_with (first
    | (at_builtin; refine wpList_append_byts rfl _ _ rfl w.heap.size _ _ 0 [] l rfl rfl ?c0 (QA.out.below (alb _)) ?c1 ?c2 ?_)
    | go_in)
  case c0 =>
    have := World.ownsRow_lit (base := w.heap.size) (e := 5) (size := 1) w #[] 0 (by simp) (by unfold maxLen; omega) rfl
    show World.ownsRow _ w.heap.size 5 1 (.slice (some ⟨w.heap.size, 0, none⟩) 0 0) 0 []
    simpa using this
  case c1 => rw [HL.out]; omega
  case c2 => simp
  intro v2 w2 hown hgrow
  have hb2 : Below w.heap.size w w2 := Below.grown (Below.alloc (Below.refl _ _) (by simp) _) hgrow (by simp) (by intro k hk; simp [Value.ownBlock] at hk; omega)
  have HV : Hid (Byts w2 v2 l) := Byts.own (base := w.heap.size) (by simpa using hown)
  have HOWN : Hid (w2.ownsRow w.heap.size 5 1 v2 l.length (bvs l)) := Lib.hid (by simpa using hown)
  clear hown hgrow
  obtain ⟨A2, c2, rfl⟩ := HV.out.form
  rw [HL.out] at HV HOWN
  rw [HL.out]
  have hcase : (o = true ∧ len = 512) ∨ o = false ∨ (o = true ∧ ((len : Int) == 512) = false) := by
    cases o with
    | false => exact .inr (.inl rfl)
    | true =>
      by_cases h : len = 512
      · exact .inl ⟨rfl, h⟩
      · exact .inr (.inr ⟨rfl, by simp; omega⟩)
  rcases hcase with ⟨rfl, rfl⟩ | rfl | ⟨rfl, hne⟩
  · obtain ⟨g, cap, e⟩ := Go.Joins.ownsRow_form HOWN.out (by omega)
    cases e
    have hg := own_block HOWN.out g rfl
    have hcv := (HV.out.tail 4 (by omega) (c2 - 4) (by have := HV.out.cap; omega)).conv
    have HS := Lib.hid (refsum_any (l.drop 4) w2 (by rw [List.length_drop, HL.out]; omega))
    have hx : crc 0 (l.drop 4) < 4294967296 := C.crc_lt _ (by omega)
    have q4 : ¬ c2 = 4 := by
      have := HV.out.cap
      omega
    generalize str (l.drop 4) = sd at *
    generalize crc 0 (l.drop 4) = x at *
    go_wp2_with fail
    refine HS.out.mono ?_
    rintro e w3 ⟨rfl, rfl⟩
    clear hcv HS
    have HM2 := Lib.hid (HM.out x w3 hx)
    clear HM
    obtain ⟨sx, hsx⟩ : ∃ sx, sx = str (G.four x) := ⟨_, rfl⟩
    rw [← hsx] at HM2
    have HSX := Lib.hid hsx
    clear hsx
    go_wp2_with fail
    refine HM2.out.mono ?_
    rintro e w4 ⟨rfl, h4⟩
    replace hb2 := btr hb2 h4
    have HOWN4 := Lib.hid (own_keep_below HOWN.out h4)
    clear h4 HOWN HV
    go_wp2_with (first
      | (refine wpList_mend rfl (.tmp 29) (.tmp 34) rfl w.heap.size g c2 l (G.four x) sx rfl rfl HSX.out (G.four_length x) HL.out HOWN4.out w.heap.size w hb2 hg ?_)
      | go_in)
    intro w3 HV3 hB
    obtain ⟨lc, hlc⟩ : ∃ lc, lc = G.four x ++ l.drop 4 := ⟨_, rfl⟩
    rw [← hlc] at HV3
    clear hlc HOWN4 hb2

    have HT3 := Lib.hid (HT.out.below hB)
    have HO := Lib.hid (open_any n hn _ lc w3 HV3.out HT3.out)
    have HR := Lib.hid (refopen_any n hn lc)
    have HQ : Hid (G.openE n lc = 0 → G.page n (G.openK n lc) (G.openB n lc) = lc) := G.open_page n lc
    have HBL := Lib.hid (G.openB_length n lc)
    have hK := C.u8_lt (G.openK n lc)
    have HP : Hid (∀ (W : World) (v : Value), Below w.heap.size w W → Byts W v (G.openB n lc) → Calls Tryd.prog 8 #[.int .u32 (n : Int), .int .u8 (((G.openK n lc).toNat : Nat) : Int), v] W fun e w' => e = .returned (.tuple #[.slice (some ⟨W.heap.size, 0, none⟩) 512 512, .int .i64 0]) ∧ Blk w' W.heap.size (G.page n (G.openK n lc) (G.openB n lc)) ∧ Below W.heap.size W w') :=
      fun W v hW hv => seal_page n hn _ v _ W hv HBL.out (HT.out.below hW)
    generalize G.page n (G.openK n lc) (G.openB n lc) = P at *
    generalize (G.openK n lc).toNat = k at *
    generalize G.openB n lc = B at *
    generalize G.openE n lc = E at *
    go_wp2_with fail
    refine HO.out.mono ?_
    rintro e w4 ⟨v4, rfl, hy4, h4⟩
    have HY := Lib.hid hy4
    have HV4 := Lib.hid (HV3.out.below h4)
    replace hB := btr hB h4
    have q1 := HV4.out.conv
    clear hy4 h4 HV3 HT3 HO
    generalize hsl : str lc = sl at *
    generalize hsb : str B = sb at *
    have HSL := Lib.hid hsl
    have HSB := Lib.hid hsb
    clear hsl hsb
    go_wp2_with fail
    refine (HR.out _).mono ?_
    rintro e w5 ⟨rfl, h5⟩
    have HY5 := Lib.hid (HY.out.below h5)
    have HV5 := Lib.hid (HV4.out.below h5)
    replace hB := btr hB h5
    have q2 := HY5.out.conv
    rw [HSB.out] at q2
    clear h5 HY HV4 q1 HR
    go_wp2_with fail
    refine (HP.out _ _ hB HY5.out).mono ?_
    rintro e w6 ⟨rfl, hb6, h6⟩
    have HB6 := Lib.hid hb6
    have HV6 := Lib.hid (HV5.out.below h6)
    replace hB := btr hB h6
    clear hb6 h6 HY5 HV5 q2 HP
    generalize w5.heap.size = g6 at *
    go_wp2_with fail
    refine (HF.out _ hB).mono ?_
    rintro e w7 ⟨rfl, h7⟩
    replace hB := btr hB h7
    have q3 := (HB6.out.below h7).byts.conv
    have q4 := (HV6.out.below h7).conv
    clear h7 HB6 HV6
    by_cases hE : E = 0
    · rw [HQ.out hE] at q3
      rw [HSL.out] at q3 q4
      subst hE
      clear HQ
      go_wp2
      go_ret
      exact ⟨rfl, hB⟩
    · have hE2 : ((E : Int) != 0) = true := by rw [bne_iff_ne]; omega
      clear q3 q4 HQ
      go_wp2
      go_ret
      exact ⟨rfl, hB⟩
  · have HV3 := HV
    have hB := hb2
    clear HV HOWN hb2 HM
    generalize w2 = w3 at *
    obtain ⟨lc, hlc⟩ : ∃ lc, lc = l := ⟨_, rfl⟩
    rw [← hlc] at HV3
    clear hlc

    have HT3 := Lib.hid (HT.out.below hB)
    have HO := Lib.hid (open_any n hn _ lc w3 HV3.out HT3.out)
    have HR := Lib.hid (refopen_any n hn lc)
    have HQ : Hid (G.openE n lc = 0 → G.page n (G.openK n lc) (G.openB n lc) = lc) := G.open_page n lc
    have HBL := Lib.hid (G.openB_length n lc)
    have hK := C.u8_lt (G.openK n lc)
    have HP : Hid (∀ (W : World) (v : Value), Below w.heap.size w W → Byts W v (G.openB n lc) → Calls Tryd.prog 8 #[.int .u32 (n : Int), .int .u8 (((G.openK n lc).toNat : Nat) : Int), v] W fun e w' => e = .returned (.tuple #[.slice (some ⟨W.heap.size, 0, none⟩) 512 512, .int .i64 0]) ∧ Blk w' W.heap.size (G.page n (G.openK n lc) (G.openB n lc)) ∧ Below W.heap.size W w') :=
      fun W v hW hv => seal_page n hn _ v _ W hv HBL.out (HT.out.below hW)
    generalize G.page n (G.openK n lc) (G.openB n lc) = P at *
    generalize (G.openK n lc).toNat = k at *
    generalize G.openB n lc = B at *
    generalize G.openE n lc = E at *
    go_wp2_with fail
    refine HO.out.mono ?_
    rintro e w4 ⟨v4, rfl, hy4, h4⟩
    have HY := Lib.hid hy4
    have HV4 := Lib.hid (HV3.out.below h4)
    replace hB := btr hB h4
    have q1 := HV4.out.conv
    clear hy4 h4 HV3 HT3 HO
    generalize hsl : str lc = sl at *
    generalize hsb : str B = sb at *
    have HSL := Lib.hid hsl
    have HSB := Lib.hid hsb
    clear hsl hsb
    go_wp2_with fail
    refine (HR.out _).mono ?_
    rintro e w5 ⟨rfl, h5⟩
    have HY5 := Lib.hid (HY.out.below h5)
    have HV5 := Lib.hid (HV4.out.below h5)
    replace hB := btr hB h5
    have q2 := HY5.out.conv
    rw [HSB.out] at q2
    clear h5 HY HV4 q1 HR
    go_wp2_with fail
    refine (HP.out _ _ hB HY5.out).mono ?_
    rintro e w6 ⟨rfl, hb6, h6⟩
    have HB6 := Lib.hid hb6
    have HV6 := Lib.hid (HV5.out.below h6)
    replace hB := btr hB h6
    clear hb6 h6 HY5 HV5 q2 HP
    generalize w5.heap.size = g6 at *
    go_wp2_with fail
    refine (HF.out _ hB).mono ?_
    rintro e w7 ⟨rfl, h7⟩
    replace hB := btr hB h7
    have q3 := (HB6.out.below h7).byts.conv
    have q4 := (HV6.out.below h7).conv
    clear h7 HB6 HV6
    by_cases hE : E = 0
    · rw [HQ.out hE] at q3
      rw [HSL.out] at q3 q4
      subst hE
      clear HQ
      go_wp2
      go_ret
      exact ⟨rfl, hB⟩
    · have hE2 : ((E : Int) != 0) = true := by rw [bne_iff_ne]; omega
      clear q3 q4 HQ
      go_wp2
      go_ret
      exact ⟨rfl, hB⟩
  · have HV3 := HV
    have hB := hb2
    clear HV HOWN hb2 HM
    generalize w2 = w3 at *
    obtain ⟨lc, hlc⟩ : ∃ lc, lc = l := ⟨_, rfl⟩
    rw [← hlc] at HV3
    clear hlc

    have HT3 := Lib.hid (HT.out.below hB)
    have HO := Lib.hid (open_any n hn _ lc w3 HV3.out HT3.out)
    have HR := Lib.hid (refopen_any n hn lc)
    have HQ : Hid (G.openE n lc = 0 → G.page n (G.openK n lc) (G.openB n lc) = lc) := G.open_page n lc
    have HBL := Lib.hid (G.openB_length n lc)
    have hK := C.u8_lt (G.openK n lc)
    have HP : Hid (∀ (W : World) (v : Value), Below w.heap.size w W → Byts W v (G.openB n lc) → Calls Tryd.prog 8 #[.int .u32 (n : Int), .int .u8 (((G.openK n lc).toNat : Nat) : Int), v] W fun e w' => e = .returned (.tuple #[.slice (some ⟨W.heap.size, 0, none⟩) 512 512, .int .i64 0]) ∧ Blk w' W.heap.size (G.page n (G.openK n lc) (G.openB n lc)) ∧ Below W.heap.size W w') :=
      fun W v hW hv => seal_page n hn _ v _ W hv HBL.out (HT.out.below hW)
    generalize G.page n (G.openK n lc) (G.openB n lc) = P at *
    generalize (G.openK n lc).toNat = k at *
    generalize G.openB n lc = B at *
    generalize G.openE n lc = E at *
    go_wp2_with fail
    refine HO.out.mono ?_
    rintro e w4 ⟨v4, rfl, hy4, h4⟩
    have HY := Lib.hid hy4
    have HV4 := Lib.hid (HV3.out.below h4)
    replace hB := btr hB h4
    have q1 := HV4.out.conv
    clear hy4 h4 HV3 HT3 HO
    generalize hsl : str lc = sl at *
    generalize hsb : str B = sb at *
    have HSL := Lib.hid hsl
    have HSB := Lib.hid hsb
    clear hsl hsb
    go_wp2_with fail
    refine (HR.out _).mono ?_
    rintro e w5 ⟨rfl, h5⟩
    have HY5 := Lib.hid (HY.out.below h5)
    have HV5 := Lib.hid (HV4.out.below h5)
    replace hB := btr hB h5
    have q2 := HY5.out.conv
    rw [HSB.out] at q2
    clear h5 HY HV4 q1 HR
    go_wp2_with fail
    refine (HP.out _ _ hB HY5.out).mono ?_
    rintro e w6 ⟨rfl, hb6, h6⟩
    have HB6 := Lib.hid hb6
    have HV6 := Lib.hid (HV5.out.below h6)
    replace hB := btr hB h6
    clear hb6 h6 HY5 HV5 q2 HP
    generalize w5.heap.size = g6 at *
    go_wp2_with fail
    refine (HF.out _ hB).mono ?_
    rintro e w7 ⟨rfl, h7⟩
    replace hB := btr hB h7
    have q3 := (HB6.out.below h7).byts.conv
    have q4 := (HV6.out.below h7).conv
    clear h7 HB6 HV6
    by_cases hE : E = 0
    · rw [HQ.out hE] at q3
      rw [HSL.out] at q3 q4
      subst hE
      clear HQ
      go_wp2
      go_ret
      exact ⟨rfl, hB⟩
    · have hE2 : ((E : Int) != 0) = true := by rw [bne_iff_ne]; omega
      clear q3 q4 HQ
      go_wp2
      go_ret
      exact ⟨rfl, hB⟩
theorem opens_big (n : Int) (o : Bool) (A : Option Addr) (c len : Nat) (h : 600 < len) (w : World) (hT : Tab w) :
    Calls Tryd.prog 4 #[.int .u32 n, .slice A len c, .bool o] w fun e w' => e = .returned (.bool true) ∧ Below w.heap.size w w' := by
  have HF := Lib.hid (fixed_any w hT)
  clear hT
  go_enter Tryd.func4, Tryd.ntmps4
  go_wp2_with fail
  refine HF.out.mono ?_
  rintro e w4 ⟨rfl, h4⟩
  go_wp2
  go_ret
  exact ⟨rfl, h4⟩
theorem openslaw_any (n : Nat) (hn : n < 4294967296) (v : Value) (l : List UInt8) (o : Bool) (w : World) (b : Byts w v l) (hT : Tab w) :
    Calls Tryd.prog 4 #[.int .u32 (n : Int), v, .bool o] w fun e w' => e = .returned (.bool true) ∧ Below w.heap.size w w' := by
  obtain ⟨A, c, rfl⟩ := b.form
  by_cases h : l.length ≤ 600
  · exact opens_core n l.length A c l o w hn h rfl b hT
  · exact opens_big _ o A c _ (by omega) w hT
end Go.Proofs.YtnhihkngelckoaaDoor
