/- The walk of the law SuperReads. -/
import Derived.Test.YtbffpgndjbpifaaDoorUl
import Derived.Test.YtbffpgndjbpifaaDoorApp
import Derived.Lib.LazyBuf
namespace Go.Proofs.YtbffpgndjbpifaaDoor
open Go.RowKit
open C (crc)

theorem sizeOf_byte (w : World) : (Go.sizeOf 5).run Tryd.prog w = .ok 1 w := by
  obtain ⟨i0, hi0, _, hz1, _⟩ := info_parts Tryd.info5
  simp [sizeOf, typeInfo, hi0, hz1]
theorem Byts.cap {w : World} {A : Option Addr} {k c : Nat} {l : List UInt8} (h : Byts w (.slice A k c) l) : k ≤ c := by
  obtain ⟨A', c2, e, hc, _⟩ := h
  simp only [Value.slice.injEq] at e
  omega
theorem own_keep_below {w w1 : World} {base : Nat} {v : Value} {n : Nat} {xs : List Value} (h : w.ownsRow base 5 1 v n xs) (hb : Below w.heap.size w w1) : w1.ownsRow base 5 1 v n xs := by
  refine ⟨h.1, ?_⟩
  rcases h.2 with h2 | ⟨g, cap, cur, e, hg, hh, h3⟩
  · exact .inl h2
  · exact .inr ⟨g, cap, cur, e, hg, (hb.block g (Array.getElem?_eq_some_iff.1 hh).1).trans hh, h3⟩
theorem own_block {w : World} {base n : Nat} {v : Value} {xs : List Value} (h : w.ownsRow base 5 1 v n xs) (g : Nat) (hv : v.ownBlock = some g) : base ≤ g := by
  rcases h.2 with ⟨rfl, _⟩ | ⟨g', cap, cur, rfl, hg, _⟩
  · cases hv
  · have e : g' = g := by simpa [Value.ownBlock] using hv
    omega
/-- Four bytes of a text are laid over a row's first ones. -/
theorem Byts.mend {w : World} {base g cap : Nat} {l f : List UInt8} (h : w.ownsRow base 5 1 (.slice (some ⟨g, 0, Option.none⟩) 512 cap) 512 (bvs l)) (hl : l.length = 512) (hf : f.length = 4) :
    Byts (w.setCells g 0 (bvs f)) (.slice (some ⟨g, 0, Option.none⟩) 512 cap) (f ++ l.drop 4) := by
  have hn : (f ++ l.drop 4).length = 512 := by simp; omega
  have hc : 512 ≤ cap := by
    rcases h.2 with ⟨e, _⟩ | ⟨g', cap', cur, e, _, _, hc, _⟩
    · cases e
    · cases e; exact hc
  have there : ∀ j, j < 512 → w.cell? ⟨g, 0 + j, Option.none⟩ = some (.int .u8 (((l.getD j 0).toNat : Nat) : Int)) := by
    intro j hj
    rw [Nat.zero_add, h.cellAt j hj, bvs_get l j (by omega)]
    simp [List.getD, show j < l.length by omega]
  refine ⟨_, cap, by rw [hn], by rw [hn]; exact hc, fun _ => ⟨g, 0, rfl, fun j hj => ?_⟩⟩
  rw [hn] at hj
  by_cases h4 : j < 4
  · have q := World.cell?_setCells_in g (bvs f) 0 w (fun i hi => by
      rw [bvs_length, hf] at hi
      rw [there i (by omega)]
      rfl) j (by rw [bvs_length]; omega)
    rw [q]
    simp [bvs, show j < f.length by omega]
  · rw [World.cell?_setCells_out g (bvs f) 0 w ⟨g, 0 + j, Option.none⟩ (fun _ _ => .inr (by rw [bvs_length, hf]; show 0 + 4 ≤ 0 + j; omega)), there j hj]
    have e : (f ++ l.drop 4)[j] = l[j] := by
      rw [List.getElem_append_right (by omega)]
      simp [hf]
      congr 1
      omega
    rw [e]
    simp [List.getD, show j < l.length by omega]
theorem wpList_mend {w : World} {ops : Array Oper} {rest : List Oper} {o : Oper} {a : Act} {Q : Exit → Act → World → Prop} (hgd : o.guard = none) (d s : Operand)
    (ho : o.op = .call { callee := .builtin .copy, args := #[d, s], argTypes := #[29, 9] }) (base g cap : Nat) (l f : List UInt8) (t : ByteArray)
    (hd : a.eval d = .slice (some ⟨g, 0, none⟩) 512 cap) (hs : a.eval s = .string t) (ht : t = str f) (hf : f.length = 4) (hl : l.length = 512)
    (hown : w.ownsRow base 5 1 (.slice (some ⟨g, 0, none⟩) 512 cap) 512 (bvs l)) (B : Nat) (w0 : World) (hB : Below B w0 w) (hBg : B ≤ g)
    (h : ∀ w', Hid (Byts w' (.slice (some ⟨g, 0, none⟩) 512 cap) (f ++ l.drop 4)) → Below B w0 w' → wpList Tryd.prog ops Q rest (a.put o.dst (goInt 4)) w') : wpList Tryd.prog ops Q (o :: rest) a w := by
  subst ht
  have hr := Go.run_copy_string (P := Tryd.prog) w 29 9 o.type 5 g 0 512 cap (str f) Tryd.underlying29 sizeOf_byte (by rw [str_size]; omega)
    (fun j hj => by
      rw [str_size] at hj
      rw [Nat.zero_add, hown.cellAt j (by omega), bvs_get l j (by omega)]
      rfl) (fun j _ => hown.frozenAt (0 + j))
  rw [str_size, hf, str_list] at hr
  have hr2 : (Builtin.copy_ #[29, 9] o.type #[.slice (some ⟨g, 0, none⟩) 512 cap, .string (str f)]).run Tryd.prog w = .ok (goInt 4) (w.setCells g 0 (bvs f)) := hr
  refine wpList_plain hgd fun K hK => ?_
  unfold Oper.wp execOp
  simp only [ho, resolve, invoke, builtin, Sem.run_bind, Sem.run_pure, Result.andThen_ok, List.map_toArray, List.map_cons, List.map_nil, hd, hs, hr2]
  exact hK _ _ (h _ (Byts.mend hown hl hf) (Go.below_setCells hBg _ _ _ hB))

set_option maxHeartbeats 3200000 in
theorem reads_core (p : Int) (len : Nat) (A : Option Addr) (c : Nat) (l : List UInt8) (o : Bool) (w : World) (hl : len ≤ 600) (HL : Hid (l.length = len)) (QA : Hid (Byts w (.slice A len c) l)) (HT : Hid (Tab w)) :
    Calls Tryd.prog 4 #[.int .i64 p, .slice A len c, .bool o] w fun e w' => e = .returned (.bool true) ∧ Below w.heap.size w w' := by
  have hd : decide ((600 : Int) < (len : Int)) = false := by simp; omega
  have HM : Hid (∀ (x : Nat) (W : World), x < 4294967296 → Calls Tryd.prog 11 #[.int .u32 (x : Int)] W fun e w' => e = .returned (.string (str (G.four x))) ∧ Below W.heap.size W w') := fun x W hx => reffour_any x hx W
  go_enter Tryd.func4, Tryd.ntmps4
  go_wp2_with (first
    | (at_builtin; refine wpList_append_byts rfl _ _ rfl w.heap.size _ _ 0 [] l rfl rfl ?c0 (QA.out.below (alb _)) ?c1 ?c2 ?_)
    | go_in)
  case c0 =>
    have := World.ownsRow_lit (base := w.heap.size) (e := 5) (size := 1) w #[] 0 (by simp) (by unfold maxLen; omega) rfl
    show World.ownsRow _ w.heap.size 5 1 (.slice (some ⟨w.heap.size, 0, none⟩) 0 0) 0 []
    simpa using this
  case c1 => rw [HL.out]; omega
  case c2 => simp
  intro v2 w2 hown hgrow
  have hb2 : Below w.heap.size w w2 := Below.grown (Below.alloc (Below.refl _ _) (by simp) _) hgrow (by simp) (by intro k hk; simp [Value.ownBlock] at hk; omega)
  have HV : Hid (Byts w2 v2 l) := Byts.own (base := w.heap.size) (by simpa using hown)
  have HOWN : Hid (w2.ownsRow w.heap.size 5 1 v2 l.length (bvs l)) := Lib.hid (by simpa using hown)
  clear hown hgrow
  obtain ⟨A2, c2, rfl⟩ := HV.out.form
  rw [HL.out] at HV HOWN
  rw [HL.out]
  have hcase : (o = true ∧ len = 512) ∨ o = false ∨ (o = true ∧ ((len : Int) == 512) = false) := by
    cases o with
    | false => exact .inr (.inl rfl)
    | true =>
      by_cases h : len = 512
      · exact .inl ⟨rfl, h⟩
      · exact .inr (.inr ⟨rfl, by simp; omega⟩)
  rcases hcase with ⟨rfl, rfl⟩ | rfl | ⟨rfl, hne⟩
  · obtain ⟨g, cap, e⟩ := Go.Joins.ownsRow_form HOWN.out (by omega)
    cases e
    have hg := own_block HOWN.out g rfl
    have hcv := (HV.out.tail 4 (by omega) (c2 - 4) (by have := HV.out.cap; omega)).conv
    have HS := Lib.hid (refsum_any (l.drop 4) w2 (by rw [List.length_drop, HL.out]; omega))
    have hx : crc 0 (l.drop 4) < 4294967296 := C.crc_lt _ (by omega)
    have q4 : ¬ c2 = 4 := by
      have := HV.out.cap
      omega
    generalize str (l.drop 4) = sd at *
    generalize crc 0 (l.drop 4) = x at *
    go_wp2_with fail
    refine HS.out.mono ?_
    rintro e w3 ⟨rfl, rfl⟩
    clear hcv HS
    have HM2 := Lib.hid (HM.out x w3 hx)
    clear HM
    obtain ⟨sx, hsx⟩ : ∃ sx, sx = str (G.four x) := ⟨_, rfl⟩
    rw [← hsx] at HM2
    have HSX := Lib.hid hsx
    clear hsx
    go_wp2_with fail
    refine HM2.out.mono ?_
    rintro e w4 ⟨rfl, h4⟩
    replace hb2 := btr hb2 h4
    have HOWN4 := Lib.hid (own_keep_below HOWN.out h4)
    clear h4 HOWN HV
    go_wp2_with (first
      | (refine wpList_mend rfl (.tmp 25) (.tmp 30) rfl w.heap.size g c2 l (G.four x) sx rfl rfl HSX.out (G.four_length x) HL.out HOWN4.out w.heap.size w hb2 hg ?_)
      | go_in)
    intro w3 HV3 hB
    obtain ⟨lc, hlc⟩ : ∃ lc, lc = G.four x ++ l.drop 4 := ⟨_, rfl⟩
    rw [← hlc] at HV3
    clear hlc HOWN4 hb2

    have HT3 := Lib.hid (HT.out.below hB)
    have HO := Lib.hid (read_any p _ lc w3 HV3.out HT3.out)
    have HR := Lib.hid (refread_any p lc)
    have HRL := Lib.hid (U.readR_length p lc)
    generalize U.readQ p lc = Q at *
    generalize U.readR p lc = R at *
    generalize U.readE p lc = E at *
    go_wp2_with fail
    refine HO.out.mono ?_
    rintro e w4 ⟨rfl, hx⟩
    have HV4 := Lib.hid (HV3.out.below hx)
    have HB := Lib.hid (btr hB hx)
    have HZ := Lib.hid hx.size
    clear hx hB HT3 HO
    have HT9 : Hid ((w4.alloc (.cells #[.int .u64 0, .int .u32 0, .int .u32 0, .int .u32 0, .int .u32 0, .int .u32 0, .int .u32 0, .int .u32 0, .int .u32 0, .int .u32 0, .int .u32 0, .int .u32 0, .int .u32 0, .int .u32 0, .int .u32 0, .int .u32 0, .int .u32 0, .int .u32 0, .int .u32 0, .int .u32 0, .int .u32 0, .int .u32 0, .int .u32 0, .int .u32 0, .int .u32 0, .int .u32 0, .int .u32 0, .int .u32 0] 28)).there w4.heap.size 0 28) := there_new w4 _ _ 28 rfl
    go_wp2_with (first
      | (refine wpList_store_sup rfl (.tmp 8) (.tmp 36) rfl w4.heap.size Q R rfl rfl HRL.out HT9.out ?_)
      | go_in)
    intro w5 HS hk
    have hs := HB.out.size

    have HV5 := Lib.hid (Byts.away HV3.out (HV4.out.below (alb _)) hk HZ.out)
    replace HB := Lib.hid (low_of (bal HB.out _) (by simp; omega) hk hs)
    clear hk HT9 hs HV4 HV3 HZ
    generalize w4.heap.size = b8 at *
    have q1 := HV5.out.conv
    generalize str lc = sl at *
    go_wp2_with fail
    refine (HR.out _).mono ?_
    rintro e w6 ⟨rfl, hx⟩
    replace HS := Lib.hid (HS.out.below hx)
    replace HB := Lib.hid (btr HB.out hx)
    clear hx HR q1 HV5
    have HT9 : Hid ((w6.alloc (.cells #[.int .u64 0, .int .u32 0, .int .u32 0, .int .u32 0, .int .u32 0, .int .u32 0, .int .u32 0, .int .u32 0, .int .u32 0, .int .u32 0, .int .u32 0, .int .u32 0, .int .u32 0, .int .u32 0, .int .u32 0, .int .u32 0, .int .u32 0, .int .u32 0, .int .u32 0, .int .u32 0, .int .u32 0, .int .u32 0, .int .u32 0, .int .u32 0, .int .u32 0, .int .u32 0, .int .u32 0, .int .u32 0] 28)).there w6.heap.size 0 28) := there_new w6 _ _ 28 rfl
    go_wp2_with (first
      | (refine wpList_store_sup rfl (.tmp 10) (.tmp 43) rfl w6.heap.size Q R rfl rfl HRL.out HT9.out ?_)
      | go_in)
    intro w7 HX hk
    have hs := HB.out.size

    replace HS := Lib.hid (Sup.keep (HS.out.below (alb _)) hk (by have := HS.out.lt; omega))
    replace HB := Lib.hid (low_of (bal HB.out _) (by simp; omega) hk hs)
    clear hk HT9 hs
    generalize w6.heap.size = b10 at *
    go_wp2_with fail
    refine (fixed_any w7 (HT.out.below HB.out)).mono ?_
    rintro e w8 ⟨rfl, hx⟩
    replace HS := Lib.hid (HS.out.below hx)
    replace HX := Lib.hid (HX.out.below hx)
    replace HB := Lib.hid (btr HB.out hx)
    clear hx
    go_wp2_with (first
      | (refine wpList_load_supG rfl (.tmp 8) rfl b8 Q R rfl HS.out ?_)
      | (refine wpList_load_supG rfl (.tmp 10) rfl b10 Q R rfl HX.out ?_)
      | (refine wpList_eql_sup rfl (.tmp 47) (.tmp 48) rfl Q R rfl rfl HRL.out ?_)
      | go_in)
    go_ret
    exact ⟨rfl, HB.out⟩
  · have HV3 := HV
    have hB := hb2
    clear HV HOWN hb2 HM
    generalize w2 = w3 at *
    obtain ⟨lc, hlc⟩ : ∃ lc, lc = l := ⟨_, rfl⟩
    rw [← hlc] at HV3
    clear hlc

    have HT3 := Lib.hid (HT.out.below hB)
    have HO := Lib.hid (read_any p _ lc w3 HV3.out HT3.out)
    have HR := Lib.hid (refread_any p lc)
    have HRL := Lib.hid (U.readR_length p lc)
    generalize U.readQ p lc = Q at *
    generalize U.readR p lc = R at *
    generalize U.readE p lc = E at *
    go_wp2_with fail
    refine HO.out.mono ?_
    rintro e w4 ⟨rfl, hx⟩
    have HV4 := Lib.hid (HV3.out.below hx)
    have HB := Lib.hid (btr hB hx)
    have HZ := Lib.hid hx.size
    clear hx hB HT3 HO
    have HT9 : Hid ((w4.alloc (.cells #[.int .u64 0, .int .u32 0, .int .u32 0, .int .u32 0, .int .u32 0, .int .u32 0, .int .u32 0, .int .u32 0, .int .u32 0, .int .u32 0, .int .u32 0, .int .u32 0, .int .u32 0, .int .u32 0, .int .u32 0, .int .u32 0, .int .u32 0, .int .u32 0, .int .u32 0, .int .u32 0, .int .u32 0, .int .u32 0, .int .u32 0, .int .u32 0, .int .u32 0, .int .u32 0, .int .u32 0, .int .u32 0] 28)).there w4.heap.size 0 28) := there_new w4 _ _ 28 rfl
    go_wp2_with (first
      | (refine wpList_store_sup rfl (.tmp 8) (.tmp 36) rfl w4.heap.size Q R rfl rfl HRL.out HT9.out ?_)
      | go_in)
    intro w5 HS hk
    have hs := HB.out.size

    have HV5 := Lib.hid (Byts.away HV3.out (HV4.out.below (alb _)) hk HZ.out)
    replace HB := Lib.hid (low_of (bal HB.out _) (by simp; omega) hk hs)
    clear hk HT9 hs HV4 HV3 HZ
    generalize w4.heap.size = b8 at *
    have q1 := HV5.out.conv
    generalize str lc = sl at *
    go_wp2_with fail
    refine (HR.out _).mono ?_
    rintro e w6 ⟨rfl, hx⟩
    replace HS := Lib.hid (HS.out.below hx)
    replace HB := Lib.hid (btr HB.out hx)
    clear hx HR q1 HV5
    have HT9 : Hid ((w6.alloc (.cells #[.int .u64 0, .int .u32 0, .int .u32 0, .int .u32 0, .int .u32 0, .int .u32 0, .int .u32 0, .int .u32 0, .int .u32 0, .int .u32 0, .int .u32 0, .int .u32 0, .int .u32 0, .int .u32 0, .int .u32 0, .int .u32 0, .int .u32 0, .int .u32 0, .int .u32 0, .int .u32 0, .int .u32 0, .int .u32 0, .int .u32 0, .int .u32 0, .int .u32 0, .int .u32 0, .int .u32 0, .int .u32 0] 28)).there w6.heap.size 0 28) := there_new w6 _ _ 28 rfl
    go_wp2_with (first
      | (refine wpList_store_sup rfl (.tmp 10) (.tmp 43) rfl w6.heap.size Q R rfl rfl HRL.out HT9.out ?_)
      | go_in)
    intro w7 HX hk
    have hs := HB.out.size

    replace HS := Lib.hid (Sup.keep (HS.out.below (alb _)) hk (by have := HS.out.lt; omega))
    replace HB := Lib.hid (low_of (bal HB.out _) (by simp; omega) hk hs)
    clear hk HT9 hs
    generalize w6.heap.size = b10 at *
    go_wp2_with fail
    refine (fixed_any w7 (HT.out.below HB.out)).mono ?_
    rintro e w8 ⟨rfl, hx⟩
    replace HS := Lib.hid (HS.out.below hx)
    replace HX := Lib.hid (HX.out.below hx)
    replace HB := Lib.hid (btr HB.out hx)
    clear hx
    go_wp2_with (first
      | (refine wpList_load_supG rfl (.tmp 8) rfl b8 Q R rfl HS.out ?_)
      | (refine wpList_load_supG rfl (.tmp 10) rfl b10 Q R rfl HX.out ?_)
      | (refine wpList_eql_sup rfl (.tmp 47) (.tmp 48) rfl Q R rfl rfl HRL.out ?_)
      | go_in)
    go_ret
    exact ⟨rfl, HB.out⟩
  · have HV3 := HV
    have hB := hb2
    clear HV HOWN hb2 HM
    generalize w2 = w3 at *
    obtain ⟨lc, hlc⟩ : ∃ lc, lc = l := ⟨_, rfl⟩
    rw [← hlc] at HV3
    clear hlc

    have HT3 := Lib.hid (HT.out.below hB)
    have HO := Lib.hid (read_any p _ lc w3 HV3.out HT3.out)
    have HR := Lib.hid (refread_any p lc)
    have HRL := Lib.hid (U.readR_length p lc)
    generalize U.readQ p lc = Q at *
    generalize U.readR p lc = R at *
    generalize U.readE p lc = E at *
    go_wp2_with fail
    refine HO.out.mono ?_
    rintro e w4 ⟨rfl, hx⟩
    have HV4 := Lib.hid (HV3.out.below hx)
    have HB := Lib.hid (btr hB hx)
    have HZ := Lib.hid hx.size
    clear hx hB HT3 HO
    have HT9 : Hid ((w4.alloc (.cells #[.int .u64 0, .int .u32 0, .int .u32 0, .int .u32 0, .int .u32 0, .int .u32 0, .int .u32 0, .int .u32 0, .int .u32 0, .int .u32 0, .int .u32 0, .int .u32 0, .int .u32 0, .int .u32 0, .int .u32 0, .int .u32 0, .int .u32 0, .int .u32 0, .int .u32 0, .int .u32 0, .int .u32 0, .int .u32 0, .int .u32 0, .int .u32 0, .int .u32 0, .int .u32 0, .int .u32 0, .int .u32 0] 28)).there w4.heap.size 0 28) := there_new w4 _ _ 28 rfl
    go_wp2_with (first
      | (refine wpList_store_sup rfl (.tmp 8) (.tmp 36) rfl w4.heap.size Q R rfl rfl HRL.out HT9.out ?_)
      | go_in)
    intro w5 HS hk
    have hs := HB.out.size

    have HV5 := Lib.hid (Byts.away HV3.out (HV4.out.below (alb _)) hk HZ.out)
    replace HB := Lib.hid (low_of (bal HB.out _) (by simp; omega) hk hs)
    clear hk HT9 hs HV4 HV3 HZ
    generalize w4.heap.size = b8 at *
    have q1 := HV5.out.conv
    generalize str lc = sl at *
    go_wp2_with fail
    refine (HR.out _).mono ?_
    rintro e w6 ⟨rfl, hx⟩
    replace HS := Lib.hid (HS.out.below hx)
    replace HB := Lib.hid (btr HB.out hx)
    clear hx HR q1 HV5
    have HT9 : Hid ((w6.alloc (.cells #[.int .u64 0, .int .u32 0, .int .u32 0, .int .u32 0, .int .u32 0, .int .u32 0, .int .u32 0, .int .u32 0, .int .u32 0, .int .u32 0, .int .u32 0, .int .u32 0, .int .u32 0, .int .u32 0, .int .u32 0, .int .u32 0, .int .u32 0, .int .u32 0, .int .u32 0, .int .u32 0, .int .u32 0, .int .u32 0, .int .u32 0, .int .u32 0, .int .u32 0, .int .u32 0, .int .u32 0, .int .u32 0] 28)).there w6.heap.size 0 28) := there_new w6 _ _ 28 rfl
    go_wp2_with (first
      | (refine wpList_store_sup rfl (.tmp 10) (.tmp 43) rfl w6.heap.size Q R rfl rfl HRL.out HT9.out ?_)
      | go_in)
    intro w7 HX hk
    have hs := HB.out.size

    replace HS := Lib.hid (Sup.keep (HS.out.below (alb _)) hk (by have := HS.out.lt; omega))
    replace HB := Lib.hid (low_of (bal HB.out _) (by simp; omega) hk hs)
    clear hk HT9 hs
    generalize w6.heap.size = b10 at *
    go_wp2_with fail
    refine (fixed_any w7 (HT.out.below HB.out)).mono ?_
    rintro e w8 ⟨rfl, hx⟩
    replace HS := Lib.hid (HS.out.below hx)
    replace HX := Lib.hid (HX.out.below hx)
    replace HB := Lib.hid (btr HB.out hx)
    clear hx
    go_wp2_with (first
      | (refine wpList_load_supG rfl (.tmp 8) rfl b8 Q R rfl HS.out ?_)
      | (refine wpList_load_supG rfl (.tmp 10) rfl b10 Q R rfl HX.out ?_)
      | (refine wpList_eql_sup rfl (.tmp 47) (.tmp 48) rfl Q R rfl rfl HRL.out ?_)
      | go_in)
    go_ret
    exact ⟨rfl, HB.out⟩
theorem reads_big (p : Int) (o : Bool) (A : Option Addr) (c len : Nat) (h : 600 < len) (w : World) (hT : Tab w) :
    Calls Tryd.prog 4 #[.int .i64 p, .slice A len c, .bool o] w fun e w' => e = .returned (.bool true) ∧ Below w.heap.size w w' := by
  have HF := Lib.hid (fixed_any w hT)
  clear hT
  go_enter Tryd.func4, Tryd.ntmps4
  go_wp2_with fail
  refine HF.out.mono ?_
  rintro e w4 ⟨rfl, h4⟩
  go_wp2
  go_ret
  exact ⟨rfl, h4⟩
theorem readslaw_any (p : Int) (v : Value) (l : List UInt8) (o : Bool) (w : World) (b : Byts w v l) (hT : Tab w) :
    Calls Tryd.prog 4 #[.int .i64 p, v, .bool o] w fun e w' => e = .returned (.bool true) ∧ Below w.heap.size w w' := by
  obtain ⟨A, c, rfl⟩ := b.form
  by_cases h : l.length ≤ 600
  · exact reads_core p l.length A c l o w h rfl b hT
  · exact reads_big p o A c _ (by omega) w hT
end Go.Proofs.YtbffpgndjbpifaaDoor
