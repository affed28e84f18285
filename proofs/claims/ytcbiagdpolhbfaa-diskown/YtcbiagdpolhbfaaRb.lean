/- The document's own disk in a variable; cashbookref05.New. -/
import Derived.Test.YtcbiagdpolhbfaaRa
namespace Go.Proofs.Ytcbiagdpolhbfaa
open Go.RowKit
open D (St)

theorem keep1 (w : World) (b o : Nat) (v : Value) : Keep (fun k => k = b) w (w.setCell ⟨b, o, none⟩ v) := Keep.setCell (F := fun k => k = b) (p := ⟨b, o, none⟩) (Keep.refl _ _) (.inl rfl) _
theorem keepN (w : World) (b o : Nat) (vs : List Value) : Keep (fun k => k = b) w (w.setCells b o vs) := Keep.setCells (F := fun k => k = b) (Keep.refl _ _) (.inl rfl) _ _
/-- A variable that holds the document's disk. -/
structure Box (w : World) (b : Nat) (sv wv : Value) (z : Int) (dn : Bool) (wr : Int) : Prop where
  c0 : w.cell? ⟨b, 0, none⟩ = some sv
  c1 : w.cell? ⟨b, 1, none⟩ = some wv
  c2 : w.cell? ⟨b, 2, none⟩ = some (.int .i64 z)
  c3 : w.cell? ⟨b, 3, none⟩ = some (.bool dn)
  c4 : w.cell? ⟨b, 4, none⟩ = some (.int .i64 wr)
  fz : ∀ i, w.frozen? ⟨b, i, none⟩ = false
theorem Box.keep {F : Nat → Prop} {w w1 : World} {b : Nat} {sv wv : Value} {z : Int} {dn : Bool} {wr : Int} (h : Box w b sv wv z dn wr) (k : Keep F w w1) (hf : ¬ F b) : Box w1 b sv wv z dn wr :=
  ⟨k.cell h.c0 hf, k.cell h.c1 hf, k.cell h.c2 hf, k.cell h.c3 hf, k.cell h.c4 hf, fun i => (World.frozen?_of_block (w := w) (a := ⟨b, i, none⟩) (k.block b (World.block_lt_of_cell? w _ h.c0) hf)).trans (h.fz i)⟩
theorem Box.below {w w1 : World} {b : Nat} {sv wv : Value} {z : Int} {dn : Bool} {wr : Int} (h : Box w b sv wv z dn wr) (k : Below w.heap.size w w1) : Box w1 b sv wv z dn wr := h.keep (F := fun _ => False) (Keep.of_below k) (fun h => h)
theorem Box.lt {w : World} {b : Nat} {sv wv : Value} {z : Int} {dn : Bool} {wr : Int} (h : Box w b sv wv z dn wr) : b < w.heap.size := World.block_lt_of_cell? w _ h.c0
theorem Box.made (w : World) (sv wv : Value) (z : Int) (dn : Bool) (wr : Int) (t : TypeId) (q : Nat) (hq : q = w.heap.size) : Box (w.alloc (.cells #[sv, wv, .int .i64 z, .bool dn, .int .i64 wr] t)) q sv wv z dn wr := by
  subst hq
  refine ⟨?_, ?_, ?_, ?_, ?_, fun i => by simp⟩ <;> (rw [World.cell?_alloc_at _ _ _ _ rfl]; rfl)
theorem Box.range {w : World} {b : Nat} {sv wv : Value} {z : Int} {dn : Bool} {wr : Int} (h : Box w b sv wv z dn wr) : w.rangeAt b 0 [sv, wv, .int .i64 z, .bool dn, .int .i64 wr] := range5 h.c0 h.c1 h.c2 h.c3 h.c4
theorem Box.there {w : World} {b : Nat} {sv wv : Value} {z : Int} {dn : Bool} {wr : Int} (h : Box w b sv wv z dn wr) : w.there b 0 5 := fun j hj => by
  refine ⟨?_, h.fz _⟩
  rw [Nat.zero_add]
  match j, hj with
  | 0, _ => rw [h.c0]; rfl
  | 1, _ => rw [h.c1]; rfl
  | 2, _ => rw [h.c2]; rfl
  | 3, _ => rw [h.c3]; rfl
  | 4, _ => rw [h.c4]; rfl
theorem Box.set0 {w : World} {b : Nat} {sv wv : Value} {z : Int} {dn : Bool} {wr : Int} (h : Box w b sv wv z dn wr) (v : Value) : Box (w.setCell ⟨b, 0, none⟩ v) b v wv z dn wr :=
  ⟨World.cell?_setCell_same _ _ _ h.c0, by rw [World.cell?_setCell_other _ _ _ _ (by simp)]; exact h.c1, by rw [World.cell?_setCell_other _ _ _ _ (by simp)]; exact h.c2, by rw [World.cell?_setCell_other _ _ _ _ (by simp)]; exact h.c3, by rw [World.cell?_setCell_other _ _ _ _ (by simp)]; exact h.c4, fun i => by rw [World.frozen?_setCell]; exact h.fz i⟩
theorem Box.set1 {w : World} {b : Nat} {sv wv : Value} {z : Int} {dn : Bool} {wr : Int} (h : Box w b sv wv z dn wr) (v : Value) : Box (w.setCell ⟨b, 1, none⟩ v) b sv v z dn wr :=
  ⟨by rw [World.cell?_setCell_other _ _ _ _ (by simp)]; exact h.c0, World.cell?_setCell_same _ _ _ h.c1, by rw [World.cell?_setCell_other _ _ _ _ (by simp)]; exact h.c2, by rw [World.cell?_setCell_other _ _ _ _ (by simp)]; exact h.c3, by rw [World.cell?_setCell_other _ _ _ _ (by simp)]; exact h.c4, fun i => by rw [World.frozen?_setCell]; exact h.fz i⟩
theorem Box.set2 {w : World} {b : Nat} {sv wv : Value} {z : Int} {dn : Bool} {wr : Int} (h : Box w b sv wv z dn wr) (v : Int) : Box (w.setCell ⟨b, 2, none⟩ (.int .i64 v)) b sv wv v dn wr :=
  ⟨by rw [World.cell?_setCell_other _ _ _ _ (by simp)]; exact h.c0, by rw [World.cell?_setCell_other _ _ _ _ (by simp)]; exact h.c1, World.cell?_setCell_same _ _ _ h.c2, by rw [World.cell?_setCell_other _ _ _ _ (by simp)]; exact h.c3, by rw [World.cell?_setCell_other _ _ _ _ (by simp)]; exact h.c4, fun i => by rw [World.frozen?_setCell]; exact h.fz i⟩
theorem Box.set3 {w : World} {b : Nat} {sv wv : Value} {z : Int} {dn : Bool} {wr : Int} (h : Box w b sv wv z dn wr) (v : Bool) : Box (w.setCell ⟨b, 3, none⟩ (.bool v)) b sv wv z v wr :=
  ⟨by rw [World.cell?_setCell_other _ _ _ _ (by simp)]; exact h.c0, by rw [World.cell?_setCell_other _ _ _ _ (by simp)]; exact h.c1, by rw [World.cell?_setCell_other _ _ _ _ (by simp)]; exact h.c2, World.cell?_setCell_same _ _ _ h.c3, by rw [World.cell?_setCell_other _ _ _ _ (by simp)]; exact h.c4, fun i => by rw [World.frozen?_setCell]; exact h.fz i⟩
theorem Box.set4 {w : World} {b : Nat} {sv wv : Value} {z : Int} {dn : Bool} {wr : Int} (h : Box w b sv wv z dn wr) (v : Int) : Box (w.setCell ⟨b, 4, none⟩ (.int .i64 v)) b sv wv z dn v :=
  ⟨by rw [World.cell?_setCell_other _ _ _ _ (by simp)]; exact h.c0, by rw [World.cell?_setCell_other _ _ _ _ (by simp)]; exact h.c1, by rw [World.cell?_setCell_other _ _ _ _ (by simp)]; exact h.c2, by rw [World.cell?_setCell_other _ _ _ _ (by simp)]; exact h.c3, World.cell?_setCell_same _ _ _ h.c4, fun i => by rw [World.frozen?_setCell]; exact h.fz i⟩
theorem Box.setAll {w : World} {b : Nat} {sv wv : Value} {z : Int} {dn : Bool} {wr : Int} (h : Box w b sv wv z dn wr) (sv' wv' : Value) (z' : Int) (dn' : Bool) (wr' : Int) : Box (w.setCells b 0 [sv', wv', .int .i64 z', .bool dn', .int .i64 wr']) b sv' wv' z' dn' wr' := by
  have hr := World.rangeAt_setCells_same w b 0 [sv', wv', .int .i64 z', .bool dn', .int .i64 wr'] h.there
  exact ⟨hr 0 _ rfl, hr 1 _ rfl, hr 2 _ rfl, hr 3 _ rfl, hr 4 _ rfl, fun i => by rw [World.frozen?_setCells]; exact h.fz i⟩
theorem results_five2 {fn : Func} {t u : Tmp} (h : fn.results = #[.cell t 31, .tmp u]) (tmps : Array Value) (w : World) (q : Nat) (sv wv : Value) (z : Int) (dn : Bool) (wr : Int) (x : Value) (ht : tmps.getD t undef = .pointer (some ⟨q, 0, none⟩)) (hu : tmps.getD u undef = x) (hr : w.rangeAt q 0 [sv, wv, .int .i64 z, .bool dn, .int .i64 wr]) :
    (results fn tmps).run Try.prog w = .ok (.tuple #[five sv wv z dn wr, x]) w := by
  have hl := run_loadVar_mid (P := Try.prog) w q 0 31 _ _ hr Try.underlying31 rfl Try.size31
  have ht' : tmps[t]?.getD undef = .pointer (some ⟨q, 0, none⟩) := by simpa using ht
  have hu' : tmps[u]?.getD undef = x := by simpa using hu
  simp only [results, h]
  simp [ht', hu', asAddr, hl, five]
theorem five_one (sv wv : Value) (z : Int) (dn : Bool) (wr : Int) (h1 : sv.oneCell' = true) (h2 : wv.oneCell' = true) : (#[sv, wv, .int .i64 z, .bool dn, .int .i64 wr] : Array Value).all (·.oneCell') = true := by
  have e1 : (Value.int .i64 z).oneCell' = true := rfl
  have e2 : (Value.bool dn).oneCell' = true := rfl
  have e3 : (Value.int .i64 wr).oneCell' = true := rfl
  simp [h1, h2, e1, e2, e3]
/-- A whole disk is stored into a variable: the world behind it is a letter. -/
theorem wpList_store_box {ops : Array Oper} {rest : List Oper} {op : Oper} {a : Act} {w : World} {Q : Exit → Act → World → Prop} {b : Nat} {sv wv : Value} {z : Int} {dn : Bool} {wr : Int} (hbx : Box w b sv wv z dn wr) (hgd : op.guard = none) (x y : Operand) (ho : op.op = .store 31 x y)
    (sv' wv' : Value) (z' : Int) (dn' : Bool) (wr' : Int) (hx : a.eval x = .pointer (some ⟨b, 0, none⟩)) (hy : a.eval y = .agg #[sv', wv', .int .i64 z', .bool dn', .int .i64 wr']) (o1 : sv'.oneCell' = true) (o2 : wv'.oneCell' = true)
    (h : ∀ w', Box w' b sv' wv' z' dn' wr' → Keep (fun k => k = b) w w' → wpList Try.prog ops Q rest (a.put op.dst undef) w') : wpList Try.prog ops Q (op :: rest) a w :=
  wpList_store_mid hgd 31 x y ho b 0 _ hx hy hbx.there Try.size31 (five_one _ _ _ _ _ o1 o2) (h _ (hbx.setAll sv' wv' z' dn' wr') (keepN w b 0 _))
theorem Try.info9 : (Try.prog.info? 9).map (fun i => (i.zero, i.size, i.bytes)) = some (some (.string (str [])), 1, 16) := by kernel_rfl
theorem Try.info82 : (Try.prog.info? 82).map (fun i => (i.zero, i.size, i.bytes)) = some (some (.agg #[.int .i64 0, .string (str [])]), 2, 24) := by kernel_rfl

theorem refnew_bad (n : Int) (w : World) (h : n < 8 ∨ 4096 < n) :
    Calls Try.prog 10 #[.int .i64 n] w fun e w' => e = .returned (.tuple #[five (.slice none 0 0) (.slice none 0 0) 0 false 0, .int .i64 1]) ∧ Below w.heap.size w w' := by
  have hz := (zero_of_info Try.zero31).1
  have hq : (decide (n < 8) = true) ∨ (decide (n < 8) = false ∧ decide (4096 < n) = true) := by simp; omega
  clear h
  rcases hq with hq | ⟨hq, hq2⟩
  all_goals
    go_enter Try.func10, Try.ntmps10
    go_wp2
    refine bodyPost_ret (results_five2 rfl _ _ w.heap.size _ _ _ _ _ _ rfl rfl (range_lit _ _ _ _ (by simp))) rfl ⟨rfl, alb _⟩

set_option maxRecDepth 100000 in
theorem refnew_any (n : Nat) (w : World) (h1 : 8 ≤ n) (h2 : n ≤ 4096) :
    Calls Try.prog 10 #[.int .i64 (n : Int)] w fun e w' => ∃ sv, e = .returned (.tuple #[rv sv (.slice none 0 0) (D.new n), .int .i64 0]) ∧ Rep w' sv (.slice none 0 0) (D.new n) ∧ Below w.heap.size w w' ∧ (∀ b, sv.ownBlock = some b → w.heap.size ≤ b) := by
  obtain ⟨i0, hi0, hz0, hz1, hz2⟩ := info_parts Try.info5
  obtain ⟨i9, hi9, hy0, hy1, hy2⟩ := info_parts Try.info9
  have hz := (zero_of_info Try.zero31).1
  have q1 : decide ((n : Int) < 8) = false := by simp; omega
  have q2 : decide (4096 < (n : Int)) = false := by simp; omega
  have HZ : Hid (bvs (List.replicate 512 0) = bvs D.zero ∧ D.zero.length = 512) := ⟨rfl, List.length_replicate⟩
  obtain ⟨zr, hzr⟩ : ∃ zr, D.zero = zr := ⟨_, rfl⟩
  have HZ2 := Lib.hid hzr
  rw [hzr] at HZ
  clear hzr
  go_enter Try.func10, Try.ntmps10
  go_wp2_with (first
    | (refine wpList_make_full _ rfl _ _ 44 rfl 0 5 i0 _ 1 Try.underlying44 hi0 hz0 hz1 .i64 .i64 _ _ 512 rfl rfl rfl rfl ?b1 ?b2 (Nat.zero_le _) ?_)
    | fail)
  case b1 => rw [hz2]; decide
  case b2 => decide
  intro w1 ho hg
  have HB1 : Hid (Below (w.alloc (.cells #[.slice none 0 0, .slice none 0 0, .int .i64 0, .bool false, .int .i64 0] 31)).heap.size (w.alloc (.cells #[.slice none 0 0, .slice none 0 0, .int .i64 0, .bool false, .int .i64 0] 31)) w1) := (Below.refl _ _).grown hg (Nat.le_refl _) (fun k h => by cases h)
  have HX1 := Lib.hid ((Box.made w (.slice none 0 0) (.slice none 0 0) 0 false 0 31 w.heap.size rfl).below HB1.out)
  have HV1 : Hid (Byts w1 (.slice (some ⟨w.heap.size + 1, 0, none⟩) 512 512) zr) := by
    have e := HZ.out.2
    refine Byts.own (base := 0) ?_ |> fun (h : Byts w1 (.slice (some ⟨w.heap.size + 1, 0, none⟩) 512 512) zr) => h
    rw [e, ← HZ.out.1, ← made_zeros]
    exact ho
  have HNB0 : Hid (w.heap.size + 1 < w1.heap.size) := (ho.lt _ rfl).2
  have HBw := Lib.hid (btr (alb _) HB1.out)
  have HB2 := Lib.hid (alb (w := w1) (.cells #[.slice none 0 0, .slice none 0 0, .int .i64 (-1), .bool false, .int .i64 0] 31))
  have HX5 := Lib.hid (Box.made w1 (.slice none 0 0) (.slice none 0 0) (-1) false 0 31 w1.heap.size rfl)
  have HS5 : Hid (w1.heap.size + 1 = (w1.alloc (.cells #[.slice none 0 0, .slice none 0 0, .int .i64 (-1), .bool false, .int .i64 0] 31)).heap.size) := by simp [Hid]
  clear ho hg
  go_wp2
  generalize w1.alloc (.cells #[.slice none 0 0, .slice none 0 0, .int .i64 (-1), .bool false, .int .i64 0] 31) = w2 at *
  have HN1 : Hid (w.heap.size < w1.heap.size) := HX1.out.lt
  have HX2 := Lib.hid (HX1.out.below HB2.out)
  have HV2 := Lib.hid (HV1.out.below HB2.out)
  have HB3 := Lib.hid (btr HBw.out HB2.out)
  clear HX1 HV1 HBw HB1
  have HNB : Hid (w.heap.size + 1 < w1.heap.size) := HNB0.out
  clear HNB0
  generalize w1.heap.size = B at *
  go_loopw [6] (fun i wr => ∃ (k : Nat) (sv : Value), k ≤ n ∧ i = .int .i64 (k : Int) ∧ Hid (Box wr w.heap.size (.slice none 0 0) (.slice none 0 0) 0 false 0) ∧ Hid (Box wr B sv (.slice none 0 0) (-1) false 0) ∧ Hid (wr.ownsRow (B + 1) 9 1 sv k (svs (List.replicate k zr))) ∧ Hid (Byts wr (.slice (some ⟨w.heap.size + 1, 0, none⟩) 512 512) zr) ∧ Hid (Below w.heap.size w wr) ∧ Hid (B + 1 ≤ wr.heap.size))
    (fun i _ => (n - intOf i).toNat)
  case atStart => exact ⟨0, .slice none 0 0, Nat.zero_le _, rfl, HX2, HX5, World.ownsRow_nil _ _ _ _, HV2, HB3, Nat.le_of_eq HS5.out⟩
  case round =>
    obtain ⟨k, sv, hk, rfl, HX, HY, HO, HV, HB, HS⟩ := hrel
    obtain ⟨A, c, rfl⟩ := row_form HO.out
    by_cases hkn : k < n
    · have hconv := HV.out.conv
      have c0 := HY.out.c0
      have HA := Lib.hid (alb (w := wr) (.cells #[.string (str zr)] 9))
      have HOA := Lib.hid (own_keep (F := fun _ => False) HO.out (Keep.of_below HA.out) (fun _ _ h => h))
      have HC : Hid ((wr.alloc (.cells #[.string (str zr)] 9)).cell? ⟨wr.heap.size, 0, none⟩ = some (.string (str zr))) := by unfold Hid; rw [World.cell?_alloc_at _ _ _ _ rfl]; rfl
      have HL : Hid (B + 1 ≤ (wr.alloc (.cells #[.string (str zr)] 9)).heap.size) := Nat.le_trans HS.out HA.out.size
      go_wp2_with (first
        | (at_builtin; refine wpList_append_own _ rfl _ _ 28 rfl (B + 1) 9 i9 _ 1 16 Try.underlying28 hi9 hy0 hy1 hy2 rfl (by decide) _ _ _ rfl HOA.out ⟨wr.heap.size, 0, none⟩ 1 1 [.string (str zr)] rfl rfl ?c2 ?c3 ?c4 ?c5 HL.out ?_)
        | fail)
      case c2 =>
        intro j u hj
        match j, hj with
        | 0, hj => simp at hj; subst hj; exact HC.out
      case c3 =>
        intro u hu
        rw [List.mem_singleton.1 hu]; rfl
      case c4 => unfold maxLen; omega
      case c5 => omega
      intro v' w3 hown hgrow _
      have HK3 : Hid (Keep (fun b => B + 1 ≤ b) wr w3) := ((Keep.of_below HA.out : Keep (fun b => B + 1 ≤ b) wr _).grown hgrow (fun q hq => .inl (HO.out.lt q hq).1))
      have e : svs (List.replicate k zr) ++ [Value.string (str zr)] = svs (List.replicate (k + 1) zr) := by simp [svs, List.replicate_succ']
      rw [e] at hown
      obtain ⟨A3, c3', rfl⟩ := row_form hown
      have HX3 := Lib.hid (HX.out.keep HK3.out (by show ¬ B + 1 ≤ w.heap.size; have := HN1.out; omega))
      have HY3 := Lib.hid (HY.out.keep HK3.out (by show ¬ B + 1 ≤ B; omega))
      have HV3 := Lib.hid (HV.out.keep HK3.out (fun q hq => by
        have e2 : w.heap.size + 1 = q := Option.some.inj hq
        show ¬ B + 1 ≤ q
        have := HN1.out
        omega))
      have HB3' : Hid (Below w.heap.size w w3) := ((Keep.of_below (F := fun b => w.heap.size ≤ b) HB.out).trans HK3.out (fun q hq => .inl (by have := HN1.out; omega))).below (Nat.le_refl _) (fun _ h => h)
      have HOW := Lib.hid hown
      clear hown hgrow e
      have HX4 := Lib.hid (HX3.out.keep (keep1 w3 B 0 (.slice A3 (k + 1) c3')) (by show ¬ w.heap.size = B; have := HN1.out; omega))
      have HY4 := Lib.hid (HY3.out.set0 (.slice A3 (k + 1) c3'))
      have HV4 := Lib.hid (HV3.out.keep (keep1 w3 B 0 (.slice A3 (k + 1) c3')) (fun q hq => by
        have e2 : w.heap.size + 1 = q := Option.some.inj hq
        show ¬ q = B
        have := HNB.out
        omega))
      have HO4 := Lib.hid (own_keep HOW.out (keep1 w3 B 0 (.slice A3 (k + 1) c3')) (fun q hq => by
        show ¬ q = B
        have := (HOW.out.lt q hq).1
        omega))
      have HB4 : Hid (Below w.heap.size w (w3.setCell ⟨B, 0, none⟩ (.slice A3 (k + 1) c3'))) := ((Keep.of_below (F := fun b => w.heap.size ≤ b) HB3'.out).setCell (p := ⟨B, 0, none⟩) (.inl (Nat.le_of_lt HN1.out)) _).below (Nat.le_refl _) (fun _ h => h)
      have HS4 : Hid (B + 1 ≤ (w3.setCell ⟨B, 0, none⟩ (.slice A3 (k + 1) c3')).heap.size) := by
        have := HK3.out.size
        have := HS.out
        show B + 1 ≤ _
        simp [World.setCell]
        omega
      have k0 := HY3.out.c0
      have kf := HY3.out.fz 0
      go_wp2
      generalize w3.setCell ⟨B, 0, none⟩ (.slice A3 (k + 1) c3') = w4 at *
      go_roundw
      case rel => exact ⟨k + 1, _, by omega, by go_num, HX4, HY4, HO4, HV4, HB4, HS4⟩
      case measure => simp [intOf]; omega
    · obtain rfl : k = n := by omega
      have HRG := Lib.hid HY.out.range
      have HTH := Lib.hid HX.out.there
      have HBX : Hid (Below w.heap.size w (wr.setCells w.heap.size 0 [.slice A k c, .slice none 0 0, .int .i64 (-1), .bool false, .int .i64 0])) := (Keep.setCells (F := fun b => w.heap.size ≤ b) (Keep.of_below HB.out) (.inr (Nat.le_refl _)) 0 _).below (Nat.le_refl _) (fun _ h => h)
      have HOX := Lib.hid (own_keep HO.out (keepN wr w.heap.size 0 [.slice A k c, .slice none 0 0, .int .i64 (-1), .bool false, .int .i64 0]) (fun q hq => by
        show ¬ q = w.heap.size
        have := (HO.out.lt q hq).1
        have := HN1.out
        omega))
      go_wp2_with (first
        | (refine wpList_load_mid rfl 31 _ rfl B 0 rfl _ _ HRG.out Try.underlying31 rfl Try.size31 ?_)
        | (refine wpList_store_mid rfl 31 _ _ rfl w.heap.size 0 #[.slice A k c, .slice none 0 0, .int .i64 (-1), .bool false, .int .i64 0] rfl rfl HTH.out Try.size31 (five_one _ _ _ _ _ rfl rfl) ?_))
      refine bodyPost_ret (results_five2 rfl _ _ w.heap.size (.slice A k c) (.slice none 0 0) (-1) false 0 (.int .i64 0) rfl rfl (World.rangeAt_setCells_same wr w.heap.size 0 _ HTH.out)) rfl ?_
      refine ⟨_, rfl, ⟨D.new_ok h1 h2, ?_, World.ownsRow_nil _ _ _ _⟩, HBX.out, fun b hb => by have := (HO.out.lt b hb).1; have := HN1.out; omega⟩
      have e := HZ2.out
      simp only [D.new, List.length_replicate]
      rw [e]
      exact Go.Joins.ownsRow_le HOX.out (Nat.zero_le _)
end Go.Proofs.Ytcbiagdpolhbfaa
