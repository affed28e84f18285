/- Contracts that the claim reaches (Vg Vi Db Dc Dd Dw Dx Dy Sum RefSum SumsLaw Ga Gb Vq Gc Gr Fu). -/
import Derived.Test.YtlcnefeikejcaaaGreatDoorPl04
import Derived.Deep.WholeRow
import Derived.Lib.SliceRun
import Derived.OwnWalk
import Derived.Laws.BitsAllLaws
import Derived.Lib.SlBytesConst
import Derived.Laws.DeepStrings4
import Derived.Deep.MidRow
import Derived.ArgAppend
import Derived.Laws.OwnMore
import Derived.Lib.SmallJoins
import Derived.Deep.LoopGhost
import Derived.Deep.DeepCutAuto
namespace Go.Proofs.YtlcnefeikejcaaaGreatDoor
open Go.RowKit Go.Sort Go.Maps
set_option maxRecDepth 100000
theorem begin_any (w : World) (col : Nat → Nat) (p : Nat) (dv : Value) (q : Nat) (r : List Nat) (lv : Value) (b n : List Value) (e : Nat) (o : Bool) (hc : Pgc w p dv q r lv b n e o) (hp : col p = 1) (q2 : Nat) (r2 : List Nat) (lpv lnv : Value) (lists named : List Int)
    (hl : Nums w lpv lists) (hlr : Real lpv) (hlc : 0 < lists.length → ∀ g, lpv.ownBlock = some g → col g = 2) (hn : Nums w lnv named) (hnp : 0 < named.length → ∀ g, lnv.ownBlock = some g → g ≠ p) (ok : POk ⟨q2, r2, lists, named, r2.drop 3, ⟨named, [], []⟩, e + 1, o⟩) :
    Calls Tryz.prog 59 #[.pointer (some ⟨p, 0, none⟩), .agg (sva q2 r2), .agg #[lpv, lnv]] w fun en w' => en = .returned (.tuple #[]) ∧ ∃ col', (∀ b, b < w.heap.size → col' b = col b) ∧
      Pgr w' col' p dv ⟨q2, r2, lists, named, r2.drop 3, ⟨named, [], []⟩, e + 1, o⟩ ∧ Keep (fun k => k = p) w w' := by
  obtain ⟨A1, c1, e1, _, _, _⟩ := id hl
  obtain ⟨A2, c2, e2, _, _, _⟩ := id hn
  subst e1 e2
  have hr2 : r2.length = 27 := ok.rl
  have hlt := hc.lt
  have hnl : named.length < 65535 := ok.nl
  refine begin_core (fun w' => ∃ col', (∀ b, b < w.heap.size → col' b = col b) ∧ Pgr w' col' p dv ⟨q2, r2, lists, named, r2.drop 3, ⟨named, [], []⟩, e + 1, o⟩ ∧ Keep (fun k => k = p) w w') w p dv q r lv b n e o hc q2 r2 hr2 A1 A2 lists.length c1 c2 named.length named rfl hn ok.named hnl hnp (Lib.hid ?_)
  intro W pf0 pd0 m0 F G kp C P1 P2 hm f1 g1 m2 m3 m4
  have hM : Mc W col m0 [] (.map []) := by
    have F0 := (Mc.made w col).own
    obtain ⟨es, cl, q1, q2, q3, q4⟩ := F0
    rw [(MapKept.heap_alloc w _).1] at q1
    simp only [Option.some.injEq, Obj.map.injEq] at q1
    obtain ⟨rfl, rfl⟩ := q1
    exact ⟨⟨_, _, hm, q2, q3, q4⟩, rfl, Ris.nil, fun x _ _ => by simp [Maps.has, nums], fun f hf => by simp at hf⟩
  have S := stt_made (c := 10) (x := ⟨named, [], []⟩) P1 P2 hM f1 g1 m2 m3 m4 (fun f hf => by simp at hf)
  have h24 : (r2.drop 3).length = 24 := by rw [List.length_drop, hr2]
  refine (abort_core W _ p dv q2 r2 _ (r2.drop 3) h24 pf0 pd0 m0 ⟨named, [], []⟩ n e o ((dye_old hlt).trans hp) C S (by show named.length < 65536; omega) (by simp) (by have := ok.e; simp only at this; omega)).mono ?_
  rintro en w' ⟨rfl, col', pf, pd, mb, a1, C', S0, S1, k2⟩
  have hsz := kp.size
  have ag : ∀ b, b < w.heap.size → col' b = col b := fun b hb => (a1 b (by omega)).trans (dye_old hb)
  have hne : ∀ g, col g = 2 → ¬ g = p := fun g hg e => by rw [e, hp] at hg; omega
  refine ⟨rfl, col', ag, ⟨ok, (ag p hlt).trans hp, _, pf0, pd0, m0, pf, pd, mb, C', S0, S1, ?_, hlr, fun h0 g hg => ?_⟩, kp.trans k2 (fun i hi => .inl hi)⟩
  · exact nkeep (nkeep hl kp (fun h0 g hg => hne g (hlc h0 g hg))) k2 (fun h0 g hg => hne g (hlc h0 g hg))
  · exact (ag g (nlt hl h0 g hg)).trans (hlc h0 g hg)
def Pm.abort (s : Pm) : Pm := { s with rt := s.r.drop 3, x := ⟨s.named, [], []⟩, e := s.e + 1 }
theorem POk.abort {s : Pm} (h : POk s) (he : s.e < 1000000000) : POk s.abort :=
  ⟨h.q, h.rl, h.rlt, h.bl, h.dl, fun x hx => h.rlt x (List.mem_of_mem_drop hx), h.lists, h.llen, h.named, h.namedp, h.named, h.namedp, Ris.nil, fun x hx => by simp [Pm.abort] at hx, Ris.nil, fun x hx => by simp [Pm.abort, nums] at hx, fun f hf => by simp [Pm.abort] at hf, by show s.e + 1 ≤ _; omega⟩
theorem run_build_list (w : World) : (Instr.build 121 #[]).run Tryz.prog w = .ok (.agg #[.slice none 0 0, .slice none 0 0]) w := by kernel_rfl
theorem run_build_none (w : World) : (Instr.build 36 #[]).run Tryz.prog w = .ok (.agg (sva 0 U.none27)) w := by kernel_rfl
def Pm.gone (e : Nat) : Pm := ⟨0, U.none27, [], [], U.none27.drop 3, ⟨[], [], []⟩, e, true⟩
theorem none_lt : ∀ x ∈ U.none27, x < 4294967296 := by decide
theorem Pgr.own {w w' : World} {col : Nat → Nat} {p : Nat} {dv dv' : Value} {s s' : Pm} (h : Pgr w col p dv s) (k : Keep (fun b => b = p) w w') (ok : POk s') (hn : s'.named = s.named) (hl : s'.lists = s.lists) (hx : s'.x = s.x)
    (hc : ∀ lv b0 pf pd mb, Pgc w p dv s.q s.r lv b0 (scs s.rt pf pd mb) s.e s.o → (∃ pf0 pd0 m0, b0 = scs (s.r.drop 3) pf0 pd0 m0) → Pgc w' p dv' s'.q s'.r lv (b0.take 0 ++ b0) (scs s'.rt pf pd mb) s'.e s'.o) (hr : s'.r = s.r) : Pgr w' col p dv' s' := by
  obtain ⟨ok0, cp, lv, pf0, pd0, m0, pf, pd, mb, C, S0, S, N, R, L⟩ := h
  have hne : ∀ c g, c ≠ 1 → col g = c → ¬ g = p := fun c g hc hg e => by rw [e, cp] at hg; omega
  have C' := hc lv _ pf pd mb C ⟨pf0, pd0, m0, rfl⟩
  rw [List.take_zero, List.nil_append] at C'
  refine ⟨ok, cp, lv, pf0, pd0, m0, pf, pd, mb, by rw [hr] at C' ⊢; exact C', ?_, ?_, ?_, R, ?_⟩
  · rw [hn]
    exact S0.keep k (fun b hb => by rcases hb with h | h | h | h <;> exact hne _ b (by omega) h)
  · rw [hx]
    exact S.keep k (fun b hb => by rcases hb with h | h | h | h <;> exact hne _ b (by omega) h)
  · rw [hl]
    exact nkeep N k (fun h0 g hg => hne 2 g (by omega) (L h0 g hg))
  · rw [hl]
    exact L
theorem Pgr.setd {w : World} {col : Nat → Nat} {p : Nat} {dv : Value} {s : Pm} (h : Pgr w col p dv s) (v : Value) : Pgr (w.setCell ⟨p, 0, none⟩ v) col p v s :=
  h.own (Keep.setCell (F := fun b => b = p) (p := ⟨p, 0, none⟩) (Keep.refl _ _) (.inl rfl) _) h.ok rfl rfl rfl (fun _ _ _ _ _ C _ => C.setd v) rfl
theorem Pgr.seto {w : World} {col : Nat → Nat} {p : Nat} {dv : Value} {s : Pm} (h : Pgr w col p dv s) (v : Bool) : Pgr (w.setCell ⟨p, 85, none⟩ (.bool v)) col p dv { s with o := v } :=
  h.own (Keep.setCell (F := fun b => b = p) (p := ⟨p, 85, none⟩) (Keep.refl _ _) (.inl rfl) _) ⟨h.ok.q, h.ok.rl, h.ok.rlt, h.ok.bl, h.ok.rtl, h.ok.rtlt, h.ok.lists, h.ok.llen, h.ok.named, h.ok.namedp, h.ok.free, h.ok.freep, h.ok.defd, h.ok.defdp, h.ok.fresh, h.ok.freshp, h.ok.body, h.ok.e⟩ rfl rfl rfl (fun _ _ _ _ _ C _ => C.seto v) rfl
theorem Pgr.cells {w : World} {col : Nat → Nat} {p : Nat} {dv : Value} {s : Pm} (h : Pgr w col p dv s) : ∃ lv pf0 pd0 m0 pf pd mb, Pgc w p dv s.q s.r lv (scs (s.r.drop 3) pf0 pd0 m0) (scs s.rt pf pd mb) s.e s.o := by
  obtain ⟨_, _, lv, pf0, pd0, m0, pf, pd, mb, C, _⟩ := h
  exact ⟨lv, pf0, pd0, m0, pf, pd, mb, C⟩
theorem none_ok (e : Nat) (o : Bool) (he : e ≤ 1000000000) : POk ⟨0, U.none27, [], [], U.none27.drop 3, ⟨[], [], []⟩, e, o⟩ :=
  ⟨by show (0 : Nat) < _; omega, rfl, none_lt, by show U.none27.getD 0 0 ≤ 4096; decide, rfl, fun x hx => none_lt x (List.mem_of_mem_drop hx), fun x hx => by simp at hx, by simp, Ris.nil, fun x hx => by simp at hx, Ris.nil, fun x hx => by simp at hx, Ris.nil, fun x hx => by simp at hx, Ris.nil, fun x hx => by simp [nums] at hx, fun f hf => by simp at hf, he⟩
theorem end_any (w : World) (col : Nat → Nat) (p : Nat) (dv : Value) (s : Pm) (h : Pgr w col p dv s) (he : s.e < 1000000000) (z : Int) :
    Calls Tryz.prog 83 #[.pointer (some ⟨p, 0, none⟩), .int .i64 z] w fun en w' => en = .returned (.int .i64 z) ∧ Chg w w' col p (.pointer none) (Pm.gone (s.e + 1)) := by
  obtain ⟨ok, cp, lv, pf0, pd0, m0, pf, pd, mb, C, S0, S, N, R, L⟩ := h
  have HB := Lib.hid (begin_any w col p dv s.q s.r lv _ _ s.e s.o C cp 0 U.none27 (.slice none 0 0) (.slice none 0 0) [] [] (Nums.nil w) Real.nil (fun h => by simp at h) (Nums.nil w) (fun h => by simp at h) (none_ok (s.e + 1) s.o (by omega)))
  have HCP := Lib.hid cp
  have hb1 := run_build_none
  have hb2 := run_build_list
  clear C S0 S N R L ok cp
  generalize s.e = e at *
  generalize s.o = o at *
  go_enter Tryz.func83, Tryz.ntmps83
  go_upto_region 2 with (go_at_call 59; refine HB.out.mono ?_; rintro en w1 ⟨rfl, col', a1, P1, k1⟩)
  have HP1 := Lib.hid P1
  have A1 := Lib.hid a1
  have K1 := Lib.hid k1
  clear P1 a1 k1 HB
  obtain ⟨_, _, _, _, _, _, _, C1⟩ := HP1.out.cells
  have c0 := C1.cd
  have f0 := C1.fz 0 (by omega)
  have c85 := C1.co
  have f85 := C1.fz 85 (by omega)
  have P3 := Lib.hid ((HP1.out.setd (.pointer none)).seto true)
  have K3 : Hid (Keep (fun k => k = p) w ((w1.setCell ⟨p, 0, none⟩ (.pointer none)).setCell ⟨p, 85, none⟩ (.bool true))) := (K1.out.setCell (p := ⟨p, 0, none⟩) (.inl rfl) _).setCell (p := ⟨p, 85, none⟩) (.inl rfl) _
  clear C1 hb1 hb2
  go_wp2
  go_ret
  exact ⟨rfl, col', A1.out, P3.out, K3.out.mono (fun b _ hb => by subst hb; exact ⟨by have := HCP.out; omega, by have := HCP.out; omega⟩)⟩
end Go.Proofs.YtlcnefeikejcaaaGreatDoor
namespace Go.Proofs.YtlcnefeikejcaaaGreatDoor
open Go.RowKit Go.Sort Go.Maps
set_option maxRecDepth 100000
def zcont : Array Value := #[.int .u8 0, .slice none 0 0]
theorem Tryz.zero140 : (Tryz.prog.info? 140).map (fun i => (i.zero, i.size)) = some (some (.agg zcont), 2) := by kernel_rfl
theorem zero_cont (w : World) : (zeroValue 140).run Tryz.prog w = .ok (.agg zcont) w := (zero_of_info Tryz.zero140).1 w
theorem Tryz.sizeC : (Tryz.prog.info? 140).map (·.size) = some 2 := by kernel_rfl
theorem nums_mem {fs : List Fr} {n : Int} (h : n ∈ nums fs) : ∃ f ∈ fs, f.n = n := by
  obtain ⟨f, hf, e⟩ := List.mem_map.1 h
  exact ⟨f, hf, e⟩
theorem wpList_look_in {w : World} {ops : Array Oper} {rest : List Oper} {o : Oper} {a : Act} {Q : Exit → Act → World → Prop} (hg : o.guard = none) (m x : Operand) (hop : o.op = Op.lookup 125 m x true)
    (col : Nat → Nat) (mb : Nat) (fs : List Fr) (D : DataW Value) (M : Mc w col mb fs D) (f : Fr) (hf : f ∈ fs) (n : Int) (hn : f.n = n) (v : Value) (hv : ∀ zd, D.atKey (.int .u32 f.n) zd = .held (cva f.k v)) (hm : a.eval m = .map (some mb)) (hx : a.eval x = .int .u32 n)
    (h : wpList Tryz.prog ops Q rest (a.put o.dst (.tuple #[cva f.k v, .bool true])) w) : wpList Tryz.prog ops Q (o :: rest) a w := by
  subst hn
  obtain ⟨n0, n1⟩ := M.ris.rng f.n (List.mem_map.2 ⟨f, hf, rfl⟩)
  refine wpList_lookup_own_ok w hg m x _ hop 31 140 klaw Tryz.underlying125 allE (zero_cont w) (.held (.agg zcont)) [] rfl mb fs.length D hm M.own _ (.int .u32 f.n) hx (key_u32 n0 n1) (fun v' ps hv' => ?_)
  have e := allE_inv hv'
  rw [hv] at e
  simp only [DataW.held.injEq] at e
  subst e
  rw [M.has f.n n0 n1, show decide (f.n ∈ nums fs) = true from decide_eq_true (List.mem_map.2 ⟨f, hf, rfl⟩)]
  exact h
theorem wpList_look_out {w : World} {ops : Array Oper} {rest : List Oper} {o : Oper} {a : Act} {Q : Exit → Act → World → Prop} (hg : o.guard = none) (m x : Operand) (hop : o.op = Op.lookup 125 m x true)
    (col : Nat → Nat) (mb : Nat) (fs : List Fr) (D : DataW Value) (M : Mc w col mb fs D) (n : Int) (n0 : 0 ≤ n) (n1 : n < 4294967296) (hn : n ∉ nums fs) (hm : a.eval m = .map (some mb)) (hx : a.eval x = .int .u32 n)
    (h : wpList Tryz.prog ops Q rest (a.put o.dst (.tuple #[.agg zcont, .bool false])) w) : wpList Tryz.prog ops Q (o :: rest) a w := by
  refine wpList_lookup_own_ok w hg m x _ hop 31 140 klaw Tryz.underlying125 allE (zero_cont w) (.held (.agg zcont)) [] rfl mb fs.length D hm M.own _ (.int .u32 n) hx (key_u32 n0 n1) (fun v' ps hv' => ?_)
  have hh : Maps.has D (.int .u32 n) = false := by rw [M.has n n0 n1, decide_eq_false hn]
  have e := allE_inv hv'
  rw [Maps.atKey_of_not_has hh] at e
  simp only [DataW.held.injEq] at e
  subst e
  rw [hh]
  exact h
theorem wpList_look_any {w : World} {ops : Array Oper} {rest : List Oper} {o : Oper} {a : Act} {Q : Exit → Act → World → Prop} (hg : o.guard = none) (m x : Operand) (hop : o.op = Op.lookup 125 m x true)
    (col : Nat → Nat) (mb : Nat) (fs : List Fr) (D : DataW Value) (M : Mc w col mb fs D) (n : Int) (n0 : 0 ≤ n) (n1 : n < 4294967296) (d : Bool) (hd : decide (n ∈ nums fs) = d) (hm : a.eval m = .map (some mb)) (hx : a.eval x = .int .u32 n)
    (h : ∀ (k : UInt8) (v : Value), (∃ A m c, v = .slice A m c) → wpList Tryz.prog ops Q rest (a.put o.dst (.tuple #[cva k v, .bool d])) w) : wpList Tryz.prog ops Q (o :: rest) a w := by
  subst hd
  by_cases hn : n ∈ nums fs
  · obtain ⟨f, hf, e⟩ := nums_mem hn
    obtain ⟨v, hv, hb, _⟩ := M.at_ f hf
    refine wpList_look_in hg m x hop col mb fs D M f hf n e v hv hm hx ?_
    have := h f.k v (by obtain ⟨A, c, e2, _⟩ := hb; exact ⟨A, _, c, e2⟩)
    rwa [decide_eq_true hn] at this
  · refine wpList_look_out hg m x hop col mb fs D M n n0 n1 hn hm hx ?_
    have := h 0 (.slice none 0 0) ⟨_, _, _, rfl⟩
    rwa [decide_eq_false hn] at this
theorem wpList_store_cont {ops : Array Oper} {rest : List Oper} {op : Oper} {a : Act} {w : World} {Q : Exit → Act → World → Prop} (hgd : op.guard = none) (x y : Operand) (ho : op.op = .store 140 x y)
    (b : Nat) (k : UInt8) (A : Option Addr) (m c : Nat) (hx : a.eval x = .pointer (some ⟨b, 0, none⟩)) (hy : a.eval y = cva k (.slice A m c)) (ht : w.there b 0 2)
    (h : ∀ w', Hid (w'.cell? ⟨b, 0, none⟩ = some (.int .u8 ((k.toNat : Nat) : Int)) ∧ w'.cell? ⟨b, 1, none⟩ = some (.slice A m c)) → Keep (fun k => k = b) w w' → wpList Tryz.prog ops Q rest (a.put op.dst undef) w') : wpList Tryz.prog ops Q (op :: rest) a w :=
  wpList_store_mid hgd 140 x y ho b 0 #[.int .u8 ((k.toNat : Nat) : Int), .slice A m c] hx hy ht Tryz.sizeC (by simp [Value.oneCell'])
    (h _ (by
      have := World.rangeAt_setCells_same w b 0 [.int .u8 ((k.toNat : Nat) : Int), .slice A m c] ht
      exact ⟨this 0 _ rfl, this 1 _ rfl⟩) (Keep.setCells (F := fun k => k = b) (Keep.refl _ _) (.inl rfl) 0 _))
def Pm.used (s : Pm) (n : Int) : Bool := (decide (2 ≤ n) && decide (n < ((s.r.getD 0 0 : Nat) : Int))) && (!decide (n ∈ nums s.x.fresh) && (!decide (n ∈ s.x.free) && (!decide (n ∈ s.x.defd) && !decide (n ∈ s.lists))))
set_option maxHeartbeats 1600000 in
theorem inuse_core (w : World) (col : Nat → Nat) (p pf pd mb B : Nat) (n : Int) (n0 : 0 ≤ n) (n1 : n < 4294967296) (fs : List Fr) (D : DataW Value) (lv : Value) (hlv : ∃ A m c, lv = .slice A m c) (hM : Mc w col mb fs D) (c2 : w.cell? ⟨p, 2, none⟩ = some (.int .u32 (B : Int))) (c29 : w.cell? ⟨p, 29, none⟩ = some lv)
    (c81 : w.cell? ⟨p, 81, none⟩ = some (.pointer (some ⟨pf, 0, none⟩))) (c82 : w.cell? ⟨p, 82, none⟩ = some (.pointer (some ⟨pd, 0, none⟩))) (c83 : w.cell? ⟨p, 83, none⟩ = some (.map (some mb))) (df d1 d2 d3 : Bool) (hdf : decide (n ∈ nums fs) = df)
    (H1 : Hid (∀ W, Below w.heap.size w W → Calls Tryz.prog 103 #[.pointer (some ⟨pf, 0, none⟩), .int .u32 n] W fun e w' => e = .returned (.bool d1) ∧ Below W.heap.size W w'))
    (H2 : Hid (∀ W, Below w.heap.size w W → Calls Tryz.prog 103 #[.pointer (some ⟨pd, 0, none⟩), .int .u32 n] W fun e w' => e = .returned (.bool d2) ∧ Below W.heap.size W w'))
    (H3 : Hid (∀ W, Below w.heap.size w W → Calls Tryz.prog 112 #[lv, .int .u32 n] W fun e w' => e = .returned (.bool d3) ∧ W = w')) :
    Calls Tryz.prog 68 #[.pointer (some ⟨p, 0, none⟩), .int .u32 n] w fun e w' => e = .returned (.bool ((decide (2 ≤ n) && decide (n < (B : Int))) && (!df && (!d1 && (!d2 && !d3))))) ∧ Below w.heap.size w w' := by
  obtain ⟨A0, m0, k0, rfl⟩ := hlv
  have hz := zero_cont
  have HT := Lib.hid (there_newN w zcont 140 2 rfl)
  have HB : Hid (Below w.heap.size w (w.alloc (.cells zcont 140))) := alb _
  have HM := Lib.hid hM
  clear hM
  by_cases h2 : n < 2
  · have q1 : decide (2 ≤ n) = false := by simp; omega
    rw [q1]
    clear q1
    go_enter Tryz.func68, Tryz.ntmps68
    go_wp2
    go_ret
    exact ⟨rfl, Below.refl _ _⟩
  · have q1 : decide (2 ≤ n) = true := by simp; omega
    rw [q1]
    clear q1
    by_cases hB : (B : Int) ≤ n
    · have q1 : decide (n < (B : Int)) = false := by simp; omega
      rw [q1]
      clear q1
      go_enter Tryz.func68, Tryz.ntmps68
      go_wp2
      go_ret
      exact ⟨rfl, Below.refl _ _⟩
    · have q1 : decide (n < (B : Int)) = true := by simp; omega
      rw [q1]
      clear q1
      have HC1 : Hid (∀ W, Below w.heap.size w W → W.cell? ⟨p, 81, none⟩ = some (.pointer (some ⟨pf, 0, none⟩)) ∧ W.cell? ⟨p, 82, none⟩ = some (.pointer (some ⟨pd, 0, none⟩)) ∧ W.cell? ⟨p, 29, none⟩ = some (.slice A0 m0 k0)) := fun W hW => ⟨kept c81 hW, kept c82 hW, kept c29 hW⟩
      clear c81 c82 c29
      go_enter Tryz.func68, Tryz.ntmps68
      go_wp2_with (first
        | (at_lookup; refine wpList_look_any rfl (.tmp 23) (.tmp 24) rfl col mb fs D HM.out n n0 n1 df hdf rfl rfl ?_; rintro kk vv ⟨A3, m3, c3, rfl⟩)
        | (refine wpList_store_cont rfl (.tmp 5) (.tmp 26) rfl w.heap.size kk A3 m3 c3 rfl rfl HT.out ?_))
      intro w1 hc1 k1
      have HB1 : Hid (Below w.heap.size w w1) := HB.out.trans (k1.below HB.out.size (fun k hk => by subst hk; exact Nat.le_refl _))
      obtain ⟨c81, c82, c29⟩ := HC1.out w1 HB1.out
      clear k1 HB HT
      cases df with
      | true =>
        go_wp2
        go_ret
        exact ⟨rfl, HB1.out⟩
      | false =>
        cases d1 with
        | true =>
          go_wp2_with (first
          | (go_at_call 112; refine (H3.out _ HB3.out).mono ?_; rintro e w4 ⟨rfl, rfl⟩)
          | (go_at_call 103; refine (H2.out _ HB2.out).mono ?_; rintro e w3 ⟨rfl, hb3⟩; have HB3 := Lib.hid (btr HB2.out hb3); obtain ⟨c81b, c82b, c29b⟩ := HC1.out w3 HB3.out)
          | (go_at_call 103; refine (H1.out _ HB1.out).mono ?_; rintro e w2 ⟨rfl, hb2⟩; have HB2 := Lib.hid (btr HB1.out hb2); obtain ⟨c81a, c82a, c29a⟩ := HC1.out w2 HB2.out))
          go_ret
          exact ⟨rfl, HB2.out⟩
        | false =>
          cases d2 with
          | true =>
            go_wp2_with (first
          | (go_at_call 112; refine (H3.out _ HB3.out).mono ?_; rintro e w4 ⟨rfl, rfl⟩)
          | (go_at_call 103; refine (H2.out _ HB2.out).mono ?_; rintro e w3 ⟨rfl, hb3⟩; have HB3 := Lib.hid (btr HB2.out hb3); obtain ⟨c81b, c82b, c29b⟩ := HC1.out w3 HB3.out)
          | (go_at_call 103; refine (H1.out _ HB1.out).mono ?_; rintro e w2 ⟨rfl, hb2⟩; have HB2 := Lib.hid (btr HB1.out hb2); obtain ⟨c81a, c82a, c29a⟩ := HC1.out w2 HB2.out))
            go_ret
            exact ⟨rfl, HB3.out⟩
          | false =>
            go_wp2_with (first
          | (go_at_call 112; refine (H3.out _ HB3.out).mono ?_; rintro e w4 ⟨rfl, rfl⟩)
          | (go_at_call 103; refine (H2.out _ HB2.out).mono ?_; rintro e w3 ⟨rfl, hb3⟩; have HB3 := Lib.hid (btr HB2.out hb3); obtain ⟨c81b, c82b, c29b⟩ := HC1.out w3 HB3.out)
          | (go_at_call 103; refine (H1.out _ HB1.out).mono ?_; rintro e w2 ⟨rfl, hb2⟩; have HB2 := Lib.hid (btr HB1.out hb2); obtain ⟨c81a, c82a, c29a⟩ := HC1.out w2 HB2.out))
            go_ret
            exact ⟨by simp, HB3.out⟩
theorem inuse_any (w : World) (col : Nat → Nat) (p : Nat) (dv : Value) (s : Pm) (h : Pgr w col p dv s) (n : Int) (n0 : 0 ≤ n) (n1 : n < 4294967296) :
    Calls Tryz.prog 68 #[.pointer (some ⟨p, 0, none⟩), .int .u32 n] w fun e w' => e = .returned (.bool (s.used n)) ∧ Below w.heap.size w w' := by
  obtain ⟨ok, cp, lv, pf0, pd0, m0, pf, pd, mb, C, S0, S, N, R, L⟩ := h
  obtain ⟨D, M⟩ := S.map
  obtain ⟨F, P1, _⟩ := S.free
  obtain ⟨G, P2, _⟩ := S.defd
  exact inuse_core w col p pf pd mb _ n n0 n1 s.x.fresh D lv (by obtain ⟨A, c, e, _⟩ := N; exact ⟨A, _, c, e⟩) M (C.cr 0 (by omega)) C.cl (scs_free C.rn ok.rtl) (scs_defd C.rn ok.rtl) (scs_map C.rn ok.rtl) _ _ _ _ rfl
    (Lib.hid fun W hW => phas_any W pf F _ n (P1.below hW) n0 n1) (Lib.hid fun W hW => phas_any W pd G _ n (P2.below hW) n0 n1) (Lib.hid fun W hW => ncontains_any W lv s.lists n (N.below hW))
end Go.Proofs.YtlcnefeikejcaaaGreatDoor
namespace Go.Proofs.YtlcnefeikejcaaaGreatDoor
open Go.RowKit
open D (St)
def zb : Array Value := (bvs D.zero).toArray
theorem zb_size : zb.size = 512 := by simp only [zb, List.size_toArray, bvs_length]; exact List.length_replicate
theorem Tryz.zero112 : (Tryz.prog.info? 112).map (fun i => (i.zero, i.size)) = some (some (.agg zb), 512) := by kernel_rfl
theorem Tryz.size112 : (Tryz.prog.info? 112).map (·.size) = some 512 := by kernel_rfl
theorem Tryz.size114 : (Tryz.prog.info? 114).map (·.size) = some 513 := by kernel_rfl
theorem Dsk.waitAt {w : World} {p g : Nat} {A : Option Addr} {cap : Nat} {s : St} (h : Dsk w p g (.slice A s.waits.length cap) s) (j : Nat) (hj : j < s.waits.length) :
    ∃ q, A = some ⟨q, 0, none⟩ ∧ w.cell? ⟨q, j * 513, none⟩ = some (.int .i64 ((s.waits[j].1 : Nat) : Int)) ∧ w.rangeAt q (j * 513 + 1) (bvs s.waits[j].2) ∧ w.rangeAt q (j * 513) (wcells s.waits[j]) := by
  have hr := h.waits
  obtain ⟨q, cap', e⟩ := Go.Joins.ownsRow_form hr (by omega)
  obtain rfl : A = some ⟨q, 0, none⟩ := by simpa using (Value.slice.inj e).1
  have key : ∀ i, i < 513 → w.cell? ⟨q, j * 513 + i, none⟩ = (wcells s.waits[j])[i]? := fun i hi => by
    rw [hr.cellAt (j * 513 + i) (by have : (j + 1) * 513 ≤ s.waits.length * 513 := Nat.mul_le_mul_right _ (by omega); omega), wall_get _ h.ok.bytes j hj i hi]
  have hlen := h.ok.bytes _ (List.getElem_mem hj)
  refine ⟨q, rfl, ?_, fun i v hv => ?_, fun i v hv => ?_⟩
  · have this := key 0 (by omega)
    have e : (wcells s.waits[j])[0]? = some (.int .i64 ((s.waits[j].1 : Nat) : Int)) := by simp [wcells]
    rw [Nat.add_zero] at this
    rw [this, e]
  · have hi : i < 512 := by
      have := (List.getElem?_eq_some_iff.1 hv).1
      rw [bvs_length, hlen] at this
      exact this
    have := key (i + 1) (by omega)
    rw [show j * 513 + 1 + i = j * 513 + (i + 1) by omega, this]
    simpa [wcells] using hv
  · have hi : i < 513 := by
      have := (List.getElem?_eq_some_iff.1 hv).1
      rw [wcells_length hlen] at this
      exact this
    rw [key i hi]
    exact hv
theorem Dsk.nwaits {w : World} {p g : Nat} {wv : Value} {s : St} (h : Dsk w p g wv s) : s.waits.length ≤ 9223372036854775807 := by
  rcases h.waits.2 with ⟨_, e⟩ | ⟨_, cap, _, _, _, _, h1, h2, _⟩
  · omega
  · simp only [maxLen] at h2
    omega
theorem info_blk {y : List UInt8} (h : y.length = 512) : (Tryz.prog.info? 112).map (·.size) = some (bvs y).length := by rw [bvs_length, h]; exact Tryz.size112
theorem info_blkA {y : List UInt8} (h : y.length = 512) : (Tryz.prog.info? 112).map (·.size) = some (bvs y).toArray.size := by rw [List.size_toArray]; exact info_blk h
theorem one_blk (y : List UInt8) : (bvs y).toArray.all (·.oneCell') = true := all_oneCell_toArray (bvs_one y)
theorem results_blk {fn : Func} {t : Tmp} (h : fn.results = #[.cell t 112]) (tmps : Array Value) (w : World) (q : Nat) (y : List UInt8) (ht : tmps.getD t undef = .pointer (some ⟨q, 0, none⟩)) (hy : y.length = 512) (hr : w.rangeAt q 0 (bvs y)) :
    (results fn tmps).run Tryz.prog w = .ok (.agg (bvs y).toArray) w := by
  have hl := run_loadVar_mid (P := Tryz.prog) w q 0 112 (bvs y) _ hr Tryz.underlying112 rfl (info_blk hy)
  have ht' : tmps[t]?.getD undef = .pointer (some ⟨q, 0, none⟩) := by simpa using ht
  simp only [results, h]
  simp [ht', asAddr, hl]
theorem there_blk {w : World} {q o : Nat} {y : List UInt8} (h : w.there q o 512) (hy : y.length = 512) : w.there q o (bvs y).toArray.size := by
  have e : (bvs y).toArray.size = 512 := by rw [List.size_toArray, bvs_length, hy]
  rw [e]
  exact h
theorem dthere_new (w : World) (c : Array Value) (t : TypeId) (n : Nat) (hn : c.size = n) : (w.alloc (.cells c t)).there w.heap.size 0 n := fun j hj => by
  subst hn
  refine ⟨?_, by simp⟩
  rw [World.cell?_alloc_at _ _ _ _ rfl]
  simp
  omega
set_option maxRecDepth 100000 in
set_option maxHeartbeats 400000 in
theorem last_any {w : World} {p g : Nat} {wv : Value} {s : St} (h : Dsk w p g wv s) (n : Nat) (hn : n < s.safe.length) :
    Calls Tryz.prog 80 #[.pointer (some ⟨p, 0, none⟩), .int .i64 (n : Int)] w fun e w' => e = .returned (.agg (bvs (D.look s n)).toArray) ∧ Below w.heap.size w w' := by
  have hz := (zero_of_info Tryz.zero112).1
  have h0 := h.below (alb (.cells zb 112))
  have hT := Lib.hid (dthere_new w zb 112 512 zb_size)
  have hB := Lib.hid (alb (w := w) (.cells zb 112))
  have HB2 : Hid (∀ vs, Below w.heap.size w ((w.alloc (.cells zb 112)).setCells w.heap.size 0 vs)) := fun vs =>
    (Keep.setCells (F := fun _ => False) (Keep.of_below (alb (w := w) (.cells zb 112))) (.inr (Nat.le_refl _)) 0 vs).below (Nat.le_refl _) (fun _ h => h.elim)
  clear h
  generalize zb = Z at *
  generalize hw0 : w.alloc (.cells Z 112) = w0 at *
  have HW : Hid (w.alloc (.cells Z 112) = w0) := hw0
  obtain ⟨cc, c0⟩ := h0.c0
  have c1 := h0.c1
  obtain ⟨A, cap, rfl⟩ := wv_form h0
  have HA : Hid (∀ j (hj : j < s.waits.length), ∃ q, A = some ⟨q, 0, none⟩ ∧ w0.cell? ⟨q, j * 513, none⟩ = some (.int .i64 ((s.waits[j].1 : Nat) : Int)) ∧ w0.rangeAt q (j * 513 + 1) (bvs s.waits[j].2) ∧ (s.waits[j].2.length = 512) ∧
      D.lk n (s.safe.getD n []) (s.waits.take (j + 1)) = if s.waits[j].1 = n then s.waits[j].2 else D.lk n (s.safe.getD n []) (s.waits.take j)) := fun j hj => by
    obtain ⟨q, e1, e2, e3, _⟩ := h0.waitAt j hj
    exact ⟨q, e1, e2, e3, h0.ok.bytes _ (List.getElem_mem hj), D.lk_take n _ _ j hj⟩
  have HS : Hid (w0.rangeAt g (n * 512) (bvs (s.safe.getD n []))) := by
    have e : s.safe.getD n [] = s.safe[n] := by simp [List.getD, hn]
    rw [e]
    exact h0.safe n hn
  have HL := Lib.hid (D.getD_full h0.ok hn)
  have HM := Lib.hid h0.ok.many
  have HI : Hid (D.lk n (s.safe.getD n []) (s.waits.take s.waits.length) = D.look s n) := by rw [List.take_length]; rfl
  have hm := h0.nwaits
  clear h0
  generalize s.safe.getD n [] = b at *
  generalize D.look s n = L at *
  generalize hws : s.waits = ws at *
  generalize s.safe.length = K at *
  go_enter Tryz.func80, Tryz.ntmps80
  go_wp2
  go_loop [5] (fun i => ∃ k : Nat, k ≤ ws.length ∧ i = .int .i64 ((k : Int) - 1) ∧ Hid (D.lk n b (ws.take k) = L)) (fun i => (intOf i + 1).toNat)
  case atStart => exact ⟨ws.length, Nat.le_refl _, rfl, HI.out⟩
  case round =>
    obtain ⟨k, hk, rfl, HK⟩ := hrel
    cases k with
    | zero =>
      have q1 : decide (0 ≤ ((0 : Nat) : Int) - 1) = false := by decide
      have HT2 : Hid (w0.there w.heap.size 0 (bvs b).toArray.size) := there_blk hT.out HL.out
      have e : b = L := HK.out
      subst e
      go_wp2_with (first
        | (refine wpList_load_mid rfl 112 _ rfl g (n * 512) rfl (bvs b) _ HS.out Tryz.underlying112 rfl (info_blk HL.out) ?_)
        | (refine wpList_store_mid rfl 112 _ _ rfl w.heap.size 0 (bvs b).toArray rfl rfl HT2.out (info_blkA HL.out) (one_blk b) ?_))
      refine bodyPost_ret (results_blk rfl _ _ w.heap.size b rfl HL.out (World.rangeAt_setCells_same _ _ _ _ (by rw [bvs_length, HL.out]; exact hT.out))) rfl ⟨rfl, HB2.out _⟩
    | succ j =>
      obtain ⟨q, rfl, a1, a2, a3, a4⟩ := HA.out j (by omega)
      have A2 := Lib.hid a2
      have A3 := Lib.hid a3
      have e1 : (((j + 1 : Nat) : Int) - 1) = (j : Int) := by omega
      rw [e1]
      clear a2 e1 a3
      generalize ws[j].1 = x at *
      generalize ws[j].2 = y at *
      rw [a4] at HK
      clear a4
      by_cases hx : x = n
      · rw [if_pos hx] at HK
        have e : y = L := HK.out
        subst e
        have q2 : ((x : Int) == (n : Int)) = true := by simp [hx]
        have HT2 : Hid (w0.there w.heap.size 0 (bvs y).toArray.size) := there_blk hT.out A3.out
        clear hx
        go_wp2_with (first
          | (refine wpList_load_mid rfl 112 _ rfl q (j * 513 + 1) rfl (bvs y) _ A2.out Tryz.underlying112 rfl (info_blk A3.out) ?_)
          | (refine wpList_store_mid rfl 112 _ _ rfl w.heap.size 0 (bvs y).toArray rfl rfl HT2.out (info_blkA A3.out) (one_blk y) ?_))
        refine bodyPost_ret (results_blk rfl _ _ w.heap.size y rfl A3.out (World.rangeAt_setCells_same _ _ _ _ (by rw [bvs_length, A3.out]; exact hT.out))) rfl ⟨rfl, HB2.out _⟩
      · rw [if_neg hx] at HK
        have q2 : ((x : Int) == (n : Int)) = false := by simp; omega
        clear hx
        go_wp2
        go_round
        case rel => exact ⟨j, by omega, by go_num, HK⟩
        case measure => simp [intOf]
end Go.Proofs.YtlcnefeikejcaaaGreatDoor
namespace Go.Proofs.YtlcnefeikejcaaaGreatDoor
open Go.RowKit
open D (St)
set_option maxHeartbeats 400000 in
theorem clone_any (v : Value) (l : List UInt8) (w : World) (h : Byts w v l) (hl : l.length ≤ 1000000) :
    Calls Tryz.prog 67 #[v] w fun e w' => ∃ v', e = .returned v' ∧ w'.ownsRow w.heap.size 5 1 v' l.length (bvs l) ∧ Below w.heap.size w w' := by
  obtain ⟨i0, hi0, hz0, hz1, hz2⟩ := info_parts Tryz.info5
  have q : ∀ (w : World) (a : Option Addr) (n c n' c' : Nat), (binOp .eql 48 (.slice a n c) (.slice none n' c')).run Tryz.prog w = .ok (.bool a.isNone) w := fun w a n c n' c' => Lib.run_eql_slice_nil w _ _ a n c n' c' Tryz.underlying48
  obtain ⟨A, c, rfl, hc, h⟩ := h
  have H := Lib.hid h; clear h
  cases A with
  | none =>
    obtain rfl : l = [] := by
      cases l with
      | nil => rfl
      | cons x l => obtain ⟨b, off, e, _⟩ := H.out (by simp); cases e
    clear H
    go_enter Tryz.func67, Tryz.ntmps67
    go_wp2
    go_ret
    exact ⟨_, rfl, World.ownsRow_nil _ _ _ _, Below.refl _ _⟩
  | some a =>
    go_enter Tryz.func67, Tryz.ntmps67
    go_wp2_with (first
      | (at_builtin; refine wpList_append_own _ rfl _ _ 48 rfl w.heap.size 5 i0 _ 1 1 Tryz.underlying48 hi0 hz0 hz1 hz2 rfl (by omega) _ _ _ rfl (World.ownsRow_lit w #[] 0 (Nat.le_refl _) (by unfold maxLen; omega) rfl) a l.length c (bvs l) rfl ?c1 ?c2 ?c3 ?c4 ?c5 ?c6 ?_)
      | go_in)
    case c1 => rw [bvs_length, Nat.mul_one]
    case c2 =>
      intro j u hj
      have hjl : j < l.length := by rw [← bvs_length]; exact (List.getElem?_eq_some_iff.1 hj).1
      obtain ⟨b, off, e, h2⟩ := H.out (by omega)
      simp only [Option.some.injEq] at e
      subst e
      have e : (⟨b, off, Option.none⟩ : Addr).add j = ⟨b, off + j, Option.none⟩ := by unfold Addr.add; split <;> simp_all
      rw [bvs_get l j hjl] at hj
      rw [e, ← hj]
      exact alc (h2 j hjl) _
    case c3 => exact bvs_one l
    case c4 => unfold maxLen; omega
    case c5 => omega
    case c6 => simp
    intro v' w2 hown hgrow _
    have hB : Below w.heap.size w w2 := (alb _).grown hgrow (by simp) (by intro k hk; simp [Value.ownBlock] at hk; omega)
    clear hgrow
    go_wp2
    go_ret
    exact ⟨_, rfl, by simpa using hown, hB⟩
end Go.Proofs.YtlcnefeikejcaaaGreatDoor
namespace Go.Proofs.YtlcnefeikejcaaaGreatDoor
open Go.RowKit
open D (St)
def readB (s : St) (n : Int) : List UInt8 := if s.down then [] else if hasB s n then D.look s n.toNat else []
def readE (s : St) (n : Int) : Int := if s.down then 7 else if hasB s n then 0 else 4
theorem dread_core {w : World} {p : Nat} {n : Int} {L : List UInt8} (c3 : w.cell? ⟨p, 3, none⟩ = some (.bool false)) (HLL : Hid (L.length = 512))
    (HH : Hid (Calls Tryz.prog 52 #[.pointer (some ⟨p, 0, none⟩), .int .i64 n] w fun e w' => e = .returned (.bool true) ∧ w' = w))
    (HC : Hid (Calls Tryz.prog 80 #[.pointer (some ⟨p, 0, none⟩), .int .i64 n] w fun e w' => e = .returned (.agg (bvs L).toArray) ∧ Below w.heap.size w w')) :
    Calls Tryz.prog 28 #[.pointer (some ⟨p, 0, none⟩), .int .i64 n] w fun e w' => ∃ v, e = .returned (.tuple #[v, .int .i64 0]) ∧ w'.ownsRow w.heap.size 5 1 v L.length (bvs L) ∧ Below w.heap.size w w' := by
  have hz := (zero_of_info Tryz.zero112).1
  have HZ := Lib.hid zb_size
  generalize zb = Z at *
  go_enter Tryz.func28, Tryz.ntmps28
  go_wp2_with fail
  refine HH.out.mono ?_
  rintro e w1 ⟨rfl, rfl⟩
  go_wp2_with fail
  refine HC.out.mono ?_
  rintro e w2 ⟨rfl, hb2⟩
  have HT := Lib.hid (there_blk (dthere_new w2 Z 112 512 HZ.out) HLL.out)
  have hB := Lib.hid ((Keep.setCells (F := fun _ => False) (Keep.of_below (alb (w := w2) (.cells Z 112))) (.inr (Nat.le_refl _)) 0 (bvs L)).below (Nat.le_refl _) (fun _ h => h.elim))
  have HR := Lib.hid (World.rangeAt_setCells_same (w2.alloc (.cells Z 112)) w2.heap.size 0 (bvs L) (by have := HT.out; rwa [List.size_toArray] at this))
  go_wp2_with (first
    | (refine wpList_store_mid rfl 112 _ _ rfl w2.heap.size 0 (bvs L).toArray rfl rfl HT.out (info_blkA HLL.out) (one_blk L) ?_)
    | fail)
  have HV : Hid (Byts ((w2.alloc (.cells Z 112)).setCells w2.heap.size 0 (bvs L)) (.slice (some ⟨w2.heap.size, 0, none⟩) 512 512) L) :=
    ⟨_, _, by rw [HLL.out], by rw [HLL.out]; exact Nat.le_refl _, fun _ => ⟨w2.heap.size, 0, rfl, fun j hj => HR.out j _ (bvs_get L j hj)⟩⟩
  generalize (w2.alloc (.cells Z 112)).setCells w2.heap.size 0 (bvs L) = w3 at *
  refine (clone_any _ L w3 HV.out (by rw [HLL.out]; decide)).mono ?_
  rintro e w4 ⟨v, rfl, ho, hb4⟩
  go_wp2
  go_ret2
  exact ⟨_, rfl, Go.Joins.ownsRow_le ho (Nat.le_trans hb2.size hB.out.size), btr (btr hb2 hB.out) hb4⟩
theorem read_down {w : World} {p : Nat} {n : Int} (c3 : w.cell? ⟨p, 3, none⟩ = some (.bool true)) :
    Calls Tryz.prog 28 #[.pointer (some ⟨p, 0, none⟩), .int .i64 n] w fun e w' => ∃ v, e = .returned (.tuple #[v, .int .i64 7]) ∧ w'.ownsRow w.heap.size 5 1 v ([] : List UInt8).length (bvs []) ∧ Below w.heap.size w w' := by
  go_enter Tryz.func28, Tryz.ntmps28
  go_wp2
  go_ret2
  exact ⟨_, rfl, World.ownsRow_nil _ _ _ _, Below.refl _ _⟩
theorem read_none {w : World} {p : Nat} {n : Int} (c3 : w.cell? ⟨p, 3, none⟩ = some (.bool false))
    (HH : Hid (Calls Tryz.prog 52 #[.pointer (some ⟨p, 0, none⟩), .int .i64 n] w fun e w' => e = .returned (.bool false) ∧ w' = w)) :
    Calls Tryz.prog 28 #[.pointer (some ⟨p, 0, none⟩), .int .i64 n] w fun e w' => ∃ v, e = .returned (.tuple #[v, .int .i64 4]) ∧ w'.ownsRow w.heap.size 5 1 v ([] : List UInt8).length (bvs []) ∧ Below w.heap.size w w' := by
  go_enter Tryz.func28, Tryz.ntmps28
  go_wp2_with fail
  refine HH.out.mono ?_
  rintro e w1 ⟨rfl, rfl⟩
  go_wp2
  go_ret2
  exact ⟨_, rfl, World.ownsRow_nil _ _ _ _, Below.refl _ _⟩
theorem dread_any {w : World} {p g : Nat} {wv : Value} {s : St} (h : Dsk w p g wv s) (n : Int) :
    Calls Tryz.prog 28 #[.pointer (some ⟨p, 0, none⟩), .int .i64 n] w fun e w' => ∃ v, e = .returned (.tuple #[v, .int .i64 (readE s n)]) ∧ w'.ownsRow w.heap.size 5 1 v (readB s n).length (bvs (readB s n)) ∧ Below w.heap.size w w' := by
  have c3 := h.c3
  have HH := has_any h n
  unfold readE readB
  cases hd : s.down with
  | true =>
    rw [hd] at c3
    exact read_down c3
  | false =>
    rw [hd] at c3
    cases hq : hasB s n with
    | false =>
      rw [hq] at HH
      exact read_none c3 HH
    | true =>
      rw [hq] at HH
      simp only [hasB, Bool.and_eq_true, decide_eq_true_eq] at hq
      obtain ⟨m, rfl⟩ := Int.eq_ofNat_of_zero_le hq.1
      exact dread_core c3 (D.look_length h.ok (by simp; omega)) HH (last_any h m (by omega))
end Go.Proofs.YtlcnefeikejcaaaGreatDoor
namespace Go.Proofs.YtlcnefeikejcaaaGreatDoor
open Go.RowKit
open D (St)
def wz (x : Nat × List UInt8) : Array Value := (wcells x).toArray
theorem wz_size {x : Nat × List UInt8} (h : x.2.length = 512) : (wz x).size = 513 := by simp [wz, wcells_length h]
theorem Tryz.zero114 : (Tryz.prog.info? 114).map (fun i => (i.zero, i.size)) = some (some (.agg (wz (0, D.zero))), 513) := by kernel_rfl
theorem Tryz.infoZ114 : (Tryz.prog.info? 114).map (fun i => (i.zero, i.size, i.bytes)) = some (some (.agg (wz (0, D.zero))), 513, 520) := by kernel_rfl
theorem laid_write (w : World) (n : Nat) (y : List UInt8) (hy : y.length = 512) (Z ZN : Array Value) (hZ : Z.size = 513) (hZN : wz (n, D.zero) = ZN) {b off c : Nat} (hc : ∀ j (h : j < y.length), w.cell? ⟨b, off + j, none⟩ = some (.int .u8 ((y[j].toNat : Nat) : Int))) :
    ∃ w3, (Builtin.copy_ #[48, 48] 3 #[.slice (some ⟨w.heap.size, 1, none⟩) 512 512, .slice (some ⟨b, off, none⟩) 512 c]).run Tryz.prog ((w.alloc (.cells Z 114)).setCells w.heap.size 0 ZN.toList) = .ok (goInt 512) w3 ∧
      w3.rangeAt w.heap.size 0 (wcells (n, y)) ∧ Below w.heap.size w w3 ∧ w.heap.size < w3.heap.size := by
  have hzl : ZN.toList.length = 513 := by rw [← hZN]; kernel_rfl
  have ht0 : (w.alloc (.cells Z 114)).there w.heap.size 0 513 := dthere_new w Z 114 513 hZ
  have ht : ((w.alloc (.cells Z 114)).setCells w.heap.size 0 ZN.toList).there w.heap.size 0 513 := World.there_setCells ht0 _ _ _
  have ht1 : ((w.alloc (.cells Z 114)).setCells w.heap.size 0 ZN.toList).there w.heap.size 1 (bvs y).length := fun j hj => by
    have := ht (1 + j) (by rw [bvs_length, hy] at hj; omega)
    simpa using this
  have hr0 := World.rangeAt_setCells_same (w.alloc (.cells Z 114)) w.heap.size 0 ZN.toList (by rw [hzl]; exact ht0)
  have hb : b < w.heap.size := World.block_lt_of_cell? w _ (hc 0 (by omega))
  have hk0 : Keep (fun _ => False) w ((w.alloc (.cells Z 114)).setCells w.heap.size 0 ZN.toList) := Keep.setCells (Keep.of_below (alb _)) (.inr (Nat.le_refl _)) _ _
  refine ⟨((w.alloc (.cells Z 114)).setCells w.heap.size 0 ZN.toList).setCells w.heap.size 1 (bvs y), ?_, ?_, ?_, ?_⟩
  · have := run_copy_cells (P := Tryz.prog) ((w.alloc (.cells Z 114)).setCells w.heap.size 0 ZN.toList) 48 48 3 5 w.heap.size 1 512 512 ⟨b, off, none⟩ 512 c (bvs y) Tryz.underlying48 (by kernel_rfl) (by rw [bvs_length, hy]; rfl)
      (fun j v hj => by
        have hjl : j < y.length := by rw [← bvs_length]; exact (List.getElem?_eq_some_iff.1 hj).1
        rw [bvs_get y j hjl] at hj
        rw [Addr.add_mid, ← hj]
        exact hk0.cell (hc j hjl) (fun h => h)) (fun j hj => (ht1 j hj).1) (fun j hj => (ht1 j hj).2) (bvs_one y)
    rw [bvs_length, hy] at this
    exact this
  · intro j v hv
    cases j with
    | zero =>
      rw [World.cell?_setCells_out _ _ _ _ _ (fun _ _ => .inl (by show 0 + 0 < 1; omega))]
      have e : (wcells (n, y))[0]? = ZN.toList[0]? := by rw [← hZN]; rfl
      rw [e] at hv
      exact hr0 0 v hv
    | succ k =>
      have := World.rangeAt_setCells_same ((w.alloc (.cells Z 114)).setCells w.heap.size 0 ZN.toList) w.heap.size 1 (bvs y) ht1 k v (by simpa [wcells] using hv)
      rw [show 0 + (k + 1) = 1 + k by omega]
      exact this
  · exact (Keep.setCells (F := fun _ => False) hk0 (.inr (Nat.le_refl _)) 1 (bvs y)).below (Nat.le_refl _) (fun _ h => h.elim)
  · rw [size_setCells, size_setCells]
    simp
end Go.Proofs.YtlcnefeikejcaaaGreatDoor
namespace Go.Proofs.YtlcnefeikejcaaaGreatDoor
open Go.RowKit
open D (St)
set_option maxRecDepth 100000 in
theorem write_core {w : World} {p g : Nat} {wv bv : Value} {s : St} {n : Nat} {y : List UInt8} (H : Hid (Dsk w p g wv s)) (c3 : w.cell? ⟨p, 3, none⟩ = some (.bool false)) (HY : Hid (y.length = 512)) (HV : Hid (Byts w bv y)) (hn : n < s.safe.length)
    (h1 : s.waits.length ≤ 1000000) (h2 : s.writes ≤ 1000000)
    (HH : Hid (Calls Tryz.prog 52 #[.pointer (some ⟨p, 0, none⟩), .int .i64 (n : Int)] w fun e w' => e = .returned (.bool true) ∧ w' = w)) :
    Calls Tryz.prog 13 #[.pointer (some ⟨p, 0, none⟩), .int .i64 (n : Int), bv] w fun e w' => ∃ wv', e = .returned (.int .i64 (D.ans s)) ∧ Dsk w' p g wv' (D.act (D.put s n y)) ∧ Keep (dfp p g wv) w w' ∧ (∀ b, wv'.ownBlock = some b → wv.ownBlock = some b ∨ w.heap.size ≤ b) := by
  obtain ⟨A, c, rfl, hc, hcell0⟩ := HV.out
  obtain ⟨b, off, rfl, hcell⟩ := hcell0 (by rw [HY.out]; decide)
  have hz := (zero_of_info Tryz.zero114).1
  have hset : (wz (0, D.zero)).setIfInBounds 0 (.int .i64 (n : Int)) = wz (n, D.zero) := by kernel_rfl
  have hzs : (wz (0, D.zero)).size = 513 := by kernel_rfl
  have hne : ¬ wz (0, D.zero) = #[] := fun e => by rw [e] at hzs; simp at hzs
  have HO : Hid ((wz (n, D.zero)).all (·.oneCell') = true) := all_oneCell_toArray (fun v hv => by
    rcases List.mem_cons.1 hv with rfl | hv
    · rfl
    · exact bvs_one _ v hv)
  have HW := Lib.hid (laid_write w n y HY.out (wz (0, D.zero)) (wz (n, D.zero)) hzs rfl (c := c) hcell)
  clear hcell hc hcell0
  rw [HY.out]
  generalize wz (0, D.zero) = Z at *
  generalize wz (n, D.zero) = ZN at *
  have HT : Hid ((w.alloc (.cells Z 114)).there w.heap.size 0 ZN.size) := by
    have e : ZN.size = 513 := by rw [← hset]; simp [hzs]
    rw [e]
    exact dthere_new w Z 114 513 hzs
  have HI : Hid ((Tryz.prog.info? 114).map (·.size) = some ZN.size) := by
    have e : ZN.size = 513 := by rw [← hset]; simp [hzs]
    rw [e]
    exact Tryz.size114
  obtain ⟨w3, hcopy, hr, hb3, hlt⟩ := HW.out
  have HR := Lib.hid hr
  clear hr HW
  go_enter Tryz.func13, Tryz.ntmps13
  go_wp2_with fail
  refine HH.out.mono ?_
  rintro e w1 ⟨rfl, rfl⟩
  go_wp2_with (first
    | (refine wpList_store_mid rfl 114 _ _ rfl w1.heap.size 0 ZN rfl rfl HT.out HI.out HO.out ?_)
    | fail)
  have HD := Lib.hid (H.out.below hb3)
  have HC1 := Lib.hid HD.out.c1
  have HN1 := Lib.hid HD.out.nep
  have HLT := Lib.hid HD.out.lt
  have HWL : Hid (¬ wv.ownBlock = some w1.heap.size) := fun e => by
    have := H.out.lt w1.heap.size (.inr (.inr e))
    omega
  have hS : Hid (Keep (fun b => wv.ownBlock = some b) w3 w3.drew) := (Keep.refl _ _).drew
  refine lz_start 11 10 (fun W => Keep (fun b => wv.ownBlock = some b) w3 W) rfl (by kernel_rfl) ?_
  refine lz_take 0 25 (v := ?_) rfl rfl (by kernel_rfl) (by kernel_rfl) (by kernel_rfl) (by kernel_rfl) (fun _ _ _ _ _ h => h) (by rfl) hS.out (fun W hW => ?_) ?_
  rotate_left
  · go_simp; try rfl
  try simp only [Act.put, List.setIfInBounds_toArray, List.set_cons_zero, List.set_cons_succ]
  refine lz_take 1 26 (v := ?_) rfl rfl (by kernel_rfl) (by kernel_rfl) (by kernel_rfl) (by kernel_rfl) (fun _ _ _ _ _ h => h) (by rfl) hS.out (fun W hW => ?_) ?_
  rotate_left
  · go_simp; try rfl
  try simp only [Act.put, List.setIfInBounds_toArray, List.set_cons_zero, List.set_cons_succ]
  refine lz_take 2 27 (v := ?_) rfl rfl (by kernel_rfl) (by kernel_rfl) (by kernel_rfl) (by kernel_rfl) (fun _ _ _ _ _ h => h) (by rfl) hS.out (fun W hW => ?_) ?_
  rotate_left
  · go_simp; try rfl
  try simp only [Act.put, List.setIfInBounds_toArray, List.set_cons_zero, List.set_cons_succ]
  refine lz_take 3 28 (v := ?_) rfl rfl (by kernel_rfl) (by kernel_rfl) (by kernel_rfl) (by kernel_rfl) (fun _ _ _ _ _ h => h) (by rfl) hS.out (fun W hW => ?_) ?_
  rotate_left
  · go_simp; try rfl
  try simp only [Act.put, List.setIfInBounds_toArray, List.set_cons_zero, List.set_cons_succ]
  refine lz_take 4 29 (v := ?_) rfl rfl (by kernel_rfl) (by kernel_rfl) (by kernel_rfl) (by kernel_rfl) (fun _ _ _ _ _ h => h) (by rfl) hS.out (fun W hW => ?_) ?_
  rotate_left
  · have q := hW.cell HC1.out HN1.out; go_simp; try rfl
  try simp only [Act.put, List.setIfInBounds_toArray, List.set_cons_zero, List.set_cons_succ]
  refine lz_take 5 30 (v := ?_) rfl rfl (by kernel_rfl) (by kernel_rfl) (by kernel_rfl) (by kernel_rfl) (fun _ _ _ _ _ h => h) (by rfl) hS.out (fun W hW => ?_) ?_
  rotate_left
  · refine run_load_mid 114 (.tmp 7) ?_ w1.heap.size 0 ?_ (wcells (n, y)) _ (range_keep HR.out hW HWL.out) Tryz.underlying114 rfl (by rw [wcells_length HY.out]; exact Tryz.size114) <;> rfl
  try simp only [Act.put, List.setIfInBounds_toArray, List.set_cons_zero, List.set_cons_succ]
  refine lz_op 6 rfl rfl (by kernel_rfl) (fun K hK => ?_)
  refine wp_buildSlice_one 107 114 _ rfl (wcells (n, y)) _ rfl Tryz.underlying107 (by rw [wcells_length HY.out]; exact Tryz.zero114) (by rw [wcells_length HY.out]; decide) (by rw [wcells_length HY.out]; decide) ?_
  refine hK.out _ _ ((Keep.refl _ _).drew.alloc _) ?_
  clear hK K
  show Lz _ _ _ _ _ _ _ (Act.put _ (some 31) _) _
  try simp only [Act.put, List.setIfInBounds_toArray, List.set_cons_zero, List.set_cons_succ]
  obtain ⟨i0, hi0, hz0, hz1, hz2⟩ := info_parts Tryz.infoZ114
  have HOW := Lib.hid (own_keep (F := fun _ => False) HD.out.waits ((Keep.refl _ w3).drew.alloc (.cells (wcells (n, y)).toArray 114)) (fun _ _ h => h))
  refine lz_op 7 rfl rfl (by kernel_rfl) (fun K hK => ?_)
  refine wp_append_own2 _ _ 107 rfl 114 i0 _ 513 520 Tryz.underlying107 hi0 hz0 hz1 hz2 (wz_size (x := (0, D.zero)) List.length_replicate) (by decide) wv s.waits.length (wall s.waits) rfl HOW.out ⟨w3.heap.size, 0, none⟩ 1 1 (wcells (n, y)) rfl (by rw [wcells_length HY.out]) ?c2 ?c3 ?c4 ?c5 ?_
  case c2 =>
    intro j u hj
    rw [Addr.add_mid]
    show (w3.drew.alloc _).cell? ⟨w3.drew.heap.size, 0 + j, none⟩ = _
    rw [World.cell?_alloc_at _ _ _ _ rfl]
    simpa using hj
  case c3 =>
    intro u hu
    rcases List.mem_cons.1 hu with rfl | hu
    · rfl
    · exact bvs_one _ u hu
  case c4 => unfold maxLen; omega
  case c5 => omega
  intro wv2 w4 hown hgrow hblk
  have HK4 : Hid (Keep (fun b => wv.ownBlock = some b) w3 w4) := ((Keep.refl _ _).drew.alloc _).grown hgrow (fun k hk => .inl hk)
  have HBK : Hid (∀ b, wv2.ownBlock = some b → wv.ownBlock = some b ∨ w3.heap.size ≤ b) := fun b hb => (hblk b hb).imp id (fun q => Nat.le_trans (by simp [go_sem]) q)
  have hx : wall s.waits ++ wcells (n, y) = wall (s.waits ++ [(n, y)]) := by rw [wall_append]; simp [wall]
  obtain ⟨g2, cap2, rfl⟩ := Go.Joins.ownsRow_form hown (by omega)
  have HD5 := Lib.hid (HD.out.relay HK4.out HD.out.nep HD.out.neg (.slice (some ⟨g2, 0, none⟩) (s.waits.length + 1) cap2) (s.waits ++ [(n, y)]) (by rw [← hx, List.length_append]; exact hown)
    (fun x hx => by
      rcases List.mem_append.1 hx with hx | hx
      · exact HD.out.ok.place x hx
      · rw [List.mem_singleton.1 hx]; exact hn) (fun x hx => by
      rcases List.mem_append.1 hx with hx | hx
      · exact HD.out.ok.bytes x hx
      · rw [List.mem_singleton.1 hx]; exact HY.out)
    (fun e => by
      rcases HBK.out p e with q | q
      · exact HD.out.nep q
      · have := HD.out.plt; omega) (fun e => by
      rcases HBK.out g e with q | q
      · exact HD.out.neg q
      · have := HD.out.glt; omega))
  have HK5 : Hid (Keep (dfp p g wv) w3 (w4.setCell ⟨p, 1, none⟩ (.slice (some ⟨g2, 0, none⟩) (s.waits.length + 1) cap2))) := Keep.setCell (p := ⟨p, 1, none⟩) (HK4.out.mono (fun k _ q => .inr (.inr q))) (.inl (.inl rfl)) _
  have k1 := HK4.out.cell HC1.out HN1.out
  have f1 : w4.frozen? ⟨p, 1, none⟩ = false := (HK4.out.frozen HC1.out HN1.out).trans (HD.out.fz 1)
  clear hown hgrow hblk hx HOW
  refine hK.out _ _ HK4.out ?_
  clear hK K
  show Lz _ _ _ _ _ _ _ (Act.put _ (some 32) _) _
  try simp only [Act.put, List.setIfInBounds_toArray, List.set_cons_zero, List.set_cons_succ]
  refine lz_op 8 rfl rfl (by kernel_rfl) (fun K hK => ?_)
  go_simp
  refine hK.out _ _ HK4.out ?_
  clear hK K
  refine lz_op 9 rfl rfl (by kernel_rfl) (fun K hK => ?_)
  go_simp
  refine hK.out _ _ HK4.out ?_
  clear hK K
  refine lz_end rfl rfl (by kernel_rfl) (by kernel_rfl) (fun K hK => ?_)
  go_simp
  refine hK.out _ _ ?_
  clear hK K k1 f1
  generalize w4.setCell ⟨p, 1, none⟩ (.slice (some ⟨g2, 0, none⟩) (s.waits.length + 1) cap2) = w5 at *
  have k4 := HD5.out.c4
  have f4 := HD5.out.fz 4
  have q4 : IntKind.i64.wrap ((s.writes : Int) + 1) = (s.writes : Int) + 1 := by rw [IntKind.wrap_i64]; omega
  have HD6 := Lib.hid (HD5.out.setc4 (s.writes + 1))
  have e6 : ((s.writes + 1 : Nat) : Int) = (s.writes : Int) + 1 := by omega
  rw [e6] at HD6
  clear e6
  have HK6 : Hid (Keep (dfp p g wv) w3 (w5.setCell ⟨p, 4, none⟩ (.int .i64 ((s.writes : Int) + 1)))) := Keep.setCell (p := ⟨p, 4, none⟩) HK5.out (.inl (.inl rfl)) _
  go_wp2_with fail
  generalize w5.setCell ⟨p, 4, none⟩ (.int .i64 ((s.writes : Int) + 1)) = w6 at *
  refine (act_any HD6.out).mono ?_
  rintro e w7 ⟨rfl, hd7, hk7⟩
  have HF : Hid (Keep (dfp p g wv) w1 w7) := (Keep.of_below hb3 : Keep (dfp p g wv) w1 w3).trans (HK6.out.trans hk7 (fun i hi => by
    rcases hi with q | q | q
    · exact .inl (.inl q)
    · exact .inl (.inr (.inl q))
    · exact (HBK.out i q).imp (fun q => .inr (.inr q)) id)) (fun i hi => .inl hi)
  have HD7 := Lib.hid hd7
  clear hd7 hk7
  go_wp2
  go_ret
  exact ⟨_, rfl, HD7.out, HF.out, fun b hb => (HBK.out b hb).imp id (fun q => Nat.le_trans hb3.size q)⟩
end Go.Proofs.YtlcnefeikejcaaaGreatDoor
namespace Go.Proofs.YtlcnefeikejcaaaGreatDoor
open Go.RowKit
open D (St)
theorem write_down {w : World} {p : Nat} {n : Int} {bv : Value} (c3 : w.cell? ⟨p, 3, none⟩ = some (.bool true)) :
    Calls Tryz.prog 13 #[.pointer (some ⟨p, 0, none⟩), .int .i64 n, bv] w fun e w' => e = .returned (.int .i64 7) ∧ w' = w := by
  go_enter Tryz.func13, Tryz.ntmps13
  go_wp2
  go_ret
  exact ⟨rfl, rfl⟩
theorem write_none {w : World} {p : Nat} {n : Int} {bv : Value} (c3 : w.cell? ⟨p, 3, none⟩ = some (.bool false))
    (HH : Hid (Calls Tryz.prog 52 #[.pointer (some ⟨p, 0, none⟩), .int .i64 n] w fun e w' => e = .returned (.bool false) ∧ w' = w)) :
    Calls Tryz.prog 13 #[.pointer (some ⟨p, 0, none⟩), .int .i64 n, bv] w fun e w' => e = .returned (.int .i64 4) ∧ w' = w := by
  go_enter Tryz.func13, Tryz.ntmps13
  go_wp2_with fail
  refine HH.out.mono ?_
  rintro e w1 ⟨rfl, rfl⟩
  go_wp2
  go_ret
  exact ⟨rfl, rfl⟩
theorem write_long {w : World} {p : Nat} {n : Int} {A : Option Addr} {k c : Nat} (c3 : w.cell? ⟨p, 3, none⟩ = some (.bool false)) (hk : ((k : Int) == 512) = false)
    (HH : Hid (Calls Tryz.prog 52 #[.pointer (some ⟨p, 0, none⟩), .int .i64 n] w fun e w' => e = .returned (.bool true) ∧ w' = w)) :
    Calls Tryz.prog 13 #[.pointer (some ⟨p, 0, none⟩), .int .i64 n, .slice A k c] w fun e w' => e = .returned (.int .i64 1) ∧ w' = w := by
  go_enter Tryz.func13, Tryz.ntmps13
  go_wp2_with fail
  refine HH.out.mono ?_
  rintro e w1 ⟨rfl, rfl⟩
  go_wp2
  go_ret
  exact ⟨rfl, rfl⟩
def DTurned (w w' : World) (p g : Nat) (wv : Value) (s : St) : Prop := ∃ wv', Dsk w' p g wv' s ∧ Keep (dfp p g wv) w w' ∧ (∀ b, wv'.ownBlock = some b → wv.ownBlock = some b ∨ w.heap.size ≤ b)
theorem dwrite_any {w : World} {p g : Nat} {wv : Value} {s : St} (h : Dsk w p g wv s) (n : Int) (bv : Value) (y : List UInt8) (hv : Byts w bv y) (h1 : s.waits.length ≤ 1000000) (h2 : s.writes ≤ 1000000) :
    Calls Tryz.prog 13 #[.pointer (some ⟨p, 0, none⟩), .int .i64 n, bv] w fun e w' => e = .returned (.int .i64 (D.writeE s n y)) ∧ DTurned w w' p g wv (D.write s n y) := by
  have c3 := h.c3
  have HH := has_any h n
  have hself : ∀ k, D.bad s n y.length = k → k ≠ 0 → D.writeE s n y = k ∧ D.write s n y = s := fun k hk h0 => by
    unfold D.writeE D.write
    rw [hk, if_neg h0, if_neg h0]
    exact ⟨rfl, rfl⟩
  have stay : ∀ {e : Ending} {w' : World} {k : Int}, D.bad s n y.length = k → k ≠ 0 → e = .returned (.int .i64 k) ∧ w' = w → e = .returned (.int .i64 (D.writeE s n y)) ∧ DTurned w w' p g wv (D.write s n y) := by
    rintro e w' k hk h0 ⟨rfl, rfl⟩
    obtain ⟨e1, e2⟩ := hself k hk h0
    rw [e1, e2]
    exact ⟨rfl, wv, h, Keep.refl _ _, fun b hb => .inl hb⟩
  cases hd : s.down with
  | true =>
    rw [hd] at c3
    exact (write_down c3).mono fun e w' q => stay (by simp [D.bad, hd]) (by decide) q
  | false =>
    rw [hd] at c3
    cases hq : hasB s n with
    | false =>
      rw [hq] at HH
      have hr : n < 0 ∨ (s.safe.length : Int) ≤ n := by
        simp only [hasB, Bool.and_eq_false_iff, decide_eq_false_iff_not] at hq
        omega
      exact (write_none c3 HH).mono fun e w' q => stay (by simp [D.bad, hd, hr]) (by decide) q
    | true =>
      rw [hq] at HH
      simp only [hasB, Bool.and_eq_true, decide_eq_true_eq] at hq
      have hr : ¬ (n < 0 ∨ (s.safe.length : Int) ≤ n) := by omega
      by_cases hy : y.length = 512
      · obtain ⟨m, rfl⟩ := Int.eq_ofNat_of_zero_le hq.1
        have hb : D.bad s (m : Int) y.length = 0 := by unfold D.bad; rw [hd, if_neg (by simp), if_neg hr, if_neg (by omega)]
        refine (write_core (n := m) h c3 hy hv (by omega) h1 h2 HH).mono ?_
        rintro e w' ⟨wv', rfl, hd', hk, hbk⟩
        refine ⟨by unfold D.writeE; rw [if_pos hb], wv', ?_, hk, hbk⟩
        unfold D.write
        rw [if_pos hb, Int.toNat_natCast]
        exact hd'
      · obtain ⟨A, c, rfl, _⟩ := hv
        exact (write_long c3 (by simpa using (by omega : ¬ (y.length : Int) = 512)) HH).mono fun e w' q => stay (k := 1) (by unfold D.bad; rw [hd, if_neg (by simp), if_neg hr, if_pos hy]) (by decide) q
end Go.Proofs.YtlcnefeikejcaaaGreatDoor
namespace Go.Proofs.YtlcnefeikejcaaaGreatDoor
open Go.RowKit
open C (steps bt more crc ones pol)
def Tab (w : World) : Prop := ∀ i, i < 16 → w.cell? ⟨0, i, none⟩ = some (.int .u32 ((steps 4 i : Nat) : Int))
theorem Tab.below {w w1 : World} (h : Tab w) (hb : Below w.heap.size w w1) : Tab w1 := fun i hi => kept (h i hi) hb
theorem half_any (r : Nat) (hr : r < 4294967296) (w : World) (h : Tab w) :
    Calls Tryz.prog 167 #[.int .u32 (r : Int)] w fun e w' => e = .returned (.int .u32 ((steps 4 r : Nat) : Int)) ∧ w' = w := by
  have ha : bits .and .u32 (r : Int) 15 = ((r % 16 : Nat) : Int) := by
    have := u32_and_nat r 15 hr (by omega)
    rw [nat_mask4] at this
    exact this
  have hs : bits .xor .u32 (((r / 16 : Nat)) : Int) ((steps 4 (r % 16) : Nat) : Int) = ((steps 4 r : Nat) : Int) := by
    rw [u32_xor_nat _ _ (by omega) (C.steps_lt 4 (by omega)), C.half_steps]
  have hd : (r : Int) / 16 = ((r / 16 : Nat) : Int) := by omega
  have hc := h (r % 16) (by omega)
  have hlt : r % 16 < 16 := by omega
  clear h
  generalize steps 4 r = R at *
  generalize steps 4 (r % 16) = S at *
  generalize r % 16 = m at *
  generalize r / 16 = q at *
  go_enter Tryz.func167, Tryz.ntmps167
  go_wp2
  go_ret
  exact ⟨rfl, rfl⟩
theorem more_facts (s : Nat) (hs : s < 4294967296) (l : List UInt8) :
    ∃ G : Nat → Nat, bits .xor .u32 (s : Int) 4294967295 = ((G 0 : Nat) : Int) ∧ (∀ j, G j < 4294967296) ∧ bits .xor .u32 ((G l.length : Nat) : Int) 4294967295 = ((crc s l : Nat) : Int) ∧
      ∀ j (h : j < l.length), ∃ X : Nat, X < 4294967296 ∧ bits .xor .u32 ((G j : Nat) : Int) ((l[j].toNat : Nat) : Int) = ((X : Nat) : Int) ∧ steps 4 (steps 4 X) = G (j + 1) := by
  refine ⟨fun j => more (s ^^^ ones) (l.take j), ?_, fun j => C.more_lt _ (C.ones_lt hs), ?_, fun j h => ?_⟩
  · exact u32_xor_nat s 4294967295 hs (by omega)
  · have := u32_xor_nat (more (s ^^^ ones) (l.take l.length)) 4294967295 (C.more_lt _ (C.ones_lt hs)) (by omega)
    refine this.trans ?_
    simp [crc, ones]
  · have h1 : more (s ^^^ ones) (l.take j) < 4294967296 := C.more_lt _ (C.ones_lt hs)
    have h2 := C.u8_lt l[j]
    refine ⟨more (s ^^^ ones) (l.take j) ^^^ l[j].toNat, Nat.xor_lt_two_pow (n := 32) (by omega) (by omega), u32_xor_nat _ _ h1 (by omega), ?_⟩
    show _ = more (s ^^^ ones) (l.take (j + 1))
    rw [C.steps_steps, List.take_succ_eq_append_getElem h, C.more_snoc]
    rfl
set_option maxHeartbeats 400000 in
theorem more_any (s : Nat) (hs : s < 4294967296) (v : Value) (l : List UInt8) (w : World) (h : Byts w v l) (hl : l.length ≤ 1000000) (hT : Tab w) :
    Calls Tryz.prog 148 #[.int .u32 (s : Int), v] w fun e w' => e = .returned (.int .u32 ((crc s l : Nat) : Int)) ∧ w' = w := by
  obtain ⟨G, g0, g1, g2, g3⟩ := more_facts s hs l
  obtain ⟨A, c, rfl, hc, h⟩ := h
  generalize crc s l = R at *
  have H : Hid (∀ j, j < l.length → ∃ b off X x, A = some ⟨b, off, none⟩ ∧ w.cell? ⟨b, off + j, none⟩ = some (.int .u8 ((x : Nat) : Int)) ∧ x < 256 ∧ X < 4294967296 ∧ bits .xor .u32 ((G j : Nat) : Int) ((x : Nat) : Int) = ((X : Nat) : Int) ∧ steps 4 (steps 4 X) = G (j + 1)) := by
    intro j hj
    obtain ⟨b, off, e, q⟩ := h (by omega)
    obtain ⟨X, hX, e1, e2⟩ := g3 j hj
    exact ⟨b, off, X, _, e, q j hj, C.u8_lt _, hX, e1, e2⟩
  clear h g3
  have G1 := Lib.hid g1; clear g1
  have HT := Lib.hid hT; clear hT
  generalize l.length = n at *
  have G2 := Lib.hid g2; clear g2
  go_enter Tryz.func148, Tryz.ntmps148
  go_wp2
  go_loop [5, 12] (fun r i => ∃ j : Nat, j ≤ n ∧ i = .int .i64 (j : Int) ∧ r = .int .u32 ((G j : Nat) : Int)) (fun _ i => n - (intOf i).toNat)
  case atStart => exact ⟨0, by omega, rfl, rfl⟩
  case round =>
    obtain ⟨j, hj, rfl, rfl⟩ := hrel
    by_cases hlt : j < n
    · obtain ⟨b, off, X, x, rfl, a0, hx, hX, e1, e2⟩ := H.out j hlt
      have H1 := Lib.hid (half_any X hX w HT.out)
      have H2 := Lib.hid (half_any (steps 4 X) (C.steps_lt 4 hX) w HT.out)
      rw [e2] at H2
      clear e2
      generalize steps 4 X = Y at *
      obtain ⟨Gi, hi⟩ : ∃ z, G j = z := ⟨_, rfl⟩
      obtain ⟨Gj, hk⟩ : ∃ z, G (j + 1) = z := ⟨_, rfl⟩
      rw [hi] at e1
      rw [hi]
      rw [hk] at H2
      have HK := Lib.hid hk
      clear hi hk
      go_wp2_with fail
      refine H1.out.mono ?_
      rintro e w1 ⟨rfl, rfl⟩
      go_wp2_with fail
      refine H2.out.mono ?_
      rintro e w2 ⟨rfl, rfl⟩
      go_wp2
      go_round
      case rel => exact ⟨j + 1, by omega, by go_num, by rw [HK.out]⟩
      case measure => simp [intOf]; omega
    · obtain rfl : j = n := by omega
      have e2 := G2.out
      generalize G j = z at *
      go_wp2
      go_ret
      exact ⟨rfl, rfl⟩
theorem sum_any (v : Value) (l : List UInt8) (w : World) (h : Byts w v l) (hl : l.length ≤ 1000000) (hT : Tab w) :
    Calls Tryz.prog 115 #[v] w fun e w' => e = .returned (.int .u32 ((crc 0 l : Nat) : Int)) ∧ w' = w := by
  have H := Lib.hid (more_any 0 (by omega) v l w h hl hT)
  generalize crc 0 l = R at *
  clear h hT
  go_enter Tryz.func115, Tryz.ntmps115
  go_wp2_with fail
  refine H.out.mono ?_
  rintro e w1 ⟨rfl, rfl⟩
  go_wp2
  go_ret
  exact ⟨rfl, rfl⟩
end Go.Proofs.YtlcnefeikejcaaaGreatDoor
namespace Go.Proofs.YtlcnefeikejcaaaGreatDoor
open Go.RowKit
open C (steps bt more crc ones pol)
def nine : List UInt8 := [49, 50, 51, 52, 53, 54, 55, 56, 57]
def nineC : Array Value := #[.int .u8 49, .int .u8 50, .int .u8 51, .int .u8 52, .int .u8 53, .int .u8 54, .int .u8 55, .int .u8 56, .int .u8 57]
end Go.Proofs.YtlcnefeikejcaaaGreatDoor
namespace Go.Proofs.YtlcnefeikejcaaaGreatDoor
open Go.RowKit
open C (crc)
def Cvs (w : World) (v : Value) (s : ByteArray) : Prop := ∀ W, Below w.heap.size w W → (convert 48 9 v).run Tryz.prog W = .ok (.string s) W
theorem Cvs.below {w w1 : World} {v : Value} {s : ByteArray} (h : Cvs w v s) (hb : Below w.heap.size w w1) : Cvs w1 v s := fun W hW => h W (btr hb hW)
theorem Byts.form {w : World} {v : Value} {l : List UInt8} (h : Byts w v l) : ∃ A c, v = .slice A l.length c := by
  obtain ⟨A, c, e, _⟩ := h
  exact ⟨A, c, e⟩
theorem same_below {f : FuncId} {args : Array Value} {W : World} {v : Value} (h : Calls Tryz.prog f args W fun e w' => e = .returned v ∧ w' = W) :
    Calls Tryz.prog f args W fun e w' => e = .returned v ∧ Below W.heap.size W w' :=
  h.mono fun _ _ ⟨e, hw⟩ => ⟨e, by subst hw; exact Below.refl _ _⟩
end Go.Proofs.YtlcnefeikejcaaaGreatDoor
namespace Go.Proofs.YtlcnefeikejcaaaGreatDoor
open Go.RowKit
theorem str_eq (l m : List UInt8) : ((str l).toList == (str m).toList) = decide (l = m) := by
  rw [str_toList, str_toList]
  by_cases h : l = m
  · simp [h]
  · simp [h]
theorem four_vals (n : Nat) (hn : n < 4294967296) : (#[Value.int .u8 ((n : Int) / 16777216), Value.int .u8 ((n : Int) / 65536 % 256), Value.int .u8 ((n : Int) / 256 % 256), Value.int .u8 ((n : Int) % 256)] : Array Value) = (bvs (G.four n)).toArray := by
  simp only [bvs, G.four, List.map_cons, List.map_nil, UInt8.toNat_ofNat']
  congr 2
  · congr 1; omega
theorem two_vals (n : Nat) (hn : n < 65536) : (#[Value.int .u8 ((n : Int) / 256), Value.int .u8 ((n : Int) % 256)] : Array Value) = (bvs (G.two n)).toArray := by
  simp only [bvs, G.two, List.map_cons, List.map_nil, UInt8.toNat_ofNat']
  congr 2
  · congr 1; omega
theorem fourbytes_any (n : Nat) (hn : n < 4294967296) (w : World) :
    Calls Tryz.prog 114 #[.int .u32 (n : Int)] w fun e w' => ∃ v, e = .returned v ∧ Byts w' v (G.four n) ∧ Below w.heap.size w w' := by
  go_enter Tryz.func114, Tryz.ntmps114
  go_wp2
  go_ret
  refine ⟨_, rfl, ?_, alb _⟩
  rw [four_vals n hn]
  exact Byts.lit w (G.four n) (by rw [G.four_length]; omega)
theorem twobytes_any (n : Nat) (hn : n < 65536) (w : World) :
    Calls Tryz.prog 180 #[.int .i64 (n : Int)] w fun e w' => ∃ v, e = .returned v ∧ Byts w' v (G.two n) ∧ Below w.heap.size w w' := by
  go_enter Tryz.func180, Tryz.ntmps180
  go_wp2
  go_ret
  refine ⟨_, rfl, ?_, alb _⟩
  rw [two_vals n hn]
  exact Byts.lit w (G.two n) (by rw [G.two_length]; omega)
theorem equal_any (a b : Value) (l m : List UInt8) (w : World) (ha : Byts w a l) (hb : Byts w b m) :
    Calls Tryz.prog 113 #[a, b] w fun e w' => e = .returned (.bool (decide (l = m))) ∧ w' = w := by
  have h1 := ha.conv
  have h2 := hb.conv
  rw [← str_eq]
  clear ha hb
  generalize str l = sl at *
  generalize str m = sm at *
  go_enter Tryz.func113, Tryz.ntmps113
  go_wp2
  go_ret
  exact ⟨rfl, rfl⟩
theorem noughts_any (v : Value) (l : List UInt8) (w : World) (h : Byts w v l) (hl : l.length ≤ 1000000) :
    Calls Tryz.prog 116 #[v] w fun e w' => e = .returned (.bool (G.zeros l)) ∧ w' = w := by
  obtain ⟨A, c, rfl, hc, h⟩ := h
  have H : Hid (∀ j, j < l.length → ∃ b off x, A = some ⟨b, off, none⟩ ∧ w.cell? ⟨b, off + j, none⟩ = some (.int .u8 ((x : Nat) : Int)) ∧ x < 256 ∧ x = (l.getD j 0).toNat) := by
    intro j hj
    obtain ⟨b, off, e, q⟩ := h (by omega)
    exact ⟨b, off, _, e, q j hj, C.u8_lt _, by simp [List.getD, hj]⟩
  clear h
  have HN : Hid (∀ j, j < l.length → (l.getD j 0).toNat ≠ 0 → G.zeros l = false) := by
    intro j hj hx
    rw [← Bool.not_eq_true]
    unfold G.zeros
    intro k
    rw [List.all_eq_true] at k
    have := k l[j] (by simp)
    apply hx
    have e : l[j] = 0 := by simpa using this
    simp [List.getD, hj, e]
  have HY : Hid ((∀ j, j < l.length → (l.getD j 0).toNat = 0) → G.zeros l = true) := by
    intro k
    unfold G.zeros
    rw [List.all_eq_true]
    intro x hx
    obtain ⟨j, hj, rfl⟩ := List.getElem_of_mem hx
    have := k j hj
    simp [List.getD, hj] at this
    simpa using UInt8.toNat_inj.1 this
  generalize G.zeros l = z at *
  generalize l.length = n at *
  go_enter Tryz.func116, Tryz.ntmps116
  go_wp2
  go_loop [7] (fun i => ∃ j : Nat, j ≤ n ∧ i = .int .i64 (j : Int) ∧ Hid (∀ k, k < j → (l.getD k 0).toNat = 0)) (fun i => n - (intOf i).toNat)
  case atStart => exact ⟨0, by omega, rfl, fun k hk => by omega⟩
  case round =>
    obtain ⟨j, hj, rfl, HZ⟩ := hrel
    by_cases hlt : j < n
    · obtain ⟨b, off, x, rfl, a0, hx, ex⟩ := H.out j hlt
      by_cases h0 : x = 0
      · have HE : Hid ((l.getD j 0).toNat = 0) := by rw [h0] at ex; exact ex.symm
        subst h0
        clear ex
        go_wp2
        go_round
        case rel =>
          refine ⟨j + 1, by omega, by go_num, fun k hk => ?_⟩
          by_cases e : k = j
          · subst e; exact HE.out
          · exact HZ.out k (by omega)
        case measure => simp [intOf]; omega
      · have HE := Lib.hid (HN.out j hlt (by rw [← ex]; exact h0))
        have hb : ((x : Int) != 0) = true := by rw [bne_iff_ne]; omega
        clear ex
        go_wp2
        go_ret
        exact ⟨by rw [HE.out]; rfl, rfl⟩
    · obtain rfl : j = n := by omega
      have HE := Lib.hid (HY.out HZ.out)
      go_wp2
      go_ret
      exact ⟨by rw [HE.out]; rfl, rfl⟩
end Go.Proofs.YtlcnefeikejcaaaGreatDoor
namespace Go.Proofs.YtlcnefeikejcaaaGreatDoor
open Go.RowKit
open C (crc)
def Blk (w : World) (g : Nat) (l : List UInt8) : Prop := w.heap[g]? = some (.cells (bvs l).toArray 5 (0, 0)) ∧ l.length = 512
theorem Blk.lt {w : World} {g : Nat} {l : List UInt8} (h : Blk w g l) : g < w.heap.size := (Array.getElem?_eq_some_iff.1 h.1).1
theorem Blk.below {w w1 : World} {g : Nat} {l : List UInt8} (h : Blk w g l) (hb : Below w.heap.size w w1) : Blk w1 g l := ⟨(hb.block g h.lt).trans h.1, h.2⟩
theorem Blk.own {w : World} {g : Nat} {l : List UInt8} (h : Blk w g l) (base : Nat) (hb : base ≤ g) : w.ownsRow base 5 1 (.slice (some ⟨g, 0, none⟩) 512 512) 512 (bvs l) :=
  own_of h.1 hb (by rw [bvs_length]; exact h.2) (by unfold maxLen; omega)
theorem Blk.of_own {w : World} {base g : Nat} {l : List UInt8} (hl : l.length = 512) (h : w.ownsRow base 5 1 (.slice (some ⟨g, 0, none⟩) 512 512) 512 (bvs l)) : Blk w g l := ⟨own_heap h, hl⟩
theorem Blk.cell {w : World} {g : Nat} {l : List UInt8} (h : Blk w g l) (j : Nat) (hj : j < 512) : w.cell? ⟨g, j, none⟩ = some (.int .u8 (((l.getD j 0).toNat : Nat) : Int)) := by
  have hl := h.2
  rw [(h.own 0 (Nat.zero_le _)).cellAt j hj, bvs_get l j (by omega)]
  simp [List.getD, show j < l.length by omega]
theorem Blk.frozen {w : World} {g : Nat} {l : List UInt8} (h : Blk w g l) (j : Nat) : w.frozen? ⟨g, j, none⟩ = false := (h.own 0 (Nat.zero_le _)).frozenAt j
theorem Blk.set {w : World} {g : Nat} {l : List UInt8} (h : Blk w g l) (p : Nat) (x : UInt8) : Blk (w.setCell ⟨g, p, none⟩ (.int .u8 ((x.toNat : Nat) : Int))) g (l.set p x) := by
  have q := ((h.own 0 (Nat.zero_le _)).stored p (.int .u8 ((x.toNat : Nat) : Int))).1
  rw [← bvs_set] at q
  exact Blk.of_own (by simpa using h.2) q
theorem Blk.from {w : World} {g : Nat} {l : List UInt8} (h : Blk w g l) (f : Nat) (hf : f ≤ 512) : Byts w (.slice (some ⟨g, f, none⟩) (512 - f) (512 - f)) (l.drop f) := by
  have e : (l.drop f).length = 512 - f := by rw [List.length_drop, h.2]
  refine ⟨_, _, by rw [e], by rw [e]; exact Nat.le_refl _, fun _ => ⟨g, f, rfl, fun j hj => ?_⟩⟩
  rw [e] at hj
  rw [h.cell (f + j) (by omega)]
  have hl := h.2
  simp [List.getD, show f + j < l.length by omega]
theorem Blk.byts {w : World} {g : Nat} {l : List UInt8} (h : Blk w g l) : Byts w (.slice (some ⟨g, 0, none⟩) 512 512) l := h.from 0 (by omega)
theorem splice_bvs (l m : List UInt8) (off : Nat) : splice (bvs l) off (bvs m) = bvs (splice l off m) := by
  unfold splice
  rw [bvs_append, bvs_append, bvs_length]
  simp [bvs]
theorem Tryz.sizeB : (Tryz.prog.info? 5).map (·.size) = some 1 := by kernel_rfl
theorem wp_into {w : World} {o : Oper} {a : Act} {K : Act → World → Prop} {Q : Exit → Act → World → Prop} (hgd : o.guard = none) (d s : Operand)
    (ho : o.op = .call { callee := .builtin .copy, args := #[d, s], argTypes := #[48, 48] }) (g off : Nat) (l m : List UInt8) (vs : Value)
    (hd : a.eval d = .slice (some ⟨g, off, none⟩) (512 - off) (512 - off)) (hs : a.eval s = vs) (hb : Blk w g l) (hm : Byts w vs m) (hfit : off + m.length ≤ 512) (B : Nat) (w0 : World) (hB : Below B w0 w) (hBg : B ≤ g)
    (h : ∀ w', Hid (Blk w' g (splice l off m)) → Below B w0 w' → K (a.put o.dst (goInt m.length)) w') : Oper.wp Tryz.prog o a w K Q := by
  obtain ⟨A, c, rfl, hc, hm⟩ := hm
  have e : Nat.min m.length (512 - off) = m.length := Nat.min_eq_left (by omega)
  have key := step_copy_splice (P := Tryz.prog) (ops := #[]) (o := o) (a := a) (w := w) (K := K) (Q := Q) (E := True) hgd d s 48 48 ho 5 Tryz.underlying48 Tryz.sizeB _ A (512 - off) (512 - off) m.length c hd hs g off (bvs l) 5 hb.1 (bvs m)
    (by rw [bvs_length, e]) (fun hpos => by
      rw [bvs_length] at hpos
      obtain ⟨b, off2, e2, q⟩ := hm hpos
      refine ⟨rfl, _, e2, fun j v hj => ?_⟩
      have hjl : j < m.length := by rw [← bvs_length]; exact (List.getElem?_eq_some_iff.1 hj).1
      rw [bvs_get m j hjl] at hj
      have e : (⟨b, off2, Option.none⟩ : Addr).add j = ⟨b, off2 + j, Option.none⟩ := by unfold Addr.add; split <;> simp_all
      rw [e, ← hj]
      exact q j hjl) (by rw [bvs_length, bvs_length, hb.2]; exact hfit) (bvs_one m) B w0 hB hBg (fun w' h1 h2 => by
      rw [bvs_length]
      refine h w' ⟨?_, by rw [length_splice l off m (by rw [hb.2]; exact hfit), hb.2]⟩ h2
      rw [← splice_bvs]
      exact h1.out)
  rw [if_pos (by simp [Region.wanted, hgd])] at key
  exact key
theorem wpList_into {w : World} {ops : Array Oper} {rest : List Oper} {o : Oper} {a : Act} {Q : Exit → Act → World → Prop} (hgd : o.guard = none) (d s : Operand)
    (ho : o.op = .call { callee := .builtin .copy, args := #[d, s], argTypes := #[48, 48] }) (g off : Nat) (l m : List UInt8) (vs : Value)
    (hd : a.eval d = .slice (some ⟨g, off, none⟩) (512 - off) (512 - off)) (hs : a.eval s = vs) (hb : Blk w g l) (hm : Byts w vs m) (hfit : off + m.length ≤ 512) (B : Nat) (w0 : World) (hB : Below B w0 w) (hBg : B ≤ g)
    (h : ∀ w', Hid (Blk w' g (splice l off m)) → Below B w0 w' → wpList Tryz.prog ops Q rest (a.put o.dst (goInt m.length)) w') : wpList Tryz.prog ops Q (o :: rest) a w :=
  wpList_plain hgd fun _ hK => wp_into hgd d s ho g off l m vs hd hs hb hm hfit B w0 hB hBg (fun w' h1 h2 => hK _ _ (h w' h1 h2))
theorem lay (n : Nat) (k : UInt8) (l : List UInt8) :
    splice (splice ((splice (List.replicate 512 0) 4 (G.four n)).set 8 k) 9 (G.two l.length)) 12 l = [0, 0, 0, 0] ++ G.rest n k l := by
  have e : splice ((splice (List.replicate 512 0) 4 (G.four n)).set 8 k) 9 (G.two l.length) = [0, 0, 0, 0] ++ (G.four n ++ (k :: (G.two l.length ++ (0 :: List.replicate 500 0)))) := by rfl
  rw [e]
  have e2 : ([0, 0, 0, 0] ++ (G.four n ++ (k :: (G.two l.length ++ (0 :: List.replicate 500 0))))).drop (12 + l.length) = List.replicate (500 - l.length) (0 : UInt8) := by
    rw [← List.drop_drop]
    show (List.replicate 500 (0 : UInt8)).drop l.length = _
    exact List.drop_replicate
  unfold splice
  rw [e2]
  rfl
theorem lay_sum (n : Nat) (k : UInt8) (l : List UInt8) : splice ([0, 0, 0, 0] ++ G.rest n k l) 0 (G.four (crc 0 (([0, 0, 0, 0] ++ G.rest n k l).drop 4))) = G.page n k l := by rfl
set_option maxHeartbeats 1600000 in
set_option maxRecDepth 100000 in
theorem seal_core (n len : Nat) (k : UInt8) (A : Option Addr) (c : Nat) (l : List UInt8) (w : World) (hl : len ≤ 500) (hn : n < 4294967296) (HL : Hid (l.length = len)) (HV : Hid (Byts w (.slice A len c) l)) (HT : Hid (Tab w)) :
    Calls Tryz.prog 172 #[.int .u32 (n : Int), .int .u8 ((k.toNat : Nat) : Int), .slice A len c] w fun e w' => e = .returned (.tuple #[.slice (some ⟨w.heap.size, 0, none⟩) 512 512, .int .i64 0]) ∧ Blk w' w.heap.size (G.page n k l) ∧ Below w.heap.size w w' := by
  obtain ⟨i0, hi0, hz0, hz1, hz2⟩ := info_parts Tryz.info5
  have hk := C.u8_lt k
  go_enter Tryz.func172, Tryz.ntmps172
  go_wp2_with (first
    | (refine wpList_make_full _ rfl _ _ 48 rfl w.heap.size 5 i0 _ 1 Tryz.underlying48 hi0 hz0 hz1 _ _ _ _ 512 rfl rfl ?l1 ?l2 ?l3 ?l4 ?l5 ?_)
    | go_in)
  case l1 => rfl
  case l2 => rfl
  case l3 => rw [hz2]; omega
  case l4 => unfold maxLen; omega
  case l5 => exact Nat.le_refl _
  intro w1 hown hgrow
  have hB : Below w.heap.size w w1 := (Below.refl _ _).grown hgrow (Nat.le_refl _) (by intro g hg; cases hg)
  rw [made_zeros] at hown
  have HK : Hid (Blk w1 w.heap.size (List.replicate 512 0)) := Blk.of_own List.length_replicate hown
  clear hown hgrow hi0 hz0 hz1 hz2 i0
  go_wp2_with fail
  have hS : Hid (Below w1.heap.size w1 w1.drew) := (Below.refl _ _).drew
  refine lz_start 5 4 (fun W => Below w1.heap.size w1 W) rfl (by kernel_rfl) ?_
  refine lr_take 0 13 (v := ?_) rfl rfl (by kernel_rfl) (by kernel_rfl) (by kernel_rfl) (by kernel_rfl) (by kernel_rfl) (fun _ _ _ _ _ h => h) (by rfl) hS.out (fun W hW => ?_) ?_
  rotate_left
  · go_simp; try rfl
  try simp only [Act.put, List.setIfInBounds_toArray, List.set_cons_zero, List.set_cons_succ]
  refine lr_take 1 14 (v := ?_) rfl rfl (by kernel_rfl) (by kernel_rfl) (by kernel_rfl) (by kernel_rfl) (by kernel_rfl) (fun _ _ _ _ _ h => h) (by rfl) hS.out (fun W hW => ?_) ?_
  rotate_left
  · go_simp; try rfl
  try simp only [Act.put, List.setIfInBounds_toArray, List.set_cons_zero, List.set_cons_succ]
  refine lr_take 2 15 (v := ?_) rfl rfl (by kernel_rfl) (by kernel_rfl) (by kernel_rfl) (by kernel_rfl) (by kernel_rfl) (fun _ _ _ _ _ h => h) (by rfl) hS.out (fun W hW => ?_) ?_
  rotate_left
  · go_simp; try rfl
  try simp only [Act.put, List.setIfInBounds_toArray, List.set_cons_zero, List.set_cons_succ]
  refine lz_op 3 rfl rfl (by kernel_rfl) (fun K hK => ?_)
  go_simp
  refine (fourbytes_any n hn w1.drew).mono ?_
  rintro e w2 ⟨v2, rfl, hy2, hb2⟩
  refine hK.out _ _ (btr hS.out hb2) ?_
  clear hK K
  replace HK := Lib.hid (HK.out.below (btr hS.out hb2))
  replace hB := btr hB (btr hS.out hb2)
  have HY := Lib.hid hy2
  clear hy2 hb2 hS
  refine lz_end rfl rfl (by kernel_rfl) (by kernel_rfl) (fun K hK => ?_)
  refine wp_into rfl (.tmp 14) (.tmp 16) rfl w.heap.size 4 _ (G.four n) v2 rfl rfl HK.out HY.out (by rw [G.four_length]; omega) w.heap.size w hB (Nat.le_refl _) ?_
  intro w3 HK3 hB3
  refine hK.out _ _ ?_
  clear hK K HK HY hB
  have c8 := HK3.out.cell 8 (by omega)
  have f8 := HK3.out.frozen 8
  obtain ⟨y8, h8⟩ : ∃ y : Nat, y = (List.getD (splice (List.replicate 512 0) 4 (G.four n)) 8 0).toNat := ⟨_, rfl⟩
  rw [← h8] at c8
  clear h8
  have HK4 := Lib.hid (HK3.out.set 8 k)
  have hB4 : Hid (Below w.heap.size w (w3.setCell ⟨w.heap.size, 8, none⟩ (.int .u8 ((k.toNat : Nat) : Int)))) := hB3.setCell (Nat.le_refl _) _
  obtain ⟨l4, h4⟩ : ∃ l4, l4 = (splice (List.replicate 512 0) 4 (G.four n)).set 8 k := ⟨_, rfl⟩
  have HL4 := Lib.hid h4
  rw [← h4] at HK4
  clear h4 HK3 hB3
  go_wp2_with fail
  generalize w3.setCell ⟨w.heap.size, 8, none⟩ (.int .u8 ((k.toNat : Nat) : Int)) = w4 at *
  clear c8 f8
  have hS : Hid (Below w4.heap.size w4 w4.drew) := (Below.refl _ _).drew
  refine lz_start 6 5 (fun W => Below w4.heap.size w4 W) rfl (by kernel_rfl) ?_
  refine lr_take 0 21 (v := ?_) rfl rfl (by kernel_rfl) (by kernel_rfl) (by kernel_rfl) (by kernel_rfl) (by kernel_rfl) (fun _ _ _ _ _ h => h) (by rfl) hS.out (fun W hW => ?_) ?_
  rotate_left
  · go_simp; try rfl
  try simp only [Act.put, List.setIfInBounds_toArray, List.set_cons_zero, List.set_cons_succ]
  refine lr_take 1 22 (v := ?_) rfl rfl (by kernel_rfl) (by kernel_rfl) (by kernel_rfl) (by kernel_rfl) (by kernel_rfl) (fun _ _ _ _ _ h => h) (by rfl) hS.out (fun W hW => ?_) ?_
  rotate_left
  · go_simp; try rfl
  try simp only [Act.put, List.setIfInBounds_toArray, List.set_cons_zero, List.set_cons_succ]
  refine lr_take 2 23 (v := ?_) rfl rfl (by kernel_rfl) (by kernel_rfl) (by kernel_rfl) (by kernel_rfl) (by kernel_rfl) (fun _ _ _ _ _ h => h) (by rfl) hS.out (fun W hW => ?_) ?_
  rotate_left
  · go_simp; try rfl
  try simp only [Act.put, List.setIfInBounds_toArray, List.set_cons_zero, List.set_cons_succ]
  refine lr_take 3 24 (v := ?_) rfl rfl (by kernel_rfl) (by kernel_rfl) (by kernel_rfl) (by kernel_rfl) (by kernel_rfl) (fun _ _ _ _ _ h => h) (by rfl) hS.out (fun W hW => ?_) ?_
  rotate_left
  · go_simp; try rfl
  try simp only [Act.put, List.setIfInBounds_toArray, List.set_cons_zero, List.set_cons_succ]
  refine lz_op 4 rfl rfl (by kernel_rfl) (fun K hK => ?_)
  go_simp
  refine (twobytes_any len (by omega) w4.drew).mono ?_
  rintro e w5 ⟨v5, rfl, hy5, hb5⟩
  refine hK.out _ _ (btr hS.out hb5) ?_
  clear hK K
  have HK5 := Lib.hid (HK4.out.below (btr hS.out hb5))
  have hB5 := btr hB4.out (btr hS.out hb5)
  have HY := Lib.hid hy5
  clear hy5 hb5 hS HK4 hB4
  refine lz_end rfl rfl (by kernel_rfl) (by kernel_rfl) (fun K hK => ?_)
  refine wp_into rfl (.tmp 22) (.tmp 25) rfl w.heap.size 9 _ (G.two len) v5 rfl rfl HK5.out HY.out (by rw [G.two_length]; omega) w.heap.size w hB5 (Nat.le_refl _) ?_
  intro w6 HK6 hB6
  refine hK.out _ _ ?_
  clear hK K HK5 HY hB5
  go_wp2_with (first
    | (refine wpList_into rfl (.tmp 28) (.tmp 29) rfl w.heap.size 12 _ l _ rfl rfl HK6.out (HV.out.below hB6) ?m1 w.heap.size w hB6 (Nat.le_refl _) ?_)
    | go_in)
  case m1 => rw [HL.out]; omega
  intro w7 HK7 hB7
  have hlay := lay n k l
  rw [HL.out, ← HL4.out] at hlay
  rw [hlay] at HK7
  clear hlay HK6 hB6 HL4
  go_wp2_with fail
  have hS : Hid (Below w7.heap.size w7 w7.drew) := (Below.refl _ _).drew
  refine lz_start 7 6 (fun W => Below w7.heap.size w7 W) rfl (by kernel_rfl) ?_
  refine lr_take 0 31 (v := ?_) rfl rfl (by kernel_rfl) (by kernel_rfl) (by kernel_rfl) (by kernel_rfl) (by kernel_rfl) (fun _ _ _ _ _ h => h) (by rfl) hS.out (fun W hW => ?_) ?_
  rotate_left
  · go_simp; try rfl
  try simp only [Act.put, List.setIfInBounds_toArray, List.set_cons_zero, List.set_cons_succ]
  refine lr_take 1 32 (v := ?_) rfl rfl (by kernel_rfl) (by kernel_rfl) (by kernel_rfl) (by kernel_rfl) (by kernel_rfl) (fun _ _ _ _ _ h => h) (by rfl) hS.out (fun W hW => ?_) ?_
  rotate_left
  · go_simp; try rfl
  try simp only [Act.put, List.setIfInBounds_toArray, List.set_cons_zero, List.set_cons_succ]
  refine lr_take 2 33 (v := ?_) rfl rfl (by kernel_rfl) (by kernel_rfl) (by kernel_rfl) (by kernel_rfl) (by kernel_rfl) (fun _ _ _ _ _ h => h) (by rfl) hS.out (fun W hW => ?_) ?_
  rotate_left
  · go_simp; try rfl
  try simp only [Act.put, List.setIfInBounds_toArray, List.set_cons_zero, List.set_cons_succ]
  refine lr_take 3 34 (v := ?_) rfl rfl (by kernel_rfl) (by kernel_rfl) (by kernel_rfl) (by kernel_rfl) (by kernel_rfl) (fun _ _ _ _ _ h => h) (by rfl) hS.out (fun W hW => ?_) ?_
  rotate_left
  · go_simp; try rfl
  try simp only [Act.put, List.setIfInBounds_toArray, List.set_cons_zero, List.set_cons_succ]
  refine lz_op 4 rfl rfl (by kernel_rfl) (fun K hK => ?_)
  go_simp
  refine (sum_any _ (List.drop 4 ([0, 0, 0, 0] ++ G.rest n k l)) w7.drew ((HK7.out.below hS.out).from 4 (by omega)) ?m2 (HT.out.below (btr hB7 hS.out))).mono ?_
  case m2 => rw [List.length_drop, HK7.out.2]; omega
  rintro e w8 ⟨rfl, rfl⟩
  refine hK.out _ _ hS.out ?_
  clear hK K
  have hcl : crc 0 (List.drop 4 ([0, 0, 0, 0] ++ G.rest n k l)) < 4294967296 := C.crc_lt _ (by omega)
  obtain ⟨x, hx⟩ : ∃ x, x = crc 0 (List.drop 4 ([0, 0, 0, 0] ++ G.rest n k l)) := ⟨_, rfl⟩
  rw [← hx] at hcl
  have HX := Lib.hid hx
  rw [← hx]
  clear hx
  refine lz_op 5 rfl rfl (by kernel_rfl) (fun K hK => ?_)
  go_simp
  refine (fourbytes_any x hcl w7.drew).mono ?_
  rintro e w8 ⟨v8, rfl, hy8, hb8⟩
  refine hK.out _ _ (btr hS.out hb8) ?_
  clear hK K
  have HK8 := Lib.hid (HK7.out.below (btr hS.out hb8))
  have hB8 := btr hB7 (btr hS.out hb8)
  have HY := Lib.hid hy8
  clear hy8 hb8 hS HK7 hB7
  refine lz_end rfl rfl (by kernel_rfl) (by kernel_rfl) (fun K hK => ?_)
  refine wp_into rfl (.tmp 32) (.tmp 36) rfl w.heap.size 0 _ (G.four x) v8 rfl rfl HK8.out HY.out (by rw [G.four_length]; omega) w.heap.size w hB8 (Nat.le_refl _) ?_
  intro w9 HK9 hB9
  refine hK.out _ _ ?_
  clear hK K HK8 HY hB8
  have hlay := lay_sum n k l
  rw [← HX.out] at hlay
  rw [hlay] at HK9
  clear hlay HX
  go_wp2
  go_ret2
  exact ⟨rfl, HK9.out, hB9⟩
theorem seal_page (n : Nat) (hn : n < 4294967296) (k : UInt8) (v : Value) (l : List UInt8) (w : World) (h : Byts w v l) (hl : l.length ≤ 500) (hT : Tab w) :
    Calls Tryz.prog 172 #[.int .u32 (n : Int), .int .u8 ((k.toNat : Nat) : Int), v] w fun e w' => e = .returned (.tuple #[.slice (some ⟨w.heap.size, 0, none⟩) 512 512, .int .i64 0]) ∧ Blk w' w.heap.size (G.page n k l) ∧ Below w.heap.size w w' := by
  obtain ⟨A, c, rfl⟩ := h.form
  exact seal_core n l.length k A c l w hl hn rfl h hT
theorem seal_long (n k : Int) (A : Option Addr) (c len : Nat) (w : World) (hl : 500 < len) :
    Calls Tryz.prog 172 #[.int .u32 n, .int .u8 k, .slice A len c] w fun e w' => e = .returned (.tuple #[.slice none 0 0, .int .i64 3]) ∧ w' = w := by
  go_enter Tryz.func172, Tryz.ntmps172
  go_wp2
  go_ret2
  exact ⟨rfl, rfl⟩
theorem seal_any (n : Nat) (hn : n < 4294967296) (k : UInt8) (v : Value) (l : List UInt8) (w : World) (h : Byts w v l) (hT : Tab w) :
    Calls Tryz.prog 172 #[.int .u32 (n : Int), .int .u8 ((k.toNat : Nat) : Int), v] w fun e w' => ∃ v', e = .returned (.tuple #[v', .int .i64 ((G.sealE l : Nat) : Int)]) ∧ Byts w' v' (G.sealL n k l) ∧ Below w.heap.size w w' := by
  by_cases hl : l.length ≤ 500
  · have e1 : G.sealE l = 0 := if_pos hl
    have e2 : G.sealL n k l = G.page n k l := if_pos hl
    rw [e1, e2]
    exact (seal_page n hn k v l w h hl hT).mono fun e w' ⟨h1, h2, h3⟩ => ⟨_, h1, h2.byts, h3⟩
  · have e1 : G.sealE l = 3 := if_neg hl
    have e2 : G.sealL n k l = [] := if_neg hl
    rw [e1, e2]
    obtain ⟨A, c, rfl⟩ := h.form
    exact (seal_long _ _ A c l.length w (by omega)).mono fun e w' ⟨h1, h2⟩ => ⟨_, h1, Byts.none _, by subst h2; exact Below.refl _ _⟩
end Go.Proofs.YtlcnefeikejcaaaGreatDoor
namespace Go.Proofs.YtlcnefeikejcaaaGreatDoor
open Go.RowKit Go.Sort Go.Maps
open D (St)
set_option maxRecDepth 100000
theorem DTurned.refl {w : World} {p g : Nat} {wv : Value} {s : St} (h : Dsk w p g wv s) : DTurned w w p g wv s := ⟨wv, h, Keep.refl _ _, fun _ hb => .inl hb⟩
theorem DTurned.pre {w w1 w2 : World} {p g : Nat} {wv : Value} {s : St} (hb : Below w.heap.size w w1) (h : DTurned w1 w2 p g wv s) : DTurned w w2 p g wv s := by
  obtain ⟨wv', d, k, f⟩ := h
  exact ⟨wv', d, (Keep.of_below hb).trans k (fun i hi => .inl hi), fun b hq => (f b hq).imp id (fun q => Nat.le_trans hb.size q)⟩
theorem DTurned.post {w w1 w2 : World} {p g : Nat} {wv : Value} {s : St} (h : DTurned w w1 p g wv s) (hb : Below w1.heap.size w1 w2) : DTurned w w2 p g wv s := by
  obtain ⟨wv', d, k, f⟩ := h
  exact ⟨wv', d.below hb, k.step hb, f⟩
theorem DTurned.andThen {w w1 w2 : World} {p g : Nat} {wv : Value} {s s2 : St} (h : DTurned w w1 p g wv s) (h2 : ∀ wv', Dsk w1 p g wv' s → DTurned w1 w2 p g wv' s2) : DTurned w w2 p g wv s2 := by
  obtain ⟨wv', d, k, f⟩ := h
  obtain ⟨wv2, d2, k2, f2⟩ := h2 wv' d
  refine ⟨wv2, d2, k.trans k2 (fun i hi => ?_), fun b hb => ?_⟩
  · rcases hi with q | q | q
    · exact .inl (.inl q)
    · exact .inl (.inr (.inl q))
    · exact (f i q).imp (fun q => .inr (.inr q)) id
  rcases f2 b hb with q | q
  · exact f b q
  · exact .inr (Nat.le_trans k.size q)
theorem run_build_cont2 (k : Nat) (A : Option Addr) (z c : Nat) (w : World) : (Instr.build 140 #[(0, .int .u8 (k : Int)), (1, .slice A z c)]).run Tryz.prog w = .ok (.agg #[.int .u8 (k : Int), .slice A z c]) w := run_build w _ _ _ (by kernel_rfl)
set_option maxHeartbeats 800000 in
theorem writepage_any (w : World) (p dp g : Nat) (wv : Value) (d : St) (hd : Dsk w dp g wv d) (hc : w.cell? ⟨p, 0, none⟩ = some (.pointer (some ⟨dp, 0, none⟩))) (n : Nat) (hn : n < 4294967296) (k : UInt8) (v : Value) (l : List UInt8) (hv : Byts w v l) (hT : Tab w) (h1 : d.waits.length ≤ 1000000) (h2 : d.writes ≤ 1000000) :
    Calls Tryz.prog 169 #[.pointer (some ⟨p, 0, none⟩), .int .u32 (n : Int), cva k v] w fun e w' => e = .returned (.int .i64 (D.writeE d (n : Int) (G.sealL n k l))) ∧ DTurned w w' dp g wv (D.write d (n : Int) (G.sealL n k l)) := by
  obtain ⟨A0, c0, rfl, -⟩ := id hv
  have HB : Hid (Below w.heap.size w (w.alloc (.cells #[.int .u8 ((k.toNat : Nat) : Int), .slice A0 l.length c0] 140))) := alb _
  have hcl : ∀ j, (w.alloc (.cells #[.int .u8 ((k.toNat : Nat) : Int), .slice A0 l.length c0] 140)).cell? ⟨w.heap.size, j, none⟩ = (#[.int .u8 ((k.toNat : Nat) : Int), .slice A0 l.length c0] : Array Value)[j]? := fun j => World.cell?_alloc_at _ _ _ _ rfl
  have C0 := Lib.hid (kept hc HB.out)
  have q0 := hcl 0
  have q1 := hcl 1
  have CC := Lib.hid (kept hc HB.out)
  have SS := Lib.hid (seal_any n hn k (.slice A0 l.length c0) l _ (hv.below HB.out) (hT.below HB.out))
  have HW : Hid (∀ (W : World) b, Below w.heap.size w W → Byts W b (G.sealL n k l) → Calls Tryz.prog 13 #[.pointer (some ⟨dp, 0, none⟩), .int .i64 (n : Int), b] W fun e w' => e = .returned (.int .i64 (D.writeE d (n : Int) (G.sealL n k l))) ∧ DTurned W w' dp g wv (D.write d (n : Int) (G.sealL n k l))) :=
    fun W b hW hb => dwrite_any (hd.below hW) (n : Int) b _ hb h1 h2
  have hw : IntKind.i64.wrap (n : Int) = (n : Int) := by rw [IntKind.wrap_i64]; omega
  obtain ⟨kn, hkn⟩ : ∃ z, z = ((k.toNat : Nat) : Int) := ⟨_, rfl⟩
  simp only [cva]
  rw [← hkn] at HB q0 q1 CC SS C0 ⊢
  clear hcl hd hc hv hT h1 h2 hkn C0
  generalize G.sealL n k l = SL at *
  generalize D.writeE d (n : Int) SL = WE at *
  generalize D.write d (n : Int) SL = WD at *
  generalize ((G.sealE l : Nat) : Int) = SE at *
  generalize l.length = L at *
  go_enter Tryz.func169, Tryz.ntmps169
  go_wp2_with (first
    | (go_at_call 13; refine (HW.out _ v1 HB1.out HY.out).mono ?_; rintro e w2 ⟨rfl, t2⟩)
    | (go_at_call 172; refine SS.out.mono ?_; rintro e w1 ⟨v1, rfl, y1, b1⟩; have HB1 := Lib.hid (btr HB.out b1); have HY := Lib.hid y1; have c0' := kept CC.out b1; clear y1 b1))
  go_ret
  exact ⟨rfl, DTurned.pre HB1.out t2⟩
end Go.Proofs.YtlcnefeikejcaaaGreatDoor
namespace Go.Proofs.YtlcnefeikejcaaaGreatDoor
open Go.RowKit
open C (crc)
theorem or_low64 (x y : Nat) (hx : x < 256) (hy : y < 256) : bits .or .i64 ((x : Int) * 256) (y : Int) = ((x * 256 + y : Nat) : Int) := by
  have e0 : ((x : Int) * 256) = ((x * 256 : Nat) : Int) := by omega
  have e : x * 256 ||| y = x * 256 + y := by
    have := Nat.two_pow_add_eq_or_of_lt (i := 8) (b := y) (by simpa using hy) x
    rw [Nat.mul_comm x 256]
    exact this.symm
  rw [e0]
  show IntKind.i64.wrap ((BitVec.ofInt 64 ((x * 256 : Nat) : Int) ||| BitVec.ofInt 64 ((y : Nat) : Int)).toNat : Int) = _
  rw [BitVec.toNat_or, ofInt_u64 (x * 256) (by omega), ofInt_u64 y (by omega), e]
  have e2 : ((x * 256 + y : Nat) : Int) % 2 ^ 64 = ((x * 256 + y : Nat) : Int) := Int.emod_eq_of_lt (by omega) (by omega)
  simp only [IntKind.wrap, IntKind.bits, IntKind.signed, e2]
  rw [if_neg]
  simp
  omega
theorem Byts.part {w : World} {b0 off k c : Nat} {l : List UInt8} (h : Byts w (.slice (some ⟨b0, off, Option.none⟩) k c) l) (f t : Nat) (hf : f ≤ t) (ht : t ≤ k) (c' : Nat) (hc' : t - f ≤ c') :
    Byts w (.slice (some ⟨b0, off + f, Option.none⟩) (t - f) c') ((l.drop f).take (t - f)) := by
  obtain ⟨A', c2, e, hc, q⟩ := h
  cases e
  have hl : ((l.drop f).take (t - f)).length = t - f := by simp; omega
  refine ⟨_, _, by rw [hl], by rw [hl]; exact hc', fun hp => ⟨b0, off + f, rfl, fun j hj => ?_⟩⟩
  rw [hl] at hj hp
  obtain ⟨b, off2, e, r⟩ := q (by omega)
  cases e
  rw [Nat.add_assoc, r (f + j) (by omega)]
  simp
theorem Byts.tail {w : World} {b0 off k c : Nat} {l : List UInt8} (h : Byts w (.slice (some ⟨b0, off, Option.none⟩) k c) l) (f : Nat) (hf : f ≤ k) (c' : Nat) (hc' : k - f ≤ c') :
    Byts w (.slice (some ⟨b0, off + f, Option.none⟩) (k - f) c') (l.drop f) := by
  have hl : l.length = k := by obtain ⟨A', c2, e, _⟩ := h; cases e; rfl
  have q := h.part f k hf (Nat.le_refl _) c' hc'
  rwa [List.take_of_length_le (by rw [List.length_drop]; omega)] at q
theorem Byts.cell {w : World} {b0 off k c : Nat} {l : List UInt8} (h : Byts w (.slice (some ⟨b0, off, Option.none⟩) k c) l) (j : Nat) (hj : j < k) :
    w.cell? ⟨b0, off + j, Option.none⟩ = some (.int .u8 (((l.getD j 0).toNat : Nat) : Int)) := by
  obtain ⟨A', c', e, hc, q⟩ := h
  cases e
  obtain ⟨b, off2, e, r⟩ := q (by omega)
  cases e
  rw [r j hj]
  simp [List.getD, hj]
theorem Byts.len {w : World} {A : Option Addr} {k c : Nat} {l : List UInt8} (h : Byts w (.slice A k c) l) : l.length = k := by
  obtain ⟨A', c2, e, _⟩ := h
  cases e
  rfl
theorem splice_whole {α : Type} (L cs : List α) (h : L.length = cs.length) : splice L 0 cs = cs := by
  unfold splice
  rw [List.drop_eq_nil_of_le (by omega)]
  simp
theorem Byts.empty (w : World) (A : Option Addr) (c : Nat) : Byts w (.slice A 0 c) [] := ⟨_, _, rfl, Nat.zero_le _, fun h => by simp at h⟩
set_option maxHeartbeats 1600000 in
theorem open_core (n b0 off c x m : Nat) (l B : List UInt8) (K a8 : UInt8) (E : Int) (s1 s2 s3 : Bool) (a9 a10 a11 : Nat) (w : World) (hc : 512 ≤ c) (hn : n < 4294967296) (hx : x < 4294967296) (h9 : a9 < 256) (h10 : a10 < 256)
    (hm : a9 * 256 + a10 = m)
    (HV : Hid (Byts w (.slice (some ⟨b0, off, none⟩) 512 c) l)) (E9 : Hid ((l.getD 9 0).toNat = a9)) (E10 : Hid ((l.getD 10 0).toNat = a10)) (E11 : Hid ((l.getD 11 0).toNat = a11)) (E8 : Hid (l.getD 8 0 = a8))
    (HS : Hid (∀ W : World, Below w.heap.size w W → Calls Tryz.prog 115 #[.slice (some ⟨b0, off + 4, none⟩) 508 (c - 4)] W fun e w' => e = .returned (.int .u32 (x : Int)) ∧ Below W.heap.size W w'))
    (HQ1 : Hid (∀ (W : World) (v : Value), Below w.heap.size w W → Byts W v (G.four x) → Calls Tryz.prog 113 #[.slice (some ⟨b0, off, none⟩) 4 c, v] W fun e w' => e = .returned (.bool s1) ∧ Below W.heap.size W w'))
    (HQ2 : Hid (∀ (W : World) (v : Value), Below w.heap.size w W → Byts W v (G.four n) → Calls Tryz.prog 113 #[.slice (some ⟨b0, off + 4, none⟩) 4 (c - 4), v] W fun e w' => e = .returned (.bool s2) ∧ Below W.heap.size W w'))
    (HN : Hid (m ≤ 500 → ∀ (W : World) (v : Value), Below w.heap.size w W → Byts W v (l.drop (12 + m)) → Calls Tryz.prog 116 #[v] W fun e w' => e = .returned (.bool s3) ∧ Below W.heap.size W w'))
    (HE1 : Hid (s1 = false → K = 0 ∧ B = [] ∧ E = 8)) (HE2 : Hid (s1 = true → s2 = false → K = 0 ∧ B = [] ∧ E = 4))
    (HE3 : Hid (s1 = true → s2 = true → (a11 ≠ 0 ∨ 500 < m ∨ s3 = false) → K = 0 ∧ B = [] ∧ E = 2))
    (HE4 : Hid (s1 = true → s2 = true → a11 = 0 → m ≤ 500 → s3 = true → K = a8 ∧ B = (l.drop 12).take m ∧ E = 0)) :
    Calls Tryz.prog 69 #[.int .u32 (n : Int), .slice (some ⟨b0, off, none⟩) 512 c] w fun e w' => ∃ v', e = .returned (.tuple #[.int .u8 ((K.toNat : Nat) : Int), v', .int .i64 E]) ∧ Byts w' v' B ∧ Below w.heap.size w w' := by
  have q0 : ¬ c = 0 := by omega
  have q4 : ¬ c = 4 := by omega
  have q12 : ¬ c = 12 := by omega
  have i4 : (4 : Int) ≤ (c : Int) := by omega
  have i8 : (8 : Int) ≤ (c : Int) := by omega
  go_enter Tryz.func69, Tryz.ntmps69
  go_wp2_with fail
  refine lin_start 8 rfl (by kernel_rfl) ?_
  have hB : Below w.heap.size w w.drew := (Below.refl _ _).drew
  generalize w.drew = u at *
  refine lin_take 0 12 (v := ?_) rfl rfl (by kernel_rfl) (by kernel_rfl) (by kernel_rfl) (fun _ _ _ _ _ h => h) (by rfl) (fun W hW => ?_) ?_
  rotate_left
  · go_simp; try rfl
  try simp only [Act.put, List.setIfInBounds_toArray, List.set_cons_zero, List.set_cons_succ]
  refine lin_take 1 13 (v := ?_) rfl rfl (by kernel_rfl) (by kernel_rfl) (by kernel_rfl) (fun _ _ _ _ _ h => h) (by rfl) (fun W hW => ?_) ?_
  rotate_left
  · go_simp; try rfl
  try simp only [Act.put, List.setIfInBounds_toArray, List.set_cons_zero, List.set_cons_succ]
  refine lin_take 2 14 (v := ?_) rfl rfl (by kernel_rfl) (by kernel_rfl) (by kernel_rfl) (fun _ _ _ _ _ h => h) (by rfl) (fun W hW => ?_) ?_
  rotate_left
  · go_simp; try rfl
  try simp only [Act.put, List.setIfInBounds_toArray, List.set_cons_zero, List.set_cons_succ]
  refine lin_take 3 15 (v := ?_) rfl rfl (by kernel_rfl) (by kernel_rfl) (by kernel_rfl) (fun _ _ _ _ _ h => h) (by rfl) (fun W hW => ?_) ?_
  rotate_left
  · go_simp; try rfl
  try simp only [Act.put, List.setIfInBounds_toArray, List.set_cons_zero, List.set_cons_succ]
  refine lin_step 4 rfl (by kernel_rfl) (fun K hK => ?_)
  go_simp
  refine (HS.out _ hB).mono ?_
  rintro e w1 ⟨rfl, h1⟩
  refine hK.out _ _ h1 ?_
  clear hK K
  replace hB := btr hB h1
  clear h1
  refine lin_step 5 rfl (by kernel_rfl) (fun K hK => ?_)
  go_simp
  refine (fourbytes_any x hx _).mono ?_
  rintro e w2 ⟨v2, rfl, hy2, h2⟩
  refine hK.out _ _ h2 ?_
  clear hK K
  replace hB := btr hB h2
  clear h2
  refine lin_step 6 rfl (by kernel_rfl) (fun K hK => ?_)
  go_simp
  refine (HQ1.out _ _ hB hy2).mono ?_
  rintro e w3 ⟨rfl, h3⟩
  refine hK.out _ _ h3 ?_
  clear hK K
  replace hB := btr hB h3
  clear h3 hy2
  refine lin_take 7 19 (v := ?_) rfl rfl (by kernel_rfl) (by kernel_rfl) (by kernel_rfl) (fun _ _ _ _ _ h => h) (by rfl) (fun W hW => ?_) ?_
  rotate_left
  · go_simp; try rfl
  try simp only [Act.put, List.setIfInBounds_toArray, List.set_cons_zero, List.set_cons_succ]
  refine lin_done (by kernel_rfl) ?_
  cases s1 with
  | false =>
    obtain ⟨rfl, rfl, rfl⟩ := HE1.out rfl
    go_wp2
    go_ret3
    exact ⟨_, rfl, Byts.none _, hB⟩
  | true =>
  go_wp2_with fail
  refine lin_start 6 rfl (by kernel_rfl) ?_
  replace hB := hB.drew
  generalize w3.drew = u2 at *
  refine lin_take 0 20 (v := ?_) rfl rfl (by kernel_rfl) (by kernel_rfl) (by kernel_rfl) (fun _ _ _ _ _ h => h) (by rfl) (fun W hW => ?_) ?_
  rotate_left
  · go_simp; try rfl
  try simp only [Act.put, List.setIfInBounds_toArray, List.set_cons_zero, List.set_cons_succ]
  refine lin_take 1 21 (v := ?_) rfl rfl (by kernel_rfl) (by kernel_rfl) (by kernel_rfl) (fun _ _ _ _ _ h => h) (by rfl) (fun W hW => ?_) ?_
  rotate_left
  · go_simp; try rfl
  try simp only [Act.put, List.setIfInBounds_toArray, List.set_cons_zero, List.set_cons_succ]
  refine lin_take 2 22 (v := ?_) rfl rfl (by kernel_rfl) (by kernel_rfl) (by kernel_rfl) (fun _ _ _ _ _ h => h) (by rfl) (fun W hW => ?_) ?_
  rotate_left
  · go_simp; try rfl
  try simp only [Act.put, List.setIfInBounds_toArray, List.set_cons_zero, List.set_cons_succ]
  refine lin_step 3 rfl (by kernel_rfl) (fun K hK => ?_)
  go_simp
  refine (fourbytes_any n hn _).mono ?_
  rintro e w4 ⟨v4, rfl, hy4, h4⟩
  refine hK.out _ _ h4 ?_
  clear hK K
  replace hB := btr hB h4
  clear h4
  refine lin_step 4 rfl (by kernel_rfl) (fun K hK => ?_)
  go_simp
  refine (HQ2.out _ _ hB hy4).mono ?_
  rintro e w5 ⟨rfl, h5⟩
  refine hK.out _ _ h5 ?_
  clear hK K
  replace hB := btr hB h5
  clear h5 hy4
  refine lin_take 5 25 (v := ?_) rfl rfl (by kernel_rfl) (by kernel_rfl) (by kernel_rfl) (fun _ _ _ _ _ h => h) (by rfl) (fun W hW => ?_) ?_
  rotate_left
  · go_simp; try rfl
  try simp only [Act.put, List.setIfInBounds_toArray, List.set_cons_zero, List.set_cons_succ]
  refine lin_done (by kernel_rfl) ?_
  cases s2 with
  | false =>
    obtain ⟨rfl, rfl, rfl⟩ := HE2.out (by first | rfl | trivial) rfl
    go_wp2
    go_ret3
    exact ⟨_, rfl, Byts.none _, hB⟩
  | true =>
  have HV5 := Lib.hid (HV.out.below hB)
  have c8 := HV5.out.cell 8 (by omega)
  have c9 := HV5.out.cell 9 (by omega)
  have c10 := HV5.out.cell 10 (by omega)
  have c11 := HV5.out.cell 11 (by omega)
  rw [E8.out] at c8
  rw [E9.out] at c9
  rw [E10.out] at c10
  rw [E11.out] at c11
  have hor := or_low64 a9 a10 h9 h10
  rw [hm] at hor
  go_wp2_with fail
  go_quiet (fail)
  have hBn := bdn hB nq
  have HVn := Lib.hid (HV5.out.below (bdn (Below.refl _ _) nq))
  have c8n : (w5.drewN nq).cell? ⟨b0, off + 8, none⟩ = some (.int .u8 ((a8.toNat : Nat) : Int)) := c8
  have c11n : (w5.drewN nq).cell? ⟨b0, off + 11, none⟩ = some (.int .u8 (a11 : Int)) := c11
  clear hB HV5 c8 c9 c10 c11 hor
  generalize w5.drewN nq = w6 at *
  by_cases k11 : a11 = 0
  · have ka : ((a11 : Int) != 0) = false := by rw [bne_eq_false_iff_eq]; omega
    by_cases km : m ≤ 500
    · have kd : decide ((500 : Int) < (m : Int)) = false := by simp; omega
      have HN2 := Lib.hid (HN.out km)
      clear HN
      have HLn := Lib.hid HVn.out.len
      have HCS : Hid (∃ cs, cs = bvs ((l.drop 12).take m)) := ⟨_, rfl⟩
      by_cases kc : c = 12 + m
      · have HW : Hid (Byts w6 (.slice (some ⟨b0, off, none⟩) (512 - (12 + m)) 0) (l.drop (12 + m))) := by
          have e1 : 512 - (12 + m) = 0 := by omega
          have hl := HLn.out
          rw [e1, List.drop_eq_nil_of_le (by omega)]
          exact Byts.empty _ _ _
        go_wp2_with fail
        refine (HN2.out w6 _ hBn HW.out).mono ?_
        clear HW
        rintro e w7 ⟨rfl, h7⟩
        have hB7 := btr hBn h7
        have HV7 := Lib.hid (HVn.out.below h7)
        have c8' := kept c8n h7
        clear h7 HVn c8n c11n hBn HN2
        cases s3 with
        | false =>
          obtain ⟨rfl, rfl, rfl⟩ := HE3.out (by first | rfl | trivial) (by first | rfl | trivial) (.inr (.inr rfl))
          go_wp2
          go_ret3
          exact ⟨_, rfl, Byts.none _, hB7⟩
        | true =>
        obtain ⟨rfl, hBB, rfl⟩ := HE4.out (by first | rfl | trivial) (by first | rfl | trivial) k11 km (by first | rfl | trivial)
        have HBB := Lib.hid hBB
        clear hBB
        obtain ⟨cs, hcs⟩ := HCS.out
        have HCS2 := Lib.hid hcs
        clear hcs
        obtain ⟨i0, hi0, hz0, hz1, hz2⟩ := info_parts Tryz.info5
        go_wp2_with (first
          | (refine wpList_make_full _ rfl _ _ 48 rfl w7.heap.size 5 i0 _ 1 Tryz.underlying48 hi0 hz0 hz1 _ _ _ _ m rfl rfl ?l1 ?l2 ?l3 ?l4 ?l5 ?_)
          | go_in)
        case l1 => rfl
        case l2 => rfl
        case l3 => rw [hz2]; omega
        case l4 => unfold maxLen; omega
        case l5 => exact Nat.le_refl _
        intro w8 hown hgrow
        have hb8 : Below w7.heap.size w7 w8 := (Below.refl _ _).grown hgrow (Nat.le_refl _) (by intro g hg; cases hg)
        rw [made_zeros] at hown
        have HG := Lib.hid (own_heap hown)
        clear hown hgrow
        have hcl : cs.length = m := by
          rw [HCS2.out, bvs_length, List.length_take, List.length_drop, HLn.out]
          omega
        go_wp2_with (first
          | (refine wpList_copy_splice rfl _ _ 48 48 rfl 5 Tryz.underlying48 Tryz.sizeB _ _ _ _ _ _ rfl rfl w7.heap.size 0 _ 5 HG.out cs ?m1 ?m2 ?m3 ?m4 w7.heap.size w7 hb8 (Nat.le_refl _) ?_)
          | go_in)
        case m1 => rw [hcl]; exact (Nat.min_eq_right (by omega)).symm
        case m2 =>
          intro hpos j u hj
          have hjm : j < m := by rw [← hcl]; exact (List.getElem?_eq_some_iff.1 hj).1
          rw [HCS2.out] at hj
          have hjl : j < ((l.drop 12).take m).length := by rw [← bvs_length]; exact (List.getElem?_eq_some_iff.1 hj).1
          rw [bvs_get _ j hjl] at hj
          rw [← hj]
          have := (HV7.out.below hb8).cell (12 + j) (by omega)
          rw [Nat.add_assoc, this]
          have hl := HLn.out
          simp [List.getD, show 12 + j < l.length by omega]
        case m3 => rw [hcl, bvs_length]; simp
        case m4 => rw [HCS2.out]; exact bvs_one _
        intro w9 HG9 hb9
        have HG10 : Hid (w9.heap[w7.heap.size]? = some (.cells (bvs B).toArray 5 (0, 0))) := by
          have q := HG9.out
          rw [splice_whole _ _ (by rw [hcl, bvs_length]; simp), HCS2.out, ← HBB.out] at q
          exact q
        have HBL : Hid (B.length = m) := by
          show B.length = m
          rw [HBB.out, List.length_take, List.length_drop, HLn.out]
          omega
        have c8k := kept c8' hb9
        clear HG HG9 hb8 c8'
        have hB9 := btr hB7 hb9
        clear hb9
        go_wp2
        go_ret3
        refine ⟨_, rfl, ?_, hB9⟩
        have q := own_of (base := 0) (n := m) HG10.out (Nat.zero_le _) (by rw [bvs_length]; exact HBL.out) (by unfold maxLen; omega)
        refine Byts.own (base := 0) ?_
        rw [HBL.out]
        exact q
      · have HW : Hid (Byts w6 (.slice (some ⟨b0, off + (12 + m), none⟩) (512 - (12 + m)) (c - (12 + m))) (l.drop (12 + m))) := HVn.out.tail (12 + m) (by omega) _ (by omega)
        go_wp2_with fail
        refine (HN2.out w6 _ hBn HW.out).mono ?_
        clear HW
        rintro e w7 ⟨rfl, h7⟩
        have hB7 := btr hBn h7
        have HV7 := Lib.hid (HVn.out.below h7)
        have c8' := kept c8n h7
        clear h7 HVn c8n c11n hBn HN2
        cases s3 with
        | false =>
          obtain ⟨rfl, rfl, rfl⟩ := HE3.out (by first | rfl | trivial) (by first | rfl | trivial) (.inr (.inr rfl))
          go_wp2
          go_ret3
          exact ⟨_, rfl, Byts.none _, hB7⟩
        | true =>
        obtain ⟨rfl, hBB, rfl⟩ := HE4.out (by first | rfl | trivial) (by first | rfl | trivial) k11 km (by first | rfl | trivial)
        have HBB := Lib.hid hBB
        clear hBB
        obtain ⟨cs, hcs⟩ := HCS.out
        have HCS2 := Lib.hid hcs
        clear hcs
        obtain ⟨i0, hi0, hz0, hz1, hz2⟩ := info_parts Tryz.info5
        go_wp2_with (first
          | (refine wpList_make_full _ rfl _ _ 48 rfl w7.heap.size 5 i0 _ 1 Tryz.underlying48 hi0 hz0 hz1 _ _ _ _ m rfl rfl ?l1 ?l2 ?l3 ?l4 ?l5 ?_)
          | go_in)
        case l1 => rfl
        case l2 => rfl
        case l3 => rw [hz2]; omega
        case l4 => unfold maxLen; omega
        case l5 => exact Nat.le_refl _
        intro w8 hown hgrow
        have hb8 : Below w7.heap.size w7 w8 := (Below.refl _ _).grown hgrow (Nat.le_refl _) (by intro g hg; cases hg)
        rw [made_zeros] at hown
        have HG := Lib.hid (own_heap hown)
        clear hown hgrow
        have hcl : cs.length = m := by
          rw [HCS2.out, bvs_length, List.length_take, List.length_drop, HLn.out]
          omega
        go_wp2_with (first
          | (refine wpList_copy_splice rfl _ _ 48 48 rfl 5 Tryz.underlying48 Tryz.sizeB _ _ _ _ _ _ rfl rfl w7.heap.size 0 _ 5 HG.out cs ?m1 ?m2 ?m3 ?m4 w7.heap.size w7 hb8 (Nat.le_refl _) ?_)
          | go_in)
        case m1 => rw [hcl]; exact (Nat.min_eq_right (by omega)).symm
        case m2 =>
          intro hpos j u hj
          have hjm : j < m := by rw [← hcl]; exact (List.getElem?_eq_some_iff.1 hj).1
          rw [HCS2.out] at hj
          have hjl : j < ((l.drop 12).take m).length := by rw [← bvs_length]; exact (List.getElem?_eq_some_iff.1 hj).1
          rw [bvs_get _ j hjl] at hj
          rw [← hj]
          have := (HV7.out.below hb8).cell (12 + j) (by omega)
          rw [Nat.add_assoc, this]
          have hl := HLn.out
          simp [List.getD, show 12 + j < l.length by omega]
        case m3 => rw [hcl, bvs_length]; simp
        case m4 => rw [HCS2.out]; exact bvs_one _
        intro w9 HG9 hb9
        have HG10 : Hid (w9.heap[w7.heap.size]? = some (.cells (bvs B).toArray 5 (0, 0))) := by
          have q := HG9.out
          rw [splice_whole _ _ (by rw [hcl, bvs_length]; simp), HCS2.out, ← HBB.out] at q
          exact q
        have HBL : Hid (B.length = m) := by
          show B.length = m
          rw [HBB.out, List.length_take, List.length_drop, HLn.out]
          omega
        have c8k := kept c8' hb9
        clear HG HG9 hb8 c8'
        have hB9 := btr hB7 hb9
        clear hb9
        go_wp2
        go_ret3
        refine ⟨_, rfl, ?_, hB9⟩
        have q := own_of (base := 0) (n := m) HG10.out (Nat.zero_le _) (by rw [bvs_length]; exact HBL.out) (by unfold maxLen; omega)
        refine Byts.own (base := 0) ?_
        rw [HBL.out]
        exact q
    · have kd : decide ((500 : Int) < (m : Int)) = true := by simp; omega
      obtain ⟨rfl, rfl, rfl⟩ := HE3.out (by first | rfl | trivial) (by first | rfl | trivial) (.inr (.inl (by omega)))
      go_wp2
      go_ret3
      exact ⟨_, rfl, Byts.none _, hBn⟩
  · have ka : ((a11 : Int) != 0) = true := by rw [bne_iff_ne]; omega
    obtain ⟨rfl, rfl, rfl⟩ := HE3.out (by first | rfl | trivial) (by first | rfl | trivial) (.inl k11)
    go_wp2
    go_ret3
    exact ⟨_, rfl, Byts.none _, hBn⟩
theorem open_short (n : Int) (A : Option Addr) (len c : Nat) (hl : len ≠ 512) (w : World) :
    Calls Tryz.prog 69 #[.int .u32 n, .slice A len c] w fun e w' => ∃ v', e = .returned (.tuple #[.int .u8 0, v', .int .i64 1]) ∧ Byts w' v' [] ∧ Below w.heap.size w w' := by
  have hb : ((len : Int) != 512) = true := by rw [bne_iff_ne]; omega
  go_enter Tryz.func69, Tryz.ntmps69
  go_wp2
  go_ret3
  exact ⟨_, rfl, Byts.none _, Below.refl _ _⟩
theorem open_any (n : Nat) (hn : n < 4294967296) (v : Value) (l : List UInt8) (w : World) (h : Byts w v l) (hT : Tab w) :
    Calls Tryz.prog 69 #[.int .u32 (n : Int), v] w fun e w' => ∃ v', e = .returned (.tuple #[.int .u8 (((G.openK n l).toNat : Nat) : Int), v', .int .i64 ((G.openE n l : Nat) : Int)]) ∧ Byts w' v' (G.openB n l) ∧ Below w.heap.size w w' := by
  obtain ⟨A, c, rfl⟩ := h.form
  by_cases hl : l.length = 512
  · rw [hl] at h ⊢
    obtain ⟨b0, off, hc, rfl⟩ : ∃ b0 off, 512 ≤ c ∧ A = some ⟨b0, off, none⟩ := by
      obtain ⟨A', c', e, hc, q⟩ := h
      obtain ⟨b, off, e2, _⟩ := q (by omega)
      simp only [Value.slice.injEq] at e
      exact ⟨b, off, by omega, e.1.trans e2⟩
    have hd : (l.drop 4).length ≤ 1000000 := by rw [List.length_drop]; omega
    have h4 : Byts w (.slice (some ⟨b0, off, none⟩) 4 c) (l.take 4) := by
      have := h.part 0 4 (by omega) (by omega) c (by omega)
      simpa using this
    have h8 : Byts w (.slice (some ⟨b0, off + 4, none⟩) 4 (c - 4)) ((l.drop 4).take 4) := h.part 4 8 (by omega) (by omega) (c - 4) (by omega)
    have ht : Byts w (.slice (some ⟨b0, off + 4, none⟩) 508 (c - 4)) (l.drop 4) := h.tail 4 (by omega) (c - 4) (by omega)
    have e1 : l.take 4 ≠ G.four (crc 0 (l.drop 4)) → G.openE n l = 8 := fun k => by unfold G.openE; rw [if_neg (by simpa using hl), if_pos k]
    have e2 : l.take 4 = G.four (crc 0 (l.drop 4)) → (l.drop 4).take 4 ≠ G.four n → G.openE n l = 4 := fun k k2 => by unfold G.openE; rw [if_neg (by simpa using hl), if_neg (by simpa using k), if_pos k2]
    have e3 : l.take 4 = G.four (crc 0 (l.drop 4)) → (l.drop 4).take 4 = G.four n → (l.getD 11 0 ≠ 0 ∨ 500 < G.len l ∨ G.zeros (l.drop (12 + G.len l)) = false) → G.openE n l = 2 := fun k k2 k3 => by
      unfold G.openE
      rw [if_neg (by simpa using hl), if_neg (by simpa using k), if_neg (by simpa using k2), if_pos k3]
    have ko : G.openE n l ≠ 0 → G.openK n l = 0 ∧ G.openB n l = [] := G.open_no n l
    refine open_core n b0 off c (crc 0 (l.drop 4)) (G.len l) l (G.openB n l) (G.openK n l) (l.getD 8 0) _ (decide (l.take 4 = G.four (crc 0 (l.drop 4)))) (decide ((l.drop 4).take 4 = G.four n)) (G.zeros (l.drop (12 + G.len l))) _ _ _ w hc hn (C.crc_lt _ (by omega)) (C.u8_lt _) (C.u8_lt _) rfl h rfl rfl rfl rfl
      (fun W hB => same_below (sum_any _ _ W (ht.below hB) hd (hT.below hB))) (fun W v hB hv => same_below (equal_any _ _ _ _ W (h4.below hB) hv)) (fun W v hB hv => same_below (equal_any _ _ _ _ W (h8.below hB) hv))
      (fun hm W v hB hv => same_below (noughts_any v _ W hv (by rw [List.length_drop]; omega))) ?_ ?_ ?_ ?_
    · intro k
      have k1 := e1 (of_decide_eq_false k)
      exact ⟨(ko (by omega)).1, (ko (by omega)).2, by rw [k1]; rfl⟩
    · intro k k2
      have k1 := e2 (of_decide_eq_true k) (of_decide_eq_false k2)
      exact ⟨(ko (by omega)).1, (ko (by omega)).2, by rw [k1]; rfl⟩
    · intro k k2 k3
      have k1 := e3 (of_decide_eq_true k) (of_decide_eq_true k2) (k3.imp (fun q1 q2 => q1 (by rw [q2]; rfl)) id)
      exact ⟨(ko (by omega)).1, (ko (by omega)).2, by rw [k1]; rfl⟩
    · intro k k2 k3 k4 k5
      have k1 := (G.openE_zero n l).2 ⟨hl, of_decide_eq_true k, of_decide_eq_true k2, UInt8.toNat_inj.1 k3, k4, k5⟩
      exact ⟨if_pos k1, if_pos k1, by rw [k1]; rfl⟩
  · have e1 : G.openE n l = 1 := by unfold G.openE; rw [if_pos hl]
    have ko := G.open_no n l (by omega)
    rw [e1, ko.1, ko.2]
    exact open_short _ A _ c hl w
end Go.Proofs.YtlcnefeikejcaaaGreatDoor
namespace Go.Proofs.YtlcnefeikejcaaaGreatDoor
open Go.RowKit
open C (crc)
end Go.Proofs.YtlcnefeikejcaaaGreatDoor
namespace Go.Proofs.YtlcnefeikejcaaaGreatDoor
end Go.Proofs.YtlcnefeikejcaaaGreatDoor
