/- The document's own disk as a value; cashbookref05's act, SetFuse, bound. -/
import Derived.Test.YtcbiagdpolhbfaaDr
namespace Go.Proofs.Ytcbiagdpolhbfaa
open Go.RowKit
open D (St)

def svs (l : List (List UInt8)) : List Value := l.map fun b => .string (str b)
def wvs (l : List (Nat × List UInt8)) : List Value := l.flatMap fun x => [.int .i64 ((x.1 : Nat) : Int), .string (str x.2)]
theorem svs_length (l : List (List UInt8)) : (svs l).length = l.length := by simp [svs]
theorem wvs_length : ∀ l : List (Nat × List UInt8), (wvs l).length = l.length * 2
  | [] => rfl
  | x :: r => by
    have := wvs_length r
    simp only [wvs, List.flatMap_cons, List.length_append, List.length_cons, List.length_nil] at this ⊢
    omega
theorem wvs_append (l m : List (Nat × List UInt8)) : wvs (l ++ m) = wvs l ++ wvs m := by simp [wvs]
theorem wvs_get : ∀ (l : List (Nat × List UInt8)) i (hi : i < l.length), (wvs l)[i * 2]? = some (.int .i64 ((l[i].1 : Nat) : Int)) ∧ (wvs l)[i * 2 + 1]? = some (.string (str l[i].2))
  | x :: r, 0, _ => ⟨rfl, rfl⟩
  | x :: r, i + 1, hi => by
    have := wvs_get r i (by simpa using hi)
    have e : wvs (x :: r) = [.int .i64 ((x.1 : Nat) : Int), .string (str x.2)] ++ wvs r := rfl
    rw [e]
    refine ⟨?_, ?_⟩
    · rw [List.getElem?_append_right (by simp; omega), show (i + 1) * 2 - ([.int .i64 ((x.1 : Nat) : Int), .string (str x.2)] : List Value).length = i * 2 by simp; omega]
      exact this.1
    · rw [List.getElem?_append_right (by simp; omega), show (i + 1) * 2 + 1 - ([.int .i64 ((x.1 : Nat) : Int), .string (str x.2)] : List Value).length = i * 2 + 1 by simp; omega]
      exact this.2
theorem svs_one (l : List (List UInt8)) : ∀ u ∈ svs l, u.oneCell' = true := by
  intro u hu
  obtain ⟨x, _, rfl⟩ := List.mem_map.1 hu
  rfl
theorem wvs_one (l : List (Nat × List UInt8)) : ∀ u ∈ wvs l, u.oneCell' = true := by
  intro u hu
  obtain ⟨x, _, hx⟩ := List.mem_flatMap.1 hu
  rcases List.mem_cons.1 hx with rfl | hx
  · rfl
  · rw [List.mem_singleton.1 hx]; rfl
/-- The value of the document's disk. -/
def rv (sv wv : Value) (s : St) : Value := .agg #[sv, wv, .int .i64 s.fuse, .bool s.down, .int .i64 (s.writes : Int)]
/-- Its rows. -/
structure Rep (w : World) (sv wv : Value) (s : St) : Prop where
  ok : D.Ok s
  safe : w.ownsRow 0 9 1 sv s.safe.length (svs s.safe)
  waits : w.ownsRow 0 82 2 wv s.waits.length (wvs s.waits)
theorem Rep.keep {F : Nat → Prop} {w w1 : World} {sv wv : Value} {s : St} (h : Rep w sv wv s) (k : Keep F w w1) (h1 : ∀ b, sv.ownBlock = some b → ¬ F b) (h2 : ∀ b, wv.ownBlock = some b → ¬ F b) : Rep w1 sv wv s :=
  ⟨h.ok, own_keep h.safe k h1, own_keep h.waits k h2⟩
theorem Rep.below {w w1 : World} {sv wv : Value} {s : St} (h : Rep w sv wv s) (k : Below w.heap.size w w1) : Rep w1 sv wv s := h.keep (F := fun _ => False) (Keep.of_below k) (fun _ _ h => h) (fun _ _ h => h)
theorem row_form {w : World} {base size n : Nat} {e : TypeId} {v : Value} {xs : List Value} (h : w.ownsRow base e size v n xs) : ∃ A c, v = .slice A n c := by
  rcases h.2 with ⟨rfl, e⟩ | ⟨k, cap, cur, rfl, _⟩
  · rw [e]
    exact ⟨_, _, rfl⟩
  · exact ⟨_, _, rfl⟩
/-- What a call leaves of the document's disk: every block of it is an elder one's or new. -/
def Made (w w' : World) (sv wv sv' wv' : Value) (s : St) : Prop := Rep w' sv' wv' s ∧ Below w.heap.size w w' ∧ (∀ b, sv'.ownBlock = some b ∨ wv'.ownBlock = some b → (sv.ownBlock = some b ∨ wv.ownBlock = some b) ∨ w.heap.size ≤ b)
theorem Try.zero31 : (Try.prog.info? 31).map (fun i => (i.zero, i.size)) = some (some (.agg #[.slice none 0 0, .slice none 0 0, .int .i64 0, .bool false, .int .i64 0]), 5) := by kernel_rfl
theorem Try.size31 : (Try.prog.info? 31).map (·.size) = some 5 := by kernel_rfl
/-- Five cells of a block. -/
theorem range5 {w : World} {b : Nat} {x0 x1 x2 x3 x4 : Value} (h0 : w.cell? ⟨b, 0, none⟩ = some x0) (h1 : w.cell? ⟨b, 1, none⟩ = some x1) (h2 : w.cell? ⟨b, 2, none⟩ = some x2) (h3 : w.cell? ⟨b, 3, none⟩ = some x3) (h4 : w.cell? ⟨b, 4, none⟩ = some x4) : w.rangeAt b 0 [x0, x1, x2, x3, x4] := by
  intro j v hv
  rw [Nat.zero_add]
  match j, hv with
  | 0, hv => simpa [h0] using hv
  | 1, hv => simpa [h1] using hv
  | 2, hv => simpa [h2] using hv
  | 3, hv => simpa [h3] using hv
  | 4, hv => simpa [h4] using hv
/-- The five cells of the document's disk. -/
def five (sv wv : Value) (z : Int) (dn : Bool) (wr : Int) : Value := .agg #[sv, wv, .int .i64 z, .bool dn, .int .i64 wr]
theorem results_five {fn : Func} {t : Tmp} (h : fn.results = #[.cell t 31]) (tmps : Array Value) (w : World) (q : Nat) (sv wv : Value) (z : Int) (dn : Bool) (wr : Int) (ht : tmps.getD t undef = .pointer (some ⟨q, 0, none⟩)) (hr : w.rangeAt q 0 [sv, wv, .int .i64 z, .bool dn, .int .i64 wr]) :
    (results fn tmps).run Try.prog w = .ok (five sv wv z dn wr) w := by
  have hl := run_loadVar_mid (P := Try.prog) w q 0 31 _ _ hr Try.underlying31 rfl Try.size31
  have ht' : tmps[t]?.getD undef = .pointer (some ⟨q, 0, none⟩) := by simpa using ht
  simp only [results, h]
  simp [ht', asAddr, hl, five]
theorem range_lit (w : World) (cs : List Value) (t : TypeId) (q : Nat) (hq : q = w.heap.size) : (w.alloc (.cells cs.toArray t)).rangeAt q 0 cs := fun j v hv => by
  subst hq
  rw [World.cell?_alloc_at _ _ _ _ rfl]
  simpa using hv
theorem ract (A A2 : Option Addr) (n c n2 c2 : Nat) (z : Int) (dn : Bool) (wr : Int) (w : World) (lo : -1 ≤ z) (hi : z ≤ 9223372036854775807) :
    Calls Try.prog 38 #[five (.slice A n c) (.slice A2 n2 c2) z dn wr] w fun e w' =>
      e = .returned (five (.slice A n c) (.slice A2 n2 c2) (if 0 < z then z - 1 else z) (if z = 0 then true else dn) wr) ∧ Below w.heap.size w w' := by
  have hz := (zero_of_info Try.zero31).1
  have q2 : 0 < z → IntKind.i64.wrap (z - 1) = z - 1 := fun h => by rw [IntKind.wrap_i64]; omega
  have hc : z = 0 ∨ 0 < z ∨ z < 0 := by omega
  clear lo hi
  rcases hc with rfl | h | h
  · rw [if_neg (by omega), if_pos rfl]
    clear q2
    unfold five
    go_enter Try.func38, Try.ntmps38
    go_wp2
    refine bodyPost_ret (results_five rfl _ _ (w.heap.size + 1) _ _ _ _ _ rfl (range_lit _ _ _ _ (by simp))) rfl ⟨rfl, bal (alb _) _⟩
  · rw [if_pos h, if_neg (by omega)]
    have q3 := q2 h
    have q1 : ((z : Int) == 0) = false := by simp; omega
    clear q2
    unfold five
    go_enter Try.func38, Try.ntmps38
    go_wp2
    refine bodyPost_ret (results_five rfl _ _ (w.heap.size + 1) _ _ _ _ _ rfl (range_lit _ _ _ _ (by simp))) rfl ⟨rfl, bal (alb _) _⟩
  · rw [if_neg (by omega), if_neg (by omega)]
    have q1 : ((z : Int) == 0) = false := by simp; omega
    have q3 : decide (0 < z) = false := by simp; omega
    clear q2
    unfold five
    go_enter Try.func38, Try.ntmps38
    go_wp2
    refine bodyPost_ret (results_five rfl _ _ (w.heap.size + 1) _ _ _ _ _ rfl (range_lit _ _ _ _ (by simp))) rfl ⟨rfl, bal (alb _) _⟩
theorem refact_any {w : World} {sv wv : Value} {s : St} (h : Rep w sv wv s) :
    Calls Try.prog 38 #[rv sv wv s] w fun e w' => e = .returned (rv sv wv (D.act s)) ∧ Below w.heap.size w w' := by
  obtain ⟨A, c, rfl⟩ := row_form h.safe
  obtain ⟨A2, c2, rfl⟩ := row_form h.waits
  refine (ract A A2 _ c _ c2 s.fuse s.down s.writes w h.ok.fuse h.ok.fuse2).mono ?_
  rintro e w' ⟨rfl, hb⟩
  refine ⟨?_, hb⟩
  have e : five (.slice A s.safe.length c) (.slice A2 s.waits.length c2) (if 0 < s.fuse then s.fuse - 1 else s.fuse) (if s.fuse = 0 then true else s.down) s.writes = rv (.slice A s.safe.length c) (.slice A2 s.waits.length c2) (D.act s) := by
    unfold rv five D.act
    by_cases h0 : s.fuse = 0
    · rw [if_neg (by omega), if_pos h0, if_pos h0]
    · by_cases h1 : 0 < s.fuse
      · rw [if_pos h1, if_neg h0, if_neg h0, if_pos h1]
      · rw [if_neg h1, if_neg h0, if_neg h0, if_neg h1]
  rw [e]
theorem rfuse (A A2 : Option Addr) (n c n2 c2 : Nat) (z : Int) (dn : Bool) (wr : Int) (k : Int) (w : World) :
    Calls Try.prog 27 #[five (.slice A n c) (.slice A2 n2 c2) z dn wr, .int .i64 k] w fun e w' =>
      e = .returned (five (.slice A n c) (.slice A2 n2 c2) (if dn then z else if k < 0 then -1 else k) dn wr) ∧ Below w.heap.size w w' := by
  have hz := (zero_of_info Try.zero31).1
  cases dn with
  | true =>
    rw [if_pos rfl]
    unfold five
    go_enter Try.func27, Try.ntmps27
    go_wp2
    refine bodyPost_ret (results_five rfl _ _ (w.heap.size + 1) _ _ _ _ _ rfl (range_lit _ _ _ _ (by simp))) rfl ⟨rfl, bal (alb _) _⟩
  | false =>
    rw [if_neg Bool.false_ne_true]
    by_cases h : k < 0
    · rw [if_pos h]
      unfold five
      go_enter Try.func27, Try.ntmps27
      go_wp2
      refine bodyPost_ret (results_five rfl _ _ (w.heap.size + 1) _ _ _ _ _ rfl (range_lit _ _ _ _ (by simp))) rfl ⟨rfl, bal (alb _) _⟩
    · rw [if_neg h]
      unfold five
      go_enter Try.func27, Try.ntmps27
      go_wp2
      refine bodyPost_ret (results_five rfl _ _ (w.heap.size + 1) _ _ _ _ _ rfl (range_lit _ _ _ _ (by simp))) rfl ⟨rfl, bal (alb _) _⟩
theorem reffuse_any {w : World} {sv wv : Value} {s : St} (h : Rep w sv wv s) (k : Int) (hk : k ≤ 9223372036854775807) :
    Calls Try.prog 27 #[rv sv wv s, .int .i64 k] w fun e w' => ∃ sv' wv', e = .returned (rv sv' wv' (D.setFuse s k)) ∧ Made w w' sv wv sv' wv' (D.setFuse s k) := by
  obtain ⟨A, c, e1⟩ := row_form h.safe
  obtain ⟨A2, c2, e2⟩ := row_form h.waits
  refine Calls.mono (R := fun e w' => e = .returned (rv sv wv (D.setFuse s k)) ∧ Below w.heap.size w w') ?_ ?_
  · rw [e1, e2]
    refine (rfuse A A2 _ c _ c2 s.fuse s.down s.writes k w).mono ?_
    rintro e w' ⟨rfl, hb⟩
    refine ⟨?_, hb⟩
    unfold five rv D.setFuse
    cases hd : s.down <;> simp [hd]
  · rintro e w' ⟨rfl, hb⟩
    refine ⟨sv, wv, rfl, ⟨D.setFuse_ok h.ok hk, ?_, ?_⟩, hb, fun b q => .inl q⟩
    · have := (h.below hb).safe
      unfold D.setFuse
      split <;> exact this
    · have := (h.below hb).waits
      unfold D.setFuse
      split <;> exact this
theorem bound_any (n : Int) (w : World) :
    Calls Try.prog 39 #[.int .i64 n] w fun e w' => e = .returned (.int .i64 ((D.bnd n : Nat) : Int)) ∧ w' = w := by
  have hc : (n < 0 ∧ D.bnd n = 0) ∨ (512 < n ∧ D.bnd n = 512) ∨ (0 ≤ n ∧ n ≤ 512 ∧ ((D.bnd n : Nat) : Int) = n) := by
    unfold D.bnd
    split
    · left; omega
    · split
      · right; left; omega
      · right; right; omega
  rcases hc with ⟨h1, e⟩ | ⟨h1, e⟩ | ⟨h1, h2, e⟩
  all_goals
    rw [e]
    clear e
    go_enter Try.func39, Try.ntmps39
    go_wp2
    go_ret
    simp
end Go.Proofs.Ytcbiagdpolhbfaa
