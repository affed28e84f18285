/- DiskPlays, walked. -/
import Derived.Test.YtcbiagdpolhbfaaLy
namespace Go.Proofs.Ytcbiagdpolhbfaa
open Go.RowKit
open D (St)

theorem Ops.get {w wr : World} {A : Option Addr} {n c : Nat} {os : List O} (h : Ops w (.slice A n c) os) (hb : Below w.heap.size w wr) (j : Nat) (hj : j < os.length) : ∃ b off lv, A = some ⟨b, off, none⟩ ∧ wr.rangeAt b (off + j * 6) (ocells os[j] lv) ∧ Losses wr lv os[j].l ∧ OkO os[j] ∧ (∃ LA lc, lv = .slice LA os[j].l.length lc) ∧ (0 < os[j].l.length → ∀ k, lv.ownBlock = some k → k < w.heap.size) := by
  obtain ⟨b, off, lv, e, h1, h2, h3, h4⟩ := h.at j hj
  exact ⟨b, off, lv, e, range_keep (F := fun _ => False) h1 (Keep.of_below hb) (fun h => h), h2.below (Nat.le_refl _) hb, h3, h4, fun hp => h2.lt hp⟩
/-- Both in play: the disk's blocks are new since B, the document's lies in the variable v. -/
structure Play (wr : World) (B p g v : Nat) (wv sv rw_ : Value) (s : St) : Prop where
  mix : Mix wr p g wv sv rw_ s s
  fB : ∀ b, fp p g wv b → B ≤ b
  v1 : ¬ fp p g wv v
  v2 : ∀ b, sv.ownBlock = some b ∨ rw_.ownBlock = some b → ¬ b = v
  vB : B ≤ v
  box : Box wr v sv rw_ s.fuse s.down (s.writes : Int)
theorem Play.below {w w2 : World} {B p g v : Nat} {wv sv rw_ : Value} {s : St} (h : Play w B p g v wv sv rw_ s) (k : Below w.heap.size w w2) : Play w2 B p g v wv sv rw_ s := ⟨h.mix.below k, h.fB, h.v1, h.v2, h.vB, h.box.below k⟩
/-- A step of both; then the variable is laid anew. -/
theorem Play.step {w1 w2 w3 w4 : World} {B p g v : Nat} {wv sv rw_ wv' sv' rw' : Value} {s s' : St} (h : Play w1 B p g v wv sv rw_ s) (k : Sp w1 w1.heap.size w2 p g wv sv rw_ wv' sv' rw' s' s') (hb : Below w2.heap.size w2 w3) (hk : Keep (fun x => x = v) w3 w4) (hx : Box w4 v sv' rw' s'.fuse s'.down (s'.writes : Int)) (hB : B ≤ w1.heap.size) : Play w4 B p g v wv' sv' rw' s' := by
  have hv := h.box.lt
  have a1 : ¬ fp p g wv' v := fun q => by
    rcases k.grows v q with q | q
    · exact h.v1 q
    · omega
  have a2 : ∀ b, sv'.ownBlock = some b ∨ rw'.ownBlock = some b → ¬ b = v := fun b q e => by
    rcases k.n2 b q with q | q
    · exact h.v2 b q e
    · omega
  have m3 := k.mix.below hb
  refine ⟨⟨m3.dsk.keep hk (fun b q e => ?_), m3.rep.keep hk (fun b q => a2 b (.inl q)) (fun b q => a2 b (.inr q)), m3.apart⟩, fun b q => ?_, a1, a2, h.vB, hx⟩
  · have e : b = v := e
    subst e
    exact a1 q
  · rcases k.grows b q with q | q
    · exact h.fB b q
    · omega
theorem Play.bel {w1 w2 w3 w4 : World} {B p g v : Nat} {wv sv rw_ wv' sv' rw' : Value} {s s' : St} (h : Play w1 B p g v wv sv rw_ s) (k : Sp w1 w1.heap.size w2 p g wv sv rw_ wv' sv' rw' s' s') (hb : Below w2.heap.size w2 w3) (hk : Keep (fun x => x = v) w3 w4) (hB : B ≤ w1.heap.size) : Below B w1 w4 := by
  have k1 : Keep (fun b => B ≤ b) w1 w4 := ((k.keep.mono (fun b _ q => h.fB b q)).trans (Keep.of_below hb : Keep (fun _ => False) w2 w3) (fun _ h => h.elim)).trans hk (fun b q => .inl (by have e : b = v := q; have := h.vB; omega))
  exact k1.below hB (fun _ h => h)

theorem plays_first (n : Int) (A : Option Addr) (len c : Nat) (w : World) (h : (60 < len) ∨ (len ≤ 60 ∧ 50 < n ∧ n ≤ 4096)) :
    Calls Try.prog 3 #[.int .i64 n, .slice A len c] w fun e w' => e = .returned (.bool true) ∧ Below w.heap.size w w' := by
  have hq : (decide (60 < (len : Int)) = true) ∨ (decide (60 < (len : Int)) = false ∧ decide (50 < n) = true ∧ decide (n ≤ 4096) = true) := by simp; omega
  clear h
  rcases hq with hq | ⟨hq, hq2, hq3⟩
  all_goals
    go_enter Try.func3, Try.ntmps3
    go_wp2_with fail
    refine (fixed_any w).mono ?_
    rintro e w1 ⟨rfl, hb⟩
    go_wp2
    go_ret
    exact ⟨rfl, hb⟩
theorem plays_bad (n : Int) (A : Option Addr) (len c : Nat) (w : World) (h1 : len ≤ 60) (h2 : n < 8 ∨ 4096 < n) :
    Calls Try.prog 3 #[.int .i64 n, .slice A len c] w fun e w' => e = .returned (.bool true) ∧ Below w.heap.size w w' := by
  have hz := (zero_of_info Try.zero31).1
  have H2 := Lib.hid h2
  have hq : decide (60 < (len : Int)) = false := by simp; omega
  have hq2 : (decide (50 < n) = false) ∨ (decide (50 < n) = true ∧ decide (n ≤ 4096) = false) := by simp; omega
  clear h1 h2
  rcases hq2 with hq2 | ⟨hq2, hq3⟩
  all_goals
    go_enter Try.func3, Try.ntmps3
    go_wp2_with fail
    refine (new_bad n w H2.out).mono ?_
    rintro e w1 ⟨rfl, rfl⟩
    go_wp2_with fail
    refine (refnew_bad n w1 H2.out).mono ?_
    rintro e w2 ⟨rfl, hb⟩
    have HB := Lib.hid (bal hb (.cells #[.slice none 0 0, .slice none 0 0, .int .i64 0, .bool false, .int .i64 0] 31))
    clear hb
    unfold five
    go_wp2_with fail
    refine (fixed_any _).mono ?_
    rintro e w3 ⟨rfl, hb⟩
    go_wp2
    go_ret
    exact ⟨rfl, btr HB.out hb⟩
end Go.Proofs.Ytcbiagdpolhbfaa
