/- Two disks in play side by side. -/
import Derived.Test.YtcbiagdpolhbfaaPb
namespace Go.Proofs.Ytcbiagdpolhbfaa
open Go.RowKit
open D (St)

/-- What a step of one may turn. -/
def Mv (p g v : Nat) (wv : Value) (b : Nat) : Prop := fp p g wv b ∨ b = v
/-- All blocks of one. -/
def Uv (p g v : Nat) (wv sv rw_ : Value) (b : Nat) : Prop := Mv p g v wv b ∨ sv.ownBlock = some b ∨ rw_.ownBlock = some b
theorem Play.lt {w : World} {B p g v : Nat} {wv sv rw_ : Value} {s : St} (h : Play w B p g v wv sv rw_ s) : ∀ b, Uv p g v wv sv rw_ b → b < w.heap.size := by
  rintro b ((q | q) | q)
  · exact h.mix.dsk.lt b q
  · subst q; exact h.box.lt
  · exact h.mix.rep.lt b q
/-- The one that stands aside. -/
theorem Play.aside {F : Nat → Prop} {w w' : World} {B p g v : Nat} {wv sv rw_ : Value} {s : St} (h : Play w B p g v wv sv rw_ s) (k : Keep F w w') (hd : ∀ b, F b → ¬ Uv p g v wv sv rw_ b) : Play w' B p g v wv sv rw_ s :=
  ⟨⟨h.mix.dsk.keep k (fun b q e => hd b e (.inl (.inl q))), h.mix.rep.keep k (fun b q e => hd b e (.inr (.inl q))) (fun b q e => hd b e (.inr (.inr q))), h.mix.apart⟩, h.fB, h.v1, h.v2, h.vB, h.box.keep k (fun e => hd v e (.inl (.inr rfl)))⟩
/-- No step of one turns the other. -/
structure Apart (p g v : Nat) (wv sv rw_ : Value) (p2 g2 v2 : Nat) (wv2 sv2 rw2 : Value) : Prop where
  a : ∀ b, Mv p g v wv b → ¬ Uv p2 g2 v2 wv2 sv2 rw2 b
  b : ∀ b, Mv p2 g2 v2 wv2 b → ¬ Uv p g v wv sv rw_ b
theorem Apart.symm {p g v : Nat} {wv sv rw_ : Value} {p2 g2 v2 : Nat} {wv2 sv2 rw2 : Value} (h : Apart p g v wv sv rw_ p2 g2 v2 wv2 sv2 rw2) : Apart p2 g2 v2 wv2 sv2 rw2 p g v wv sv rw_ := ⟨h.b, h.a⟩
theorem Apart.step {w1 w2 : World} {p g v : Nat} {wv sv rw_ wv' sv' rw' : Value} {p2 g2 v2 : Nat} {wv2 sv2 rw2 : Value} {s' : St} (h : Apart p g v wv sv rw_ p2 g2 v2 wv2 sv2 rw2) (k : Sp w1 w1.heap.size w2 p g wv sv rw_ wv' sv' rw' s' s') (hl : ∀ b, Uv p2 g2 v2 wv2 sv2 rw2 b → b < w1.heap.size) : Apart p g v wv' sv' rw' p2 g2 v2 wv2 sv2 rw2 := by
  refine ⟨fun b q e => ?_, fun b q e => ?_⟩
  · have := hl b e
    rcases q with q | q
    · rcases k.grows b q with q | q
      · exact h.a b (.inl q) e
      · omega
    · exact h.a b (.inr q) e
  · have := hl b (.inl q)
    rcases e with (e | e) | e
    · rcases k.grows b e with e | e
      · exact h.b b q (.inl (.inl e))
      · omega
    · exact h.b b q (.inl (.inr e))
    · rcases k.n2 b e with e | e
      · exact h.b b q (.inr e)
      · omega
/-- A step of the first; the second stands aside. -/
theorem Play.beside {w1 w2 w4 : World} {B p g v : Nat} {wv sv rw_ wv' sv' rw' : Value} {s s' : St} {p2 g2 v2 : Nat} {wv2 sv2 rw2 : Value} {s2 : St} (_h : Play w1 B p g v wv sv rw_ s) (k : Sp w1 w1.heap.size w2 p g wv sv rw_ wv' sv' rw' s' s') (hk : Keep (fun x => x = v) w2 w4) (h2 : Play w1 B p2 g2 v2 wv2 sv2 rw2 s2) (ha : Apart p g v wv sv rw_ p2 g2 v2 wv2 sv2 rw2) : Play w4 B p2 g2 v2 wv2 sv2 rw2 s2 ∧ Apart p g v wv' sv' rw' p2 g2 v2 wv2 sv2 rw2 := by
  refine ⟨h2.aside (F := Mv p g v wv) ((k.keep.mono (fun b _ q => .inl q)).trans hk (fun b q => .inl (.inr q))) ha.a, ha.step k h2.lt⟩
end Go.Proofs.Ytcbiagdpolhbfaa
