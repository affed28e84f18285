/- A disk and the document's, side by side. -/
import Derived.Test.YtcbiagdpolhbfaaLm
namespace Go.Proofs.Ytcbiagdpolhbfaa
open Go.RowKit
open D (St)

theorem Rep.lt {w : World} {sv rw_ : Value} {s : St} (h : Rep w sv rw_ s) : ∀ b, sv.ownBlock = some b ∨ rw_.ownBlock = some b → b < w.heap.size := by
  rintro b (q | q)
  · exact (h.safe.lt b q).2
  · exact (h.waits.lt b q).2
/-- The disk at s, the document's at t: no block is of both. -/
structure Mix (w : World) (p g : Nat) (wv sv rw_ : Value) (s t : St) : Prop where
  dsk : Dsk w p g wv s
  rep : Rep w sv rw_ t
  apart : ∀ b, sv.ownBlock = some b ∨ rw_.ownBlock = some b → ¬ fp p g wv b
theorem Mix.below {w w2 : World} {p g : Nat} {wv sv rw_ : Value} {s t : St} (h : Mix w p g wv sv rw_ s t) (k : Below w.heap.size w w2) : Mix w2 p g wv sv rw_ s t := ⟨h.dsk.below k, h.rep.below k, h.apart⟩
/-- From w on: what came of both, and what was left alone; what is new of them lies behind M. -/
structure Sp (w : World) (M : Nat) (w1 : World) (p g : Nat) (wv sv rw_ wv1 sv1 rw1 : Value) (s t : St) : Prop where
  mix : Mix w1 p g wv1 sv1 rw1 s t
  keep : Keep (fp p g wv) w w1
  n1 : ∀ b, wv1.ownBlock = some b → wv.ownBlock = some b ∨ M ≤ b
  n2 : ∀ b, sv1.ownBlock = some b ∨ rw1.ownBlock = some b → (sv.ownBlock = some b ∨ rw_.ownBlock = some b) ∨ M ≤ b
  le1 : w.heap.size ≤ M
  le2 : M ≤ w1.heap.size
theorem Sp.start {w w3 : World} {p g : Nat} {wv sv rw_ : Value} {s t : St} (h : Mix w p g wv sv rw_ s t) (k : Below w.heap.size w w3) : Sp w w3.heap.size w3 p g wv sv rw_ wv sv rw_ s t :=
  ⟨h.below k, Keep.of_below k, fun _ h => .inl h, fun _ h => .inl h, k.size, Nat.le_refl _⟩
theorem Sp.below {w w1 w2 : World} {M p g : Nat} {wv sv rw_ wv1 sv1 rw1 : Value} {s t : St} (h : Sp w M w1 p g wv sv rw_ wv1 sv1 rw1 s t) (k : Below w1.heap.size w1 w2) : Sp w M w2 p g wv sv rw_ wv1 sv1 rw1 s t :=
  ⟨h.mix.below k, h.keep.step k, h.n1, h.n2, h.le1, Nat.le_trans h.le2 k.size⟩
theorem Sp.weak {w w1 : World} {M p g : Nat} {wv sv rw_ wv1 sv1 rw1 : Value} {s t : St} (h : Sp w M w1 p g wv sv rw_ wv1 sv1 rw1 s t) : Sp w w.heap.size w1 p g wv sv rw_ wv1 sv1 rw1 s t :=
  ⟨h.mix, h.keep, fun b q => (h.n1 b q).imp id (Nat.le_trans h.le1), fun b q => (h.n2 b q).imp id (Nat.le_trans h.le1), Nat.le_refl _, Nat.le_trans h.le1 h.le2⟩
theorem Sp.grows {w w1 : World} {M p g : Nat} {wv sv rw_ wv1 sv1 rw1 : Value} {s t : St} (h : Sp w M w1 p g wv sv rw_ wv1 sv1 rw1 s t) : ∀ b, fp p g wv1 b → fp p g wv b ∨ M ≤ b := by
  rintro b (q | q | q)
  · exact .inl (.inl q)
  · exact .inl (.inr (.inl q))
  · exact (h.n1 b q).imp (fun q => .inr (.inr q)) id
/-- A store into a block that was laid since, ahead of M. -/
theorem Sp.keepS {F : Nat → Prop} {w w1 w2 : World} {M p g : Nat} {wv sv rw_ wv1 sv1 rw1 : Value} {s0 t0 s t : St} (h : Sp w M w1 p g wv sv rw_ wv1 sv1 rw1 s t) (hm : Mix w p g wv sv rw_ s0 t0) (k : Keep F w1 w2) (hF : ∀ b, F b → w.heap.size ≤ b ∧ b < M) : Sp w M w2 p g wv sv rw_ wv1 sv1 rw1 s t := by
  have a1 : ∀ b, fp p g wv1 b → ¬ F b := fun b q e => by
    have := hF b e
    rcases h.grows b q with q | q
    · have := hm.dsk.lt b q
      omega
    · omega
  have a2 : ∀ b, sv1.ownBlock = some b ∨ rw1.ownBlock = some b → ¬ F b := fun b q e => by
    have := hF b e
    rcases h.n2 b q with q | q
    · have := hm.rep.lt b q
      omega
    · omega
  exact ⟨⟨h.mix.dsk.keep k a1, h.mix.rep.keep k (fun b q => a2 b (.inl q)) (fun b q => a2 b (.inr q)), h.mix.apart⟩, h.keep.trans k (fun b q => .inr (hF b q).1), h.n1, h.n2, h.le1, Nat.le_trans h.le2 k.size⟩
theorem Sp.disk {w w1 w2 : World} {M p g : Nat} {wv sv rw_ wv1 sv1 rw1 : Value} {s t s' : St} (h : Sp w M w1 p g wv sv rw_ wv1 sv1 rw1 s t) (k : Turned w1 w2 p g wv1 s') : ∃ wv2, Sp w M w2 p g wv sv rw_ wv2 sv1 rw1 s' t := by
  obtain ⟨wv2, hd, hk, hb⟩ := k
  refine ⟨wv2, ⟨hd, h.mix.rep.keep hk (fun b q => h.mix.apart b (.inl q)) (fun b q => h.mix.apart b (.inr q)), ?_⟩, h.keep.trans hk (fun b q => (h.grows b q).imp id (Nat.le_trans h.le1)), ?_, h.n2, h.le1, Nat.le_trans h.le2 hk.size⟩
  · rintro b q (e | e | e)
    · exact h.mix.apart b q (.inl e)
    · exact h.mix.apart b q (.inr (.inl e))
    · rcases hb b e with e | e
      · exact h.mix.apart b q (.inr (.inr e))
      · have := h.mix.rep.lt b q
        omega
  · intro b q
    rcases hb b q with e | e
    · exact h.n1 b e
    · exact .inr (Nat.le_trans h.le2 e)
/-- A call on the disk leaves alone what was laid since, ahead of M. -/
theorem Sp.box {w w1 : World} {M p g : Nat} {wv sv rw_ wv1 sv1 rw1 : Value} {s0 t0 s t : St} (h : Sp w M w1 p g wv sv rw_ wv1 sv1 rw1 s t) (hm : Mix w p g wv sv rw_ s0 t0) {b : Nat} (h1 : w.heap.size ≤ b) (h2 : b < M) : ¬ fp p g wv1 b := fun q => by
  rcases h.grows b q with q | q
  · have := hm.dsk.lt b q
    omega
  · omega
theorem Turned.keep {w w' : World} {p g : Nat} {wv : Value} {s : St} (h : Turned w w' p g wv s) : Keep (fp p g wv) w w' := by
  obtain ⟨_, _, h, _⟩ := h
  exact h
theorem Sp.ref {w w1 w2 : World} {M p g : Nat} {wv sv rw_ wv1 sv1 rw1 sv2 rw2 : Value} {s t t' : St} (h : Sp w M w1 p g wv sv rw_ wv1 sv1 rw1 s t) (k : Made w1 w2 sv1 rw1 sv2 rw2 t') : Sp w M w2 p g wv sv rw_ wv1 sv2 rw2 s t' := by
  obtain ⟨hr, hb, hn⟩ := k
  refine ⟨⟨h.mix.dsk.below hb, hr, ?_⟩, h.keep.step hb, h.n1, ?_, h.le1, Nat.le_trans h.le2 hb.size⟩
  · intro b q e
    rcases hn b q with q | q
    · exact h.mix.apart b q e
    · have := h.mix.dsk.lt b e
      omega
  · intro b q
    rcases hn b q with q | q
    · exact h.n2 b q
    · exact .inr (Nat.le_trans h.le2 q)
theorem below_one {a w w' : World} {b : Nat} (h : Below a.heap.size a w) (k : Keep (fun x => x = b) w w') (hb : a.heap.size ≤ b) : Below a.heap.size a w' :=
  ⟨k.os.trans h.os, k.tape.trans h.tape, k.output.trans h.output, Nat.le_trans h.size k.size, fun i hi => (k.block i (Nat.lt_of_lt_of_le hi h.size) (by show ¬ i = b; omega)).trans (h.block i hi)⟩
/-- A store into a block of neither. -/
theorem Sp.keepB {w w1 w2 : World} {M b p g : Nat} {wv sv rw_ wv1 sv1 rw1 : Value} {s t : St} (h : Sp w M w1 p g wv sv rw_ wv1 sv1 rw1 s t) (k : Keep (fun x => x = b) w1 w2) (hb : w.heap.size ≤ b) (h1 : ¬ fp p g wv1 b) (h2 : ∀ x, sv1.ownBlock = some x ∨ rw1.ownBlock = some x → ¬ x = b) : Sp w M w2 p g wv sv rw_ wv1 sv1 rw1 s t :=
  ⟨⟨h.mix.dsk.keep k (fun x q e => by have e : x = b := e; subst e; exact h1 q), h.mix.rep.keep k (fun x q => h2 x (.inl q)) (fun x q => h2 x (.inr q)), h.mix.apart⟩, h.keep.trans k (fun x q => .inr (by have q : x = b := q; omega)), h.n1, h.n2, h.le1, Nat.le_trans h.le2 k.size⟩
/-- One of two may come up. -/
theorem lz_two {P : Program} {ops : Array Oper} {Q : Exit → Act → World → Prop} {z : Nat} (i j : Nat) {S : World → Prop} {oi oj : Oper} {fuel : Nat} {listed : Array Bool} {a : Act} {w : World} (ho : ops[i]? = some oi) (ho2 : ops[j]? = some oj) (hg : oi.guard = none) (hg2 : oj.guard = none) (hr : Region.ready .any ops listed = [i, j])
    (h : ∀ K : Act → World → Prop, Shut (∀ a' w', S w' → Lz P ops Q z S fuel (listed.setIfInBounds i true) a' w' → K a' w') → Oper.wp P oi a w K Q)
    (h2 : ∀ K : Act → World → Prop, Shut (∀ a' w', S w' → Lz P ops Q z S fuel (listed.setIfInBounds j true) a' w' → K a' w') → Oper.wp P oj a w K Q) :
    Lz P ops Q z S (fuel + 1) listed a w := by
  refine ⟨fun h0 => (by rw [hr] at h0; cases h0), fun k hk => ?_⟩
  rw [hr] at hk
  rcases List.mem_cons.1 hk with rfl | hk
  · exact wpOp_step ho (fun K hK => by rw [if_pos (by simp [Region.wanted, hg])]; exact h K (fun a' w' hb hl => hK a' w' ⟨.inr hb, hl⟩))
  · obtain rfl := List.mem_singleton.1 hk
    exact wpOp_step ho2 (fun K hK => by rw [if_pos (by simp [Region.wanted, hg2])]; exact h2 K (fun a' w' hb hl => hK a' w' ⟨.inr hb, hl⟩))
/-- What an operation makes of it. -/
def stp (s : St) (o : O) : St := if o.d % 5 = 0 then D.write s o.a (bytesL o.c o.k o.n) else if o.d % 5 = 1 then s else if o.d % 5 = 2 then D.sync s else if o.d % 5 = 3 then D.setFuse s o.a else D.crash s o.l
theorem few_stp {s : St} {k : Nat} (h : Few s k) (o : O) : Few (stp s o) (k + 1) := by
  unfold stp
  split
  · exact few_write h _ _
  · split
    · exact h.mono (Nat.le_succ _)
    · split
      · exact (few_sync h).mono (Nat.le_succ _)
      · split
        · unfold D.setFuse
          split
          · exact h.mono (Nat.le_succ _)
          · exact h.mono (Nat.le_succ _)
        · exact ⟨by simp [D.crash], Nat.le_succ_of_le h.2⟩
end Go.Proofs.Ytcbiagdpolhbfaa
