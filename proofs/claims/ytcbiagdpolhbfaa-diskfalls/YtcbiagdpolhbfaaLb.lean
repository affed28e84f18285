/- A disk of the call's own, call by call; the chapter's example. -/
import Derived.Test.YtcbiagdpolhbfaaLa
namespace Go.Proofs.Ytcbiagdpolhbfaa
open Go.RowKit
open D (St)

/-- A disk whose blocks are all new since B. -/
def OwnD (w : World) (p g : Nat) (s : St) (B : Nat) : Prop := ∃ wv, Own w p g wv s B
theorem OwnD.below {w w' : World} {p g : Nat} {s : St} {B : Nat} (h : OwnD w p g s B) (k : Below w.heap.size w w') : OwnD w' p g s B := by
  obtain ⟨wv, h1, h2⟩ := h
  exact ⟨wv, h1.below k, h2⟩
theorem OwnD.turn {w w' : World} {p g : Nat} {wv : Value} {s s' : St} {B : Nat} (h : Own w p g wv s B) (hB : B ≤ w.heap.size) (k : Turned w w' p g wv s') : OwnD w' p g s' B ∧ Below B w w' := by
  obtain ⟨wv', hd, hk, hb⟩ := k
  refine ⟨⟨wv', hd, ?_⟩, hk.below hB h.2⟩
  rintro b (q | q | q)
  · exact h.2 b (.inl q)
  · exact h.2 b (.inr (.inl q))
  · rcases hb b q with q | q
    · exact h.2 b (.inr (.inr q))
    · omega
theorem write_own {w : World} {p g B : Nat} {s : St} (h : OwnD w p g s B) (hB : B ≤ w.heap.size) (n : Int) (bv : Value) (y : List UInt8) (hv : Byts w bv y) (h1 : s.waits.length ≤ 1000000) (h2 : s.writes ≤ 1000000) :
    Calls Try.prog 13 #[.pointer (some ⟨p, 0, none⟩), .int .i64 n, bv] w fun e w' => e = .returned (.int .i64 (D.writeE s n y)) ∧ OwnD w' p g (D.write s n y) B ∧ Below B w w' := by
  obtain ⟨wv, h⟩ := h
  exact (write_any h.1 n bv y hv h1 h2).mono fun e w' q => ⟨q.1, OwnD.turn h hB q.2⟩
theorem sync_own {w : World} {p g B : Nat} {s : St} (h : OwnD w p g s B) (hB : B ≤ w.heap.size) :
    Calls Try.prog 15 #[.pointer (some ⟨p, 0, none⟩)] w fun e w' => e = .returned (.int .i64 (D.syncE s)) ∧ OwnD w' p g (D.sync s) B ∧ Below B w w' := by
  obtain ⟨wv, h⟩ := h
  exact (sync_any h.1).mono fun e w' q => ⟨q.1, OwnD.turn h hB q.2⟩
theorem fuse_own {w : World} {p g B : Nat} {s : St} (h : OwnD w p g s B) (hB : B ≤ w.heap.size) (n : Int) (hn : n ≤ 9223372036854775807) :
    Calls Try.prog 22 #[.pointer (some ⟨p, 0, none⟩), .int .i64 n] w fun e w' => e = .returned (.tuple #[]) ∧ OwnD w' p g (D.setFuse s n) B ∧ Below B w w' := by
  obtain ⟨wv, h⟩ := h
  exact (fuse_any h.1 n hn).mono fun e w' q => ⟨q.1, OwnD.turn h hB ⟨wv, q.2.1, q.2.2, fun b hb => .inl hb⟩⟩
theorem Losses.lt {w : World} {v : Value} {l : List (Int × Int)} (h : Losses w v l) (hl : 0 < l.length) : ∀ k, v.ownBlock = some k → k < w.heap.size := by
  obtain ⟨A, c, rfl, _, h2⟩ := h
  obtain ⟨b, off, rfl, h3⟩ := h2 hl
  intro k hk
  have e : b = k := Option.some.inj hk
  subst e
  exact World.block_lt_of_cell? w _ (h3 0 hl).1
/-- Losses that lie ahead of B, or were laid behind the disk. -/
theorem crash_own {w0 w : World} {p g B : Nat} {s : St} (h : OwnD w0 p g s B) (hb : Below w0.heap.size w0 w) (hB : B ≤ w.heap.size) (lv : Value) (l : List (Int × Int)) (hl : Losses w lv l) (hf : 0 < l.length → ∀ k, lv.ownBlock = some k → w0.heap.size ≤ k ∨ k < B) :
    Calls Try.prog 18 #[.pointer (some ⟨p, 0, none⟩), lv] w fun e w' => e = .returned (.tuple #[]) ∧ OwnD w' p g (D.crash s l) B ∧ Below B w w' := by
  obtain ⟨wv, h⟩ := h
  have h' : Own w p g wv s B := ⟨h.1.below hb, h.2⟩
  refine (crash_any h'.1 lv l hl (fun hp k hk q => ?_)).mono fun e w' q => ⟨q.1, OwnD.turn h' hB q.2⟩
  have h1 := h.1.lt k q
  have h2 := h.2 k q
  rcases hf hp k hk with q | q <;> omega
theorem read_own {w : World} {p g B : Nat} {s : St} (h : OwnD w p g s B) (n : Int) :
    Calls Try.prog 19 #[.pointer (some ⟨p, 0, none⟩), .int .i64 n] w fun e w' => ∃ v, e = .returned (.tuple #[v, .int .i64 (readE s n)]) ∧ w'.ownsRow w.heap.size 5 1 v (readB s n).length (bvs (readB s n)) ∧ Below w.heap.size w w' := by
  obtain ⟨wv, h⟩ := h
  exact read_any h.1 n
theorem down_own {w : World} {p g B : Nat} {s : St} (h : OwnD w p g s B) :
    Calls Try.prog 20 #[.pointer (some ⟨p, 0, none⟩)] w fun e w' => e = .returned (.bool s.down) ∧ w' = w := by
  obtain ⟨wv, h⟩ := h
  exact down_any h.1
theorem waits_own {w : World} {p g B : Nat} {s : St} (h : OwnD w p g s B) :
    Calls Try.prog 16 #[.pointer (some ⟨p, 0, none⟩)] w fun e w' => e = .returned (.int .i64 (s.waits.length : Int)) ∧ w' = w := by
  obtain ⟨wv, h⟩ := h
  exact waits_any h.1
theorem new_own (n : Nat) (w : World) (h1 : 8 ≤ n) (h2 : n ≤ 4096) :
    Calls Try.prog 9 #[.int .i64 (n : Int)] w fun e w' => ∃ p g, e = .returned (.tuple #[.pointer (some ⟨p, 0, none⟩), .int .i64 0]) ∧ OwnD w' p g (D.new n) w.heap.size ∧ Below w.heap.size w w' :=
  (new_any n w h1 h2).mono fun _ _ ⟨p, g, q1, q2, q3⟩ => ⟨p, g, q1, ⟨_, q2⟩, q3⟩
end Go.Proofs.Ytcbiagdpolhbfaa
