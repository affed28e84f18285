/- disk.New, walked. -/
import Derived.Test.YtcbiagdpolhbfaaDn
namespace Go.Proofs.Ytcbiagdpolhbfaa
open Go.RowKit
open D (St)

/-- A disk of the call's own: every block of it is new. -/
def Own (w : World) (p g : Nat) (wv : Value) (s : St) (B : Nat) : Prop := Dsk w p g wv s ∧ ∀ b, fp p g wv b → B ≤ b
theorem new_bad (n : Int) (w : World) (h : n < 8 ∨ 4096 < n) :
    Calls Try.prog 9 #[.int .i64 n] w fun e w' => e = .returned (.tuple #[.pointer none, .int .i64 1]) ∧ w' = w := by
  have hq : (decide (n < 8) = true) ∨ (decide (n < 8) = false ∧ decide (4096 < n) = true) := by simp; omega
  clear h
  rcases hq with hq | ⟨hq, hq2⟩
  all_goals
    go_enter Try.func9, Try.ntmps9
    go_wp2
    go_ret2
    exact ⟨rfl, rfl⟩
theorem new_any (n : Nat) (w : World) (h1 : 8 ≤ n) (h2 : n ≤ 4096) :
    Calls Try.prog 9 #[.int .i64 (n : Int)] w fun e w' => ∃ p g, e = .returned (.tuple #[.pointer (some ⟨p, 0, none⟩), .int .i64 0]) ∧ Own w' p g (.slice none 0 0) (D.new n) w.heap.size ∧ Below w.heap.size w w' := by
  obtain ⟨i0, hi0, hz0, hz1, hz2⟩ := info_parts Try.infoZ73
  have hz := (zero_of_info Try.zero65).1
  have q1 : decide ((n : Int) < 8) = false := by simp; omega
  have q2 : decide (4096 < (n : Int)) = false := by simp; omega
  have HM := Lib.hid (made_blocks n)
  generalize zb = Z at *
  go_enter Try.func9, Try.ntmps9
  go_wp2_with (first
    | (refine wpList_make_full _ rfl _ _ 62 rfl w.heap.size 73 i0 _ 512 Try.underlying62 hi0 hz0 hz1 .i64 .i64 _ _ n rfl rfl rfl rfl ?b1 ?b2 (Nat.le_refl _) ?_)
    | fail)
  case b1 => rw [hz2]; omega
  case b2 => unfold maxLen; omega
  intro w1 ho hg
  have HO := Lib.hid ho
  have HB : Hid (Below w.heap.size w w1) := (Below.refl _ _).grown hg (Nat.le_refl _) (fun k h => by cases h)
  clear ho hg
  go_wp2
  go_ret2
  refine ⟨_, w.heap.size, rfl, ⟨new_dsk (s := D.new n) ?_ (by simp [D.new]) (D.new_ok h1 h2) (World.ownsRow_nil _ _ _ _) (by simp [Value.ownBlock]) rfl rfl rfl, ?_⟩, HB.out.alloc HB.out.size _⟩
  · have := HO.out
    rw [HM.out] at this
    exact Go.Joins.ownsRow_le this (Nat.zero_le _)
  · rintro b (rfl | rfl | q)
    · exact HB.out.size
    · exact Nat.le_refl _
    · simp [Value.ownBlock] at q
end Go.Proofs.Ytcbiagdpolhbfaa
