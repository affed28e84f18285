/- The walk of the law PageMoved. -/
import Derived.Test.YtnhihkngelckoaaDoorGf
namespace Go.Proofs.YtnhihkngelckoaaDoor
open Go.RowKit
open C (crc)

set_option maxHeartbeats 1600000 in
theorem moved_core (n m len : Nat) (A : Option Addr) (c g k2 : Nat) (K E : Int) (w : World) (hl : len ≤ 500)
    (hcase : (((n : Int) == (m : Int)) = true ∧ E = 0) ∨ (((n : Int) == (m : Int)) = false ∧ E = 4 ∧ k2 = 0))
    (HF : Hid (∀ W : World, Below w.heap.size w W → Calls Tryd.prog 7 #[] W fun e w' => e = .returned (.bool true) ∧ Below W.heap.size W w'))
    (HS : Hid (Calls Tryd.prog 8 #[.int .u32 (n : Int), .int .u8 3, .slice A len c] w fun e w1 => e = .returned (.tuple #[.slice (some ⟨g, 0, none⟩) 512 512, .int .i64 0]) ∧ Below w.heap.size w w1 ∧
      Calls Tryd.prog 10 #[.int .u32 (m : Int), .slice (some ⟨g, 0, none⟩) 512 512] w1 fun e w2 => ∃ A2 c2, e = .returned (.tuple #[.int .u8 K, .slice A2 k2 c2, .int .i64 E]) ∧ Below w1.heap.size w1 w2)) :
    Calls Tryd.prog 6 #[.int .u32 (n : Int), .int .u32 (m : Int), .slice A len c] w fun e w' => e = .returned (.bool true) ∧ Below w.heap.size w w' := by
  have hd : decide ((500 : Int) < (len : Int)) = false := by simp; omega
  go_enter Tryd.func6, Tryd.ntmps6
  go_wp2_with fail
  refine HS.out.mono ?_
  rintro e w1 ⟨rfl, hB, ho⟩
  have HO := Lib.hid ho
  clear ho HS
  go_wp2_with fail
  refine HO.out.mono ?_
  rintro e w2 ⟨A2, c2, rfl, h2⟩
  replace hB := btr hB h2
  clear h2 HO
  go_wp2_with fail
  refine (HF.out _ hB).mono ?_
  rintro e w3 ⟨rfl, h3⟩
  replace hB := btr hB h3
  clear h3
  rcases hcase with ⟨q1, rfl⟩ | ⟨q1, rfl, rfl⟩
  all_goals
    go_wp2
    go_ret
    exact ⟨rfl, hB⟩
theorem moved_big (n m : Int) (A : Option Addr) (c len : Nat) (h : 500 < len) (w : World) (hT : Tab w) :
    Calls Tryd.prog 6 #[.int .u32 n, .int .u32 m, .slice A len c] w fun e w' => e = .returned (.bool true) ∧ Below w.heap.size w w' := by
  have HF := Lib.hid (fixed_any w hT)
  clear hT
  go_enter Tryd.func6, Tryd.ntmps6
  go_wp2_with fail
  refine HF.out.mono ?_
  rintro e w4 ⟨rfl, h4⟩
  go_wp2
  go_ret
  exact ⟨rfl, h4⟩
theorem movedlaw_any (n m : Nat) (hn : n < 4294967296) (hm : m < 4294967296) (v : Value) (l : List UInt8) (w : World) (b : Byts w v l) (hT : Tab w) :
    Calls Tryd.prog 6 #[.int .u32 (n : Int), .int .u32 (m : Int), v] w fun e w' => e = .returned (.bool true) ∧ Below w.heap.size w w' := by
  obtain ⟨A, c, rfl⟩ := b.form
  by_cases h : l.length ≤ 500
  · have hp := G.page_open n m 3 l h hn hm
    refine moved_core n m l.length A c w.heap.size (G.openB m (G.page n 3 l)).length (((G.openK m (G.page n 3 l)).toNat : Nat) : Int) ((G.openE m (G.page n 3 l) : Nat) : Int) w h ?_ (fun W hB => fixed_any W (hT.below hB)) ?_
    · by_cases e : n = m
      · rw [if_pos e] at hp
        exact .inl ⟨by simp [e], by rw [hp]; rfl⟩
      · rw [if_neg e] at hp
        exact .inr ⟨by simp; omega, by rw [hp]; rfl, by rw [(G.open_no m (G.page n 3 l) (by omega)).2]; rfl⟩
    · refine (seal_page n hn 3 _ l w b h hT).mono fun e w1 ⟨h1, h2, h3⟩ => ⟨h1, h3, ?_⟩
      refine (open_any m hm _ _ w1 h2.byts (hT.below h3)).mono fun e w2 ⟨v2, k1, k2, k3⟩ => ?_
      obtain ⟨A2, c2, rfl⟩ := k2.form
      exact ⟨A2, c2, k1, k3⟩
  · exact moved_big _ _ A c _ (by omega) w hT
end Go.Proofs.YtnhihkngelckoaaDoor
