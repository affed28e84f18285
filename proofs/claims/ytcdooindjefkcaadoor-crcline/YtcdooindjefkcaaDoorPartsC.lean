/- The walk of the law CrcParts. -/
import Derived.Test.YtcdooindjefkcaaDoorSumsLaw
import Derived.Test.YtcdooindjefkcaaDoorApp
namespace Go.Proofs.YtcdooindjefkcaaDoor
open Go.RowKit
open C (crc)

/-- A row of the call's own lies behind its base. -/
theorem own_block {w : World} {base n : Nat} {v : Value} {xs : List Value} (h : w.ownsRow base 5 1 v n xs) : ∀ k, v.ownBlock = some k → base ≤ k := by
  intro k hk
  rcases h.2 with ⟨rfl, _⟩ | ⟨g, cap, cur, rfl, hg, _⟩
  · simp [Value.ownBlock] at hk
  · simp [Value.ownBlock] at hk
    omega

set_option maxHeartbeats 800000 in
theorem parts_core (A1 A2 : Option Addr) (k1 c1 k2 c2 : Nat) (l1 l2 : List UInt8) (hk1 : k1 ≤ 1000) (hk2 : k2 ≤ 1000) (z : Nat) (y : Int) (w : World)
    (E1 : Hid (l1.length = k1)) (E2 : Hid (l2.length = k2)) (QA : Hid (Byts w (.slice A1 k1 c1) l1)) (QB : Hid (Byts w (.slice A2 k2 c2) l2))
    (HF : Hid (∀ W : World, Below w.heap.size w W → Calls Tryd.prog 7 #[] W fun e w' => e = .returned (.bool true) ∧ Below W.heap.size W w'))
    (HO : Hid (∀ (W : World) (v : Value), Below w.heap.size w W → Byts W v (l1 ++ l2) → Calls Tryd.prog 8 #[v] W fun e w' => e = .returned (.int .u32 y) ∧ w' = W))
    (HS : Hid (∀ W : World, Below w.heap.size w W → Calls Tryd.prog 8 #[.slice A1 k1 c1] W fun e w' => e = .returned (.int .u32 (z : Int)) ∧ w' = W))
    (HM : Hid (∀ W : World, Below w.heap.size w W → Calls Tryd.prog 10 #[.int .u32 (z : Int), .slice A2 k2 c2] W fun e w' => e = .returned (.int .u32 y) ∧ w' = W)) :
    Calls Tryd.prog 4 #[.slice A1 k1 c1, .slice A2 k2 c2] w fun e w' => e = .returned (.bool true) ∧ Below w.heap.size w w' := by
  go_enter Tryd.func4, Tryd.ntmps4
  go_wp2_with fail
  refine (HF.out _ (Below.refl _ _)).mono ?_
  rintro e w1 ⟨rfl, hB⟩
  go_wp2_with (first
    | (at_builtin; refine wpList_append_byts rfl _ _ rfl w1.heap.size _ _ 0 [] l1 rfl rfl (World.ownsRow_lit w1 #[] 0 (Nat.le_refl _) (by unfold maxLen; omega) rfl) (QA.out.below (bal hB _)) ?c1 ?c2 ?_)
    | go_in)
  case c1 => rw [E1.out]; omega
  case c2 => simp
  intro v2 w2 hown hgrow
  have hb2 : Below w1.heap.size w1 w2 := (alb _).grown hgrow (by simp) (by intro k hk; simp [Value.ownBlock] at hk; omega)
  have HOWN := Lib.hid hown
  clear hgrow hown
  go_wp2_with (first
    | (at_builtin; refine wpList_append_byts rfl _ _ rfl w1.heap.size _ _ _ _ l2 rfl rfl HOWN.out (QB.out.below (btr hB hb2)) ?c1 ?c2 ?_)
    | go_in)
  case c1 => rw [E1.out, E2.out]; omega
  case c2 => exact hb2.size
  intro v3 w3 hown hgrow
  have hb3 : Below w1.heap.size w1 w3 := hb2.grown hgrow hb2.size (own_block HOWN.out)
  rw [← bvs_append, ← List.length_append] at hown
  have hby := Byts.own hown
  have hB3 : Below w.heap.size w w3 := btr hB hb3
  clear hgrow hown hb2 hb3 HOWN
  have H1 := Lib.hid (HO.out w3 v3 hB3 hby)
  have H2 := Lib.hid (HS.out w3 hB3)
  have H3 := Lib.hid (HM.out w3 hB3)
  clear hby
  go_wp2_with fail
  refine H1.out.mono ?_
  rintro e w4 ⟨rfl, rfl⟩
  go_wp2_with fail
  refine H2.out.mono ?_
  rintro e w5 ⟨rfl, rfl⟩
  go_wp2_with fail
  refine H3.out.mono ?_
  rintro e w6 ⟨rfl, rfl⟩
  go_wp2
  go_ret
  exact ⟨rfl, hB3⟩

theorem parts_big (A1 A2 : Option Addr) (k1 c1 k2 c2 : Nat) (h : 1000 < k1 ∨ (k1 ≤ 1000 ∧ 1000 < k2)) (w : World) (hT : Tab w) :
    Calls Tryd.prog 4 #[.slice A1 k1 c1, .slice A2 k2 c2] w fun e w' => e = .returned (.bool true) ∧ Below w.heap.size w w' := by
  have HF := Lib.hid (fixed_any w hT)
  clear hT
  rcases h with h | ⟨h, h2⟩
  all_goals
    go_enter Tryd.func4, Tryd.ntmps4
    go_wp2_with fail
    refine HF.out.mono ?_
    rintro e w4 ⟨rfl, h4⟩
    go_wp2
    go_ret
    exact ⟨rfl, h4⟩

theorem partslaw_any (v1 v2 : Value) (l1 l2 : List UInt8) (w : World) (b1 : Byts w v1 l1) (b2 : Byts w v2 l2) (hT : Tab w) :
    Calls Tryd.prog 4 #[v1, v2] w fun e w' => e = .returned (.bool true) ∧ Below w.heap.size w w' := by
  obtain ⟨A1, c1, rfl⟩ := b1.form
  obtain ⟨A2, c2, rfl⟩ := b2.form
  by_cases h1 : l1.length ≤ 1000
  · by_cases h2 : l2.length ≤ 1000
    · exact parts_core A1 A2 l1.length c1 l2.length c2 l1 l2 h1 h2 (crc 0 l1) ((crc 0 (l1 ++ l2) : Nat) : Int) w rfl rfl b1 b2 (fun W hB => fixed_any W (hT.below hB))
        (fun W v hB hv => sum_any v (l1 ++ l2) W hv (by simp; omega) (hT.below hB)) (fun W hB => sum_any _ l1 W (b1.below hB) (by omega) (hT.below hB))
        (fun W hB => by rw [C.crc_append]; exact more_any _ (C.crc_lt l1 (by omega)) _ l2 W (b2.below hB) (by omega) (hT.below hB))
    · exact parts_big A1 A2 _ c1 _ c2 (.inr ⟨h1, by omega⟩) w hT
  · exact parts_big A1 A2 _ c1 _ c2 (.inl (by omega)) w hT
end Go.Proofs.YtcdooindjefkcaaDoor
