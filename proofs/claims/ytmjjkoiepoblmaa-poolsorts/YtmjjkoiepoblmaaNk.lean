/- The chapter's example. -/
import Derived.Test.YtmjjkoiepoblmaaNi
import Derived.Test.YtmjjkoiepoblmaaNj
namespace Go.Proofs.Ytmjjkoiepoblmaa
open Go.RowKit Go.Sort Go.Maps

/-- A pool that was made behind w0, of which nothing else has turned since. -/
def Own (w0 w : World) (p : Nat) (s : List Int) : Prop := ∃ F, Po w p F s ∧ (∀ b, F b → w0.heap.size ≤ b) ∧ Below w0.heap.size w0 w
theorem Own.turned {w0 w w' : World} {p : Nat} {F : Nat → Prop} {s : List Int} (hF : ∀ b, F b → w0.heap.size ≤ b) (hB : Below w0.heap.size w0 w) (t : Turned w w' p F s) : Own w0 w' p s := by
  obtain ⟨F', h, k, g⟩ := t
  have hs := hB.size
  exact ⟨F', h, fun b hb => (g b hb).elim (hF b) (fun q => by omega), hB.trans (k.below hs hF)⟩
theorem own_new (w : World) : Calls Try.prog 8 #[] w fun e w' => ∃ p, e = .returned (.pointer (some ⟨p, 0, none⟩)) ∧ Own w w' p [] := by
  refine (new_any w).mono ?_
  rintro e w' ⟨p, rfl, hB, F, h, hF⟩
  exact ⟨p, rfl, F, h, hF, hB⟩
theorem own_put {w0 w : World} {p : Nat} {s : List Int} (h : Own w0 w p s) (n : Int) (h0 : 0 ≤ n) (h1 : n < 4294967296) (hl : s.length < 65535) :
    Calls Try.prog 13 #[.pointer (some ⟨p, 0, none⟩), .int .u32 n] w fun e w' => e = .returned (.bool (!decide (n ∈ s))) ∧ Own w0 w' p (putS n s) := by
  obtain ⟨F, h, hF, hB⟩ := h
  refine (put_any w p F s n h h0 h1 hl).mono ?_
  rintro e w' ⟨rfl, t⟩
  exact ⟨rfl, Own.turned hF hB t⟩
theorem own_take {w0 w : World} {p : Nat} {x : Int} {s : List Int} (h : Own w0 w p (x :: s)) (hl : s.length < 65535) :
    Calls Try.prog 14 #[.pointer (some ⟨p, 0, none⟩)] w fun e w' => e = .returned (.tuple #[.int .u32 x, .bool true]) ∧ Own w0 w' p s := by
  obtain ⟨F, h, hF, hB⟩ := h
  refine (take_some w p F x s h hl).mono ?_
  rintro e w' ⟨rfl, t⟩
  exact ⟨rfl, Own.turned hF hB t⟩
theorem own_take0 {w0 w : World} {p : Nat} (h : Own w0 w p []) :
    Calls Try.prog 14 #[.pointer (some ⟨p, 0, none⟩)] w fun e w' => e = .returned (.tuple #[.int .u32 0, .bool false]) ∧ w = w' := by
  obtain ⟨F, h, hF, hB⟩ := h
  exact take_none w p F h
theorem own_plen {w0 w : World} {p : Nat} {s : List Int} (h : Own w0 w p s) : Calls Try.prog 10 #[.pointer (some ⟨p, 0, none⟩)] w fun e w' => e = .returned (.int .i64 s.length) ∧ w = w' := by
  obtain ⟨F, h, hF, hB⟩ := h
  exact plen_any w p F s h
theorem Own.below {w0 w w' : World} {p : Nat} {s : List Int} (h : Own w0 w p s) (k : Below w.heap.size w w') : Own w0 w' p s := by
  obtain ⟨F, h, hF, hB⟩ := h
  exact ⟨F, h.below k, hF, btr hB k⟩
theorem own_has {w0 w : World} {p : Nat} {s : List Int} (h : Own w0 w p s) (n : Int) (h0 : 0 ≤ n) (h1 : n < 4294967296) :
    Calls Try.prog 15 #[.pointer (some ⟨p, 0, none⟩), .int .u32 n] w fun e w' => e = .returned (.bool (decide (n ∈ s))) ∧ Below w.heap.size w w' := by
  obtain ⟨F, h, hF, hB⟩ := h
  exact phas_any w p F s n h h0 h1
theorem own_list {w0 w : World} {p : Nat} {s : List Int} (h : Own w0 w p s) (hl : s.length < 65536) :
    Calls Try.prog 12 #[.pointer (some ⟨p, 0, none⟩)] w fun e w' => ∃ v', e = .returned v' ∧ w'.ownsRow w.heap.size 27 1 v' s.length (us s) ∧ Below w.heap.size w w' := by
  obtain ⟨F, h, hF, hB⟩ := h
  exact list_any w p F s h hl

set_option maxHeartbeats 1600000 in
theorem fixed_any (w : World) : Calls Try.prog 7 #[] w fun e w' => e = .returned (.bool true) ∧ Below w.heap.size w w' := by
  have C := own_new w
  go_enter Try.func7, Try.ntmps7
  go_wp2_with (first
    | (go_at_call 8; refine C.mono ?_; rintro e w1 ⟨p, rfl, ho⟩; have HO := Lib.hid ho; clear ho)
    | (go_at_call 13; refine (own_put HO.out _ (by decide) (by decide) (by decide)).mono ?_; rintro e w1 ⟨he, ho⟩; have he2 : e = .returned (.bool true) := he; subst he2; have HO := Lib.hid ho; clear ho)
    | (go_at_call 14; refine (own_take (x := 3) (s := [5, 9]) HO.out (by decide)).mono ?_; rintro e w1 ⟨rfl, ho⟩; have HO := Lib.hid ho; clear ho)
    | (go_at_call 14; refine (own_take (x := 5) (s := [9]) HO.out (by decide)).mono ?_; rintro e w1 ⟨rfl, ho⟩; have HO := Lib.hid ho; clear ho)
    | (go_at_call 10; refine (own_plen HO.out).mono ?_; rintro e w1 ⟨rfl, rfl⟩))
  go_ret
  obtain ⟨F, _, _, hB⟩ := HO.out
  exact ⟨rfl, hB⟩
end Go.Proofs.Ytmjjkoiepoblmaa
