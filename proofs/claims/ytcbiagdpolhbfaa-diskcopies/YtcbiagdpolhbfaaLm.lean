/- same: both read the same, block by block. -/
import Derived.Test.YtcbiagdpolhbfaaLk
namespace Go.Proofs.Ytcbiagdpolhbfaa
open Go.RowKit
open D (St)

set_option maxRecDepth 100000 in
set_option maxHeartbeats 1000000 in
theorem same_any {w : World} {p g : Nat} {wv sv rw_ : Value} {s : St} (hd : Dsk w p g wv s) (hr : Rep w sv rw_ s) :
    Calls Try.prog 12 #[.pointer (some ⟨p, 0, none⟩), rv sv rw_ s] w fun e w' => e = .returned (.bool true) ∧ Below w.heap.size w w' := by
  obtain ⟨A, c, rfl⟩ := row_form hr.safe
  obtain ⟨A2, c2, rfl⟩ := row_form hr.waits
  have HM := Lib.hid hr.ok.many
  have HA := Lib.hid (alb (w := w) (.cells #[.slice A s.safe.length c, .slice A2 s.waits.length c2, .int .i64 s.fuse, .bool s.down, .int .i64 (s.writes : Int)] 31))
  have HX := Lib.hid (Box.made w (.slice A s.safe.length c) (.slice A2 s.waits.length c2) s.fuse s.down (s.writes : Int) 31 w.heap.size rfl)
  have HP : Hid (∀ W, Below w.heap.size w W → ∀ n : Int, Calls Try.prog 19 #[.pointer (some ⟨p, 0, none⟩), .int .i64 n] W fun e w' => ∃ v, e = .returned (.tuple #[v, .int .i64 (readE s n)]) ∧ w'.ownsRow W.heap.size 5 1 v (readB s n).length (bvs (readB s n)) ∧ Below W.heap.size W w') := fun W h n => read_any (hd.below h) n
  have HQ : Hid (∀ W, Below w.heap.size w W → ∀ n : Int, Calls Try.prog 25 #[.agg #[.slice A s.safe.length c, .slice A2 s.waits.length c2, .int .i64 s.fuse, .bool s.down, .int .i64 (s.writes : Int)], .int .i64 n] W fun e w' => e = .returned (.tuple #[.string (str (readB s n)), .int .i64 (readE s n)]) ∧ Below W.heap.size W w') := fun W h n => refread_any (hr.below h) n
  clear hd hr
  unfold rv
  generalize s.safe.length = n1 at *
  generalize s.waits.length = n2 at *
  generalize s.fuse = fu at *
  generalize s.down = dn at *
  generalize (s.writes : Int) = nw at *
  go_enter Try.func12, Try.ntmps12
  go_wp2
  generalize w.alloc (.cells #[.slice A n1 c, .slice A2 n2 c2, .int .i64 fu, .bool dn, .int .i64 nw] 31) = w1 at *
  go_loopw [5] (fun i wr => ∃ k : Nat, k ≤ n1 + 2 ∧ i = .int .i64 ((k : Int) - 1) ∧ Hid (Below w.heap.size w wr) ∧ Hid (Box wr w.heap.size (.slice A n1 c) (.slice A2 n2 c2) fu dn nw)) (fun i _ => ((n1 : Int) + 1 - intOf i).toNat)
  case atStart => exact ⟨0, Nat.zero_le _, rfl, HA, HX⟩
  case round =>
    obtain ⟨k, hk, rfl, HB, HY⟩ := hrel
    have hm := HM.out
    have u0 := HY.out.c0
    by_cases hk2 : k ≤ n1 + 1
    · have hq : decide ((k : Int) - 1 ≤ (n1 : Int)) = true := by simp; omega
      generalize hz : (k : Int) - 1 = z at *
      go_wp2_with fail
      refine (HP.out wr HB.out z).mono ?_
      rintro e w3 ⟨v, rfl, ho, hb⟩
      have HV := Lib.hid (Byts.own ho)
      have HB3 := Lib.hid (btr HB.out hb)
      have HY3 := Lib.hid (HY.out.below hb)
      have v0 := HY3.out.c0
      have v1 := HY3.out.c1
      have v2 := HY3.out.c2
      have v3 := HY3.out.c3
      have v4 := HY3.out.c4
      clear ho hb
      go_wp2_with fail
      refine (HQ.out w3 HB3.out z).mono ?_
      rintro e w4 ⟨rfl, hb⟩
      have hconv := (HV.out.below hb).conv
      have HB4 := Lib.hid (btr HB3.out hb)
      have HY4 := Lib.hid (HY3.out.below hb)
      clear hb v0 v1 v2 v3 v4 u0
      generalize readE s z = ze at *
      generalize str (readB s z) = sb at *
      have qz : IntKind.i64.wrap (z + 1) = z + 1 := by rw [IntKind.wrap_i64]; omega
      go_wp2
      go_roundw
      case rel => exact ⟨k + 1, by omega, by simp; omega, HB4, HY4⟩
      case measure => simp [intOf]; omega
    · have hq : decide ((k : Int) - 1 ≤ (n1 : Int)) = false := by simp; omega
      go_wp2
      go_ret
      exact ⟨rfl, HB.out⟩
end Go.Proofs.Ytcbiagdpolhbfaa
