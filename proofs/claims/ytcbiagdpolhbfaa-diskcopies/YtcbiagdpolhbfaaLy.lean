/- step at every operation. -/
import Derived.Test.YtcbiagdpolhbfaaLt
import Derived.Test.YtcbiagdpolhbfaaLu
import Derived.Test.YtcbiagdpolhbfaaLv
import Derived.Test.YtcbiagdpolhbfaaLw
import Derived.Test.YtcbiagdpolhbfaaLx
namespace Go.Proofs.Ytcbiagdpolhbfaa
open Go.RowKit
open D (St)

theorem step_any {w : World} {p g : Nat} {wv sv rw_ : Value} {s : St} (h : Mix w p g wv sv rw_ s s) (o : O) (ho : OkO o) (lv : Value) (hl : Losses w lv o.l) (hf : 0 < o.l.length → ∀ k, lv.ownBlock = some k → ¬ fp p g wv k) (h1 : s.waits.length ≤ 1000000) (h2 : s.writes ≤ 1000000) :
    Calls Try.prog 11 #[.pointer (some ⟨p, 0, none⟩), rv sv rw_ s, .agg (ocells o lv).toArray] w fun e w' => ∃ wv' sv' rw', e = .returned (.tuple #[rv sv' rw' (stp s o), .bool true]) ∧ Sp w w.heap.size w' p g wv sv rw_ wv' sv' rw' (stp s o) (stp s o) := by
  obtain ⟨A, c, rfl⟩ := row_form h.rep.safe
  obtain ⟨A2, c2, rfl⟩ := row_form h.rep.waits
  obtain ⟨LA, lc, rfl, hl2⟩ := id hl
  have hm : o.d % 5 = 0 ∨ o.d % 5 = 1 ∨ o.d % 5 = 2 ∨ o.d % 5 = 3 ∨ o.d % 5 = 4 := by omega
  rcases hm with hm | hm | hm | hm | hm
  · have e : stp s o = D.write s o.a (bytesL o.c o.k o.n) := by unfold stp; rw [if_pos hm]
    rw [e]
    exact step_write h rfl o.d o.a o.c o.k o.n LA o.l.length lc ho.d hm ho.k ho.n1 ho.n2 h1 h2
  · have e : stp s o = s := by unfold stp; rw [if_neg (by omega), if_pos hm]
    rw [e]
    exact step_read h rfl o.d o.a o.c o.k o.n LA o.l.length lc ho.d hm
  · have e : stp s o = D.sync s := by unfold stp; rw [if_neg (by omega), if_neg (by omega), if_pos hm]
    rw [e]
    exact step_sync h rfl o.d o.a o.c o.k o.n LA o.l.length lc ho.d hm
  · have e : stp s o = D.setFuse s o.a := by unfold stp; rw [if_neg (by omega), if_neg (by omega), if_neg (by omega), if_pos hm]
    rw [e]
    exact step_fuse h rfl o.d o.a o.c o.k o.n LA o.l.length lc ho.d hm ho.a
  · have e : stp s o = D.crash s o.l := by unfold stp; rw [if_neg (by omega), if_neg (by omega), if_neg (by omega), if_neg (by omega)]
    rw [e]
    exact step_crash h rfl o.d o.a o.c o.k o.n LA o.l.length lc ho.d hm o.l hl hf
end Go.Proofs.Ytcbiagdpolhbfaa
