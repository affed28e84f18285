/- append of a slice of bytes, whatever it is, to a row of the call's own: guarded or not. -/
import Derived.Test.YtceoelemlokelaaByt
namespace Go.Proofs.Ytceoelemlokelaa
open Go.RowKit

theorem run_append_byts {w : World} (base : Nat) (ty : TypeId) (v vx : Value) (n : Nat) (xs : List Value) (l : List UInt8) (hown : w.ownsRow base 5 1 v n xs) (hb : Byts w vx l)
    (hm : n + l.length ≤ 1000000) (hbase : base ≤ w.heap.size) :
    ∃ v' w', (Builtin.append_ #[29, 29] ty #[v, vx]).run Try.prog w = .ok v' w' ∧ w'.ownsRow base 5 1 v' (n + l.length) (xs ++ bvs l) ∧ w.grownBy w' v.ownBlock := by
  obtain ⟨i0, hi0, hz0, hz1, hz2⟩ := info_parts Try.info5
  obtain ⟨A, c, rfl, hc, h⟩ := hb
  cases A with
  | none =>
    obtain rfl : l = [] := by
      cases l with
      | nil => rfl
      | cons x l => obtain ⟨b, off, e, _⟩ := h (by simp); cases e
    refine ⟨v, w, ?_, by simpa [bvs] using hown, World.grownBy.refl _ _⟩
    rcases hown.2 with ⟨rfl, rfl⟩ | ⟨g, cap, cur, rfl, _, _, hnc, _⟩
    · simp [Builtin.append_, run_underlying Try.underlying29, sizeOf, typeInfo, hi0, Builtin.lenOf, Builtin.firstCells]
    · simp [Builtin.append_, run_underlying Try.underlying29, sizeOf, typeInfo, hi0, Builtin.lenOf, Builtin.firstCells, hnc, storeCells]
  | some a =>
    obtain ⟨v', w', hr, h2, h3, _⟩ := run_append_own (P := Try.prog) w base 29 ty 5 i0 _ 1 1 Try.underlying29 hi0 hz0 hz1 hz2 rfl (by omega) v n xs hown a l.length c (bvs l) (by rw [bvs_length, Nat.mul_one])
      (fun j u hj => by
        have hjl : j < l.length := by rw [← bvs_length]; exact (List.getElem?_eq_some_iff.1 hj).1
        obtain ⟨b, off, e, q⟩ := h (by omega)
        simp only [Option.some.injEq] at e
        subst e
        have e : (⟨b, off, Option.none⟩ : Addr).add j = ⟨b, off + j, Option.none⟩ := by unfold Addr.add; split <;> simp_all
        rw [bvs_get l j hjl] at hj
        rw [e, ← hj]
        exact q j hjl) (bvs_one l) (by unfold maxLen; omega) (by omega) hbase
    exact ⟨v', w', hr, h2, h3⟩

theorem wpList_append_byts {w : World} {ops : Array Oper} {rest : List Oper} {o : Oper} {a : Act} {Q : Exit → Act → World → Prop} (hwant : Region.wanted o (yielded ops a.tmps) = true) (s x : Operand)
    (ho : o.op = .call { callee := .builtin .append, args := #[s, x], argTypes := #[29, 29] })
    (base : Nat) (v vx : Value) (n : Nat) (xs : List Value) (l : List UInt8) (hs : a.eval s = v) (hx : a.eval x = vx) (hown : w.ownsRow base 5 1 v n xs) (hb : Byts w vx l)
    (hm : n + l.length ≤ 1000000) (hbase : base ≤ w.heap.size)
    (h : ∀ v' w', w'.ownsRow base 5 1 v' (n + l.length) (xs ++ bvs l) → w.grownBy w' v.ownBlock → wpList Try.prog ops Q rest (a.put o.dst v') w') : wpList Try.prog ops Q (o :: rest) a w := by
  obtain ⟨v', w', hr, h2, h3⟩ := run_append_byts base o.type v vx n xs l hown hb hm hbase
  refine wpList_step fun K hK => ?_
  rw [if_pos hwant]
  unfold Oper.wp execOp
  simp only [ho, resolve, invoke, builtin, Sem.run_bind, Sem.run_pure, Result.andThen_ok, List.map_toArray, List.map_cons, List.map_nil, hs, hx, hr]
  exact hK _ _ (h v' w' h2 h3)
end Go.Proofs.Ytceoelemlokelaa
