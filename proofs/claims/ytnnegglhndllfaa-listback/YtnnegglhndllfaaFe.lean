/- Rows of bodies: each in a block of its own; one more behind them. -/
import Derived.Test.YtnnegglhndllfaaFd
import Derived.Test.YtnnegglhndllfaaKq
import Derived.Test.YtnnegglhndllfaaBs
import Derived.Test.YtnnegglhndllfaaLz
import Derived.RangeFuncBox
namespace Go.Proofs.Ytnnegglhndllfaa
open Go.RowKit

theorem Try.info33 : (Try.prog.info? 33).map (fun i => (i.zero, i.size, i.bytes)) = some (some (.slice none 0 0), 1, 24) := by kernel_rfl
/-- The i-th of the bodies lies in a block of its own. -/
def Inb (W : World) (base : Nat) (vs : List Value) (bs : List (List UInt8)) : Prop :=
  ∀ i (h : i < bs.length), ∃ g, vs[i]? = some (.slice (some ⟨g, 0, none⟩) bs[i].length bs[i].length) ∧ base ≤ g ∧ Bk W g bs[i]
/-- A slice of bodies. -/
def Bods (W : World) (base : Nat) (v : Value) (bs : List (List UInt8)) : Prop := ∃ vs, W.ownsRow base 33 1 v bs.length vs ∧ Inb W base vs bs
theorem Bods.nil (W : World) (base : Nat) : Bods W base (.slice none 0 0) [] := ⟨[], World.ownsRow_nil _ _ _ _, fun i h => by simp at h⟩
/-- What turns neither bytes nor rows of them. -/
def Lets (W W' : World) : Prop := ∀ (b : Nat) (cur : Array Value) (e : TypeId), (e = 33 ∨ e = 5) → W.heap[b]? = some (.cells cur e (0, 0)) → W'.heap[b]? = some (.cells cur e (0, 0))
theorem Bods.lets {W W' : World} {base : Nat} {v : Value} {bs : List (List UInt8)} (h : Bods W base v bs) (k : Lets W W') : Bods W' base v bs := by
  obtain ⟨vs, hr, hi⟩ := h
  refine ⟨vs, ⟨hr.1, ?_⟩, fun i hb => ?_⟩
  · rcases hr.2 with q | ⟨g, cap, cur, e, hb, hg, r⟩
    · exact .inl q
    · exact .inr ⟨g, cap, cur, e, hb, k _ _ _ (.inl rfl) hg, r⟩
  · obtain ⟨g, e, hb2, hk⟩ := hi i hb
    exact ⟨g, e, hb2, k _ _ _ (.inr rfl) hk.1, hk.2⟩
theorem Lets.below {W W' : World} (k : Below W.heap.size W W') : Lets W W' := fun b _ _ _ hb => (k.block b (Array.getElem?_eq_some_iff.1 hb).1).trans hb
theorem Lets.box {W W' : World} {F : Nat → Prop} (k : Keep F W W') (hF : ∀ b o, F b → W.heap[b]? = some o → ∀ cur, o ≠ .cells cur 33 (0, 0) ∧ o ≠ .cells cur 5 (0, 0)) : Lets W W' := fun b cur e he hb => by
  refine (k.block b (Array.getElem?_eq_some_iff.1 hb).1 (fun q => ?_)).trans hb
  have := hF b _ q hb cur
  rcases he with rfl | rfl
  · exact this.1 rfl
  · exact this.2 rfl
/-- A row's block, by its type. -/
theorem own_block {W : World} {base n : Nat} {e : TypeId} {v : Value} {xs : List Value} (h : W.ownsRow base e 1 v n xs) {b : Nat} (hb : v.ownBlock = some b) : ∃ cur, W.heap[b]? = some (.cells cur e (0, 0)) ∧ base ≤ b := by
  rcases h.2 with ⟨rfl, _⟩ | ⟨g, cap, cur, rfl, hbg, hg, _⟩
  · simp [Value.ownBlock] at hb
  · obtain rfl : g = b := by simpa [Value.ownBlock] using hb
    exact ⟨cur, hg, hbg⟩
/-- Whatever is no cells lies as it lay. -/
theorem keep_others {W W' : World} {F : Nat → Prop} (k : Keep F W W') (hF : ∀ b o, F b → W.heap[b]? = some o → o.isCells = true) : KeepsOthers W W' :=
  ⟨k.size, fun b o hb ho => (k.block b (Array.getElem?_eq_some_iff.1 hb).1 (fun q => by rw [hF b o q hb] at ho; cases ho)).trans hb⟩
theorem boxed_keep {W W' : World} {F : Nat → Prop} {B : Nat} {t : TypeId} {v : Value} (h : Boxed W B t v) (k : Keep F W W') (hF : ¬ F B) : Boxed W' B t v := (k.block B h.lt hF).trans h
/-- append of one cell to a row of the call's own, as an operation. -/
theorem wp_append_base {P : Program} {w : World} {o : Oper} {a : Act} {K : Act → World → Prop} {Q : Exit → Act → World → Prop} (s x : Operand) (t : TypeId)
    (ho : o.op = .call { callee := .builtin .append, args := #[s, x], argTypes := #[t, t] }) (base : Nat) (e : TypeId) (i : TypeInfo) (z : Value) (size bytes : Nat) (ht : P.underlying t = some (.slice e)) (hi : P.info? e = some i) (hz : i.zero = some z)
    (hsize : i.size = size) (hby : i.bytes = bytes) (hzs : z.cells.size = size) (hsz : 0 < size)
    (v : Value) (n : Nat) (xs : List Value) (hs : a.eval s = v) (hown : w.ownsRow base e size v n xs)
    (ad : Addr) (m c : Nat) (news : List Value) (hx : a.eval x = .slice (some ad) m c) (hl : news.length = m * size) (hnews : ∀ j u, news[j]? = some u → w.cell? (ad.add j) = some u) (h1 : ∀ u ∈ news, u.oneCell' = true)
    (h63 : n + m ≤ maxLen) (hbytes : (n + m) * bytes ≤ 140737488355328) (hb : base ≤ w.heap.size)
    (h : ∀ v' w', w'.ownsRow base e size v' (n + m) (xs ++ news) → w.grownBy w' v.ownBlock → K (a.put o.dst v') w') : o.wp P a w K Q := by
  obtain ⟨v', w', hr, h2, h3, _⟩ := run_append_own (P := P) w base t o.type e i z size bytes ht hi hz hsize hby hzs hsz v n xs hown ad m c news hl hnews h1 h63 hbytes hb
  unfold Oper.wp execOp
  simp only [ho, resolve, invoke, builtin, Sem.run_bind, Sem.run_pure, Result.andThen_ok, List.map_toArray, List.map_cons, List.map_nil, hs, hx, hr]
  exact h v' w' h2 h3
theorem lz_round {P : Program} {id l n m z : Nat} {ops : Array Oper} {Q : Exit → Act → World → Prop} {a : Act} {w : World} (S : World → Prop) (hn : ops.size = m) (hm : P.follows .mixedOrders = true) (hd : noDefer ops = true) (hq : ¬ LetsOut Q)
    (h : Lz P ops Q z S m (Array.replicate m false) a w.drew) : (Code.region id ops true).wpIn (Fence.wide.inRound l) n P Q a w := by
  subst hn
  exact region_round hm hd hq (Lz.any _ _ _ _ h)
/-- One body more. -/
theorem Bods.snoc {W W' : World} {base g : Nat} {v' : Value} {bs : List (List UInt8)} {vs : List Value} {b : List UInt8} (hi : Inb W base vs bs) (hl : vs.length = bs.length) (k : ∀ (g' : Nat) (cur : Array Value), W.heap[g']? = some (Obj.cells cur 5 (0, 0)) → W'.heap[g']? = some (Obj.cells cur 5 (0, 0)))
    (hr : W'.ownsRow base 33 1 v' (bs.length + 1) (vs ++ [.slice (some ⟨g, 0, none⟩) b.length b.length])) (hb : Bk W g b) (hg : base ≤ g) : Bods W' base v' (bs ++ [b]) := by
  refine ⟨_, by rw [List.length_append]; exact hr, fun i hlt => ?_⟩
  by_cases h : i < bs.length
  · obtain ⟨g', e, hb2, hk⟩ := hi i h
    refine ⟨g', ?_, hb2, ?_⟩
    · rw [List.getElem?_append_left (by omega), e]
      simp [List.getElem_append_left h]
    · rw [List.getElem_append_left h]
      exact ⟨k _ _ hk.1, hk.2⟩
  · obtain rfl : i = bs.length := by simp at hlt; omega
    refine ⟨g, ?_, hg, ?_⟩
    · rw [List.getElem?_append_right (by omega), hl]
      simp
    · simp only [List.getElem_concat_length]
      exact ⟨k _ _ hb.1, hb.2⟩
end Go.Proofs.Ytnnegglhndllfaa
