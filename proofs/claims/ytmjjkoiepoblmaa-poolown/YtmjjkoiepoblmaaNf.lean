/- A pool in memory. -/
import Derived.Test.YtmjjkoiepoblmaaNe
import Derived.Test.YtmjjkoiepoblmaaNs
import Derived.Maps.OwnSet
namespace Go.Proofs.Ytmjjkoiepoblmaa
open Go.RowKit Go.Sort Go.Maps

theorem klaw : Keyed Try.prog 27 := int_keyed Try.underlying27
theorem zero_unit (w : World) : (zeroValue 50).run Try.prog w = .ok (.agg #[]) w := by kernel_rfl
theorem wf_u32 {x : Int} (h0 : 0 ≤ x) (h1 : x < 4294967296) : (Lit.int .u32 x).wf = true := by
  have e0 : IntKind.u32.min = 0 := rfl
  have e1 : IntKind.u32.max = 4294967295 := rfl
  simp [Lit.wf, e0, e1]
  omega
theorem key_u32 {x : Int} (h0 : 0 ≤ x) (h1 : x < 4294967296) : keyOf Try.prog 27 (.int .u32 x) = some (.int .u32 x) := keyOf_int_mk Try.underlying27 (wf_u32 h0 h1)
/-- A map of numbers at block mb holds just those of s. -/
structure Mp (w : World) (mb : Nat) (s : List Int) (D : DataW Unit) : Prop where
  own : w.ownsMap Try.prog 27 unitElem mb s.length D
  size : Maps.size D = s.length
  has : ∀ x, 0 ≤ x → x < 4294967296 → Maps.has D (.int .u32 x) = decide (x ∈ s)
theorem own_tight {w : World} {b n : Nat} {D : DataW Unit} (h : w.ownsMap Try.prog 27 unitElem b n D) : w.ownsMap Try.prog 27 unitElem b (Maps.size D) D := by
  obtain ⟨es, clock, hb, F, _, rfl⟩ := h
  exact ⟨es, clock, hb, F, by simp [Maps.size, length_sorted], rfl⟩
theorem Mp.keep {F : Nat → Prop} {w w' : World} {mb : Nat} {s : List Int} {D : DataW Unit} (h : Mp w mb s D) (k : Keep F w w') (hf : ¬ F mb) : Mp w' mb s D := by
  obtain ⟨es, clock, hb, r⟩ := h.own
  exact ⟨⟨es, clock, (k.block mb (Array.getElem?_eq_some_iff.1 hb).1 hf).trans hb, r⟩, h.size, h.has⟩
theorem Mp.lt {w : World} {mb : Nat} {s : List Int} {D : DataW Unit} (h : Mp w mb s D) : mb < w.heap.size := h.own.lt
theorem Mp.made (w : World) : Mp (w.alloc (.map #[] 0)) w.heap.size [] (.map []) := ⟨World.ownsMap_made _ _ _ _, rfl, fun x _ _ => by simp [Maps.has]⟩
theorem Mp.put {w w' : World} {mb : Nat} {s : List Int} {D : DataW Unit} {n : Int} (h : Mp w mb s D) (hs : Ris s) (h0 : 0 ≤ n) (h1 : n < 4294967296) (hn : n ∉ s)
    (o : w'.ownsMap Try.prog 27 unitElem mb (s.length + 1) (D.put (.int .u32 n) (.agg []))) : Mp w' mb (putS n s) (D.put (.int .u32 n) (.agg [])) := by
  have T := h.own.tidy klaw
  have M := h.own.isMap
  have e := Maps.size_put (k := .int .u32 n) T (.agg [] : DataW Unit)
  rw [h.has n h0 h1, if_neg (by simpa using hn), h.size] at e
  have el := len_putS hs n
  rw [if_neg hn] at el
  refine ⟨by rw [el]; exact o, by rw [el]; exact e, fun x x0 x1 => ?_⟩
  by_cases hx : x = n
  · subst hx
    rw [Maps.has_put_same M (by simp [WideAt.IsKeyLit])]
    simp [mem_putS]
  · rw [Maps.has_put_other (by intro q; simp at q; exact hx q), h.has x x0 x1]
    simp [mem_putS, hx]
theorem Mp.del {w w' : World} {mb : Nat} {s : List Int} {D : DataW Unit} {n : Int} (h : Mp w mb (n :: s) D) (hs : Ris (n :: s))
    (o : w'.ownsMap Try.prog 27 unitElem mb (n :: s).length (D.del (.int .u32 n))) : Mp w' mb s (D.del (.int .u32 n)) := by
  have T := h.own.tidy klaw
  obtain ⟨h0, h1⟩ := hs.rng n (by simp)
  have e := Maps.size_del (k := .int .u32 n) T
  rw [h.has n h0 h1, if_pos (by simp), h.size, List.length_cons] at e
  have e2 : Maps.size (D.del (.int .u32 n)) = s.length := by omega
  refine ⟨by rw [← e2]; exact own_tight o, e2, fun x x0 x1 => ?_⟩
  by_cases hx : x = n
  · subst hx
    rw [Maps.has_del_same]
    have : x ∉ s := fun q => by have := hs.lt x q; omega
    simp [this]
  · rw [Maps.has_del_other (by intro q; simp at q; exact hx q), h.has x x0 x1]
    simp [hx]

/-- A pool: its row at block p's first cell, its map at the second one. -/
structure Pl (w : World) (p mb : Nat) (v : Value) (xs s : List Int) (D : DataW Unit) : Prop where
  rv : Rv w p v xs
  heap : Heap xs.toArray xs.length
  perm : xs.Perm s
  ris : Ris s
  c1 : w.cell? ⟨p, 1, none⟩ = some (.map (some mb))
  map : Mp w mb s D
  nem : mb ≠ p
  neb : v.ownBlock ≠ some mb
def fp (p mb : Nat) (v : Value) : Nat → Prop := fun b => b = p ∨ v.ownBlock = some b ∨ b = mb
theorem Pl.lt {w : World} {p mb : Nat} {v : Value} {xs s : List Int} {D : DataW Unit} (h : Pl w p mb v xs s D) : ∀ b, fp p mb v b → b < w.heap.size := by
  rintro b (rfl | hb | rfl)
  · exact h.rv.plt
  · exact (h.rv.own.lt b hb).2
  · exact h.map.lt
theorem Rv.keep {F : Nat → Prop} {w w' : World} {p : Nat} {v : Value} {xs : List Int} (h : Rv w p v xs) (k : Keep F w w') (hf : ∀ b, fr p v b → ¬ F b) : Rv w' p v xs :=
  ⟨k.cell h.c0 (hf p (.inl rfl)), (k.frozen h.c0 (hf p (.inl rfl))).trans h.f0, own_keep h.own k (fun b hb => hf b (.inr hb)), h.ne⟩
theorem Pl.keep {F : Nat → Prop} {w w' : World} {p mb : Nat} {v : Value} {xs s : List Int} {D : DataW Unit} (h : Pl w p mb v xs s D) (k : Keep F w w') (hf : ∀ b, fp p mb v b → ¬ F b) : Pl w' p mb v xs s D :=
  ⟨h.rv.keep k (fun b hb => hf b (hb.imp id (fun q => .inl q))), h.heap, h.perm, h.ris, k.cell h.c1 (hf p (.inl rfl)), h.map.keep k (hf mb (.inr (.inr rfl))), h.nem, h.neb⟩
/-- A pool of s at p, whose blocks are those of F. -/
def Po (w : World) (p : Nat) (F : Nat → Prop) (s : List Int) : Prop := ∃ mb v xs D, Pl w p mb v xs s D ∧ ∀ b, F b ↔ fp p mb v b
theorem Po.keep {F G : Nat → Prop} {w w' : World} {p : Nat} {s : List Int} (h : Po w p F s) (k : Keep G w w') (hf : ∀ b, F b → ¬ G b) : Po w' p F s := by
  obtain ⟨mb, v, xs, D, P, e⟩ := h
  exact ⟨mb, v, xs, D, P.keep k (fun b hb => hf b ((e b).2 hb)), e⟩
theorem Po.below {F : Nat → Prop} {w w' : World} {p : Nat} {s : List Int} (h : Po w p F s) (k : Below w.heap.size w w') : Po w' p F s := h.keep (G := fun _ => False) (Keep.of_below k) (fun _ _ q => q)
theorem Po.lt {F : Nat → Prop} {w : World} {p : Nat} {s : List Int} (h : Po w p F s) : ∀ b, F b → b < w.heap.size := by
  obtain ⟨mb, v, xs, D, P, e⟩ := h
  exact fun b hb => P.lt b ((e b).1 hb)
theorem Po.ris {F : Nat → Prop} {w : World} {p : Nat} {s : List Int} (h : Po w p F s) : Ris s := by
  obtain ⟨mb, v, xs, D, P, e⟩ := h
  exact P.ris
/-- What a call leaves of a pool: it is at s, its blocks are elder ones of it or new, of the rest nothing has turned. -/
def Turned (w w' : World) (p : Nat) (F : Nat → Prop) (s : List Int) : Prop := ∃ F', Po w' p F' s ∧ Keep F w w' ∧ ∀ b, F' b → F b ∨ w.heap.size ≤ b
end Go.Proofs.Ytmjjkoiepoblmaa
