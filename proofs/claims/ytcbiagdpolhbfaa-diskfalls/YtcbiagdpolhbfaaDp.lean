/- A part of a block is laid; losses as the program has them; copy as an operation. -/
import Derived.Test.YtcbiagdpolhbfaaDz
namespace Go.Proofs.Ytcbiagdpolhbfaa
open Go.RowKit
open D (St)

theorem part_get (old new : List UInt8) (f t j : Nat) (hf : f < t) (ht : t ≤ 512) (ho : old.length = 512) (hn : new.length = 512) :
    (D.part old new f t)[j]? = if j < f then old[j]? else if j < t then new[j]? else old[j]? := by
  unfold D.part
  rw [if_pos hf]
  by_cases h1 : j < f
  · rw [if_pos h1, List.getElem?_append_left (by simp; omega), List.getElem?_take_of_lt h1]
  · rw [if_neg h1, List.getElem?_append_right (by simp; omega)]
    have e : (old.take f).length = f := by simp; omega
    rw [e]
    by_cases h2 : j < t
    · rw [if_pos h2, List.getElem?_append_left (by simp; omega), List.getElem?_take_of_lt (by omega), List.getElem?_drop, show f + (j - f) = j by omega]
    · rw [if_neg h2, List.getElem?_append_right (by simp; omega)]
      have e2 : ((new.drop f).take (t - f)).length = t - f := by simp; omega
      rw [e2, List.getElem?_drop, show t + (j - f - (t - f)) = j by omega]
theorem bvs_getq (l : List UInt8) (j : Nat) : (bvs l)[j]? = l[j]?.map fun c => .int .u8 ((c.toNat : Nat) : Int) := by simp [bvs]
/-- A part of a block is laid. -/
theorem Dsk.setpart {w : World} {p g : Nat} {wv : Value} {s : St} (h : Dsk w p g wv s) (n : Nat) (b : List UInt8) (hn : n < s.safe.length) (hb : b.length = 512) (f t : Nat) (hf : f < t) (ht : t ≤ 512) :
    Dsk (w.setCells g (n * 512 + f) (bvs ((b.drop f).take (t - f)))) p g wv { s with safe := s.safe.set n (D.part (s.safe.getD n []) b f t) } := by
  have hold := D.getD_full h.ok hn
  have hgd : s.safe.getD n [] = s.safe[n] := by simp [List.getD, hn]
  have hlc : (bvs ((b.drop f).take (t - f))).length = t - f := by rw [bvs_length]; simp; omega
  have k : Keep (fun b => b = g) w (w.setCells g (n * 512 + f) (bvs ((b.drop f).take (t - f)))) := by exact Keep.setCells (F := fun b => b = g) (Keep.refl _ _) (.inl rfl) _ _
  have hp : ¬ p = g := h.ne
  have hl : (s.safe.set n (D.part (s.safe.getD n []) b f t)).length = s.safe.length := by simp
  have hpl := D.part_length (f := f) hold hb ht
  refine ⟨⟨by simpa using h.ok.few, by simpa using h.ok.many, fun c hc => ?_, fun x hx => by simpa using h.ok.place x hx, h.ok.bytes, h.ok.fuse, h.ok.fuse2⟩, ?_, k.cell h.c1 hp, k.cell h.c2 hp, k.cell h.c3 hp, k.cell h.c4 hp,
    fun i => by rw [World.frozen?_setCells]; exact h.fz i, fun i hi => ?_, fun i hi => World.there_setCells (h.there i (by simpa using hi)) _ _ _, own_keep h.waits k (fun b hb e => h.neg (by rw [hb, e])), h.ne, h.nep, h.neg⟩
  · rcases List.mem_or_eq_of_mem_set hc with hc | rfl
    · exact h.ok.full c hc
    · exact hpl
  · rw [show ({ s with safe := s.safe.set n (D.part (s.safe.getD n []) b f t) } : St).safe.length = s.safe.length from hl]
    exact h.c0.imp fun _ q => k.cell q hp
  · have hi' : i < s.safe.length := by simpa using hi
    by_cases e : i = n
    · subst e
      have e2 : ({ s with safe := s.safe.set i (D.part (s.safe.getD i []) b f t) } : St).safe[i] = D.part (s.safe.getD i []) b f t := by simp
      rw [e2]
      intro j v hv
      rw [bvs_getq, part_get _ _ f t j hf ht hold hb] at hv
      have hr := h.safe i hi'
      rw [← hgd] at hr
      by_cases h1 : j < f
      · rw [if_pos h1] at hv
        rw [World.cell?_setCells_out _ _ _ _ _ (fun _ _ => .inl (by show i * 512 + j < i * 512 + f; omega))]
        exact hr j v (by rw [bvs_getq]; exact hv)
      · rw [if_neg h1] at hv
        by_cases h2 : j < t
        · rw [if_pos h2] at hv
          have := World.rangeAt_setCells_same w g (i * 512 + f) (bvs ((b.drop f).take (t - f))) (fun q hq => by
            have := h.there i hi' (f + q) (by omega)
            rwa [show i * 512 + (f + q) = i * 512 + f + q by omega] at this) (j - f) v (by
              rw [bvs_getq, List.getElem?_take_of_lt (by omega), List.getElem?_drop, show f + (j - f) = j by omega]; exact hv)
          rwa [show i * 512 + f + (j - f) = i * 512 + j by omega] at this
        · rw [if_neg h2] at hv
          rw [World.cell?_setCells_out _ _ _ _ _ (fun _ _ => .inr (by show i * 512 + f + _ ≤ i * 512 + j; rw [hlc]; omega))]
          exact hr j v (by rw [bvs_getq]; exact hv)
    · have e2 : ({ s with safe := s.safe.set n (D.part (s.safe.getD n []) b f t) } : St).safe[i] = s.safe[i] := by simp [List.getElem_set_ne (Ne.symm e)]
      rw [e2]
      refine World.rangeAt_setCells_apart (h.safe i hi') _ _ _ (.inr ?_)
      rw [bvs_length, hlc, h.ok.full _ (List.getElem_mem hi')]
      omega
/-- A slice of losses, wherever its cells lie. -/
def Losses (w : World) (v : Value) (l : List (Int × Int)) : Prop :=
  ∃ A c, v = .slice A l.length c ∧ l.length ≤ c ∧ (0 < l.length → ∃ b off, A = some ⟨b, off, none⟩ ∧ ∀ j (h : j < l.length), w.cell? ⟨b, off + j * 2, none⟩ = some (.int .i64 l[j].1) ∧ w.cell? ⟨b, off + j * 2 + 1, none⟩ = some (.int .i64 l[j].2))
theorem Losses.keep {F : Nat → Prop} {w w1 : World} {v : Value} {l : List (Int × Int)} (h : Losses w v l) (hb : Keep F w w1) (hf : 0 < l.length → ∀ k, v.ownBlock = some k → ¬ F k) : Losses w1 v l := by
  obtain ⟨A, c, rfl, hc, h⟩ := h
  refine ⟨A, c, rfl, hc, fun hl => ?_⟩
  obtain ⟨b, off, rfl, h2⟩ := h hl
  exact ⟨b, off, rfl, fun j hj => ⟨hb.cell (h2 j hj).1 (hf hl b rfl), hb.cell (h2 j hj).2 (hf hl b rfl)⟩⟩
theorem Losses.none (w : World) : Losses w (.slice none 0 0) [] := ⟨_, _, rfl, Nat.le_refl _, fun h => by simp at h⟩
/-- copy, as an operation. -/
theorem wp_copy_cells {P : Program} {w : World} {o : Oper} {a : Act} {K : Act → World → Prop} {Q : Exit → Act → World → Prop} (d s : Operand) (dT sT elem : TypeId)
    (ho : o.op = .call { callee := .builtin .copy, args := #[d, s], argTypes := #[dT, sT] }) (b off dLen dCap : Nat) (ad : Addr) (sLen sCap : Nat) (cs : List Value)
    (hd : a.eval d = .slice (some ⟨b, off, none⟩) dLen dCap) (hs : a.eval s = .slice (some ad) sLen sCap)
    (hu : P.underlying dT = some (.slice elem)) (he : (P.info? elem).map (·.size) = some 1) (hn : cs.length = Nat.min sLen dLen)
    (hsrc : ∀ j v, cs[j]? = some v → w.cell? (ad.add j) = some v) (hc : w.there b off cs.length) (h1 : ∀ v ∈ cs, v.oneCell' = true)
    (h : K (a.put o.dst (goInt cs.length)) (w.setCells b off cs)) : o.wp P a w K Q := by
  have hr := run_copy_cells (P := P) w dT sT o.type elem b off dLen dCap ad sLen sCap cs hu he hn hsrc (fun j hj => (hc j hj).1) (fun j hj => (hc j hj).2) h1
  unfold Oper.wp execOp
  simp only [ho, resolve, invoke, builtin, Sem.run_bind, Sem.run_pure, Result.andThen_ok, List.map_toArray, List.map_cons, List.map_nil, hd, hs, hr]
  exact h
/-- A part of a block as a slice. -/
theorem run_cutBlock (w : World) (b o f t : Nat) (hf : f < t) (ht : t ≤ 512) :
    (Instr.sliceAt 73 (.pointer (some ⟨b, o, none⟩)) (some (.int .i64 (f : Int))) (some (.int .i64 (t : Int))) none).run Try.prog w = .ok (.slice (some ⟨b, o + f, none⟩) (t - f) (512 - f)) w := by
  have hn : Try.prog.arrayLen 73 = 512 := by kernel_rfl
  have he : Try.prog.elem 73 = 5 := by kernel_rfl
  have hz : (sizeOf 5).run Try.prog w = .ok 1 w := by
    obtain ⟨i0, hi0, _, hz1, _⟩ := info_parts Try.info5
    simp [sizeOf, typeInfo, hi0, hz1]
  rw [run_sliceAt_array_lh w 73 ⟨b, o, none⟩ (by kernel_rfl) .i64 .i64 (f : Int) (t : Int) (by omega) (by omega) (by rw [hn]; omega), he, hz, hn]
  simp only [Result.andThen_ok, slicedAt, Int.toNat_natCast, Nat.mul_one, Addr.add_mid]
  rw [if_neg (by omega)]
end Go.Proofs.Ytcbiagdpolhbfaa
