/- DiskFalls, walked. -/
import Derived.Test.YtcbiagdpolhbfaaLo
namespace Go.Proofs.Ytcbiagdpolhbfaa
open Go.RowKit
open D (St)

theorem Try.zero38 : (Try.prog.info? 38).map (fun i => (i.zero, i.size)) = some (some (.agg #[.int .u8 0, .int .i64 0, .int .u8 0, .int .u16 0, .int .i8 0, .slice none 0 0]), 6) := by kernel_rfl
theorem Try.size38 : (Try.prog.info? 38).map (·.size) = some 6 := by kernel_rfl
/-- A disk of eight blocks that has so many acts left. -/
structure Left (s : St) (z : Int) : Prop where
  up : 0 ≤ z → s.down = false ∧ s.fuse = z
  dn : z < 0 → s.down = true
  eight : s.safe.length = 8
/-- It has few writes. -/
def Few (s : St) (k : Nat) : Prop := s.waits.length ≤ k ∧ s.writes ≤ k
theorem few_write {s : St} {k : Nat} (h : Few s k) (n : Int) (b : List UInt8) : Few (D.write s n b) (k + 1) := by
  unfold D.write
  split
  · refine ⟨?_, ?_⟩
    · rw [D.act_waits]; simp [D.put]; exact h.1
    · rw [D.act_writes]; simp [D.put]; exact h.2
  · exact ⟨Nat.le_succ_of_le h.1, Nat.le_succ_of_le h.2⟩
theorem few_sync {s : St} {k : Nat} (h : Few s k) : Few (D.sync s) k := by
  unfold D.sync
  split
  · exact h
  · split
    · exact h
    · refine ⟨by simp, ?_⟩
      simp only [D.act_writes]
      exact h.2
theorem Few.mono {s : St} {k m : Nat} (h : Few s k) (hm : k ≤ m) : Few s m := ⟨Nat.le_trans h.1 hm, Nat.le_trans h.2 hm⟩
theorem left_write {s : St} {z : Int} (h : Left s z) (n : Nat) (hn : n < 8) (b : List UInt8) (hb : b.length = 512) : Left (D.write s n b) (z - 1) ∧ D.writeE s n b = if 0 ≤ z - 1 then 0 else 7 := by
  have h8 := h.eight
  by_cases hz : 0 ≤ z
  · obtain ⟨hd, hf⟩ := h.up hz
    have hbad : D.bad s n b.length = 0 := by unfold D.bad; rw [hd, if_neg (by simp), if_neg (by omega), if_neg (by omega)]
    have ew : D.write s n b = D.act (D.put s n b) := by unfold D.write; rw [if_pos hbad, Int.toNat_natCast]
    have ee : D.writeE s n b = D.ans s := by unfold D.writeE; rw [if_pos hbad]
    rw [ew, ee]
    by_cases h0 : z = 0
    · subst h0
      refine ⟨⟨fun q => by omega, fun _ => by simp [D.act, D.put, hf], by rw [D.act_safe]; exact h8⟩, by simp [D.ans, hf]⟩
    · refine ⟨⟨fun _ => ?_, fun q => by omega, by rw [D.act_safe]; exact h8⟩, ?_⟩
      · have e1 : (D.put s n b).fuse = z := hf
        have e2 : (D.put s n b).down = false := hd
        unfold D.act
        rw [e1, if_neg h0, if_pos (by omega)]
        exact ⟨e2, rfl⟩
      · unfold D.ans
        rw [hf, if_neg h0, if_pos (by omega)]
  · have hd := h.dn (by omega)
    have hbad : D.bad s n b.length = 7 := by unfold D.bad; rw [hd, if_pos rfl]
    have ew : D.write s n b = s := by unfold D.write; rw [hbad, if_neg (by decide)]
    have ee : D.writeE s n b = 7 := by unfold D.writeE; rw [hbad, if_neg (by decide)]
    rw [ew, ee, if_neg (by omega)]
    exact ⟨⟨fun q => by omega, fun _ => hd, h8⟩, rfl⟩
theorem left_sync {s : St} {z : Int} (h : Left s z) : Left (D.sync s) (z - 1) ∧ D.syncE s = if 0 ≤ z - 1 then 0 else 7 := by
  have h8 := h.eight
  unfold D.sync D.syncE
  by_cases hz : 0 ≤ z
  · obtain ⟨hd, hf⟩ := h.up hz
    rw [hd, if_neg Bool.false_ne_true, if_neg Bool.false_ne_true]
    by_cases h0 : z = 0
    · subst h0
      rw [if_pos hf]
      refine ⟨⟨fun q => by omega, fun _ => rfl, h8⟩, by simp [D.ans, hf]⟩
    · rw [if_neg (by rw [hf]; exact h0)]
      refine ⟨⟨fun _ => ?_, fun q => by omega, by simp [D.lay_length, h8]⟩, ?_⟩
      · unfold D.act
        rw [hf, if_neg h0, if_pos (by omega)]
        exact ⟨hd, rfl⟩
      · unfold D.ans
        rw [hf, if_neg h0, if_pos (by omega)]
  · have hd := h.dn (by omega)
    rw [hd, if_pos rfl, if_pos rfl, if_neg (by omega)]
    exact ⟨⟨fun q => by omega, fun _ => hd, h8⟩, rfl⟩
theorem left_read {s : St} {z : Int} (h : Left s z) : readE s 0 = if s.down then 7 else 0 := by
  have h8 := h.eight
  simp [readE, hasB, h8]
theorem left_crash {s : St} {z : Int} (h : Left s z) : readE (D.crash s []) 0 = 0 ∧ (D.crash s []).down = false := by
  have h8 := h.eight
  simp [readE, hasB, D.crash, D.left_length, h8]
theorem left_new (k : Nat) : Left (D.setFuse (D.new 8) k) k := by
  refine ⟨fun _ => ?_, fun q => by omega, by simp [D.setFuse, D.new]⟩
  simp [D.setFuse, D.new]
theorem few_new (k : Int) (n : Nat) : Few (D.setFuse (D.new n) k) 0 := by simp [Few, D.setFuse, D.new]
theorem Ops.at {w : World} {A : Option Addr} {n c : Nat} {os : List O} (h : Ops w (.slice A n c) os) (j : Nat) (hj : j < os.length) : ∃ b off lv, A = some ⟨b, off, none⟩ ∧ w.rangeAt b (off + j * 6) (ocells os[j] lv) ∧ Losses w lv os[j].l ∧ OkO os[j] ∧ ∃ LA lc, lv = .slice LA os[j].l.length lc := by
  obtain ⟨_, _, e0, hok, h0⟩ := h
  obtain ⟨b, off, e1, h1⟩ := h0 (by omega)
  obtain ⟨lv, h2, h3⟩ := h1 j hj
  simp only [Value.slice.injEq] at e0
  obtain ⟨LA, lc, e2, _⟩ := id h3
  exact ⟨b, off, lv, e0.1.trans e1, h2, h3, hok _ (List.getElem_mem hj), LA, lc, e2⟩
end Go.Proofs.Ytcbiagdpolhbfaa
