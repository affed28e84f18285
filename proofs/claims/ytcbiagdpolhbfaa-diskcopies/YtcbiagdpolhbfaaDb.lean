/- disk.last: a block's bytes as they were written last. -/
import Derived.Test.YtcbiagdpolhbfaaDa
import Derived.Deep.WholeRow
namespace Go.Proofs.Ytcbiagdpolhbfaa
open Go.RowKit
open D (St)

/-- A block's zero bytes. -/
def zb : Array Value := (bvs D.zero).toArray
theorem zb_size : zb.size = 512 := by simp only [zb, List.size_toArray, bvs_length]; exact List.length_replicate
theorem Try.zero73 : (Try.prog.info? 73).map (fun i => (i.zero, i.size)) = some (some (.agg zb), 512) := by kernel_rfl
theorem Try.size73 : (Try.prog.info? 73).map (·.size) = some 512 := by kernel_rfl
theorem Try.size75 : (Try.prog.info? 75).map (·.size) = some 513 := by kernel_rfl

/-- What the walk of last wants of the writes that wait. -/
theorem Dsk.waitAt {w : World} {p g : Nat} {A : Option Addr} {cap : Nat} {s : St} (h : Dsk w p g (.slice A s.waits.length cap) s) (j : Nat) (hj : j < s.waits.length) :
    ∃ q, A = some ⟨q, 0, none⟩ ∧ w.cell? ⟨q, j * 513, none⟩ = some (.int .i64 ((s.waits[j].1 : Nat) : Int)) ∧ w.rangeAt q (j * 513 + 1) (bvs s.waits[j].2) ∧ w.rangeAt q (j * 513) (wcells s.waits[j]) := by
  have hr := h.waits
  obtain ⟨q, cap', e⟩ := Go.Joins.ownsRow_form hr (by omega)
  obtain rfl : A = some ⟨q, 0, none⟩ := by simpa using (Value.slice.inj e).1
  have key : ∀ i, i < 513 → w.cell? ⟨q, j * 513 + i, none⟩ = (wcells s.waits[j])[i]? := fun i hi => by
    rw [hr.cellAt (j * 513 + i) (by have : (j + 1) * 513 ≤ s.waits.length * 513 := Nat.mul_le_mul_right _ (by omega); omega), wall_get _ h.ok.bytes j hj i hi]
  have hlen := h.ok.bytes _ (List.getElem_mem hj)
  refine ⟨q, rfl, ?_, fun i v hv => ?_, fun i v hv => ?_⟩
  · have := key 0 (by omega)
    simpa [wcells] using this
  · have hi : i < 512 := by
      have := (List.getElem?_eq_some_iff.1 hv).1
      rw [bvs_length, hlen] at this
      exact this
    have := key (i + 1) (by omega)
    rw [show j * 513 + 1 + i = j * 513 + (i + 1) by omega, this]
    simpa [wcells] using hv
  · have hi : i < 513 := by
      have := (List.getElem?_eq_some_iff.1 hv).1
      rw [wcells_length hlen] at this
      exact this
    rw [key i hi]
    exact hv
theorem Dsk.nwaits {w : World} {p g : Nat} {wv : Value} {s : St} (h : Dsk w p g wv s) : s.waits.length ≤ 9223372036854775807 := by
  rcases h.waits.2 with ⟨_, e⟩ | ⟨_, cap, _, _, _, _, h1, h2, _⟩
  · omega
  · simp only [maxLen] at h2
    omega
theorem info_blk {y : List UInt8} (h : y.length = 512) : (Try.prog.info? 73).map (·.size) = some (bvs y).length := by rw [bvs_length, h]; exact Try.size73
theorem info_blkA {y : List UInt8} (h : y.length = 512) : (Try.prog.info? 73).map (·.size) = some (bvs y).toArray.size := by rw [List.size_toArray]; exact info_blk h
theorem one_blk (y : List UInt8) : (bvs y).toArray.all (·.oneCell') = true := all_oneCell_toArray (bvs_one y)
/-- A block that was laid as a whole, handed back through its cell. -/
theorem results_blk {fn : Func} {t : Tmp} (h : fn.results = #[.cell t 73]) (tmps : Array Value) (w : World) (q : Nat) (y : List UInt8) (ht : tmps.getD t undef = .pointer (some ⟨q, 0, none⟩)) (hy : y.length = 512) (hr : w.rangeAt q 0 (bvs y)) :
    (results fn tmps).run Try.prog w = .ok (.agg (bvs y).toArray) w := by
  have hl := run_loadVar_mid (P := Try.prog) w q 0 73 (bvs y) _ hr Try.underlying73 rfl (info_blk hy)
  have ht' : tmps[t]?.getD undef = .pointer (some ⟨q, 0, none⟩) := by simpa using ht
  simp only [results, h]
  simp [ht', asAddr, hl]
theorem there_blk {w : World} {q o : Nat} {y : List UInt8} (h : w.there q o 512) (hy : y.length = 512) : w.there q o (bvs y).toArray.size := by
  have e : (bvs y).toArray.size = 512 := by rw [List.size_toArray, bvs_length, hy]
  rw [e]
  exact h
theorem there_new (w : World) (c : Array Value) (t : TypeId) (n : Nat) (hn : c.size = n) : (w.alloc (.cells c t)).there w.heap.size 0 n := fun j hj => by
  subst hn
  refine ⟨?_, by simp⟩
  rw [World.cell?_alloc_at _ _ _ _ rfl]
  simp
  omega

set_option maxRecDepth 100000 in
set_option maxHeartbeats 400000 in
theorem last_any {w : World} {p g : Nat} {wv : Value} {s : St} (h : Dsk w p g wv s) (n : Nat) (hn : n < s.safe.length) :
    Calls Try.prog 34 #[.pointer (some ⟨p, 0, none⟩), .int .i64 (n : Int)] w fun e w' => e = .returned (.agg (bvs (D.look s n)).toArray) ∧ Below w.heap.size w w' := by
  have hz := (zero_of_info Try.zero73).1
  have h0 := h.below (alb (.cells zb 73))
  have hT := Lib.hid (there_new w zb 73 512 zb_size)
  have hB := Lib.hid (alb (w := w) (.cells zb 73))
  have HB2 : Hid (∀ vs, Below w.heap.size w ((w.alloc (.cells zb 73)).setCells w.heap.size 0 vs)) := fun vs =>
    (Keep.setCells (F := fun _ => False) (Keep.of_below (alb (w := w) (.cells zb 73))) (.inr (Nat.le_refl _)) 0 vs).below (Nat.le_refl _) (fun _ h => h.elim)
  clear h
  generalize zb = Z at *
  generalize hw0 : w.alloc (.cells Z 73) = w0 at *
  have HW : Hid (w.alloc (.cells Z 73) = w0) := hw0
  obtain ⟨cc, c0⟩ := h0.c0
  have c1 := h0.c1
  obtain ⟨A, cap, rfl⟩ := wv_form h0
  have HA : Hid (∀ j (hj : j < s.waits.length), ∃ q, A = some ⟨q, 0, none⟩ ∧ w0.cell? ⟨q, j * 513, none⟩ = some (.int .i64 ((s.waits[j].1 : Nat) : Int)) ∧ w0.rangeAt q (j * 513 + 1) (bvs s.waits[j].2) ∧ (s.waits[j].2.length = 512) ∧
      D.lk n (s.safe.getD n []) (s.waits.take (j + 1)) = if s.waits[j].1 = n then s.waits[j].2 else D.lk n (s.safe.getD n []) (s.waits.take j)) := fun j hj => by
    obtain ⟨q, e1, e2, e3, _⟩ := h0.waitAt j hj
    exact ⟨q, e1, e2, e3, h0.ok.bytes _ (List.getElem_mem hj), D.lk_take n _ _ j hj⟩
  have HS : Hid (w0.rangeAt g (n * 512) (bvs (s.safe.getD n []))) := by
    have e : s.safe.getD n [] = s.safe[n] := by simp [List.getD, hn]
    rw [e]
    exact h0.safe n hn
  have HL := Lib.hid (D.getD_full h0.ok hn)
  have HM := Lib.hid h0.ok.many
  have HI : Hid (D.lk n (s.safe.getD n []) (s.waits.take s.waits.length) = D.look s n) := by rw [List.take_length]; rfl
  have hm := h0.nwaits
  clear h0
  generalize s.safe.getD n [] = b at *
  generalize D.look s n = L at *
  generalize hws : s.waits = ws at *
  generalize s.safe.length = K at *
  go_enter Try.func34, Try.ntmps34
  go_wp2
  go_loop [5] (fun i => ∃ k : Nat, k ≤ ws.length ∧ i = .int .i64 ((k : Int) - 1) ∧ Hid (D.lk n b (ws.take k) = L)) (fun i => (intOf i + 1).toNat)
  case atStart => exact ⟨ws.length, Nat.le_refl _, rfl, HI.out⟩
  case round =>
    obtain ⟨k, hk, rfl, HK⟩ := hrel
    cases k with
    | zero =>
      have q1 : decide (0 ≤ ((0 : Nat) : Int) - 1) = false := by decide
      have HT2 : Hid (w0.there w.heap.size 0 (bvs b).toArray.size) := there_blk hT.out HL.out
      have e : b = L := HK.out
      subst e
      go_wp2_with (first
        | (refine wpList_load_mid rfl 73 _ rfl g (n * 512) rfl (bvs b) _ HS.out Try.underlying73 rfl (info_blk HL.out) ?_)
        | (refine wpList_store_mid rfl 73 _ _ rfl w.heap.size 0 (bvs b).toArray rfl rfl HT2.out (info_blkA HL.out) (one_blk b) ?_))
      refine bodyPost_ret (results_blk rfl _ _ w.heap.size b rfl HL.out (World.rangeAt_setCells_same _ _ _ _ (by rw [bvs_length, HL.out]; exact hT.out))) rfl ⟨rfl, HB2.out _⟩
    | succ j =>
      obtain ⟨q, rfl, a1, a2, a3, a4⟩ := HA.out j (by omega)
      have A2 := Lib.hid a2
      have A3 := Lib.hid a3
      have e1 : (((j + 1 : Nat) : Int) - 1) = (j : Int) := by omega
      rw [e1]
      clear a2 e1 a3
      generalize ws[j].1 = x at *
      generalize ws[j].2 = y at *
      rw [a4] at HK
      clear a4
      by_cases hx : x = n
      · rw [if_pos hx] at HK
        have e : y = L := HK.out
        subst e
        have q2 : ((x : Int) == (n : Int)) = true := by simp [hx]
        have HT2 : Hid (w0.there w.heap.size 0 (bvs y).toArray.size) := there_blk hT.out A3.out
        clear hx
        go_wp2_with (first
          | (refine wpList_load_mid rfl 73 _ rfl q (j * 513 + 1) rfl (bvs y) _ A2.out Try.underlying73 rfl (info_blk A3.out) ?_)
          | (refine wpList_store_mid rfl 73 _ _ rfl w.heap.size 0 (bvs y).toArray rfl rfl HT2.out (info_blkA A3.out) (one_blk y) ?_))
        refine bodyPost_ret (results_blk rfl _ _ w.heap.size y rfl A3.out (World.rangeAt_setCells_same _ _ _ _ (by rw [bvs_length, A3.out]; exact hT.out))) rfl ⟨rfl, HB2.out _⟩
      · rw [if_neg hx] at HK
        have q2 : ((x : Int) == (n : Int)) = false := by simp; omega
        clear hx
        go_wp2
        go_round
        case rel => exact ⟨j, by omega, by go_num, HK⟩
        case measure => simp [intOf]
end Go.Proofs.Ytcbiagdpolhbfaa
