/- An operation on both: the laws' step. -/
import Derived.Test.YtmjjkoiepoblmaaNi
import Derived.Test.YtmjjkoiepoblmaaNj
namespace Go.Proofs.Ytmjjkoiepoblmaa
open Go.RowKit Go.Sort Go.Maps

/-- What an operation makes of the numbers. -/
def stp (d : Nat) (n : Int) (s : List Int) : List Int := if d % 3 = 0 then putS n s else if d % 3 = 1 then s.tail else s
theorem stp_ris {s : List Int} (h : Ris s) (d : Nat) {n : Int} (h0 : 0 ≤ n) (h1 : n < 4294967296) : Ris (stp d n s) := by
  unfold stp
  split
  · exact h.put h0 h1
  · split
    · cases s with
      | nil => exact h
      | cons x r => exact h.tail
    · exact h
theorem stp_len {s : List Int} (h : Ris s) (d : Nat) (n : Int) : (stp d n s).length ≤ s.length + 1 := by
  unfold stp
  split
  · rw [len_putS h]; split <;> omega
  · split
    · simp; omega
    · omega
/-- What an operation leaves. -/
def Mixed (w w' : World) (p : Nat) (F : Nat → Prop) (v v' : Value) (s' : List Int) : Prop :=
  ∃ F', Po w' p F' s' ∧ Nums w' v' s' ∧ Keep F w w' ∧ (∀ b, F' b → F b ∨ w.heap.size ≤ b) ∧ (∀ b, v'.ownBlock = some b → ¬ F' b ∧ b < w'.heap.size) ∧ (∀ b, v'.ownBlock = some b → v.ownBlock = some b ∨ w.heap.size ≤ b)
/-- What it is done on. -/
structure On (w : World) (p : Nat) (F : Nat → Prop) (v : Value) (s : List Int) : Prop where
  po : Po w p F s
  nums : Nums w v s
  apart : ∀ b, v.ownBlock = some b → ¬ F b ∧ b < w.heap.size
theorem On.below {w w' : World} {p : Nat} {F : Nat → Prop} {v : Value} {s : List Int} (h : On w p F v s) (k : Below w.heap.size w w') : On w' p F v s :=
  ⟨h.po.below k, h.nums.below k, fun b hb => ⟨(h.apart b hb).1, Nat.lt_of_lt_of_le (h.apart b hb).2 k.size⟩⟩

set_option maxHeartbeats 3200000 in
theorem step_put (w : World) (p : Nat) (F : Nat → Prop) (v : Value) (s : List Int) (d : Nat) (n : Int) (H : Hid (On w p F v s)) (hd : ((d % 3 : Nat) : Int) = 0) (h0 : 0 ≤ n) (h1 : n < 4294967296) (hl : s.length < 60000) :
    Calls Try.prog 9 #[.pointer (some ⟨p, 0, none⟩), v, .agg #[.int .u8 (d : Int), .int .u32 n]] w fun e w' => ∃ v', e = .returned (.tuple #[v', .bool true]) ∧ Mixed w w' p F v v' (putS n s) := by
  have er : Int.tmod (d : Int) 3 = ((d % 3 : Nat) : Int) := rfl
  have er2 := er.trans hd
  have hbx : Below w.heap.size w (w.alloc (.cells #[.int .u8 (d : Int), .int .u32 n] 29)) := alb _
  have b1 : (w.alloc (.cells #[.int .u8 (d : Int), .int .u32 n] 29)).cell? ⟨w.heap.size, 1, none⟩ = some (.int .u32 n) := by rw [World.cell?_alloc_at _ _ _ _ rfl]; rfl
  have b0 : (w.alloc (.cells #[.int .u8 (d : Int), .int .u32 n] 29)).cell? ⟨w.heap.size, 0, none⟩ = some (.int .u8 (d : Int)) := by rw [World.cell?_alloc_at _ _ _ _ rfl]; rfl
  have HX := Lib.hid hbx
  have B1 := Lib.hid b1
  have B0 := Lib.hid b0
  have H1 := Lib.hid (H.out.below hbx)
  have NF : Hid (¬ F w.heap.size) := fun q => Nat.lt_irrefl _ (H.out.po.lt _ q)
  obtain ⟨q, hq⟩ : ∃ q, q = decide (n ∈ s) := ⟨_, rfl⟩
  have HQ := Lib.hid hq
  have hzs : w.heap.size < (w.alloc (.cells #[.int .u8 (d : Int), .int .u32 n] 29)).heap.size := by simp
  have HZS := Lib.hid hzs
  clear b0 b1 hbx hq hzs er hd
  go_enter Try.func9, Try.ntmps9
  go_upto_region 1 with fail
  generalize w.alloc (.cells #[.int .u8 (d : Int), .int .u32 n] 29) = w1 at *
  have b0 := B0.out
  go_wp2_with fail
  clear b0
  have hS : Hid (Keep F w1 w1.drew) := (Keep.refl _ _).drew
  refine lh_start 16 (fun W => Keep F w1 W) rfl (by kernel_rfl) ?_
  refine lh_take 0 15 (v := ?_) rfl rfl (by kernel_rfl) (by kernel_rfl) (by kernel_rfl) (fun _ _ _ _ _ h => h) (by rfl) hS.out (fun W hW => ?_) ?_
  rotate_left
  · go_simp; try rfl
  try simp only [Act.put, List.setIfInBounds_toArray, List.set_cons_zero, List.set_cons_succ]
  refine lh_take 1 16 (v := ?_) rfl rfl (by kernel_rfl) (by kernel_rfl) (by kernel_rfl) (fun _ _ _ _ _ h => h) (by rfl) hS.out (fun W hW => ?_) ?_
  rotate_left
  · go_simp; try rfl
  try simp only [Act.put, List.setIfInBounds_toArray, List.set_cons_zero, List.set_cons_succ]
  refine lh_take 2 17 (v := ?_) rfl rfl (by kernel_rfl) (by kernel_rfl) (by kernel_rfl) (fun _ _ _ _ _ h => h) (by rfl) hS.out (fun W hW => ?_) ?_
  rotate_left
  · have q := hW.cell B1.out NF.out; go_simp; try rfl
  try simp only [Act.put, List.setIfInBounds_toArray, List.set_cons_zero, List.set_cons_succ]
  refine lh_take 4 19 (v := ?_) rfl rfl (by kernel_rfl) (by kernel_rfl) (by kernel_rfl) (fun _ _ _ _ _ h => h) (by rfl) hS.out (fun W hW => ?_) ?_
  rotate_left
  · go_simp; try rfl
  try simp only [Act.put, List.setIfInBounds_toArray, List.set_cons_zero, List.set_cons_succ]
  refine lh_take 5 20 (v := ?_) rfl rfl (by kernel_rfl) (by kernel_rfl) (by kernel_rfl) (fun _ _ _ _ _ h => h) (by rfl) hS.out (fun W hW => ?_) ?_
  rotate_left
  · go_simp; try rfl
  try simp only [Act.put, List.setIfInBounds_toArray, List.set_cons_zero, List.set_cons_succ]
  refine lh_take 6 21 (v := ?_) rfl rfl (by kernel_rfl) (by kernel_rfl) (by kernel_rfl) (fun _ _ _ _ _ h => h) (by rfl) hS.out (fun W hW => ?_) ?_
  rotate_left
  · have q := hW.cell B1.out NF.out; go_simp; try rfl
  try simp only [Act.put, List.setIfInBounds_toArray, List.set_cons_zero, List.set_cons_succ]
  refine lh_take 8 23 (v := ?_) rfl rfl (by kernel_rfl) (by kernel_rfl) (by kernel_rfl) (fun _ _ _ _ _ h => h) (by rfl) hS.out (fun W hW => ?_) ?_
  rotate_left
  · go_simp; try rfl
  try simp only [Act.put, List.setIfInBounds_toArray, List.set_cons_zero, List.set_cons_succ]
  refine lh_take 9 24 (v := ?_) rfl rfl (by kernel_rfl) (by kernel_rfl) (by kernel_rfl) (fun _ _ _ _ _ h => h) (by rfl) hS.out (fun W hW => ?_) ?_
  rotate_left
  · go_simp; try rfl
  try simp only [Act.put, List.setIfInBounds_toArray, List.set_cons_zero, List.set_cons_succ]
  refine lh_take 10 25 (v := ?_) rfl rfl (by kernel_rfl) (by kernel_rfl) (by kernel_rfl) (fun _ _ _ _ _ h => h) (by rfl) hS.out (fun W hW => ?_) ?_
  rotate_left
  · have q := hW.cell B1.out NF.out; go_simp; try rfl
  try simp only [Act.put, List.setIfInBounds_toArray, List.set_cons_zero, List.set_cons_succ]
  have HD : Hid (On w1.drew p F v s) := H1.out.below ((Below.refl _ w1).drew)
  have HXD : Hid (Below w.heap.size w w1.drew) := HX.out.drew
  have HZ2 : Hid (w.heap.size < w1.drew.heap.size) := HZS.out
  generalize w1.drew = u at *
  refine lh_one 3 rfl rfl (by kernel_rfl) (fun K hK => ?_)
  go_simp
  refine (rput_any u v s n HD.out.nums HD.out.po.ris hl).mono ?_
  rintro e w2 ⟨v2, rfl, ho, hb⟩
  have hS2 : Hid (Keep F w1 w2) := hS.out.step hb
  refine hK.out _ _ hS2.out ?_
  clear hK K
  have HO := Lib.hid ho
  have HB2 := Lib.hid hb
  have H2 := Lib.hid (HD.out.below hb)
  have hS := hS2
  clear ho hb
  try simp only [Act.put, List.setIfInBounds_toArray, List.set_cons_zero, List.set_cons_succ]

  refine lh_one 7 rfl rfl (by kernel_rfl) (fun K hK => ?_)
  go_simp
  refine (put_any w2 p F s n H2.out.po h0 h1 (by omega)).mono ?_
  rintro e w3 ⟨rfl, F3, hp3, hk3, hg3⟩
  rw [← HQ.out]
  have hS3 : Hid (Keep F w1 w3) := hS.out.trans hk3 (fun i hi => .inl hi)
  refine hK.out _ _ hS3.out ?_
  clear hK K
  have HP3 := Lib.hid hp3
  have HK3 := Lib.hid hk3
  have HG3 := Lib.hid hg3
  have N3 := Lib.hid (H2.out.nums.keep hk3 (fun b hb => (H2.out.apart b hb).1))
  have hS := hS3
  clear hp3 hk3 hg3
  try simp only [Act.put, List.setIfInBounds_toArray, List.set_cons_zero, List.set_cons_succ]

  refine lh_one 11 rfl rfl (by kernel_rfl) (fun K hK => ?_)
  go_simp
  refine (rhas_any w3 v s n N3.out).mono ?_
  rintro e w4 ⟨rfl, rfl⟩
  rw [← HQ.out]
  refine hK.out _ _ hS.out ?_
  clear hK K
  try simp only [Act.put, List.setIfInBounds_toArray, List.set_cons_zero, List.set_cons_succ]
  refine lh_take 12 27 (v := ?_) rfl rfl (by kernel_rfl) (by kernel_rfl) (by kernel_rfl) (fun _ _ _ _ _ h => h) (by rfl) hS.out (fun W hW => ?_) ?_
  rotate_left
  · go_simp; try rfl
  try simp only [Act.put, List.setIfInBounds_toArray, List.set_cons_zero, List.set_cons_succ]
  refine lh_take 13 28 (v := ?_) rfl rfl (by kernel_rfl) (by kernel_rfl) (by kernel_rfl) (fun _ _ _ _ _ h => h) (by rfl) hS.out (fun W hW => ?_) ?_
  rotate_left
  · go_simp; try rfl
  try simp only [Act.put, List.setIfInBounds_toArray, List.set_cons_zero, List.set_cons_succ]
  refine lh_take 14 6 (v := ?_) rfl rfl (by kernel_rfl) (by kernel_rfl) (by kernel_rfl) (fun _ _ _ _ _ h => h) (by rfl) hS.out (fun W hW => ?_) ?_
  rotate_left
  · go_simp; try rfl
  try simp only [Act.put, List.setIfInBounds_toArray, List.set_cons_zero, List.set_cons_succ]
  refine lh_take 15 7 (v := ?_) rfl rfl (by kernel_rfl) (by kernel_rfl) (by kernel_rfl) (fun _ _ _ _ _ h => h) (by rfl) hS.out (fun W hW => ?_) ?_
  rotate_left
  · go_simp; try rfl
  try simp only [Act.put, List.setIfInBounds_toArray, List.set_cons_zero, List.set_cons_succ]

  refine lh_done (by kernel_rfl) ?_
  go_wp2
  go_ret2
  have hap : ∀ b, v2.ownBlock = some b → u.heap.size ≤ b ∧ b < w2.heap.size := fun b hb => HO.out.lt b hb
  have hus : w.heap.size < u.heap.size := HZ2.out
  refine ⟨v2, ?_, F3, HP3.out, ?_, ?_, ?_, ?_, ?_⟩
  · cases q <;> rfl
  · exact (Nums.own HO.out).keep HK3.out (fun b hb q => by
      have := H2.out.po.lt b q
      have := HD.out.po.lt b q
      have := (hap b hb).1
      omega)
  · exact ((Keep.of_below (F := fun _ => False) (HXD.out.trans (Below.mono HB2.out (by omega)))).mono (fun _ _ q => q.elim)).trans HK3.out (fun i hi => .inl hi)
  · intro b hb
    rcases HG3.out b hb with q | q
    · exact .inl q
    · exact .inr (by have := HB2.out.size; omega)
  · intro b hb
    refine ⟨fun q => ?_, Nat.lt_of_lt_of_le (hap b hb).2 HK3.out.size⟩
    rcases HG3.out b q with q | q
    · have := HD.out.po.lt b q
      have := (hap b hb).1
      omega
    · have := (hap b hb).2
      omega
  · intro b hb
    exact .inr (by have := (hap b hb).1; omega)

theorem run_tail (A : Option Addr) (n c : Nat) (hc : n + 1 ≤ c) : ∃ A', (∀ W, (Instr.slice 26 (.slice A (n + 1) c) (some (.int .i64 1)) none none).run Try.prog W = .ok (.slice A' n (c - 1)) W) ∧ (0 < n → ∀ a, A = some a → A' = some (a.add 1)) ∧ (∀ b, (Value.slice A' n (c - 1)).ownBlock = some b → (Value.slice A (n + 1) c).ownBlock = some b) := by
  refine ⟨if c = 1 then A else A.map (·.add 1), fun W => ?_, fun h0 a ha => ?_, fun b hb => ?_⟩
  · have e : (sizeOf (Try.prog.elem 26)).run Try.prog W = .ok 1 W := by kernel_rfl
    rw [run_slice_l (w := W) 26 A (n + 1) c Try.underlying26 .i64 1 (by omega) (by omega)]
    rw [e]
    simp [Result.andThen, sliced]
  · rw [if_neg (by omega), ha]
    rfl
  · split at hb
    · cases A with
      | none => simp [Value.ownBlock] at hb
      | some a => simpa [Value.ownBlock] using hb
    · cases A with
      | none => simp [Value.ownBlock] at hb
      | some a => simpa [Value.ownBlock, Addr.add] using hb

set_option maxHeartbeats 1600000 in
theorem step_take0 (w : World) (p : Nat) (F : Nat → Prop) (A : Option Addr) (c d : Nat) (n : Int) (H : Hid (On w p F (.slice A 0 c) [])) (hd : ((d % 3 : Nat) : Int) = 1) :
    Calls Try.prog 9 #[.pointer (some ⟨p, 0, none⟩), .slice A 0 c, .agg #[.int .u8 (d : Int), .int .u32 n]] w fun e w' => ∃ v', e = .returned (.tuple #[v', .bool true]) ∧ Mixed w w' p F (.slice A 0 c) v' [] := by
  have er : Int.tmod (d : Int) 3 = ((d % 3 : Nat) : Int) := rfl
  have er2 := er.trans hd
  have hbx : Below w.heap.size w (w.alloc (.cells #[.int .u8 (d : Int), .int .u32 n] 29)) := alb _
  have b1 : (w.alloc (.cells #[.int .u8 (d : Int), .int .u32 n] 29)).cell? ⟨w.heap.size, 1, none⟩ = some (.int .u32 n) := by rw [World.cell?_alloc_at _ _ _ _ rfl]; rfl
  have b0 : (w.alloc (.cells #[.int .u8 (d : Int), .int .u32 n] 29)).cell? ⟨w.heap.size, 0, none⟩ = some (.int .u8 (d : Int)) := by rw [World.cell?_alloc_at _ _ _ _ rfl]; rfl
  have HX := Lib.hid hbx
  have B1 := Lib.hid b1
  have B0 := Lib.hid b0
  have H1 := Lib.hid (H.out.below hbx)
  have NF : Hid (¬ F w.heap.size) := fun q => Nat.lt_irrefl _ (H.out.po.lt _ q)
  clear b0 b1 hbx er hd
  go_enter Try.func9, Try.ntmps9
  go_upto_region 1 with fail
  generalize w.alloc (.cells #[.int .u8 (d : Int), .int .u32 n] 29) = w1 at *
  have b0 := B0.out
  have C := Lib.hid (take_none w1 p F H1.out.po)
  go_wp2_with (go_at_call 14; refine C.out.mono ?_; rintro e w2 ⟨rfl, rfl⟩)
  go_ret2
  exact ⟨_, rfl, F, H1.out.po, H1.out.nums, (Keep.of_below (F := fun _ => False) HX.out).mono (fun _ _ q => q.elim), fun b hb => .inl hb, H1.out.apart, fun b hb => .inl hb⟩

set_option maxHeartbeats 1600000 in
theorem step_take (w : World) (p : Nat) (F : Nat → Prop) (A : Option Addr) (c d : Nat) (n x : Int) (r : List Int) (L : Nat) (HL : Hid (L = r.length)) (hm : L < 60000) (H : Hid (On w p F (.slice A (L + 1) c) (x :: r))) (hd : ((d % 3 : Nat) : Int) = 1) :
    Calls Try.prog 9 #[.pointer (some ⟨p, 0, none⟩), .slice A (L + 1) c, .agg #[.int .u8 (d : Int), .int .u32 n]] w fun e w' => ∃ v', e = .returned (.tuple #[v', .bool true]) ∧ Mixed w w' p F (.slice A (L + 1) c) v' r := by
  obtain ⟨A0, c0, e0, hc, hcm, hcell⟩ := H.out.nums
  simp only [Value.slice.injEq, List.length_cons] at e0
  obtain ⟨rfl, eL, rfl⟩ := e0
  obtain ⟨b, off, rfl, hcel⟩ := hcell (by simp)
  clear hcell
  obtain ⟨A2, ht, ha2, hb2⟩ := run_tail (some ⟨b, off, none⟩) L c (by simpa [← HL.out] using hc)
  have hx0 := hcel 0 (by simp)
  simp only [Nat.add_zero] at hx0
  rw [show (x :: r)[0]! = x from rfl] at hx0
  have HX0 := Lib.hid hx0
  have HT2 : Hid (∀ w', Keep F w w' → Nums w' (.slice A2 L (c - 1)) r) := fun w' k => by
    rw [HL.out]
    refine ⟨A2, c - 1, rfl, by have := hc; simp at this; omega, by omega, fun h0 => ⟨b, off + 1, ?_, fun j hj => ?_⟩⟩
    · rw [ha2 (by rw [HL.out]; exact h0) _ rfl]
      rfl
    · have := hcel (j + 1) (by simp; omega)
      rw [show (x :: r)[j + 1]! = r[j]! by simp [getElem!_def]] at this
      rw [show off + 1 + j = off + (j + 1) by omega]
      exact k.cell this (H.out.apart b rfl).1
  have HB2 := Lib.hid hb2
  have HLT := Lib.hid (H.out.apart b rfl)
  clear hcel eL hc hcm ha2 hb2 hx0
  have er : Int.tmod (d : Int) 3 = ((d % 3 : Nat) : Int) := rfl
  have er2 := er.trans hd
  have hbx : Below w.heap.size w (w.alloc (.cells #[.int .u8 (d : Int), .int .u32 n] 29)) := alb _
  have b1 : (w.alloc (.cells #[.int .u8 (d : Int), .int .u32 n] 29)).cell? ⟨w.heap.size, 1, none⟩ = some (.int .u32 n) := by rw [World.cell?_alloc_at _ _ _ _ rfl]; rfl
  have b0 : (w.alloc (.cells #[.int .u8 (d : Int), .int .u32 n] 29)).cell? ⟨w.heap.size, 0, none⟩ = some (.int .u8 (d : Int)) := by rw [World.cell?_alloc_at _ _ _ _ rfl]; rfl
  have HX := Lib.hid hbx
  have B1 := Lib.hid b1
  have B0 := Lib.hid b0
  have H1 := Lib.hid (H.out.below hbx)
  have NF : Hid (¬ F w.heap.size) := fun q => Nat.lt_irrefl _ (H.out.po.lt _ q)
  clear b0 b1 hbx er hd
  go_enter Try.func9, Try.ntmps9
  go_upto_region 1 with fail
  generalize w.alloc (.cells #[.int .u8 (d : Int), .int .u32 n] 29) = w1 at *
  have b0 := B0.out
  have C := Lib.hid (take_some w1 p F x r H1.out.po (by rw [← HL.out]; omega))
  go_upto_region 6 with (go_at_call 14; refine C.out.mono ?_; rintro e w2 ⟨rfl, F2, hp, hk, hg⟩)
  have hKB : Keep F w w2 := ((Keep.of_below (F := fun _ => False) HX.out).mono (fun _ _ q => q.elim)).trans hk (fun i hi => .inl hi)
  have x0 : w2.cell? ⟨b, off, none⟩ = some (.int .u32 x) := hKB.cell HX0.out HLT.out.1
  have HP := Lib.hid hp
  have HK := Lib.hid hKB
  have HG := Lib.hid hg
  have hz1 : (((L + 1 : Nat) : Int) == 0) = false := by rw [beq_eq_false_iff_ne]; omega
  clear hp hk hg hKB C b0
  go_wp2_with fail
  go_region
  go_wp2
  go_ret2
  refine ⟨.slice A2 L (c - 1), rfl, F2, Po.below HP.out (Below.refl _ w2).drew, (HT2.out w2 HK.out).below (Below.refl _ w2).drew, HK.out.drew, ?_, ?_, ?_⟩
  · intro y hy
    rcases HG.out y hy with q | q
    · exact .inl q
    · exact .inr (Nat.le_trans HX.out.size q)
  · intro y hy
    have := HB2.out y hy
    simp only [Value.ownBlock, Option.some.injEq] at this
    subst this
    refine ⟨fun q => ?_, Nat.lt_of_lt_of_le HLT.out.2 HK.out.size⟩
    rcases HG.out b q with q | q
    · exact HLT.out.1 q
    · have := HLT.out.2
      have := HX.out.size
      omega
  · intro y hy
    exact .inl (HB2.out y hy)

set_option maxHeartbeats 1600000 in
theorem step_has (w : World) (p : Nat) (F : Nat → Prop) (v : Value) (s : List Int) (d : Nat) (n : Int) (H : Hid (On w p F v s)) (hd : ((d % 3 : Nat) : Int) = 2) (h0 : 0 ≤ n) (h1 : n < 4294967296) :
    Calls Try.prog 9 #[.pointer (some ⟨p, 0, none⟩), v, .agg #[.int .u8 (d : Int), .int .u32 n]] w fun e w' => ∃ v', e = .returned (.tuple #[v', .bool true]) ∧ Mixed w w' p F v v' s := by
  have er : Int.tmod (d : Int) 3 = ((d % 3 : Nat) : Int) := rfl
  have er2 := er.trans hd
  have hbx : Below w.heap.size w (w.alloc (.cells #[.int .u8 (d : Int), .int .u32 n] 29)) := alb _
  have b1 : (w.alloc (.cells #[.int .u8 (d : Int), .int .u32 n] 29)).cell? ⟨w.heap.size, 1, none⟩ = some (.int .u32 n) := by rw [World.cell?_alloc_at _ _ _ _ rfl]; rfl
  have b0 : (w.alloc (.cells #[.int .u8 (d : Int), .int .u32 n] 29)).cell? ⟨w.heap.size, 0, none⟩ = some (.int .u8 (d : Int)) := by rw [World.cell?_alloc_at _ _ _ _ rfl]; rfl
  have HX := Lib.hid hbx
  have B1 := Lib.hid b1
  have B0 := Lib.hid b0
  have H1 := Lib.hid (H.out.below hbx)
  have NF : Hid (¬ F w.heap.size) := fun q => Nat.lt_irrefl _ (H.out.po.lt _ q)
  obtain ⟨q, hq⟩ : ∃ q, q = decide (n ∈ s) := ⟨_, rfl⟩
  have HQ := Lib.hid hq
  clear hq
  clear b0 b1 hbx er hd
  go_enter Try.func9, Try.ntmps9
  go_upto_region 1 with fail
  generalize w.alloc (.cells #[.int .u8 (d : Int), .int .u32 n] 29) = w1 at *
  have b0 := B0.out
  go_wp2_with fail
  clear b0
  have hS : Hid (Below w1.heap.size w1 w1.drew) := (Below.refl _ _).drew
  refine lh_start 12 (fun W => Below w1.heap.size w1 W) rfl (by kernel_rfl) ?_
  refine lh_take 0 56 (v := ?_) rfl rfl (by kernel_rfl) (by kernel_rfl) (by kernel_rfl) (fun _ _ _ _ _ h => h) (by rfl) hS.out (fun W hW => ?_) ?_
  rotate_left
  · go_simp; try rfl
  try simp only [Act.put, List.setIfInBounds_toArray, List.set_cons_zero, List.set_cons_succ]
  refine lh_take 1 57 (v := ?_) rfl rfl (by kernel_rfl) (by kernel_rfl) (by kernel_rfl) (fun _ _ _ _ _ h => h) (by rfl) hS.out (fun W hW => ?_) ?_
  rotate_left
  · go_simp; try rfl
  try simp only [Act.put, List.setIfInBounds_toArray, List.set_cons_zero, List.set_cons_succ]
  refine lh_take 2 58 (v := ?_) rfl rfl (by kernel_rfl) (by kernel_rfl) (by kernel_rfl) (fun _ _ _ _ _ h => h) (by rfl) hS.out (fun W hW => ?_) ?_
  rotate_left
  · go_simp; try rfl
  try simp only [Act.put, List.setIfInBounds_toArray, List.set_cons_zero, List.set_cons_succ]
  refine lh_take 3 59 (v := ?_) rfl rfl (by kernel_rfl) (by kernel_rfl) (by kernel_rfl) (fun _ _ _ _ _ h => h) (by rfl) hS.out (fun W hW => ?_) ?_
  rotate_left
  · have q := kept B1.out hW; go_simp; try rfl
  try simp only [Act.put, List.setIfInBounds_toArray, List.set_cons_zero, List.set_cons_succ]
  refine lh_take 5 61 (v := ?_) rfl rfl (by kernel_rfl) (by kernel_rfl) (by kernel_rfl) (fun _ _ _ _ _ h => h) (by rfl) hS.out (fun W hW => ?_) ?_
  rotate_left
  · go_simp; try rfl
  try simp only [Act.put, List.setIfInBounds_toArray, List.set_cons_zero, List.set_cons_succ]
  refine lh_take 6 62 (v := ?_) rfl rfl (by kernel_rfl) (by kernel_rfl) (by kernel_rfl) (fun _ _ _ _ _ h => h) (by rfl) hS.out (fun W hW => ?_) ?_
  rotate_left
  · go_simp; try rfl
  try simp only [Act.put, List.setIfInBounds_toArray, List.set_cons_zero, List.set_cons_succ]
  refine lh_take 7 63 (v := ?_) rfl rfl (by kernel_rfl) (by kernel_rfl) (by kernel_rfl) (fun _ _ _ _ _ h => h) (by rfl) hS.out (fun W hW => ?_) ?_
  rotate_left
  · have q := kept B1.out hW; go_simp; try rfl
  try simp only [Act.put, List.setIfInBounds_toArray, List.set_cons_zero, List.set_cons_succ]
  have HD : Hid (On w1.drew p F v s) := H1.out.below ((Below.refl _ w1).drew)
  generalize w1.drew = u at *
  refine lh_one 4 rfl rfl (by kernel_rfl) (fun K hK => ?_)
  go_simp
  refine (phas_any u p F s n HD.out.po h0 h1).mono ?_
  rintro e w2 ⟨rfl, hb⟩
  rw [← HQ.out]
  have hS2 : Hid (Below w1.heap.size w1 w2) := btr hS.out hb
  refine hK.out _ _ hS2.out ?_
  clear hK K
  have H2 := Lib.hid (HD.out.below hb)
  have hS := hS2
  clear hb
  try simp only [Act.put, List.setIfInBounds_toArray, List.set_cons_zero, List.set_cons_succ]

  refine lh_one 8 rfl rfl (by kernel_rfl) (fun K hK => ?_)
  go_simp
  refine (rhas_any w2 v s n H2.out.nums).mono ?_
  rintro e w3 ⟨rfl, rfl⟩
  rw [← HQ.out]
  refine hK.out _ _ hS.out ?_
  clear hK K
  try simp only [Act.put, List.setIfInBounds_toArray, List.set_cons_zero, List.set_cons_succ]
  refine lh_take 9 65 (v := ?_) rfl rfl (by kernel_rfl) (by kernel_rfl) (by kernel_rfl) (fun _ _ _ _ _ h => h) (by rfl) hS.out (fun W hW => ?_) ?_
  rotate_left
  · go_simp; try rfl
  try simp only [Act.put, List.setIfInBounds_toArray, List.set_cons_zero, List.set_cons_succ]
  refine lh_take 10 6 (v := ?_) rfl rfl (by kernel_rfl) (by kernel_rfl) (by kernel_rfl) (fun _ _ _ _ _ h => h) (by rfl) hS.out (fun W hW => ?_) ?_
  rotate_left
  · go_simp; try rfl
  try simp only [Act.put, List.setIfInBounds_toArray, List.set_cons_zero, List.set_cons_succ]
  refine lh_take 11 7 (v := ?_) rfl rfl (by kernel_rfl) (by kernel_rfl) (by kernel_rfl) (fun _ _ _ _ _ h => h) (by rfl) hS.out (fun W hW => ?_) ?_
  rotate_left
  · go_simp; try rfl
  try simp only [Act.put, List.setIfInBounds_toArray, List.set_cons_zero, List.set_cons_succ]
  refine lh_done (by kernel_rfl) ?_
  go_wp2
  go_ret2
  have hB : Below w.heap.size w w2 := HX.out.trans (Below.mono hS.out HX.out.size)
  refine ⟨v, ?_, F, H2.out.po, H2.out.nums, (Keep.of_below (F := fun _ => False) hB).mono (fun _ _ q => q.elim), fun b hb => .inl hb, H2.out.apart, fun b hb => .inl hb⟩
  cases q <;> rfl

theorem step_any (w : World) (p : Nat) (F : Nat → Prop) (v : Value) (s : List Int) (d : Nat) (n : Int) (h : On w p F v s) (h0 : 0 ≤ n) (h1 : n < 4294967296) (hl : s.length < 50000) :
    Calls Try.prog 9 #[.pointer (some ⟨p, 0, none⟩), v, .agg #[.int .u8 (d : Int), .int .u32 n]] w fun e w' => ∃ v', e = .returned (.tuple #[v', .bool true]) ∧ Mixed w w' p F v v' (stp d n s) := by
  unfold stp
  by_cases e0 : d % 3 = 0
  · rw [if_pos e0]
    exact step_put w p F v s d n (Lib.hid h) (by omega) h0 h1 (by omega)
  · rw [if_neg e0]
    by_cases e1 : d % 3 = 1
    · rw [if_pos e1]
      obtain ⟨A, c, rfl, _⟩ := id h.nums
      cases s with
      | nil => exact step_take0 w p F A c d n (Lib.hid h) (by omega)
      | cons x r => exact step_take w p F A c d n x r r.length (Lib.hid rfl) (by simp at hl; omega) (Lib.hid h) (by omega)
    · rw [if_neg e1]
      exact step_has w p F v s d n (Lib.hid h) (by omega) h0 h1
theorem On.next {w w' : World} {p : Nat} {F : Nat → Prop} {v v' : Value} {s' : List Int} (h : Mixed w w' p F v v' s') : ∃ F', On w' p F' v' s' ∧ Keep F w w' ∧ (∀ b, F' b → F b ∨ w.heap.size ≤ b) ∧ (∀ b, v'.ownBlock = some b → v.ownBlock = some b ∨ w.heap.size ≤ b) := by
  obtain ⟨F', h1, h2, h3, h4, h5, h6⟩ := h
  exact ⟨F', ⟨h1, h2, h5⟩, h3, h4, h6⟩
end Go.Proofs.Ytmjjkoiepoblmaa
