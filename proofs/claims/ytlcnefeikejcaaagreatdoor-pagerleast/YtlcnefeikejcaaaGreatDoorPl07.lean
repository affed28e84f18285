/- Contracts that the claim reaches (Dz Ub Uc Vs Vj Vh Vk Vn Vo). -/
import Derived.Test.YtlcnefeikejcaaaGreatDoorPl06
namespace Go.Proofs.YtlcnefeikejcaaaGreatDoor
open Go.RowKit
open D (St)
theorem sync_down {w : World} {p : Nat} (c3 : w.cell? ⟨p, 3, none⟩ = some (.bool true)) :
    Calls Tryz.prog 117 #[.pointer (some ⟨p, 0, none⟩)] w fun e w' => e = .returned (.int .i64 7) ∧ w' = w := by
  go_enter Tryz.func117, Tryz.ntmps117
  go_wp2
  go_ret
  exact ⟨rfl, rfl⟩
theorem sync_falls {w : World} {p : Nat} {R : World → Prop} (c3 : w.cell? ⟨p, 3, none⟩ = some (.bool false))
    (HA : Hid (Calls Tryz.prog 53 #[.pointer (some ⟨p, 0, none⟩)] w fun e w' => e = .returned (.int .i64 7) ∧ R w')) :
    Calls Tryz.prog 117 #[.pointer (some ⟨p, 0, none⟩)] w fun e w' => e = .returned (.int .i64 7) ∧ R w' := by
  go_enter Tryz.func117, Tryz.ntmps117
  go_wp2_with fail
  refine HA.out.mono ?_
  rintro e w1 ⟨rfl, hr⟩
  go_wp2
  go_ret
  exact ⟨rfl, hr⟩
def laid (s : St) (k : Nat) : St := { s with safe := D.lay s.safe (s.waits.take k) }
theorem laid_whole (w : World) (x : Nat × List UInt8) (hy : x.2.length = 512) (Z : Array Value) (hZ : Z.size = 513) :
    (w.alloc (.cells Z 114)).there w.heap.size 0 (wz x).size ∧ ((w.alloc (.cells Z 114)).setCells w.heap.size 0 (wz x).toList).rangeAt w.heap.size 0 (wcells x) ∧ Below w.heap.size w ((w.alloc (.cells Z 114)).setCells w.heap.size 0 (wz x).toList) ∧ w.heap.size < ((w.alloc (.cells Z 114)).setCells w.heap.size 0 (wz x).toList).heap.size := by
  have ht0 : (w.alloc (.cells Z 114)).there w.heap.size 0 513 := dthere_new w Z 114 513 hZ
  have e : (wz x).toList = wcells x := by simp [wz]
  refine ⟨by rw [wz_size hy]; exact ht0, ?_, ?_, ?_⟩
  · rw [e]
    exact World.rangeAt_setCells_same _ _ _ _ (by rw [wcells_length hy]; exact ht0)
  · exact (Keep.setCells (F := fun _ => False) (Keep.of_below (alb _)) (.inr (Nat.le_refl _)) 0 _).below (Nat.le_refl _) (fun _ h => h.elim)
  · rw [size_setCells]
    simp
theorem wz_one (x : Nat × List UInt8) : (wz x).all (·.oneCell') = true := all_oneCell_toArray (fun v hv => by
  rcases List.mem_cons.1 hv with rfl | hv
  · rfl
  · exact bvs_one _ v hv)
theorem info_wz {x : Nat × List UInt8} (h : x.2.length = 512) : (Tryz.prog.info? 114).map (·.size) = some (wz x).size := by rw [wz_size h]; exact Tryz.size114
theorem info_wc {x : Nat × List UInt8} (h : x.2.length = 512) : (Tryz.prog.info? 114).map (·.size) = some (wcells x).length := by rw [wcells_length h]; exact Tryz.size114
set_option maxRecDepth 100000 in
theorem sync_core {w : World} {p g : Nat} {wv : Value} {s : St} (c3 : w.cell? ⟨p, 3, none⟩ = some (.bool false))
    (HA : Hid (Calls Tryz.prog 53 #[.pointer (some ⟨p, 0, none⟩)] w fun e w' => e = .returned (.int .i64 0) ∧ Dsk w' p g wv s ∧ Keep (dfp p g wv) w w')) :
    Calls Tryz.prog 117 #[.pointer (some ⟨p, 0, none⟩)] w fun e w' => e = .returned (.int .i64 0) ∧ DTurned w w' p g wv { s with safe := D.lay s.safe s.waits, waits := [] } := by
  have hz := (zero_of_info Tryz.zero114).1
  have HZ := Lib.hid (wz_size (x := (0, D.zero)) List.length_replicate)
  generalize wz (0, D.zero) = Z at *
  go_enter Tryz.func117, Tryz.ntmps117
  go_wp2_with fail
  refine HA.out.mono ?_
  rintro e w1 ⟨rfl, hd1, hk1⟩
  have H1 := Lib.hid hd1
  have K1 := Lib.hid hk1
  obtain ⟨A, cap, rfl⟩ := wv_form hd1
  have c1 := hd1.c1
  have hm := hd1.nwaits
  clear hd1 hk1
  generalize hL : s.waits.length = L at *
  have HL := Lib.hid hL
  clear hL
  go_wp2
  go_loopw [20] (fun i wr => ∃ k : Nat, k ≤ L ∧ i = .int .i64 (k : Int) ∧ Hid (Dsk wr p g (.slice A L cap) (laid s k)) ∧ Hid (Keep (dfp p g (.slice A L cap)) w wr)) (fun i _ => (L - intOf i).toNat)
  case atStart => exact ⟨0, Nat.zero_le _, rfl, H1.out, K1.out⟩
  case round =>
    obtain ⟨k, hk, rfl, HD, HK⟩ := hrel
    by_cases hkl : k < L
    · have HD' : Dsk wr p g (.slice A (laid s k).waits.length cap) (laid s k) := by
        show Dsk wr p g (.slice A s.waits.length cap) _
        rw [HL.out]
        exact HD.out
      obtain ⟨q, rfl, _, _, a3⟩ := HD'.waitAt k (by show k < s.waits.length; rw [HL.out]; exact hkl)
      have hkw : k < s.waits.length := by rw [HL.out]; exact hkl
      have HP := Lib.hid (HD.out.ok.place _ (List.getElem_mem (l := (laid s k).waits) hkw))
      have HY := Lib.hid (HD.out.ok.bytes _ (List.getElem_mem (l := (laid s k).waits) hkw))
      have HN : Hid (laid s (k + 1) = { laid s k with safe := (laid s k).safe.set (laid s k).waits[k].1 (laid s k).waits[k].2 }) := by
        unfold laid Hid
        rw [D.lay_take _ _ k hkw]
      have HR := Lib.hid a3
      clear HD' a3
      generalize (laid s k).waits[k] = x at *
      obtain ⟨ht, hr2, hb2, hl2⟩ := laid_whole wr x HY.out Z HZ.out
      have HT := Lib.hid ht
      have HR2 := Lib.hid hr2
      have HB2 := Lib.hid hb2
      clear ht hr2 hb2
      go_wp2_with (first
        | (refine wpList_load_mid rfl 114 _ rfl q (k * 513) rfl (wcells x) _ HR.out Tryz.underlying114 rfl (info_wc HY.out) ?_)
        | (refine wpList_store_mid rfl 114 _ _ rfl wr.heap.size 0 (wz x) rfl rfl HT.out (info_wz HY.out) (wz_one x) ?_))
      generalize (wr.alloc (.cells Z 114)).setCells wr.heap.size 0 (wz x).toList = w2 at *
      have HD2 := Lib.hid ((HD.out.below HB2.out).keep (F := fun _ => False) ((Keep.refl _ w2).drew) (fun _ _ h => h))
      obtain ⟨cc, c0⟩ := HD2.out.c0
      have C0 : Hid (w2.cell? ⟨p, 0, none⟩ = _) := c0
      have C5 : Hid (w2.cell? ⟨wr.heap.size, 0, none⟩ = some (.int .i64 ((x.1 : Nat) : Int))) := HR2.out 0 _ rfl
      have R5 : Hid (w2.rangeAt wr.heap.size 1 (bvs x.2)) := fun j v hv => by
        have := HR2.out (j + 1) v (by simpa [wcells] using hv)
        rwa [show 0 + (j + 1) = 1 + j by omega] at this
      have T5 := Lib.hid (there_blk (HD2.out.there x.1 HP.out) HY.out)
      have HD5 : Hid (Dsk (w2.drew.setCells g (x.1 * 512) (bvs x.2).toArray.toList) p g (.slice (some ⟨q, 0, none⟩) L cap) (laid s (k + 1))) := by
        rw [HN.out]
        exact HD2.out.setb x.1 x.2 HP.out HY.out
      have HK5 : Hid (Keep (dfp p g (.slice (some ⟨q, 0, none⟩) L cap)) w (w2.drew.setCells g (x.1 * 512) (bvs x.2).toArray.toList)) :=
        Keep.setCells (HK.out.step HB2.out).drew (.inl (.inr (.inl rfl))) _ _
      have hS : Hid (Keep (fun _ => False) w2 w2.drew) := (Keep.refl _ _).drew
      have hlt := HP.out
      clear c0 hl2
      generalize (laid s k).safe.length = sl at *
      refine lz_start 10 9 (fun W => Keep (fun _ => False) w2 W) rfl (by kernel_rfl) ?_
      refine lz_take 0 24 (v := ?_) rfl rfl (by kernel_rfl) (by kernel_rfl) (by kernel_rfl) (by kernel_rfl) (fun _ _ _ _ _ h => h) (by rfl) hS.out (fun W hW => ?_) ?_
      rotate_left
      · go_simp; try rfl
      try simp only [Act.put, List.setIfInBounds_toArray, List.set_cons_zero, List.set_cons_succ]
      refine lz_take 1 25 (v := ?_) rfl rfl (by kernel_rfl) (by kernel_rfl) (by kernel_rfl) (by kernel_rfl) (fun _ _ _ _ _ h => h) (by rfl) hS.out (fun W hW => ?_) ?_
      rotate_left
      · go_simp; try rfl
      try simp only [Act.put, List.setIfInBounds_toArray, List.set_cons_zero, List.set_cons_succ]
      refine lz_take 2 26 (v := ?_) rfl rfl (by kernel_rfl) (by kernel_rfl) (by kernel_rfl) (by kernel_rfl) (fun _ _ _ _ _ h => h) (by rfl) hS.out (fun W hW => ?_) ?_
      rotate_left
      · go_simp; try rfl
      try simp only [Act.put, List.setIfInBounds_toArray, List.set_cons_zero, List.set_cons_succ]
      refine lz_take 3 27 (v := ?_) rfl rfl (by kernel_rfl) (by kernel_rfl) (by kernel_rfl) (by kernel_rfl) (fun _ _ _ _ _ h => h) (by rfl) hS.out (fun W hW => ?_) ?_
      rotate_left
      · have q0 := hW.cell C0.out (fun h => h); go_simp; try rfl
      try simp only [Act.put, List.setIfInBounds_toArray, List.set_cons_zero, List.set_cons_succ]
      refine lz_take 4 28 (v := ?_) rfl rfl (by kernel_rfl) (by kernel_rfl) (by kernel_rfl) (by kernel_rfl) (fun _ _ _ _ _ h => h) (by rfl) hS.out (fun W hW => ?_) ?_
      rotate_left
      · go_simp; try rfl
      try simp only [Act.put, List.setIfInBounds_toArray, List.set_cons_zero, List.set_cons_succ]
      refine lz_take 5 29 (v := ?_) rfl rfl (by kernel_rfl) (by kernel_rfl) (by kernel_rfl) (by kernel_rfl) (fun _ _ _ _ _ h => h) (by rfl) hS.out (fun W hW => ?_) ?_
      rotate_left
      · have q1 := hW.cell C5.out (fun h => h); go_simp; try rfl
      try simp only [Act.put, List.setIfInBounds_toArray, List.set_cons_zero, List.set_cons_succ]
      refine lz_take 6 30 (v := ?_) rfl rfl (by kernel_rfl) (by kernel_rfl) (by kernel_rfl) (by kernel_rfl) (fun _ _ _ _ _ h => h) (by rfl) hS.out (fun W hW => ?_) ?_
      rotate_left
      · go_simp; try rfl
      try simp only [Act.put, List.setIfInBounds_toArray, List.set_cons_zero, List.set_cons_succ]
      refine lz_take 7 31 (v := ?_) rfl rfl (by kernel_rfl) (by kernel_rfl) (by kernel_rfl) (by kernel_rfl) (fun _ _ _ _ _ h => h) (by rfl) hS.out (fun W hW => ?_) ?_
      rotate_left
      · refine run_load_mid 112 (.tmp 30) ?_ wr.heap.size 1 ?_ (bvs x.2) _ (range_keep R5.out hW (fun h => h)) Tryz.underlying112 rfl (info_blk HY.out) <;> rfl
      try simp only [Act.put, List.setIfInBounds_toArray, List.set_cons_zero, List.set_cons_succ]
      refine lz_op 8 rfl rfl (by kernel_rfl) (fun K hK => ?_)
      go_simp
      refine hK.out _ _ hS.out ?_
      clear hK K
      refine lz_end rfl rfl (by kernel_rfl) (by kernel_rfl) (fun K hK => ?_)
      refine wp_store_mid 112 _ _ rfl g (x.1 * 512) (bvs x.2).toArray rfl rfl T5.out (info_blkA HY.out) (one_blk x.2) ?_
      refine hK.out _ _ ?_
      clear hK K
      generalize w2.drew.setCells g (x.1 * 512) (bvs x.2).toArray.toList = w5 at *
      go_wp2
      go_roundw
      case rel => exact ⟨k + 1, by omega, by go_num, HD5, HK5⟩
      case measure => simp [intOf]; omega
    · obtain rfl : k = L := by omega
      clear hkl
      have HD' : Hid (Dsk wr p g (.slice A k cap) { s with safe := D.lay s.safe s.waits }) := by
        have := HD.out
        unfold laid at this
        rw [← HL.out, List.take_length] at this
        rwa [HL.out] at this
      have c1 := HD'.out.c1
      have f1 := HD'.out.fz 1
      have HD6 := Lib.hid (HD'.out.setc1 (.slice none 0 0) [] (World.ownsRow_nil _ _ _ _) (fun x hx => by simp at hx) (fun x hx => by simp at hx) (by simp [Value.ownBlock]) (by simp [Value.ownBlock]))
      have HK6 : Hid (Keep (dfp p g (.slice A k cap)) w (wr.setCell ⟨p, 1, none⟩ (.slice none 0 0))) := Keep.setCell (p := ⟨p, 1, none⟩) HK.out (.inl (.inl rfl)) _
      go_wp2
      go_ret
      refine ⟨rfl, _, HD6.out, ?_, fun b hb => by simp [Value.ownBlock] at hb⟩
      rw [HL.out]
      exact HK6.out
theorem sync_any {w : World} {p g : Nat} {wv : Value} {s : St} (h : Dsk w p g wv s) :
    Calls Tryz.prog 117 #[.pointer (some ⟨p, 0, none⟩)] w fun e w' => e = .returned (.int .i64 (D.syncE s)) ∧ DTurned w w' p g wv (D.sync s) := by
  have c3 := h.c3
  have HA := act_any h
  unfold D.sync D.syncE
  cases hd : s.down with
  | true =>
    rw [hd] at c3
    refine (sync_down c3).mono ?_
    rintro e w' ⟨rfl, rfl⟩
    exact ⟨rfl, wv, h, Keep.refl _ _, fun b hb => .inl hb⟩
  | false =>
    rw [hd] at c3
    by_cases h0 : s.fuse = 0
    · have e1 : D.ans s = 7 := by simp [D.ans, h0]
      have e2 : D.act s = { s with down := true } := by simp [D.act, h0]
      rw [e1, e2] at HA
      simp only [Bool.false_eq_true, if_false, if_pos h0, e1]
      refine (sync_falls c3 HA).mono ?_
      rintro e w' ⟨rfl, hd', hk⟩
      exact ⟨rfl, wv, hd', hk, fun b hb => .inl hb⟩
    · have e1 : D.ans s = 0 := by simp [D.ans, h0]
      rw [e1] at HA
      simp only [Bool.false_eq_true, if_false, if_neg h0, e1]
      refine (sync_core c3 HA).mono ?_
      rintro e w' ⟨rfl, ht⟩
      rw [D.act_safe, D.act_waits] at ht
      exact ⟨rfl, ht⟩
end Go.Proofs.YtlcnefeikejcaaaGreatDoor
namespace Go.Proofs.YtlcnefeikejcaaaGreatDoor
open Go.RowKit
open U (be)
def Bl (w : World) (g n : Nat) (l : List UInt8) : Prop := w.heap[g]? = some (.cells (bvs l).toArray 5 (0, 0)) ∧ l.length = n ∧ n ≤ 1000
theorem Bl.lt {w : World} {g n : Nat} {l : List UInt8} (h : Bl w g n l) : g < w.heap.size := (Array.getElem?_eq_some_iff.1 h.1).1
theorem Bl.keep {F : Nat → Prop} {w w1 : World} {g n : Nat} {l : List UInt8} (h : Bl w g n l) (hb : Keep F w w1) (hf : ¬ F g) : Bl w1 g n l := ⟨(hb.block g h.lt hf).trans h.1, h.2⟩
theorem Bl.own {w : World} {g n : Nat} {l : List UInt8} (h : Bl w g n l) : w.ownsRow 0 5 1 (.slice (some ⟨g, 0, none⟩) n n) n (bvs l) :=
  own_of h.1 (Nat.zero_le _) (by rw [bvs_length]; exact h.2.1) (by have := h.2.2; unfold maxLen; omega)
theorem Bl.cell {w : World} {g n : Nat} {l : List UInt8} (h : Bl w g n l) (j : Nat) (hj : j < n) : w.cell? ⟨g, j, none⟩ = some (.int .u8 (((l.getD j 0).toNat : Nat) : Int)) := by
  have hl := h.2.1
  rw [h.own.cellAt j (by omega), bvs_get l j (by omega)]
  simp [List.getD, show j < l.length by omega]
theorem Bl.frozen {w : World} {g n : Nat} {l : List UInt8} (h : Bl w g n l) (j : Nat) : w.frozen? ⟨g, j, none⟩ = false := h.own.frozenAt j
theorem Bl.set {w : World} {g n : Nat} {l : List UInt8} (h : Bl w g n l) (p : Nat) (x : UInt8) : Bl (w.setCell ⟨g, p, none⟩ (.int .u8 ((x.toNat : Nat) : Int))) g n (l.set p x) := by
  have q := (h.own.stored p (.int .u8 ((x.toNat : Nat) : Int))).1
  rw [← bvs_set] at q
  exact ⟨own_heap q, by simpa using h.2.1, h.2.2⟩
theorem Bl.byts {w : World} {g n : Nat} {l : List UInt8} (h : Bl w g n l) : Byts w (.slice (some ⟨g, 0, none⟩) n n) l := by
  have e := h.2.1
  have := Byts.own (base := 0) (w := w) (v := .slice (some ⟨g, 0, none⟩) n n) (l := l) (by rw [e]; exact h.own)
  exact this
structure Lay (w : World) (g bb ab : Nat) (d : List UInt8) : Prop where
  row : ∃ y, Bl w g 116 (d ++ y)
  cb : w.cell? ⟨bb, 0, none⟩ = some (.slice (some ⟨g, 0, none⟩) 116 116)
  ca : w.cell? ⟨ab, 0, none⟩ = some (.int .i64 (d.length : Int))
  fa : w.frozen? ⟨ab, 0, none⟩ = false
  gb : g ≠ bb
  ga : g ≠ ab
  ba : bb ≠ ab
theorem Lay.keep {F : Nat → Prop} {w w1 : World} {g bb ab : Nat} {d : List UInt8} (h : Lay w g bb ab d) (k : Keep F w w1) (hg : ¬ F g) (hb : ¬ F bb) (ha : ¬ F ab) : Lay w1 g bb ab d := by
  obtain ⟨⟨y, hy⟩, cb, ca, fa, h1, h2, h3⟩ := h
  exact ⟨⟨y, hy.keep k hg⟩, k.cell cb hb, k.cell ca ha, by rw [k.frozen ca ha]; exact fa, h1, h2, h3⟩
theorem Lay.below {w w1 : World} {g bb ab : Nat} {d : List UInt8} (h : Lay w g bb ab d) (k : Below w.heap.size w w1) : Lay w1 g bb ab d := h.keep (F := fun _ => False) (Keep.of_below k) (fun h => h) (fun h => h) (fun h => h)
theorem put_split (d y : List UInt8) (s n : Nat) (h : (d ++ y).length = 116) (hs : d.length + s ≤ 116) : ∃ x z, d ++ y = d ++ (x ++ (be 0 n ++ z)) ∧ x.length = s := by
  refine ⟨y.take s, y.drop s, by simp [be], ?_⟩
  simp at h
  simp
  omega
theorem put_step (d x z : List UInt8) (c : UInt8) (t n m : Nat) (hm : m = n / 256 ^ t) : (d ++ ((x ++ [c]) ++ (be t n ++ z))).set (d.length + x.length) (UInt8.ofNat m) = d ++ (x ++ (be (t + 1) n ++ z)) := by
  subst hm
  rw [List.set_append_right _ _ (by omega), Nat.add_sub_cancel_left, List.append_assoc, List.set_append_right _ _ (by omega), Nat.sub_self]
  rfl
theorem put_byte (m : Nat) : ((m : Int) % 256) = (((UInt8.ofNat m).toNat : Nat) : Int) := by
  have : (UInt8.ofNat m).toNat = m % 256 := by simp
  rw [this]
  omega
set_option maxHeartbeats 800000 in
theorem uput_any (g bb ab s n : Nat) (d : List UInt8) (w : World) (h : Lay w g bb ab d) (hs : d.length + s ≤ 116) (hn : n < 18446744073709551616) :
    Calls Tryz.prog 179 #[.int .i64 (s : Int), .int .u64 (n : Int), .pointer (some ⟨bb, 0, none⟩), .pointer (some ⟨ab, 0, none⟩)] w fun e w' =>
      e = .returned (.tuple #[]) ∧ Lay w' g bb ab (d ++ be s n) ∧ Keep (fun k => k = g ∨ k = ab) w w' := by
  obtain ⟨⟨y, hy⟩, cb, ca, fa, h1, h2, h3⟩ := h
  have HL := Lib.hid hy.2.1
  obtain ⟨x0, z0, e0, hx0⟩ := put_split d y s n hy.2.1 hs
  rw [e0] at hy
  have HY := Lib.hid hy
  clear hy e0
  have H1 := Lib.hid h1
  have H2 := Lib.hid h2
  have H3 := Lib.hid h3
  generalize hD : d.length = D at *
  have HD := Lib.hid hD
  clear hD h1 h2 h3
  have hm : n / 256 ^ 0 = n := by simp
  go_enter Tryz.func179, Tryz.ntmps179
  go_wp2
  go_loopw [6, 1] (fun i m wr => ∃ (k t : Nat) (x z : List UInt8), k + t = s ∧ x.length = k ∧ i = .int .i64 ((k : Int) - 1) ∧ m = .int .u64 ((n / 256 ^ t : Nat) : Int) ∧ Bl wr g 116 (d ++ (x ++ (be t n ++ z))) ∧
      wr.cell? ⟨bb, 0, none⟩ = some (.slice (some ⟨g, 0, none⟩) 116 116) ∧ wr.cell? ⟨ab, 0, none⟩ = some (.int .i64 (D : Int)) ∧ wr.frozen? ⟨ab, 0, none⟩ = false ∧ Keep (fun k => k = g ∨ k = ab) w wr)
    (fun i _ _ => (intOf i + 1).toNat)
  case atStart => exact ⟨s, 0, x0, z0, rfl, hx0, rfl, by rw [hm], HY.out, cb, ca, fa, Keep.refl _ _⟩
  case round =>
    obtain ⟨k, t, x, z, hkt, hx, rfl, rfl, hbl, cb, ca, fa, hk⟩ := hrel
    have hs2 := HL.out
    cases k with
    | zero =>
      obtain rfl : t = s := by omega
      have e : x = [] := List.length_eq_zero_iff.1 hx
      subst e
      have HB := Lib.hid hbl
      clear hbl
      have q1 : decide (0 ≤ ((0 : Nat) : Int) - 1) = false := by decide
      go_wp2
      go_end0
      have h1 := H1.out
      have h2 := H2.out
      have h3 := H3.out
      refine ⟨rfl, ⟨⟨z, ?_⟩, cfar (fun e => h3 e.symm) cb, ?_, fzs fa, h1, h2, h3⟩, hk.setCell (.inl (.inr rfl)) _⟩
      · rw [List.append_assoc]
        exact HB.out.keep (F := fun k => k = ab) (Keep.setCell (F := fun k => k = ab) (p := ⟨ab, 0, none⟩) (Keep.refl _ _) (.inl rfl) _) h2
      · rw [World.cell?_setCell_same _ _ _ ca, List.length_append, HD.out, U.be_length]
        first | rfl | simp
    | succ j =>
      rcases List.eq_nil_or_concat x with rfl | ⟨x, c, rfl⟩
      · simp at hx
      rw [List.concat_eq_append] at hbl
      have hj : x.length = j := by simpa using hx
      have e1 : (((j + 1 : Nat) : Int) - 1) = (j : Int) := by omega
      rw [e1]
      have c0 := hbl.cell (D + j) (by omega)
      have f0 := hbl.frozen (D + j)
      have HB := Lib.hid hbl
      clear hbl
      obtain ⟨y8, h8⟩ : ∃ y : Nat, y = (List.getD (d ++ (x ++ [c] ++ (be t n ++ z))) (D + j) 0).toNat := ⟨_, rfl⟩
      rw [← h8] at c0
      clear h8
      generalize hmm : n / 256 ^ t = m at *
      have HM := Lib.hid hmm
      clear hmm
      have hml : m < 18446744073709551616 := by rw [← HM.out]; exact Nat.lt_of_le_of_lt (Nat.div_le_self _ _) hn
      have e3 := put_byte m
      obtain ⟨u, hu⟩ : ∃ u, u = UInt8.ofNat m := ⟨_, rfl⟩
      rw [← hu] at e3
      have HU := Lib.hid hu
      clear hu
      have hu8 := u.toNat_lt
      generalize hun : u.toNat = un at *
      have HUN := Lib.hid hun
      clear hun
      have HKT := Lib.hid hkt
      have HX := Lib.hid hx
      have HJ := Lib.hid hj
      have HK := Lib.hid hk
      clear hx hj hk e1
      have q1 : decide (0 ≤ (j : Int)) = true := by simp
      have hjl : (D : Int) + (j : Int) < 116 := by omega
      clear hkt
      go_wp2
      go_roundw
      case rel =>
        have hb2 := HB.out.set (D + j) u
        have hkk := HKT.out
        have h1 := H1.out
        have h2 := H2.out
        rw [HUN.out] at hb2
        have es := put_step d x z c t n m HM.out.symm
        rw [HD.out, HJ.out, ← HU.out] at es
        rw [es] at hb2
        refine ⟨j, t + 1, x, z, by omega, HJ.out, by go_num, ?_, hb2, ?_, ?_, ?_, HK.out.setCell (.inl (.inl rfl)) _⟩
        · rw [Nat.pow_succ, ← Nat.div_div_eq_div_mul, HM.out]
          first | rfl | simp
        · exact cfar h1 cb
        · exact cfar h2 ca
        · exact fzs fa
      case measure => simp [intOf]
end Go.Proofs.YtlcnefeikejcaaaGreatDoor
namespace Go.Proofs.YtlcnefeikejcaaaGreatDoor
open Go.RowKit
open U (be)
theorem run_makeFunc (fn : Fn) (first cap : Array Value) (w : World) : (Instr.makeFunc fn first cap).run Tryz.prog w = .ok (.func fn first cap) w := rfl
theorem layInto_any (g : Nat) (y : List UInt8) (w : World) (h : Bl w g 116 y) : Calls Tryz.prog 171 #[.slice (some ⟨g, 0, none⟩) 116 116] w fun e w' =>
    e = .returned (.func (.func 179) #[] #[.pointer (some ⟨w.heap.size, 0, none⟩), .pointer (some ⟨w.heap.size + 1, 0, none⟩)]) ∧ Lay w' g w.heap.size (w.heap.size + 1) [] ∧ Below w.heap.size w w' := by
  have hg := Lib.hid h.lt
  have H := Lib.hid h
  clear h
  have hmf := run_makeFunc
  go_enter Tryz.func171, Tryz.ntmps171
  go_wp2
  go_ret
  have hb : Below w.heap.size w ((w.alloc (.cells #[.slice (some ⟨g, 0, none⟩) 116 116] 48)).alloc (.cells #[.int .i64 0] 3)) := bal (alb _) _
  have hgo := hg.out
  have c0 : ((w.alloc (.cells #[.slice (some ⟨g, 0, none⟩) 116 116] 48)).alloc (.cells #[.int .i64 0] 3)).cell? ⟨w.heap.size, 0, none⟩ = some (.slice (some ⟨g, 0, none⟩) 116 116) := alc (by rw [World.cell?_alloc_at _ _ _ _ rfl]; rfl) _
  have c1 : ((w.alloc (.cells #[.slice (some ⟨g, 0, none⟩) 116 116] 48)).alloc (.cells #[.int .i64 0] 3)).cell? ⟨w.heap.size + 1, 0, none⟩ = some (.int .i64 0) := by rw [World.cell?_alloc_at _ _ _ _ (by simp)]; rfl
  exact ⟨rfl, ⟨⟨y, H.out.keep (F := fun _ => False) (Keep.of_below hb) (fun h => h)⟩, c0, c1, by simp, by omega, by omega, by omega⟩, hb⟩
theorem take3 (l : List Value) (k : Nat) (h : k + 3 ≤ l.length) : (l.drop k).take 3 = [l.getD k undef, l.getD (k + 1) undef, l.getD (k + 2) undef] := by
  have e1 : l.getD k undef = l[k] := by simp [List.getD, show k < l.length by omega]
  have e2 : l.getD (k + 1) undef = l[k + 1] := by simp [List.getD, show k + 1 < l.length by omega]
  have e3 : l.getD (k + 2) undef = l[k + 2] := by simp [List.getD, show k + 2 < l.length by omega]
  rw [List.drop_eq_getElem_cons (by omega), List.drop_eq_getElem_cons (by omega), List.drop_eq_getElem_cons (by omega), e1, e2, e3]
  rfl
theorem Tryz.sizeR : ∀ w : World, (sizeOf 33).run Tryz.prog w = .ok 3 w := fun _ => by kernel_rfl
theorem Tryz.aggR : ∀ w : World, (isAgg 33).run Tryz.prog w = .ok true w := fun _ => by kernel_rfl
theorem svs_getD (q : Nat) (r : List Nat) (i : Nat) (h : i < r.length) : (svs q r).getD (i + 1) undef = .int .u32 ((r.getD i 0 : Nat) : Int) := by simp [List.getD, svs_get q r i h, h]
theorem run_index_root (q : Nat) (r : List Nat) (hr : r.length = 27) (i : Nat) (hi : i < 8) (w : World) : (Instr.index 34 (.agg ((svs q r).drop 4).toArray) (.int .i64 (i : Int))).run Tryz.prog w =
    .ok (.agg #[.int .u32 ((r.getD (3 + 3 * i) 0 : Nat) : Int), .int .u32 ((r.getD (4 + 3 * i) 0 : Nat) : Int), .int .u32 ((r.getD (5 + 3 * i) 0 : Nat) : Int)]) w := by
  have hl := svs_length (q := q) hr
  have e1 : (((svs q r).drop 4).toArray).extract (i * 3) (i * 3 + 3) = #[.int .u32 ((r.getD (3 + 3 * i) 0 : Nat) : Int), .int .u32 ((r.getD (4 + 3 * i) 0 : Nat) : Int), .int .u32 ((r.getD (5 + 3 * i) 0 : Nat) : Int)] := by
    rw [List.extract_toArray, List.extract_eq_take_drop, List.drop_drop, show i * 3 + 3 - i * 3 = 3 by omega, take3 _ _ (by omega), show 4 + i * 3 = (3 + 3 * i) + 1 by omega, svs_getD _ _ _ (by omega), show 3 + 3 * i + 1 + 1 = (4 + 3 * i) + 1 by omega, svs_getD _ _ _ (by omega), show 3 + 3 * i + 1 + 2 = (5 + 3 * i) + 1 by omega, svs_getD _ _ _ (by omega)]
  have h2 : (0 : Int) ≤ (i : Int) ∧ (i : Int) < (8 : Nat) := by omega
  simp only [Instr.index, asIntOf, Sem.run_bind, Sem.run_pure, Result.andThen_ok, run_underlying Tryz.underlying34, if_pos h2, Tryz.sizeR, part, Tryz.aggR, Int.toNat_natCast, e1, if_true]
theorem Sup.roots {w : World} {b q : Nat} {r : List Nat} (h : Sup w b q r) : w.rangeAt b 4 ((svs q r).drop 4) := fun j v hv => by
  rw [List.getElem?_drop] at hv
  have := h.1 (4 + j) v hv
  rwa [Nat.zero_add] at this
theorem Tryz.sizeA : (Tryz.prog.info? 34).map (·.size) = some 24 := by kernel_rfl
theorem wpList_load_roots {ops : Array Oper} {rest : List Oper} {op : Oper} {a : Act} {w : World} {Q : Exit → Act → World → Prop} (hgd : op.guard = none) (x : Operand) (ho : op.op = .load 34 x)
    (b q : Nat) (r : List Nat) (hx : a.eval x = .pointer (some ⟨b, 4, none⟩)) (hs : Sup w b q r)
    (h : ∀ v : Value, Hid (∀ (i : Nat) (w : World), i < 8 → (Instr.index 34 v (.int .i64 (i : Int))).run Tryz.prog w =
    .ok (.agg #[.int .u32 ((r.getD (3 + 3 * i) 0 : Nat) : Int), .int .u32 ((r.getD (4 + 3 * i) 0 : Nat) : Int), .int .u32 ((r.getD (5 + 3 * i) 0 : Nat) : Int)]) w) → wpList Tryz.prog ops Q rest (a.put op.dst v) w) : wpList Tryz.prog ops Q (op :: rest) a w :=
  wpList_load_mid hgd 34 x ho b 4 hx ((svs q r).drop 4) _ hs.roots Tryz.underlying34 rfl (by rw [List.length_drop, svs_length hs.2.2]; exact Tryz.sizeA) (h _ (fun i w hi => run_index_root q r hs.2.2 i hi w))
theorem flat_snoc (q : Nat) (r : List Nat) (i : Nat) (h : i < r.length) : (be 8 q ++ (r.take i).flatMap G.four) ++ be 4 (r.getD i 0) = be 8 q ++ (r.take (i + 1)).flatMap G.four := by
  rw [List.take_succ_eq_append_getElem h, List.flatMap_append, U.be_four, List.append_assoc]
  simp [List.getD, h]
theorem flat_len (q : Nat) (r : List Nat) (i : Nat) (h : r.length = 27) (hi : i ≤ 27) : (be 8 q ++ (r.take i).flatMap G.four).length = 8 + 4 * i := by
  rw [List.length_append, U.be_length, U.flat_length, List.length_take]
  omega
theorem getD_lt {r : List Nat} (hr : ∀ x ∈ r, x < 4294967296) (i : Nat) (h : i < r.length) : r.getD i 0 < 4294967296 := by
  have := hr r[i] (List.getElem_mem h)
  simpa [List.getD, h] using this
structure Wr (w0 : World) (B : Nat) (w : World) (g bb ab sb q : Nat) (r : List Nat) (i : Nat) : Prop where
  lay : Lay w g bb ab (be 8 q ++ (r.take i).flatMap G.four)
  sup : Sup w sb q r
  low : Below B w0 w
theorem Sup.at {w : World} {b q : Nat} {r : List Nat} (h : Sup w b q r) (i j x : Nat) (hj : j = i + 1) (hi : i < 27) (hx : r.getD i 0 = x) : w.cell? ⟨b, j, none⟩ = some (.int .u32 (x : Int)) := by
  subst hj hx
  exact h.cell i hi
theorem put_sup (w0 : World) (B g bb ab sb q : Nat) (r : List Nat) (s n : Nat) (d : List UInt8) (w : World) (h : Lay w g bb ab d) (hS : Sup w sb q r) (hB : Below B w0 w) (h1 : B ≤ g) (h2 : B ≤ ab) (h3 : sb ≠ g) (h4 : sb ≠ ab) (hs : d.length + s ≤ 116) (hn : n < 18446744073709551616) :
    Calls Tryz.prog 179 #[.int .i64 (s : Int), .int .u64 (n : Int), .pointer (some ⟨bb, 0, none⟩), .pointer (some ⟨ab, 0, none⟩)] w fun e w' =>
      e = .returned (.tuple #[]) ∧ Lay w' g bb ab (d ++ be s n) ∧ Sup w' sb q r ∧ Below B w0 w' ∧ Keep (fun k => k = g ∨ k = ab) w w' := by
  obtain ⟨y, hy⟩ := h.row
  have hl := hy.lt
  refine (uput_any g bb ab s n d w h hs hn).mono fun e w' ⟨k1, k2, k3⟩ => ⟨k1, k2, hS.keep k3 (by omega), ?_, k3⟩
  exact hB.trans (k3.below (by omega) (fun k hk => by rcases hk with rfl | rfl <;> assumption))
theorem put_root (w0 : World) (B g bb ab sb q : Nat) (r : List Nat) (i x : Nat) (w : World) (h : Wr w0 B w g bb ab sb q r i) (h1 : B ≤ g) (h2 : B ≤ ab) (h3 : sb ≠ g) (h4 : sb ≠ ab) (hi : i < 27) (hx : r.getD i 0 = x) (hxl : x < 4294967296) :
    Calls Tryz.prog 179 #[.int .i64 4, .int .u64 (x : Int), .pointer (some ⟨bb, 0, none⟩), .pointer (some ⟨ab, 0, none⟩)] w fun e w' =>
      e = .returned (.tuple #[]) ∧ Wr w0 B w' g bb ab sb q r (i + 1) ∧ Keep (fun k => k = g ∨ k = ab) w w' := by
  have hl := h.sup.2.2
  refine (put_sup w0 B g bb ab sb q r 4 x _ w h.lay h.sup h.low h1 h2 h3 h4 (by rw [flat_len q r i hl (by omega)]; omega) (by omega)).mono fun e w' ⟨k1, k2, k3, k4, k5⟩ => ⟨k1, ⟨?_, k3, k4⟩, k5⟩
  rw [← hx, flat_snoc q r i (by omega)] at k2
  exact k2
theorem Wr.alloc {w0 : World} {B : Nat} {w : World} {g bb ab sb q : Nat} {r : List Nat} {i : Nat} (h : Wr w0 B w g bb ab sb q r i) (hB : B ≤ w.heap.size) (o : Obj) : Wr w0 B (w.alloc o) g bb ab sb q r i :=
  ⟨h.lay.below (alb o), h.sup.below (alb o), h.low.trans ((alb o).mono hB)⟩
theorem Lay.full {w : World} {g bb ab : Nat} {d : List UInt8} (h : Lay w g bb ab d) (hd : d.length = 116) : Byts w (.slice (some ⟨g, 0, none⟩) 116 116) d := by
  obtain ⟨y, hy⟩ := h.row
  have e := hy.2.1
  have : y = [] := by
    apply List.length_eq_zero_iff.1
    rw [List.length_append] at e
    omega
  subst this
  rw [List.append_nil] at hy
  exact hy.byts
set_option maxHeartbeats 1600000 in
theorem write_any (q : Nat) (r : List Nat) (hr : r.length = 27) (hq : q < 18446744073709551616) (hlt : ∀ x ∈ r, x < 4294967296) (w : World) (hT : Tab w) :
    Calls Tryz.prog 152 #[.agg (sva q r)] w fun e w' => ∃ g, e = .returned (.slice (some ⟨g, 0, none⟩) 512 512) ∧ Blk w' g (U.wr q r) ∧ w.heap.size ≤ g ∧ Below w.heap.size w w' := by
  obtain ⟨i0, hi0, hz0, hz1, hz2⟩ := info_parts Tryz.info5
  obtain ⟨x0, hx0⟩ : ∃ x, r.getD 0 0 = x := ⟨_, rfl⟩
  obtain ⟨x1, hx1⟩ : ∃ x, r.getD 1 0 = x := ⟨_, rfl⟩
  obtain ⟨x2, hx2⟩ : ∃ x, r.getD 2 0 = x := ⟨_, rfl⟩
  obtain ⟨p, hp⟩ : ∃ p, p = q % 2 := ⟨_, rfl⟩
  have b0 : x0 < 4294967296 := hx0 ▸ getD_lt hlt 0 (by omega)
  have b1 : x1 < 4294967296 := hx1 ▸ getD_lt hlt 1 (by omega)
  have b2 : x2 < 4294967296 := hx2 ▸ getD_lt hlt 2 (by omega)
  have bp : p < 2 := by omega
  have ep : (q : Int) % 2 = (p : Int) := by omega
  have HX0 := Lib.hid hx0
  have HX1 := Lib.hid hx1
  have HX2 := Lib.hid hx2
  have HP := Lib.hid hp
  have HS := Lib.hid (Sup.made w q r hr)
  have HR := Lib.hid hr
  have HLT := Lib.hid hlt
  have HT := Lib.hid hT
  clear hr hlt hT hx0 hx1 hx2 hp
  have hB0 : Hid (Below w.heap.size w (w.alloc (.cells (sva q r) 36))) := alb _
  go_enter Tryz.func152, Tryz.ntmps152
  go_wp2_with (first
    | (refine wpList_make_full _ rfl _ _ 48 rfl w.heap.size 5 i0 _ 1 Tryz.underlying48 hi0 hz0 hz1 _ _ _ _ 116 rfl rfl ?l1 ?l2 ?l3 ?l4 ?l5 ?_)
    | go_in)
  case l1 => rfl
  case l2 => rfl
  case l3 => rw [hz2]; omega
  case l4 => unfold maxLen; omega
  case l5 => exact hB0.out.size
  intro w1 hown hgrow
  have hB1 := Lib.hid (hB0.out.grown hgrow hB0.out.size (by intro g hg; cases hg))
  have HS1 := Lib.hid (HS.out.keep (F := fun _ => False) (Keep.grown (Keep.refl _ _) hgrow (by intro k hk; cases hk)) (fun h => h))
  rw [made_zeros] at hown
  have HK : Hid (Bl w1 (w.heap.size + 1) 116 (List.replicate 116 0)) := ⟨own_heap hown, List.length_replicate, by omega⟩
  clear hown hgrow hi0 hz0 hz1 hz2 i0 hB0 HS
  generalize hg : w.heap.size + 1 = g at *
  have HG := Lib.hid hg
  clear hg
  go_wp2_with fail
  refine (layInto_any g _ w1 HK.out).mono ?_
  rintro e w2 ⟨rfl, hL, hb2⟩
  have HGL := Lib.hid HK.out.lt
  have HL := Lib.hid hL
  have HS2 := Lib.hid (HS1.out.below hb2)
  have hB2 := Lib.hid (btr hB1.out hb2)
  generalize hbb : w1.heap.size = bb at *
  have HB := HGL
  clear hL hb2 HK HS1 hB1 hbb
  have c0 := HS2.out.cell0
  go_wp2_with fail
  have f1 : w.heap.size ≤ g := by have := HG.out; omega
  have f2 : w.heap.size ≤ bb + 1 := by have := HB.out; omega
  have f3 : w.heap.size ≠ g := by have := HG.out; omega
  have f4 : w.heap.size ≠ bb + 1 := by have := HB.out; omega
  refine (put_sup w w.heap.size g bb (bb + 1) w.heap.size q r 8 q [] w2 HL.out HS2.out hB2.out f1 f2 f3 f4 (by simp) hq).mono ?_
  rintro e w3 ⟨rfl, k1, k2, k3, -⟩
  have HW : Hid (Wr w w.heap.size w3 g bb (bb + 1) w.heap.size q r 0) := ⟨by simpa using k1, k2, k3⟩
  have F1 := Lib.hid f1
  have F2 := Lib.hid f2
  have F3 := Lib.hid f3
  have F4 := Lib.hid f4
  clear k1 k2 k3 c0 HL HS2 hB2 f1 f2 f3 f4
  have c := HW.out.sup.at 0 1 x0 rfl (by omega) HX0.out
  go_wp2_with fail
  refine (put_root w w.heap.size g bb (bb + 1) w.heap.size q r 0 x0 w3 HW.out F1.out F2.out F3.out F4.out (by omega) HX0.out b0).mono ?_
  rintro e w4 ⟨rfl, hW, -⟩
  clear c HW
  have HW := Lib.hid hW
  clear hW
  have c := HW.out.sup.at 1 2 x1 rfl (by omega) HX1.out
  go_wp2_with fail
  refine (put_root w w.heap.size g bb (bb + 1) w.heap.size q r 1 x1 w4 HW.out F1.out F2.out F3.out F4.out (by omega) HX1.out b1).mono ?_
  rintro e w5 ⟨rfl, hW, -⟩
  clear c HW
  have HW := Lib.hid hW
  clear hW
  have c := HW.out.sup.at 2 3 x2 rfl (by omega) HX2.out
  go_wp2_with fail
  refine (put_root w w.heap.size g bb (bb + 1) w.heap.size q r 2 x2 w5 HW.out F1.out F2.out F3.out F4.out (by omega) HX2.out b2).mono ?_
  rintro e w6 ⟨rfl, hW, -⟩
  clear c HW
  have HW := Lib.hid hW
  clear hW
  go_wp2_with (first | (refine wpList_load_roots rfl (.tmp 31) rfl w.heap.size q r rfl HW.out.sup ?_) | go_in)
  intro rv HV
  clear HX0 HX1 HX2 b0 b1 b2
  go_wp2
  go_loopw [33] (fun i wr => ∃ k : Nat, k ≤ 8 ∧ i = .int .i64 (k : Int) ∧ Wr w w.heap.size wr g bb (bb + 1) w.heap.size q r (3 + 3 * k)) (fun i _ => (8 - intOf i).toNat)
  case atStart => exact ⟨0, by omega, rfl, HW.out⟩
  case round =>
    obtain ⟨k, hk, rfl, hW⟩ := hrel
    clear HW
    have HW := Lib.hid hW
    clear hW
    by_cases h8 : k < 8
    · have q1 : decide ((k : Int) < 8) = true := by simp; omega
      have hl := HR.out
      obtain ⟨y0, hy0⟩ : ∃ x, r.getD (3 + 3 * k) 0 = x := ⟨_, rfl⟩
      obtain ⟨y1, hy1⟩ : ∃ x, r.getD (4 + 3 * k) 0 = x := ⟨_, rfl⟩
      obtain ⟨y2, hy2⟩ : ∃ x, r.getD (5 + 3 * k) 0 = x := ⟨_, rfl⟩
      have d0 : y0 < 4294967296 := hy0 ▸ getD_lt HLT.out _ (by omega)
      have d1 : y1 < 4294967296 := hy1 ▸ getD_lt HLT.out _ (by omega)
      have d2 : y2 < 4294967296 := hy2 ▸ getD_lt HLT.out _ (by omega)
      have hix : ∀ u : World, (Instr.index 34 rv (.int .i64 (k : Int))).run Tryz.prog u = .ok (.agg #[.int .u32 (y0 : Int), .int .u32 (y1 : Int), .int .u32 (y2 : Int)]) u := fun u => by
        rw [← hy0, ← hy1, ← hy2]
        exact HV.out k u h8
      have HY0 := Lib.hid hy0
      have HY1 := Lib.hid hy1
      have HY2 := Lib.hid hy2
      have HK := Lib.hid hk
      have H8 := Lib.hid h8
      clear hy0 hy1 hy2 hl hk h8 HV
      go_wp2_with fail
      have hsz : w.heap.size ≤ wr.heap.size := HW.out.low.size
      obtain ⟨_, hyy⟩ := HW.out.lay.row
      have hgl := hyy.lt
      have hal := World.block_lt_of_cell? wr ⟨bb + 1, 0, none⟩ HW.out.lay.ca
      have n1 : ¬ (wr.heap.size = g ∨ wr.heap.size = bb + 1) := by
        have : bb + 1 < wr.heap.size := hal
        omega
      refine (put_root w w.heap.size g bb (bb + 1) w.heap.size q r (3 + 3 * k) y0 _ (HW.out.alloc hsz _) F1.out F2.out F3.out F4.out (by have := H8.out; omega) HY0.out d0).mono ?_
      rintro e w7 ⟨rfl, hW, hk7⟩
      have e1 : (wr.alloc (.cells #[.int .u32 (y0 : Int), .int .u32 (y1 : Int), .int .u32 (y2 : Int)] 33)).cell? ⟨wr.heap.size, 1, none⟩ = some (.int .u32 (y1 : Int)) := by rw [World.cell?_alloc_at _ _ _ _ rfl]; rfl
      have e2 : (wr.alloc (.cells #[.int .u32 (y0 : Int), .int .u32 (y1 : Int), .int .u32 (y2 : Int)] 33)).cell? ⟨wr.heap.size, 2, none⟩ = some (.int .u32 (y2 : Int)) := by rw [World.cell?_alloc_at _ _ _ _ rfl]; rfl
      have c1 := hk7.cell e1 n1
      have c2 := hk7.cell e2 n1
      clear e1 e2 hk7 HW hyy hgl hal hsz hix
      have HW := Lib.hid hW
      have N1 := Lib.hid n1
      clear hW n1
      go_wp2_with fail
      refine (put_root w w.heap.size g bb (bb + 1) w.heap.size q r (3 + 3 * k + 1) y1 w7 HW.out F1.out F2.out F3.out F4.out (by have := H8.out; omega) (by rw [show 3 + 3 * k + 1 = 4 + 3 * k by omega]; exact HY1.out) d1).mono ?_
      rintro e w8 ⟨rfl, hW, hk8⟩
      replace c2 := hk8.cell c2 N1.out
      clear c1 hk8 HW
      have HW := Lib.hid hW
      clear hW
      go_wp2_with fail
      refine (put_root w w.heap.size g bb (bb + 1) w.heap.size q r (3 + 3 * k + 1 + 1) y2 w8 HW.out F1.out F2.out F3.out F4.out (by have := H8.out; omega) (by rw [show 3 + 3 * k + 1 + 1 = 5 + 3 * k by omega]; exact HY2.out) d2).mono ?_
      rintro e w9 ⟨rfl, hW, -⟩
      clear c2 HW
      have HW := Lib.hid hW
      clear hW
      have hk7 : (k : Int) < 8 := by have := H8.out; omega
      go_wp2
      go_roundw
      case rel =>
        refine ⟨k + 1, by have := H8.out; omega, by go_num, ?_⟩
        rw [show 3 + 3 * (k + 1) = 3 + 3 * k + 1 + 1 + 1 by omega]
        exact HW.out
      case measure =>
        simp [intOf]
        omega
    · obtain rfl : k = 8 := by omega
      have q1 : decide (((8 : Nat) : Int) < 8) = false := by decide
      have c0 := HW.out.sup.cell0
      have HBy : Hid (Byts wr (.slice (some ⟨g, 0, none⟩) 116 116) (U.body q r)) := by
        have hl := HR.out
        have := HW.out.lay.full (by rw [flat_len q r _ hl (by omega)])
        rw [List.take_of_length_le (by omega)] at this
        exact this
      clear hk h8 HV
      go_wp2_with fail
      refine (seal_page p (by omega) 1 (.slice (some ⟨g, 0, none⟩) 116 116) (U.body q r) wr HBy.out (by rw [U.body_length q r HR.out]; omega) (HT.out.below HW.out.low)).mono ?_
      rintro e w8 ⟨rfl, h1, h2⟩
      have H1 := Lib.hid h1
      clear h1 c0
      go_wp2
      go_ret
      exact ⟨_, rfl, by unfold U.wr; rw [← HP.out]; exact H1.out, HW.out.low.size, btr HW.out.low h2⟩
end Go.Proofs.YtlcnefeikejcaaaGreatDoor
namespace Go.Proofs.YtlcnefeikejcaaaGreatDoor
open Go.RowKit Go.Sort Go.Maps
open D (St)
set_option maxRecDepth 100000
def comm (d : St) (J : List (Nat × List UInt8)) (m : Nat) (B : List UInt8) : St × Int :=
  if (wrL d J).2 ≠ 0 then wrL d J else if D.syncE (wrL d J).1 ≠ 0 then (D.sync (wrL d J).1, D.syncE (wrL d J).1) else
    if D.writeE (D.sync (wrL d J).1) (m : Int) B ≠ 0 then (D.write (D.sync (wrL d J).1) (m : Int) B, D.writeE (D.sync (wrL d J).1) (m : Int) B) else
      (D.sync (D.write (D.sync (wrL d J).1) (m : Int) B), D.syncE (D.write (D.sync (wrL d J).1) (m : Int) B))
theorem sync_len (d : St) : (D.sync d).waits.length ≤ d.waits.length ∧ (D.sync d).writes = d.writes := by
  unfold D.sync
  split
  · exact ⟨Nat.le_refl _, rfl⟩
  · split
    · exact ⟨Nat.le_refl _, rfl⟩
    · exact ⟨by simp, by show (D.act d).writes = _; exact D.act_writes d⟩
set_option maxHeartbeats 3200000 in
theorem pwrite_core (w : World) (col : Nat → Nat) (p dp g : Nat) (wv : Value) (d : St) (hd : Dsk w dp g wv d) (hcol : ∀ b, dfp dp g wv b → col b = 30) (cp : col p = 1) (hT : Tab w) (h99 : col 0 = 99) (c0 : w.cell? ⟨p, 0, none⟩ = some (.pointer (some ⟨dp, 0, none⟩))) (q : Nat) (r : List Nat) (hr : r.length = 27) (hq : q < 18446744073709551616) (hlt : ∀ x ∈ r, x < 4294967296)
    (A1 A2 : Option Addr) (n1 n2 c1 c2 : Nat) (J : List (Nat × List UInt8)) (h1 : d.waits.length + J.length ≤ 900000) (h2 : d.writes + J.length ≤ 900000)
    (HWP : Hid (∀ W, Below w.heap.size w W → Calls Tryz.prog 151 #[.pointer (some ⟨p, 0, none⟩), .agg #[.slice A1 n1 c1, .slice A2 n2 c2]] W fun e w' => e = .returned (.int .i64 (wrL d J).2) ∧ DTurned W w' dp g wv (wrL d J).1)) :
    Calls Tryz.prog 122 #[.pointer (some ⟨p, 0, none⟩), .agg (sva q r), .agg #[.slice A1 n1 c1, .slice A2 n2 c2]] w fun e w' => e = .returned (.int .i64 (comm d J (q % 2) (U.wr q r)).2) ∧ DTurned w w' dp g wv (comm d J (q % 2) (U.wr q r)).1 := by
  obtain ⟨m, hm⟩ : ∃ m, m = q % 2 := ⟨_, rfl⟩
  have hm2 : m < 2 := by omega
  have hmq : (q : Int).tmod 2 = (m : Int) := by rw [Int.tmod_eq_emod_of_nonneg (by omega)]; omega
  have hwm : IntKind.i64.wrap (m : Int) = (m : Int) := by rw [IntKind.wrap_i64]; omega
  rw [← hm]
  have HS0 : Hid (Sup ((w.alloc (.cells (sva q r) 36)).alloc (.cells #[.slice A1 n1 c1, .slice A2 n2 c2] 121)) w.heap.size q r) := (Sup.made w q r hr).below (alb _)
  have HB0 : Hid (Below w.heap.size w ((w.alloc (.cells (sva q r) 36)).alloc (.cells #[.slice A1 n1 c1, .slice A2 n2 c2] 121))) := bal (alb _) _
  have HR0 : Hid (((w.alloc (.cells (sva q r) 36)).alloc (.cells #[.slice A1 n1 c1, .slice A2 n2 c2] 121)).rangeAt (w.heap.size + 1) 0 [.slice A1 n1 c1, .slice A2 n2 c2]) := by
    have := two_new (w.alloc (.cells (sva q r) 36)) #[.slice A1 n1 c1, .slice A2 n2 c2] 121
    rwa [show (w.alloc (.cells (sva q r) 36)).heap.size = w.heap.size + 1 by simp] at this
  have HSZ : Hid (w.heap.size + 2 = ((w.alloc (.cells (sva q r) 36)).alloc (.cells #[.slice A1 n1 c1, .slice A2 n2 c2] 121)).heap.size) := by
    show _ = _
    simp
  have HDL := Lib.hid hd.lt
  have HCO := Lib.hid hcol
  have HCP := Lib.hid cp
  have H99 := Lib.hid h99
  have HC0 := Lib.hid c0
  have HPL := Lib.hid (World.block_lt_of_cell? w _ c0)
  have HTB := Lib.hid hT
  have HRL := Lib.hid hr
  have HQ := Lib.hid hq
  have HLT := Lib.hid hlt
  have H1 := Lib.hid h1
  have H2 := Lib.hid h2
  have HMM := Lib.hid hm
  clear hd hcol cp h99 c0 hT hr hq hlt h1 h2 hm
  have HW0 := Lib.hid (HWP.out _ HB0.out)
  clear HWP
  generalize hWB : U.wr q r = WB at *
  have HWB := Lib.hid hWB
  clear hWB
  have HCM : Hid (∀ z : Int, (wrL d J).2 = z → comm d J m WB = if z ≠ 0 then ((wrL d J).1, z) else if D.syncE (wrL d J).1 ≠ 0 then (D.sync (wrL d J).1, D.syncE (wrL d J).1) else
    if D.writeE (D.sync (wrL d J).1) (m : Int) WB ≠ 0 then (D.write (D.sync (wrL d J).1) (m : Int) WB, D.writeE (D.sync (wrL d J).1) (m : Int) WB) else
      (D.sync (D.write (D.sync (wrL d J).1) (m : Int) WB), D.syncE (D.write (D.sync (wrL d J).1) (m : Int) WB))) := Lib.hid (by
    rintro z rfl
    unfold comm
    rfl)
  obtain ⟨l1, l2⟩ := wrL_len J d
  have HL1 := Lib.hid l1
  have HL2 := Lib.hid l2
  clear l1 l2
  have hcm0 := fun z hz => HCM.out z hz
  obtain ⟨d1, hd1⟩ : ∃ x, x = (wrL d J).1 := ⟨_, rfl⟩
  obtain ⟨e1, he1⟩ : ∃ x, x = (wrL d J).2 := ⟨_, rfl⟩
  have hcm := hcm0 e1 he1.symm
  clear hcm0 HCM
  rw [← hd1] at hcm HW0 HL1 HL2
  rw [← he1] at HW0
  generalize comm d J m WB = CM at *
  have HC := Lib.hid hcm
  clear hcm hd1 he1
  go_enter Tryz.func122, Tryz.ntmps122
  by_cases hE1 : e1 = 0
  · subst hE1
    obtain ⟨e2, he2⟩ : ∃ x, x = D.syncE d1 := ⟨_, rfl⟩
    obtain ⟨d2, hd2⟩ : ∃ x, x = D.sync d1 := ⟨_, rfl⟩
    have HE2 := Lib.hid he2
    have HDD2 := Lib.hid hd2
    have HC2 : Hid (CM = if e2 ≠ 0 then (d2, e2) else if D.writeE d2 (m : Int) WB ≠ 0 then (D.write d2 (m : Int) WB, D.writeE d2 (m : Int) WB) else (D.sync (D.write d2 (m : Int) WB), D.syncE (D.write d2 (m : Int) WB))) := Lib.hid (by rw [HC.out, he2, hd2]; rfl)
    clear he2 hd2 HC
    by_cases hE2 : e2 = 0
    · subst hE2
      go_wp2_with (first
        | (refine wpList_load_mid rfl 121 (.tmp 5) rfl (w.heap.size + 1) 0 rfl [.slice A1 n1 c1, .slice A2 n2 c2] _ HR0.out Tryz.underlying121 rfl Tryz.sizeL ?_)
        | (go_at_call 117; refine SY.out.mono ?_; rintro e w3 ⟨rfl, t3⟩)
        | (go_at_call 151; refine HW0.out.mono ?_; rintro e w2 ⟨rfl, wv2, D2, K2, f2⟩; have SY := Lib.hid (sync_any D2); rw [← HE2.out, ← HDD2.out] at SY; have K02 : Keep (dfp dp g wv) w w2 := (Keep.of_below HB0.out).trans K2 (fun i hi => .inl hi); have c0 := K02.cell HC0.out (fun q => by have h1 := HCO.out p q; have h2 := HCP.out; omega); have KK2 := Lib.hid K02; have FF2 := Lib.hid f2; clear K02))
      have T3 := DTurned.of K2 f2 t3
      obtain ⟨wv3, D3, K3, f3⟩ := T3
      have HND : Hid (∀ b, b < w.heap.size + 2 → ¬ dfp dp g wv b → ¬ dfp dp g wv3 b) := fun b hb hn q => by
        rcases q with q | q | q
        · exact hn (.inl q)
        · exact hn (.inr (.inl q))
        · rcases f3 b q with q2 | q2
          · exact hn (.inr (.inr q2))
          · have := HSZ.out; omega
      have np : Hid (¬ dfp dp g wv p) := fun q => by have h1 := HCO.out p q; have h2 := HCP.out; omega
      have nbx : Hid (¬ dfp dp g wv w.heap.size) := fun q => by have := HDL.out _ q; omega
      have n00 : Hid (¬ dfp dp g wv 0) := fun q => by have h1 := HCO.out 0 q; have h2 := H99.out; omega
      have C3 := Lib.hid (K3.cell (kept HC0.out HB0.out) np.out)
      have S3 := Lib.hid (HS0.out.keep K3 nbx.out)
      have TB3 := Lib.hid ((HTB.out.below HB0.out).keep K3 n00.out)
      have CS3 := Lib.hid S3.out.cell0
      have HD3 := Lib.hid D3
      have HK3 := Lib.hid K3
      have HF3 := Lib.hid f3
      have NP3 := Lib.hid (HND.out p (by have := HPL.out; omega) np.out)
      have NX3 := Lib.hid (HND.out w.heap.size (by omega) nbx.out)
      have N03 := Lib.hid (HND.out 0 (by omega) n00.out)
      clear t3 K2 f2 D3 K3 f3 c0 D2 SY KK2 FF2 HW0
      have hS : Hid (Keep (dfp dp g wv3) w3 w3.drew) := (Keep.refl _ _).drew
      refine lh_start 12 (fun W => Keep (dfp dp g wv3) w3 W) rfl (by kernel_rfl) ?_
      refine lh_take 0 24 (v := ?_) rfl rfl (by kernel_rfl) (by kernel_rfl) (by kernel_rfl) (fun _ _ _ _ _ h => h) (by rfl) hS.out (fun W hW => ?_) ?_
      rotate_left
      · go_simp; try rfl
      try simp only [Act.put, List.setIfInBounds_toArray, List.set_cons_zero, List.set_cons_succ]
      refine lh_take 1 25 (v := ?_) rfl rfl (by kernel_rfl) (by kernel_rfl) (by kernel_rfl) (fun _ _ _ _ _ h => h) (by rfl) hS.out (fun W hW => ?_) ?_
      rotate_left
      · go_simp; try rfl
      try simp only [Act.put, List.setIfInBounds_toArray, List.set_cons_zero, List.set_cons_succ]
      refine lh_take 2 26 (v := ?_) rfl rfl (by kernel_rfl) (by kernel_rfl) (by kernel_rfl) (fun _ _ _ _ _ h => h) (by rfl) hS.out (fun W hW => ?_) ?_
      rotate_left
      · go_simp; try rfl
      try simp only [Act.put, List.setIfInBounds_toArray, List.set_cons_zero, List.set_cons_succ]
      refine lh_take 3 27 (v := ?_) rfl rfl (by kernel_rfl) (by kernel_rfl) (by kernel_rfl) (fun _ _ _ _ _ h => h) (by rfl) hS.out (fun W hW => ?_) ?_
      rotate_left
      · have q := hW.cell C3.out NP3.out; go_simp; try rfl
      try simp only [Act.put, List.setIfInBounds_toArray, List.set_cons_zero, List.set_cons_succ]
      refine lh_take 4 28 (v := ?_) rfl rfl (by kernel_rfl) (by kernel_rfl) (by kernel_rfl) (fun _ _ _ _ _ h => h) (by rfl) hS.out (fun W hW => ?_) ?_
      rotate_left
      · go_simp; try rfl
      try simp only [Act.put, List.setIfInBounds_toArray, List.set_cons_zero, List.set_cons_succ]
      refine lh_take 5 29 (v := ?_) rfl rfl (by kernel_rfl) (by kernel_rfl) (by kernel_rfl) (fun _ _ _ _ _ h => h) (by rfl) hS.out (fun W hW => ?_) ?_
      rotate_left
      · have q := hW.cell CS3.out NX3.out; go_simp; try rfl
      try simp only [Act.put, List.setIfInBounds_toArray, List.set_cons_zero, List.set_cons_succ]
      refine lh_take 6 30 (v := ?_) rfl rfl (by kernel_rfl) (by kernel_rfl) (by kernel_rfl) (fun _ _ _ _ _ h => h) (by rfl) hS.out (fun W hW => ?_) ?_
      rotate_left
      · go_simp; try rfl
      try simp only [Act.put, List.setIfInBounds_toArray, List.set_cons_zero, List.set_cons_succ]
      refine lh_take 7 31 (v := ?_) rfl rfl (by kernel_rfl) (by kernel_rfl) (by kernel_rfl) (fun _ _ _ _ _ h => h) (by rfl) hS.out (fun W hW => ?_) ?_
      rotate_left
      · go_simp; try rfl
      try simp only [Act.put, List.setIfInBounds_toArray, List.set_cons_zero, List.set_cons_succ]
      refine lh_take 8 32 (v := ?_) rfl rfl (by kernel_rfl) (by kernel_rfl) (by kernel_rfl) (fun _ _ _ _ _ h => h) (by rfl) hS.out (fun W hW => ?_) ?_
      rotate_left
      · refine run_load_sup (.tmp 4) ?_ w.heap.size q r ?_ (S3.out.keep hW NX3.out) <;> rfl
      try simp only [Act.put, List.setIfInBounds_toArray, List.set_cons_zero, List.set_cons_succ]
      have HBU : Hid (Below w3.heap.size w3 w3.drew) := (Below.refl _ _).drew
      generalize w3.drew = u at *
      refine lh_one 9 rfl rfl (by kernel_rfl) (fun K hK => ?_)
      go_simp
      refine (write_any q r HRL.out HQ.out HLT.out u (TB3.out.keep hS.out N03.out)).mono ?_
      rintro e w4 ⟨g4, rfl, y4, _, b4⟩
      have hS4 := Lib.hid (hS.out.step b4)
      refine hK.out _ _ hS4.out ?_
      have HY4 : Hid (Byts w4 (.slice (some ⟨g4, 0, none⟩) 512 512) WB) := Lib.hid (by rw [← HWB.out]; exact y4.byts)
      have HD4 := Lib.hid ((HD3.out.below HBU.out).below b4)
      have HB34 := Lib.hid (btr HBU.out b4)
      clear hK K hS y4 b4 HBU
      have hS := hS4
      have HWR : Hid (Calls Tryz.prog 13 #[.pointer (some ⟨dp, 0, none⟩), .int .i64 (m : Int), .slice (some ⟨g4, 0, none⟩) 512 512] w4 fun e w' => e = .returned (.int .i64 (D.writeE d2 (m : Int) WB)) ∧ DTurned w4 w' dp g wv3 (D.write d2 (m : Int) WB)) :=
        dwrite_any HD4.out (m : Int) _ WB HY4.out (by have h1 := (sync_len d1).1; have h2 := HL1.out; have h3 := H1.out; have h4 := HDD2.out; rw [h4]; omega) (by have h1 := (sync_len d1).2; have h2 := HL2.out; have h3 := H2.out; have h4 := HDD2.out; rw [h4]; omega)
      try simp only [Act.put, List.setIfInBounds_toArray, List.set_cons_zero, List.set_cons_succ]
      refine lh_one 10 rfl rfl (by kernel_rfl) (fun K hK => ?_)
      go_simp
      refine HWR.out.mono ?_
      rintro e w5 ⟨rfl, wv5, D5, K5, f5⟩
      have hS5 : Hid (Keep (dfp dp g wv3) w3 w5) := (Keep.of_below HB34.out).trans K5 (fun i hi => .inl hi)
      refine hK.out _ _ hS5.out ?_
      have T5 : Hid (DTurned w w5 dp g wv (D.write d2 (m : Int) WB)) := DTurned.pre HB0.out (DTurned.of HK3.out HF3.out (DTurned.pre HB34.out ⟨wv5, D5, K5, f5⟩))
      have C5 := Lib.hid (hS5.out.cell C3.out NP3.out)
      have s0 := HB0.out.size
      have s3 := HK3.out.size
      have s4 := HB34.out.size
      have FT : Hid (∀ b, wv5.ownBlock = some b → wv.ownBlock = some b ∨ w.heap.size ≤ b) := fun b hb => by
        rcases f5 b hb with q | q
        · exact (HF3.out b q).imp id (fun q => by omega)
        · exact .inr (by omega)
      have KT : Hid (Keep (dfp dp g wv) w w5) := ((((Keep.of_below HB0.out).trans HK3.out (fun i hi => .inl hi)).step HB34.out).trans K5 (fun i hi => by
        rcases hi with q | q | q
        · exact .inl (.inl q)
        · exact .inl (.inr (.inl q))
        · exact (HF3.out i q).imp (fun q => .inr (.inr q)) (fun q => by omega)))
      clear s0 s3 s4
      clear hK K hS HWR K5 f5
      have hS := hS5
      try simp only [Act.put, List.setIfInBounds_toArray, List.set_cons_zero, List.set_cons_succ]
      refine lh_take 11 9 (v := ?_) rfl rfl (by kernel_rfl) (by kernel_rfl) (by kernel_rfl) (fun _ _ _ _ _ h => h) (by rfl) hS.out (fun W hW => ?_) ?_
      rotate_left
      · go_simp; try rfl
      try simp only [Act.put, List.setIfInBounds_toArray, List.set_cons_zero, List.set_cons_succ]
      refine lh_done (by kernel_rfl) ?_
      have HC3 : Hid (∀ z : Int, D.writeE d2 (m : Int) WB = z → CM = if z ≠ 0 then (D.write d2 (m : Int) WB, z) else (D.sync (D.write d2 (m : Int) WB), D.syncE (D.write d2 (m : Int) WB))) := Lib.hid (by
        rintro z rfl
        rw [HC2.out, if_neg (by simp)])
      clear HC2 hS hS5 HY4 HD4 hS4
      obtain ⟨e3, he3⟩ : ∃ x, x = D.writeE d2 (m : Int) WB := ⟨_, rfl⟩
      have HC4 := Lib.hid (HC3.out e3 he3.symm)
      rw [← he3]
      clear HC3 he3
      have c0 := C5.out
      by_cases hE3 : e3 = 0
      · subst hE3
        have SY := Lib.hid (sync_any D5)
        go_wp2_with (go_at_call 117; refine SY.out.mono ?_; rintro e w6 ⟨rfl, t6⟩)
        go_ret
        rw [HC4.out, if_neg (by simp)]
        exact ⟨rfl, DTurned.of KT.out FT.out t6⟩
      · have q1 : (e3 == 0) = false := by simpa using hE3
        have q2 : (e3 != 0) = true := by simpa using hE3
        have HRES : Hid (CM = (D.write d2 (m : Int) WB, e3)) := Lib.hid (by rw [HC4.out, if_pos hE3])
        clear hE3 HC4
        go_wp2
        go_ret
        rw [HRES.out]
        exact ⟨rfl, T5.out⟩
    · have q1 : (e2 == 0) = false := by simpa using hE2
      have q2 : (e2 != 0) = true := by simpa using hE2
      have HRES : Hid (CM = (d2, e2)) := Lib.hid (by rw [HC2.out, if_pos hE2])
      clear hE2 HC2
      go_wp2_with (first
        | (refine wpList_load_mid rfl 121 (.tmp 5) rfl (w.heap.size + 1) 0 rfl [.slice A1 n1 c1, .slice A2 n2 c2] _ HR0.out Tryz.underlying121 rfl Tryz.sizeL ?_)
        | (go_at_call 117; refine SY.out.mono ?_; rintro e w3 ⟨rfl, t3⟩)
        | (go_at_call 151; refine HW0.out.mono ?_; rintro e w2 ⟨rfl, wv2, D2, K2, f2⟩; have SY := Lib.hid (sync_any D2); rw [← HE2.out, ← HDD2.out] at SY; have K02 : Keep (dfp dp g wv) w w2 := (Keep.of_below HB0.out).trans K2 (fun i hi => .inl hi); have c0 := K02.cell HC0.out (fun q => by have h1 := HCO.out p q; have h2 := HCP.out; omega); clear K02))
      go_ret
      rw [HRES.out]
      exact ⟨rfl, DTurned.pre HB0.out (DTurned.of K2 f2 t3)⟩
  · have q1 : (e1 == 0) = false := by simpa using hE1
    have q2 : (e1 != 0) = true := by simpa using hE1
    have HRES : Hid (CM = (d1, e1)) := Lib.hid (by rw [HC.out, if_pos hE1])
    clear hE1 HC
    go_wp2_with (first
      | (refine wpList_load_mid rfl 121 (.tmp 5) rfl (w.heap.size + 1) 0 rfl [.slice A1 n1 c1, .slice A2 n2 c2] _ HR0.out Tryz.underlying121 rfl Tryz.sizeL ?_)
      | (go_at_call 151; refine HW0.out.mono ?_; rintro e w2 ⟨rfl, t2⟩))
    go_ret
    rw [HRES.out]
    exact ⟨rfl, DTurned.pre HB0.out t2⟩
end Go.Proofs.YtlcnefeikejcaaaGreatDoor
namespace Go.Proofs.YtlcnefeikejcaaaGreatDoor
open Go.RowKit Go.Sort Go.Maps
open D (St)
set_option maxRecDepth 100000
def getF (n : Int) (fs : List Fr) : Option Fr := fs.find? (fun f => decide (f.n = n))
def Pm.read (s : Pm) (d : St) (n : Int) : UInt8 × List UInt8 × Int :=
  if s.o then (0, [], 7) else match getF n s.x.fresh with
    | some f => (f.k, f.b, 0)
    | none => if s.used n then (if readE d n = 0 then (G.openK n.toNat (readB d n), G.openB n.toNat (readB d n), ((G.openE n.toNat (readB d n) : Nat) : Int)) else (0, [], readE d n)) else (0, [], 10)
end Go.Proofs.YtlcnefeikejcaaaGreatDoor
namespace Go.Proofs.YtlcnefeikejcaaaGreatDoor
open Go.RowKit Go.Sort Go.Maps
set_option maxRecDepth 100000
def isT (t : Int) : Bool := decide (0 ≤ t) && decide (t < 8)
def setR (rt : List Nat) (k x y z : Nat) : List Nat := rt.take (3 * k) ++ ([x, y, z] ++ rt.drop (3 * k + 3))
theorem Tryz.sizeRt : (Tryz.prog.info? 33).map (·.size) = some 3 := by kernel_rfl
def zroot : Array Value := (rcs [0, 0, 0]).toArray
def rootOf (rt : List Nat) (t : Int) : List Nat := if isT t then [rt.getD (3 * t.toNat) 0, rt.getD (3 * t.toNat + 1) 0, rt.getD (3 * t.toNat + 2) 0] else [0, 0, 0]
def Pm.setRoot (s : Pm) (t : Int) (x y z : Nat) : Pm := if s.o then s else if isT t then { s with rt := setR s.rt t.toNat x y z } else s
def Pm.setRootE (s : Pm) (t : Int) : Int := if s.o then 7 else if isT t then 0 else 4
theorem Chg.same {w : World} {col : Nat → Nat} {p : Nat} {dv : Value} {s : Pm} (h : Pgr w col p dv s) {w' : World} (k : Below w.heap.size w w') : Chg w w' col p dv s := ⟨col, fun _ _ => rfl, h.below k, Keep.of_below k⟩
end Go.Proofs.YtlcnefeikejcaaaGreatDoor
namespace Go.Proofs.YtlcnefeikejcaaaGreatDoor
open Go.RowKit Go.Sort Go.Maps
set_option maxRecDepth 100000
theorem turned_keep {w w' : World} {b : Nat} (h : w.mapTurned w' b) : Keep (fun k => k = b) w w' := (Keep.refl (fun k => k = b) w).grown h.grown (fun k hk => .inl (by simpa using hk.symm))
theorem wp_put_fresh {op : Oper} {a : Act} {w : World} {K : Act → World → Prop} {Q : Exit → Act → World → Prop} (m x y : Operand) (ho : op.op = .mapUpdate 125 m x y)
    (col : Nat → Nat) (mb : Nat) (fs : List Fr) (D : DataW Value) (M : Mc w col mb fs D) (hlen : fs.length < 100000) (n : Int) (n0 : 0 ≤ n) (n1 : n < 4294967296) (k : UInt8) (A : Option Addr) (z c : Nat) (l : List UInt8) (hv : Byts w (.slice A z c) l) (hc : 0 < l.length → ∀ g, (Value.slice A z c).ownBlock = some g → col g = 7) (h7 : col mb ≠ 7)
    (hm : a.eval m = .map (some mb)) (hx : a.eval x = .int .u32 n) (hy : a.eval y = .agg #[.int .u8 ((k.toNat : Nat) : Int), .slice A z c])
    (h : ∀ w' D', Hid (Mc w' col mb (putF ⟨n, k, l⟩ fs) D') → Keep (fun b => b = mb) w w' → K (a.put op.dst undef) w') : op.wp Tryz.prog a w K Q := by
  obtain ⟨w', hrun, r1, r2⟩ := M.own.store klaw Tryz.underlying125 (by unfold maxLen; omega) (key_u32 n0 n1) (val := cva k (.slice A z c)) (d := .held (cva k (.slice A z c))) (ps := []) rfl
  unfold Oper.wp execOp
  have hrun' : (Instr.mapUpdate 125 (.map (some mb)) (.int .u32 n) (.agg #[.int .u8 ((k.toNat : Nat) : Int), .slice A z c])).run Tryz.prog w = .ok () w' := hrun
  simp only [ho, hm, hx, hy, Sem.run_bind, hrun', Result.andThen_ok]
  have kt := turned_keep r2
  have hb7 : ∀ b, col b = 7 → ¬ b = mb := fun b hb e => h7 (by rw [← e]; exact hb)
  exact h w' _ (M.put (F := fun b => b = mb) ⟨n, k, l⟩ (.slice A z c) n0 n1 kt hb7 (bkeep hv kt (fun h0 b hb => hb7 b (hc h0 b hb))) hc r1) kt
theorem run_build_cont (k : Nat) (A : Option Addr) (z c : Nat) (w : World) : (Instr.build 140 #[(0, .int .u8 (k : Int)), (1, .slice A z c)]).run Tryz.prog w = .ok (.agg #[.int .u8 (k : Int), .slice A z c]) w := run_build w _ _ _ (by kernel_rfl)
def Pm.make (s : Pm) (k : UInt8) (l : List UInt8) : Pm × Int × Int :=
  if s.o then (s, 0, 7) else if 500 < l.length then (s, 0, 3) else match s.x.free with
    | [] => (s, 0, 6)
    | n :: r => ({ s with x := ⟨r, s.x.defd, putF ⟨n, k, l⟩ s.x.fresh⟩ }, n, 0)
theorem POk.setx {s : Pm} (h : POk s) (x : Wk) (free : Ris x.free) (freep : Pgn (s.r.getD 0 0) x.free) (defd : Ris x.defd) (defdp : Pgn (s.r.getD 0 0) x.defd) (fresh : Ris (nums x.fresh)) (freshp : Pgn (s.r.getD 0 0) (nums x.fresh)) (body : ∀ f ∈ x.fresh, f.b.length ≤ 500) : POk { s with x := x } :=
  ⟨h.q, h.rl, h.rlt, h.bl, h.rtl, h.rtlt, h.lists, h.llen, h.named, h.namedp, free, freep, defd, defdp, fresh, freshp, body, h.e⟩
theorem Pgn.rng {B : Nat} {l : List Int} (h : Pgn B l) (hB : B ≤ 4096) {x : Int} (hx : x ∈ l) : 0 ≤ x ∧ x < 4294967296 := by
  have := h x hx
  omega
theorem fresh_ok {s : Pm} (h : POk s) {n : Int} {k : UInt8} {l : List UInt8} (hn : 2 ≤ n ∧ n < ((s.r.getD 0 0 : Nat) : Int)) (hl : l.length ≤ 500) :
    Ris (nums (putF ⟨n, k, l⟩ s.x.fresh)) ∧ Pgn (s.r.getD 0 0) (nums (putF ⟨n, k, l⟩ s.x.fresh)) ∧ ∀ f ∈ putF ⟨n, k, l⟩ s.x.fresh, f.b.length ≤ 500 := by
  have hb := h.bl
  refine ⟨by rw [nums_put]; exact h.fresh.put (n := n) (by omega) (by omega), fun x hx => ?_, fun f hf => ?_⟩
  · rw [nums_put] at hx
    rcases (mem_putS n x _).1 hx with rfl | hx
    · exact hn
    · exact h.freshp x hx
  · rcases (mem_putF _ f h.fresh).1 hf with rfl | ⟨hf, _⟩
    · exact hl
    · exact h.body f hf
set_option maxHeartbeats 1600000 in
theorem make_core (w : World) (col : Nat → Nat) (p pf mb : Nat) (n : Int) (n0 : 0 ≤ n) (n1 : n < 4294967296) (r : List Int) (F : Nat → Prop) (P : Po w pf F (n :: r)) (hF : ∀ b, F b → col b = 20) (hr : r.length < 65535) (fs : List Fr) (D : DataW Value) (M : Mc w col mb fs D) (hfs : fs.length ≤ 4096) (hmb : col mb = 22)
    (cp : col p = 1) (c81 : w.cell? ⟨p, 81, none⟩ = some (.pointer (some ⟨pf, 0, none⟩))) (c83 : w.cell? ⟨p, 83, none⟩ = some (.map (some mb))) (c85 : w.cell? ⟨p, 85, none⟩ = some (.bool false)) (k : UInt8) (v : Value) (l : List UInt8) (hv : Byts w v l) (hvc : 0 < l.length → ∀ b, v.ownBlock = some b → col b ≠ 20) (hl : l.length ≤ 500) :
    Calls Tryz.prog 33 #[.pointer (some ⟨p, 0, none⟩), .int .u8 ((k.toNat : Nat) : Int), v] w fun e w' => e = .returned (.tuple #[.int .u32 n, .int .i64 0]) ∧ ∃ col' F' D', (∀ b, b < w.heap.size → col' b = col b) ∧ Po w' pf F' r ∧ (∀ b, F' b → col' b = 20) ∧ Mc w' col' mb (putF ⟨n, k, l⟩ fs) D' ∧
      Keep (fun b => col b = 20 ∨ col b = 22) w w' := by
  have HTK := Lib.hid (take_some w pf F n r P hr)
  obtain ⟨A0, c0, rfl, _, _⟩ := id hv
  have HF := Lib.hid hF
  have HFL := Lib.hid P.lt
  have HM := Lib.hid M
  have HV := Lib.hid hv
  have HVC := Lib.hid hvc
  have HMB := Lib.hid hmb
  have HCP := Lib.hid cp
  have HC83 := Lib.hid c83
  have hpl := Lib.hid (World.block_lt_of_cell? w _ c83)
  have HFS := Lib.hid hfs
  have N0 := Lib.hid n0
  have N1 := Lib.hid n1
  obtain ⟨L, hL⟩ : ∃ L, L = l.length := ⟨_, rfl⟩
  have HL := Lib.hid hL
  rw [← hL] at hl
  rw [← HL.out]
  have HLL := Lib.hid hl
  have h5 : ¬ (500 : Int) < (L : Int) := by omega
  obtain ⟨kn, hkn⟩ : ∃ z, z = k.toNat := ⟨_, rfl⟩
  have HKN := Lib.hid hkn
  rw [← HKN.out]
  clear P hF M hv hvc hmb cp c83 hfs n0 n1 hL hl hkn
  go_enter Tryz.func33, Tryz.ntmps33
  go_wp2_with (go_at_call 87; refine HTK.out.mono ?_; rintro e w1 ⟨rfl, F', P', k1, f1⟩)
  have K1 := Lib.hid k1
  have HP1 := Lib.hid P'
  have HF1 := Lib.hid f1
  have hne : ∀ b, col b ≠ 20 → ¬ F b := fun b hb q => hb (HF.out b q)
  have C83 := Lib.hid (k1.cell HC83.out (hne p (by have := HCP.out; omega)))
  have HV1 : Hid (Byts w1 (.slice A0 l.length c0) l) := bkeep HV.out k1 (fun h0 b hb => hne b (HVC.out h0 b hb))
  obtain ⟨c2, hc2⟩ : ∃ c2, c2 = upd (upd col w.heap.size 20) w1.heap.size 7 := ⟨_, rfl⟩
  have HCL : Hid (∀ b, b < w.heap.size → c2 b = col b) := fun b hb => by
    have := K1.out.size
    rw [hc2, upd_old (by omega), upd_old hb]
  have H20 : Hid (∀ b, w.heap.size ≤ b → b < w1.heap.size → c2 b = 20) := fun b h1 h2 => by rw [hc2, upd_old h2, upd_new h1]
  have H7 : Hid (∀ b, w1.heap.size ≤ b → c2 b = 7) := fun b h1 => by rw [hc2, upd_new h1]
  have HML := Lib.hid HM.out.lt
  have HM1 : Hid (Mc w1 c2 mb fs D) := (HM.out.recol HCL.out).keep k1 (hne mb (by have := HMB.out; omega)) (fun b hb q => by
    have h1 := HF.out b q
    have h2 := HCL.out b (HFL.out b q)
    omega)
  clear hc2
  rw [← HL.out] at HV1
  clear hne P' k1 f1 HTK c81 c85 HC83 HV HM
  have hS : Hid (Below w1.heap.size w1 w1.drew) := (Below.refl _ _).drew
  refine lz_start 11 10 (fun W => Below w1.heap.size w1 W) rfl (by kernel_rfl) ?_
  refine lr_take 0 28 (v := ?_) rfl rfl (by kernel_rfl) (by kernel_rfl) (by kernel_rfl) (by kernel_rfl) (by kernel_rfl) (fun _ _ _ _ _ h => h) (by rfl) hS.out (fun W hW => ?_) ?_
  rotate_left
  · go_simp; try rfl
  try simp only [Act.put, List.setIfInBounds_toArray, List.set_cons_zero, List.set_cons_succ]
  refine lr_take 1 29 (v := ?_) rfl rfl (by kernel_rfl) (by kernel_rfl) (by kernel_rfl) (by kernel_rfl) (by kernel_rfl) (fun _ _ _ _ _ h => h) (by rfl) hS.out (fun W hW => ?_) ?_
  rotate_left
  · go_simp; try rfl
  try simp only [Act.put, List.setIfInBounds_toArray, List.set_cons_zero, List.set_cons_succ]
  refine lr_take 2 30 (v := ?_) rfl rfl (by kernel_rfl) (by kernel_rfl) (by kernel_rfl) (by kernel_rfl) (by kernel_rfl) (fun _ _ _ _ _ h => h) (by rfl) hS.out (fun W hW => ?_) ?_
  rotate_left
  · go_simp; try rfl
  try simp only [Act.put, List.setIfInBounds_toArray, List.set_cons_zero, List.set_cons_succ]
  refine lr_take 3 31 (v := ?_) rfl rfl (by kernel_rfl) (by kernel_rfl) (by kernel_rfl) (by kernel_rfl) (by kernel_rfl) (fun _ _ _ _ _ h => h) (by rfl) hS.out (fun W hW => ?_) ?_
  rotate_left
  · go_simp; try rfl
  try simp only [Act.put, List.setIfInBounds_toArray, List.set_cons_zero, List.set_cons_succ]
  refine lr_take 4 32 (v := ?_) rfl rfl (by kernel_rfl) (by kernel_rfl) (by kernel_rfl) (by kernel_rfl) (by kernel_rfl) (fun _ _ _ _ _ h => h) (by rfl) hS.out (fun W hW => ?_) ?_
  rotate_left
  · have q := kept C83.out hW; go_simp; try rfl
  try simp only [Act.put, List.setIfInBounds_toArray, List.set_cons_zero, List.set_cons_succ]
  refine lr_take 5 33 (v := ?_) rfl rfl (by kernel_rfl) (by kernel_rfl) (by kernel_rfl) (by kernel_rfl) (by kernel_rfl) (fun _ _ _ _ _ h => h) (by rfl) hS.out (fun W hW => ?_) ?_
  rotate_left
  · go_simp; try rfl
  try simp only [Act.put, List.setIfInBounds_toArray, List.set_cons_zero, List.set_cons_succ]
  refine lr_take 6 34 (v := ?_) rfl rfl (by kernel_rfl) (by kernel_rfl) (by kernel_rfl) (by kernel_rfl) (by kernel_rfl) (fun _ _ _ _ _ h => h) (by rfl) hS.out (fun W hW => ?_) ?_
  rotate_left
  · go_simp; try rfl
  try simp only [Act.put, List.setIfInBounds_toArray, List.set_cons_zero, List.set_cons_succ]
  refine lr_take 7 35 (v := ?_) rfl rfl (by kernel_rfl) (by kernel_rfl) (by kernel_rfl) (by kernel_rfl) (by kernel_rfl) (fun _ _ _ _ _ h => h) (by rfl) hS.out (fun W hW => ?_) ?_
  rotate_left
  · go_simp; try rfl
  try simp only [Act.put, List.setIfInBounds_toArray, List.set_cons_zero, List.set_cons_succ]
  generalize w1.drew = u at *
  refine lz_op 8 rfl rfl (by kernel_rfl) (fun K hK => ?_)
  go_simp
  have hcl := clone_any (.slice A0 L c0) l u (by have := HV1.out.below hS.out; exact this) (by have := HLL.out; have := HL.out; omega)
  refine hcl.mono ?_
  rintro e w2 ⟨v2, rfl, o2, b2⟩
  obtain ⟨A2, z2, e2⟩ := own_form o2
  subst e2
  have hS1 := hS
  have hS2 := Lib.hid (btr hS.out b2)
  refine hK.out _ _ hS2.out ?_
  have HBY : Hid (Byts w2 (.slice A2 l.length z2) l) := Byts.own o2
  have HBL := Lib.hid o2.lt
  clear hK K hS o2 b2 hcl
  have hS := hS2
  rw [← HL.out] at HBY HBL
  rw [← HL.out]
  try simp only [Act.put, List.setIfInBounds_toArray, List.set_cons_zero, List.set_cons_succ]
  refine lr_take 9 37 (v := ?_) rfl rfl (by kernel_rfl) (by kernel_rfl) (by kernel_rfl) (by kernel_rfl) (by kernel_rfl) (fun _ _ _ _ _ h => h) (by rfl) hS.out (fun W hW => ?_) ?_
  rotate_left
  · have q := run_build_cont kn A2 L z2 W; go_simp; try rfl
  try simp only [Act.put, List.setIfInBounds_toArray, List.set_cons_zero, List.set_cons_succ]
  have HM2 : Hid (Mc w2 c2 mb fs D) := HM1.out.keep (F := fun _ => False) (Keep.of_below hS.out) (fun h => h) (fun _ _ h => h)
  refine lz_end rfl rfl (by kernel_rfl) (by kernel_rfl) (fun K hK => ?_)
  refine wp_put_fresh (.tmp 32) (.tmp 33) (.tmp 37) rfl c2 mb fs D HM2.out (by have := HFS.out; omega) n N0.out N1.out k A2 L z2 l HBY.out ?_ ?_ rfl rfl (by rw [← HKN.out]; rfl) ?_
  · intro h0 g hg
    have := (HBL.out g hg).1
    exact H7.out g (by have := hS1.out.size; omega)
  · have := HCL.out mb HML.out
    have := HMB.out
    omega
  intro w3 D3 HM3 k3
  refine hK.out _ _ ?_
  have FIN : Hid (∃ col' F' D', (∀ b, b < w.heap.size → col' b = col b) ∧ Po w3 pf F' r ∧ (∀ b, F' b → col' b = 20) ∧ Mc w3 col' mb (putF ⟨n, k, l⟩ fs) D' ∧ Keep (fun b => col b = 20 ∨ col b = 22) w w3) := by
    refine ⟨c2, F', D3, HCL.out, ((HP1.out.below hS.out).keep k3 (fun b hb e => ?_)), fun b hb => ?_, HM3.out, ?_⟩
    · have := HML.out
      rcases HF1.out b hb with q | q
      · have h1 := HF.out b q; have h2 := HMB.out; rw [e] at h1; omega
      · omega
    · rcases HF1.out b hb with q | q
      · rw [HCL.out b (HFL.out b q)]; exact HF.out b q
      · exact H20.out b q (HP1.out.lt b hb)
    · exact ((K1.out.mono (fun b _ q => Or.inl (HF.out b q))).step hS.out).trans k3 (fun b hb => .inl (.inr (by rw [hb]; exact HMB.out)))
  clear hK K k3
  go_wp2
  go_ret2
  exact ⟨rfl, FIN.out⟩
theorem pmake_any (w : World) (col : Nat → Nat) (p : Nat) (dv : Value) (s : Pm) (h : Pgr w col p dv s) (k : UInt8) (v : Value) (l : List UInt8) (hv : Byts w v l) (hvc : 0 < l.length → ∀ b, v.ownBlock = some b → col b ≠ 20) :
    Calls Tryz.prog 33 #[.pointer (some ⟨p, 0, none⟩), .int .u8 ((k.toNat : Nat) : Int), v] w fun e w' => e = .returned (.tuple #[.int .u32 (s.make k l).2.1, .int .i64 (s.make k l).2.2]) ∧ Chg w w' col p dv (s.make k l).1 := by
  obtain ⟨ok, cp, lv, pf0, pd0, m0, pf, pd, mb, C, S0, S, N, R, L⟩ := id h
  obtain ⟨D, M⟩ := S.map
  obtain ⟨F, P, hF⟩ := S.free
  obtain ⟨A0, c0, e0, hc0, -⟩ := id hv
  have c85 := C.co
  have c83 : w.cell? ⟨p, 83, none⟩ = some (.map (some mb)) := scs_map C.rn ok.rtl
  have c81 : w.cell? ⟨p, 81, none⟩ = some (.pointer (some ⟨pf, 0, none⟩)) := scs_free C.rn ok.rtl
  cases ho : s.o with
  | true =>
    have e1 : s.make k l = (s, 0, 7) := by simp [Pm.make, ho]
    rw [e1]
    rw [ho] at c85
    have HH := Lib.hid h
    clear e1 C S0 S N R L M P hF h hv hvc
    subst e0
    go_enter Tryz.func33, Tryz.ntmps33
    go_wp2
    go_ret2
    exact ⟨rfl, Chg.same HH.out (Below.refl _ _)⟩
  | false =>
    rw [ho] at c85
    by_cases hl : 500 < l.length
    · have e1 : s.make k l = (s, 0, 3) := by simp [Pm.make, ho, hl]
      rw [e1]
      have HH := Lib.hid h
      clear e1 C S0 S N R L M P hF h hv hvc
      subst e0
      generalize l.length = z at *
      have h5 : (500 : Int) < (z : Int) := by omega
      go_enter Tryz.func33, Tryz.ntmps33
      go_wp2
      go_ret2
      exact ⟨rfl, Chg.same HH.out (Below.refl _ _)⟩
    · cases hf : s.x.free with
      | nil =>
        have e1 : s.make k l = (s, 0, 6) := by simp [Pm.make, ho, hl, hf]
        rw [e1]
        have HH := Lib.hid h
        rw [hf] at P
        have HT := Lib.hid (take_none w pf F P)
        clear e1 C S0 S N R L M P hF h hv hvc
        subst e0
        generalize l.length = z at *
        have h5 : ¬ (500 : Int) < (z : Int) := by omega
        go_enter Tryz.func33, Tryz.ntmps33
        go_wp2_with (go_at_call 87; refine HT.out.mono ?_; rintro e w1 ⟨rfl, rfl⟩)
        go_ret2
        exact ⟨rfl, Chg.same HH.out (Below.refl _ _)⟩
      | cons n r =>
        have e1 : s.make k l = ({ s with x := ⟨r, s.x.defd, putF ⟨n, k, l⟩ s.x.fresh⟩ }, n, 0) := by simp [Pm.make, ho, hl, hf]
        rw [e1]
        rw [hf] at P
        have hnp := ok.freep n (by rw [hf]; simp)
        have hb := ok.bl
        have hrl : r.length < 65535 := by
          have := ok.fl
          rw [hf, List.length_cons] at this
          omega
        have hfl : s.x.fresh.length ≤ 4096 := by
          have := ok.frl
          simpa [nums] using this
        refine (make_core w col p pf mb n (by omega) (by omega) r F P hF hrl s.x.fresh D M hfl S.cm cp c81 c83 c85 k v l hv hvc (by omega)).mono ?_
        rintro e w' ⟨rfl, col', F', D', hc, P', hF', M', K⟩
        obtain ⟨f1, f2, f3⟩ := fresh_ok (k := k) (l := l) ok hnp (by omega)
        have hris := ok.free
        rw [hf] at hris
        have okx := ok.setx ⟨r, s.x.defd, putF ⟨n, k, l⟩ s.x.fresh⟩ hris.tail (fun x hx => ok.freep x (by rw [hf]; exact List.mem_cons_of_mem _ hx)) ok.defd ok.defdp f1 f2 f3
        refine ⟨rfl, col', hc, ?_, K.mono (fun b _ q => ⟨by omega, by omega⟩)⟩
        have k' : Keep (fun b => col' b = 20 ∨ col' b = 22) w w' := K.mono (fun b hb q => by rw [hc b hb]; exact q)
        refine ⟨okx, (hc p C.lt).trans cp, lv, pf0, pd0, m0, pf, pd, mb, C.keep k' (fun q => by have := hc p C.lt; omega), (S0.recol hc).keep k' (fun b hb => by omega), ⟨⟨F', P', hF'⟩, ?_, ⟨D', M'⟩, (hc mb M.lt).trans S.cm⟩, nkeep N k' (fun h0 b hb => by have := hc b (nlt N h0 b hb); have := L h0 b hb; omega), R, fun h0 b hb => (hc b (nlt N h0 b hb)).trans (L h0 b hb)⟩
        obtain ⟨G, P2, hG⟩ := S.defd
        exact ⟨G, P2.keep k' (fun b hb => by have := hc b (P2.lt b hb); have := hG b hb; omega), fun b hb => (hc b (P2.lt b hb)).trans (hG b hb)⟩
end Go.Proofs.YtlcnefeikejcaaaGreatDoor
namespace Go.Proofs.YtlcnefeikejcaaaGreatDoor
open Go.RowKit Go.Sort Go.Maps
set_option maxRecDepth 100000
def sortP (l : List Int) : List Int := l.foldr putS []
theorem sortP_ris {l : List Int} (h : ∀ x ∈ l, 0 ≤ x ∧ x < 4294967296) : Ris (sortP l) := by
  induction l with
  | nil => exact Ris.nil
  | cons x r ih => exact (ih (fun y hy => h y (by simp [hy]))).put (h x (by simp)).1 (h x (by simp)).2
theorem mem_sortP (x : Int) (l : List Int) : x ∈ sortP l ↔ x ∈ l := by
  induction l with
  | nil => simp [sortP]
  | cons y r ih =>
    show x ∈ putS y (sortP r) ↔ _
    rw [mem_putS, ih, List.mem_cons]
theorem sortP_perm {l : List Int} (h : l.Nodup) : l.Perm (sortP l) := by
  induction l with
  | nil => exact List.Perm.refl _
  | cons y r ih =>
    obtain ⟨h1, h2⟩ := List.nodup_cons.1 h
    exact ((ih h2).cons y).trans (putS_perm (fun q => h1 ((mem_sortP y r).1 q))).symm
theorem sortP_length {l : List Int} (h : l.Nodup) : (sortP l).length = l.length := (sortP_perm h).length_eq.symm
def Pm.need (s : Pm) : Nat := (L.needZ ((s.x.free.length + (s.lists.length + s.x.defd.length) : Nat) : Int)).toNat
def Pm.names (s : Pm) : List Int := sortP (s.x.free.drop s.need ++ (s.lists ++ s.x.defd))
def zlist : Array Value := #[.slice none 0 0, .slice none 0 0]
theorem Tryz.zero121 : (Tryz.prog.info? 121).map (fun i => (i.zero, i.size)) = some (some (.agg zlist), 2) := by kernel_rfl
theorem Tryz.sizeL : (Tryz.prog.info? 121).map (·.size) = some 2 := by kernel_rfl
theorem run_build_list2 (A1 A2 : Option Addr) (n1 c1 n2 c2 : Nat) (w : World) : (Instr.build 121 #[(0, .slice A1 n1 c1), (1, .slice A2 n2 c2)]).run Tryz.prog w = .ok (.agg #[.slice A1 n1 c1, .slice A2 n2 c2]) w := run_build w _ _ _ (by kernel_rfl)
theorem wpList_store_list {ops : Array Oper} {rest : List Oper} {op : Oper} {a : Act} {w : World} {Q : Exit → Act → World → Prop} (hgd : op.guard = none) (x y : Operand) (ho : op.op = .store 121 x y)
    (b : Nat) (A1 A2 : Option Addr) (n1 c1 n2 c2 : Nat) (hx : a.eval x = .pointer (some ⟨b, 0, none⟩)) (hy : a.eval y = .agg #[.slice A1 n1 c1, .slice A2 n2 c2]) (ht : w.there b 0 2)
    (h : ∀ w', Hid (w'.rangeAt b 0 [.slice A1 n1 c1, .slice A2 n2 c2]) → Keep (fun k => k = b) w w' → wpList Tryz.prog ops Q rest (a.put op.dst undef) w') : wpList Tryz.prog ops Q (op :: rest) a w :=
  wpList_store_mid hgd 121 x y ho b 0 #[.slice A1 n1 c1, .slice A2 n2 c2] hx hy ht Tryz.sizeL (by simp [Value.oneCell'])
    (h _ (World.rangeAt_setCells_same w b 0 [.slice A1 n1 c1, .slice A2 n2 c2] ht) (Keep.setCells (F := fun k => k = b) (Keep.refl _ _) (.inl rfl) 0 _))
theorem results_list {fn : Func} {t u : Tmp} (h : fn.results = #[.cell t 121, .tmp u]) (tmps : Array Value) (w : World) (b : Nat) (A1 A2 : Option Addr) (n1 c1 n2 c2 : Nat) (v : Value) (ht : tmps.getD t undef = .pointer (some ⟨b, 0, none⟩)) (hu : tmps.getD u undef = v) (hs : w.rangeAt b 0 [.slice A1 n1 c1, .slice A2 n2 c2]) :
    (results fn tmps).run Tryz.prog w = .ok (.tuple #[.agg #[.slice A1 n1 c1, .slice A2 n2 c2], v]) w := by
  have hl := run_loadVar_mid (P := Tryz.prog) w b 0 121 [.slice A1 n1 c1, .slice A2 n2 c2] _ hs Tryz.underlying121 rfl Tryz.sizeL
  have ht' : tmps[t]?.getD undef = .pointer (some ⟨b, 0, none⟩) := by simpa using ht
  have hu' : tmps[u]?.getD undef = v := by simpa using hu
  simp only [results, h]
  simp [ht', hu', asAddr, hl]
theorem Nums.rest2 {w : World} {A : Option Addr} {k c : Nat} {l : List Int} (h : Nums w (.slice A k c) l) (hr : Real (.slice A k c)) (n : Nat) (hn : n ≤ k) :
    ∃ A', (∀ W, (Instr.slice 37 (.slice A k c) (some (.int .i64 (n : Int))) none none).run Tryz.prog W = .ok (.slice A' (k - n) (c - n)) W) ∧ Nums w (.slice A' (k - n) (c - n)) (l.drop n) ∧ Real (.slice A' (k - n) (c - n)) := by
  cases A with
  | none =>
    obtain ⟨rfl, rfl⟩ := hr _ _ rfl
    obtain rfl : n = 0 := by omega
    obtain ⟨A', h1, h2⟩ := h.rest 0 (Nat.le_refl _)
    have e := h1 w
    rw [run_slice_l (w := w) 37 none 0 0 Tryz.underlying37 .i64 ((0 : Nat) : Int) (by omega) (by omega)] at e
    have e2 : (sizeOf (Tryz.prog.elem 37)).run Tryz.prog w = .ok 1 w := by kernel_rfl
    rw [e2] at e
    simp [Result.andThen, sliced] at e
    subst e
    exact ⟨none, h1, h2, Real.nil⟩
  | some ad =>
    obtain ⟨A', h1, h2⟩ := h.rest n hn
    refine ⟨A', h1, h2, ?_⟩
    have e := h1 w
    obtain ⟨_, hkc, _⟩ := h.len
    rw [run_slice_l (w := w) 37 (some ad) k c Tryz.underlying37 .i64 (n : Int) (by omega) (by omega)] at e
    have e2 : (sizeOf (Tryz.prog.elem 37)).run Tryz.prog w = .ok 1 w := by kernel_rfl
    rw [e2] at e
    simp [Result.andThen, sliced] at e
    intro n' c' e3
    simp only [Value.slice.injEq] at e3
    obtain ⟨rfl, _, _⟩ := e3
    split at e <;> simp at e
set_option maxHeartbeats 3200000 in
theorem nextlist_core (w : World) (p pf pd : Nat) (lv : Value) (c29 : w.cell? ⟨p, 29, none⟩ = some lv) (c81 : w.cell? ⟨p, 81, none⟩ = some (.pointer (some ⟨pf, 0, none⟩))) (c82 : w.cell? ⟨p, 82, none⟩ = some (.pointer (some ⟨pd, 0, none⟩))) (free lists defd : List Int) (F G : Nat → Prop) (P1 : Po w pf F free) (P2 : Po w pd G defd)
    (hN : Nums w lv lists) (hR : Real lv) (l1 : free.length ≤ 4096) (l2 : lists.length ≤ 4096) (l3 : defd.length ≤ 4096) (k : Nat) (hk : L.needZ ((free.length + (lists.length + defd.length) : Nat) : Int) = (k : Int)) (names : List Int) (hnames : (free.drop k ++ (lists ++ defd)).Perm names) (hris : Ris names) :
    Calls Tryz.prog 120 #[.pointer (some ⟨p, 0, none⟩)] w fun e w' => (k ≤ free.length → ∃ lpv lnv, e = .returned (.tuple #[.agg #[lpv, lnv], .bool true]) ∧ Nums w' lpv (free.take k) ∧ Real lpv ∧ Nums w' lnv names ∧ Real lnv ∧ (∀ b, lpv.ownBlock = some b → w.heap.size ≤ b) ∧ (∀ b, lnv.ownBlock = some b → w.heap.size ≤ b)) ∧
      (free.length < k → e = .returned (.tuple #[.agg #[.slice none 0 0, .slice none 0 0], .bool false])) ∧ Below w.heap.size w w' := by
  obtain ⟨A0, c0, rfl, _, _⟩ := id hN
  have hz := (zero_of_info Tryz.zero121).1
  have HT := Lib.hid (there_newN w zlist 121 2 rfl)
  have HB : Hid (Below w.heap.size w (w.alloc (.cells zlist 121))) := alb _
  have HC : Hid (∀ W, Below w.heap.size w W → W.cell? ⟨p, 29, none⟩ = some (.slice A0 lists.length c0) ∧ W.cell? ⟨p, 81, none⟩ = some (.pointer (some ⟨pf, 0, none⟩)) ∧ W.cell? ⟨p, 82, none⟩ = some (.pointer (some ⟨pd, 0, none⟩))) := fun W hW => ⟨kept c29 hW, kept c81 hW, kept c82 hW⟩
  have H1 : Hid (∀ W, Below w.heap.size w W → Calls Tryz.prog 64 #[.pointer (some ⟨pf, 0, none⟩)] W fun e w' => ∃ v', e = .returned v' ∧ w'.ownsRow W.heap.size 31 1 v' free.length (us free) ∧ Below W.heap.size W w') := fun W hW => list_any W pf F free (P1.below hW) (by omega)
  have H2 : Hid (∀ W, Below w.heap.size w W → Calls Tryz.prog 64 #[.pointer (some ⟨pd, 0, none⟩)] W fun e w' => ∃ v', e = .returned v' ∧ w'.ownsRow W.heap.size 31 1 v' defd.length (us defd) ∧ Below W.heap.size W w') := fun W hW => list_any W pd G defd (P2.below hW) (by omega)
  have HN := Lib.hid hN
  have HR := Lib.hid hR
  have HK := Lib.hid hk
  have HPM := Lib.hid hnames
  have HRI := Lib.hid hris
  have L1 := Lib.hid l1
  have L2 := Lib.hid l2
  have L3 := Lib.hid l3
  obtain ⟨_, q81, _⟩ := HC.out _ HB.out
  clear c29 c81 c82 P1 P2 hN hR hk hnames hris l1 l2 l3
  go_enter Tryz.func120, Tryz.ntmps120
  go_wp2_with (go_at_call 64; refine (H1.out _ HB.out).mono ?_; rintro e w1 ⟨v1, rfl, o1, b1⟩)
  have HB1 := Lib.hid (btr HB.out b1)
  have HT1 := Lib.hid (there_keep (F := fun _ => False) HT.out (Keep.of_below b1) (fun h => h))
  have O1 := Lib.hid o1
  obtain ⟨A1, cc1, e1⟩ := own_form o1
  subst e1
  have hal : Hid (w.heap.size ≤ (w.alloc (.cells zlist 121)).heap.size) := HB.out.size
  have N1 : Hid (Nums w1 (.slice A1 free.length cc1) free) := Nums.own (Go.Joins.ownsRow_le o1 (Nat.zero_le _))
  have R1 : Hid (Real (.slice A1 free.length cc1)) := Real.own o1
  have HNX : Hid (∀ b, (Value.slice A1 free.length cc1).ownBlock = some b → ¬ b = w.heap.size) := fun b hb e => by
    have h1 := (o1.lt b hb).1
    have h2 : (w.alloc (.cells zlist 121)).heap.size = w.heap.size + 1 := by simp
    omega
  have HW0 : Hid (w.heap.size < w1.heap.size) := by
    show _ < _
    have h1 := b1.size
    have h2 : (w.alloc (.cells zlist 121)).heap.size = w.heap.size + 1 := by simp
    omega
  have BL1 : Hid (∀ b, (Value.slice A1 free.length cc1).ownBlock = some b → w.heap.size ≤ b) := fun b hb => by have := (o1.lt b hb).1; have := hal.out; omega
  clear o1 b1 HT HB H1 q81 hal O1
  obtain ⟨q29, _, q82⟩ := HC.out w1 HB1.out
  have Q29 := Lib.hid q29
  have Q82 := Lib.hid q82
  clear q29 q82
  generalize hf : free.length = nf at *
  have HNF := Lib.hid hf
  clear hf
  generalize hll : lists.length = nl at *
  have HNL := Lib.hid hll
  clear hll
  have hS : Hid (Below w1.heap.size w1 w1.drew) := (Below.refl _ _).drew
  refine lh_start 13 (fun W => Below w1.heap.size w1 W) rfl (by kernel_rfl) ?_
  refine lh_take 0 14 (v := ?_) rfl rfl (by kernel_rfl) (by kernel_rfl) (by kernel_rfl) (fun _ _ _ _ _ h => h) (by rfl) hS.out (fun W hW => ?_) ?_
  rotate_left
  · go_simp; try rfl
  try simp only [Act.put, List.setIfInBounds_toArray, List.set_cons_zero, List.set_cons_succ]
  refine lh_take 1 15 (v := ?_) rfl rfl (by kernel_rfl) (by kernel_rfl) (by kernel_rfl) (fun _ _ _ _ _ h => h) (by rfl) hS.out (fun W hW => ?_) ?_
  rotate_left
  · go_simp; try rfl
  try simp only [Act.put, List.setIfInBounds_toArray, List.set_cons_zero, List.set_cons_succ]
  refine lh_take 2 16 (v := ?_) rfl rfl (by kernel_rfl) (by kernel_rfl) (by kernel_rfl) (fun _ _ _ _ _ h => h) (by rfl) hS.out (fun W hW => ?_) ?_
  rotate_left
  · go_simp; try rfl
  try simp only [Act.put, List.setIfInBounds_toArray, List.set_cons_zero, List.set_cons_succ]
  refine lh_take 3 17 (v := ?_) rfl rfl (by kernel_rfl) (by kernel_rfl) (by kernel_rfl) (fun _ _ _ _ _ h => h) (by rfl) hS.out (fun W hW => ?_) ?_
  rotate_left
  · have q := kept Q29.out hW; go_simp; try rfl
  try simp only [Act.put, List.setIfInBounds_toArray, List.set_cons_zero, List.set_cons_succ]
  refine lh_take 4 18 (v := ?_) rfl rfl (by kernel_rfl) (by kernel_rfl) (by kernel_rfl) (fun _ _ _ _ _ h => h) (by rfl) hS.out (fun W hW => ?_) ?_
  rotate_left
  · go_simp; try rfl
  try simp only [Act.put, List.setIfInBounds_toArray, List.set_cons_zero, List.set_cons_succ]
  refine lh_take 5 19 (v := ?_) rfl rfl (by kernel_rfl) (by kernel_rfl) (by kernel_rfl) (fun _ _ _ _ _ h => h) (by rfl) hS.out (fun W hW => ?_) ?_
  rotate_left
  · go_simp; try rfl
  try simp only [Act.put, List.setIfInBounds_toArray, List.set_cons_zero, List.set_cons_succ]
  refine lh_take 6 20 (v := ?_) rfl rfl (by kernel_rfl) (by kernel_rfl) (by kernel_rfl) (fun _ _ _ _ _ h => h) (by rfl) hS.out (fun W hW => ?_) ?_
  rotate_left
  · go_simp; try rfl
  try simp only [Act.put, List.setIfInBounds_toArray, List.set_cons_zero, List.set_cons_succ]
  refine lh_take 7 21 (v := ?_) rfl rfl (by kernel_rfl) (by kernel_rfl) (by kernel_rfl) (fun _ _ _ _ _ h => h) (by rfl) hS.out (fun W hW => ?_) ?_
  rotate_left
  · go_simp; try rfl
  try simp only [Act.put, List.setIfInBounds_toArray, List.set_cons_zero, List.set_cons_succ]
  refine lh_take 8 22 (v := ?_) rfl rfl (by kernel_rfl) (by kernel_rfl) (by kernel_rfl) (fun _ _ _ _ _ h => h) (by rfl) hS.out (fun W hW => ?_) ?_
  rotate_left
  · have q := kept Q82.out hW; go_simp; try rfl
  try simp only [Act.put, List.setIfInBounds_toArray, List.set_cons_zero, List.set_cons_succ]
  generalize w1.drew = u at *
  refine lh_one 9 rfl rfl (by kernel_rfl) (fun K hK => ?_)
  go_simp
  refine (H2.out u (btr HB1.out hS.out)).mono ?_
  rintro e w2 ⟨v2, rfl, o2, b2⟩
  have hS1 := hS
  have hS2 := Lib.hid (btr hS.out b2)
  refine hK.out _ _ hS2.out ?_
  obtain ⟨A2, cc2, e2⟩ := own_form o2
  subst e2
  have N2 : Hid (Nums w2 (.slice A2 defd.length cc2) defd) := Nums.own (Go.Joins.ownsRow_le o2 (Nat.zero_le _))
  have R2 : Hid (Real (.slice A2 defd.length cc2)) := Real.own o2
  clear hK K hS o2 b2
  have hS := hS2
  generalize hdl : defd.length = nd at *
  have HND := Lib.hid hdl
  clear hdl
  try simp only [Act.put, List.setIfInBounds_toArray, List.set_cons_zero, List.set_cons_succ]
  refine lh_one 10 rfl rfl (by kernel_rfl) (fun K hK => ?_)
  go_simp
  have hcl : ∀ j, (w2.alloc (.cells #[.slice A0 nl c0, .slice A2 nd cc2] 37)).cell? ⟨w2.heap.size, j, none⟩ = (#[.slice A0 nl c0, .slice A2 nd cc2] : Array Value)[j]? := fun j => World.cell?_alloc_at _ _ _ _ rfl
  have hS3 : Hid (Below w1.heap.size w1 (w2.alloc (.cells #[.slice A0 nl c0, .slice A2 nd cc2] 37))) := btr hS.out (alb _)
  have N0' : Hid (Nums (w2.alloc (.cells #[.slice A0 nl c0, .slice A2 nd cc2] 37)) (.slice A0 nl c0) lists) := HN.out.below ((btr HB1.out hS3.out))
  have N2' : Hid (Nums (w2.alloc (.cells #[.slice A0 nl c0, .slice A2 nd cc2] 37)) (.slice A2 nd cc2) defd) := N2.out.below (alb _)
  have CC := Lib.hid (nconcat_any w2.heap.size 2 _ _ lists defd _ N0'.out N2'.out HR.out R2.out (by have := L2.out; have := L3.out; have := HNL.out; have := HND.out; omega) (hcl 0) (hcl 1))
  refine hK.out _ _ hS3.out ?_
  clear hK K hS hcl N0' N2' N2 R2
  have hS := hS3
  generalize w2.alloc (.cells #[.slice A0 nl c0, .slice A2 nd cc2] 37) = w3 at *
  try simp only [Act.put, List.setIfInBounds_toArray, List.set_cons_zero, List.set_cons_succ]
  refine lh_one 11 rfl rfl (by kernel_rfl) (fun K hK => ?_)
  go_simp
  refine CC.out.mono ?_
  rintro e w4 ⟨v4, rfl, o4, b4⟩
  have hS4 := Lib.hid (btr hS.out b4)
  refine hK.out _ _ hS4.out ?_
  obtain ⟨A4, cc4, e4⟩ := own_form o4
  subst e4
  have N4 : Hid (Nums w4 (.slice A4 (lists ++ defd).length cc4) (lists ++ defd)) := Nums.own (Go.Joins.ownsRow_le o4 (Nat.zero_le _))
  have R4 : Hid (Real (.slice A4 (lists ++ defd).length cc4)) := Real.own o4
  clear hK K hS o4 b4 CC
  have hS := hS4
  generalize hml : (lists ++ defd).length = nm at *
  have HNM : Hid (nm = nl + nd) := Lib.hid (by have h1 := HNL.out; have h2 := HND.out; rw [← hml, List.length_append]; omega)
  have HML := Lib.hid hml
  clear hml
  try simp only [Act.put, List.setIfInBounds_toArray, List.set_cons_zero, List.set_cons_succ]
  refine lh_take 12 5 (v := ?_) rfl rfl (by kernel_rfl) (by kernel_rfl) (by kernel_rfl) (fun _ _ _ _ _ h => h) (by rfl) hS.out (fun W hW => ?_) ?_
  rotate_left
  · go_simp; try rfl
  try simp only [Act.put, List.setIfInBounds_toArray, List.set_cons_zero, List.set_cons_succ]
  refine lh_done (by kernel_rfl) ?_
  have HB4 := Lib.hid (btr HB1.out hS.out)
  have HW0 : Hid (w.heap.size < w4.heap.size) := by
    show _ < _
    have h1 := HW0.out
    have h2 := hS.out.size
    omega
  have HT4 := Lib.hid (there_keep (F := fun _ => False) HT1.out (Keep.of_below hS.out) (fun h => h))
  have N1' := Lib.hid (N1.out.below hS.out)
  have hlen : nf ≤ 4096 ∧ nm ≤ 8192 := by
    have h1 := L1.out; have h2 := L2.out; have h3 := L3.out; have h4 := HNM.out
    exact ⟨h1, by omega⟩
  have hw : IntKind.i64.wrap ((nf : Int) + (nm : Int)) = (nf : Int) + (nm : Int) := by rw [IntKind.wrap_i64]; omega
  have HNE : Hid (∀ W : World, Calls Tryz.prog 150 #[.int .i64 ((nf : Int) + (nm : Int))] W fun e w' => e = .returned (.int .i64 (k : Int)) ∧ W = w') := fun W => by
    have h1 := need_any ((nf : Int) + (nm : Int)) (by omega) W
    have h2 := HK.out
    rw [show ((nf + (nl + nd) : Nat) : Int) = (nf : Int) + (nm : Int) by have := HNM.out; omega] at h2
    rw [h2] at h1
    exact h1
  clear hS N1 HT1 HK HB1 hS1
  by_cases hkf : nf < k
  · have hg : (nf : Int) < (k : Int) := by omega
    have hb := run_build_list
    go_wp2_with (first
      | (go_at_call 150; refine (HNE.out _).mono ?_; rintro e w5 ⟨rfl, rfl⟩)
      | (refine wpList_store_list rfl (.tmp 2) (.tmp 36) rfl w.heap.size none none 0 0 0 0 rfl rfl HT4.out ?_))
    intro w6 HW k6
    go_wp2
    exact bodyPost_ret (results_list rfl _ _ w.heap.size none none 0 0 0 0 _ rfl rfl HW.out) rfl ⟨fun h => by have := HNF.out; omega, fun _ => rfl, HB4.out.trans (k6.below HB4.out.size (fun k hk => by subst hk; exact Nat.le_refl _))⟩
  · have hg : ¬ (nf : Int) < (k : Int) := by omega
    obtain ⟨A5, hr5, n5, r5⟩ := N1'.out.rest2 R1.out k (by omega)
    have N5 := Lib.hid n5
    have R5 := Lib.hid r5
    have hcap : k ≤ cc1 := by have := (N1'.out.len).2.1; omega
    have hr6 := run_cut32 A1 nf cc1 k hcap
    have HKF := Lib.hid hkf
    clear n5 r5
    have hcl2 : ∀ j, (w4.alloc (.cells #[.slice A5 (nf - k) (cc1 - k), .slice A4 nm cc4] 37)).cell? ⟨w4.heap.size, j, none⟩ = (#[.slice A5 (nf - k) (cc1 - k), .slice A4 nm cc4] : Array Value)[j]? := fun j => World.cell?_alloc_at _ _ _ _ rfl
    have B5 : Hid (Below w4.heap.size w4 (w4.alloc (.cells #[.slice A5 (nf - k) (cc1 - k), .slice A4 nm cc4] 37))) := alb _
    have CC := Lib.hid (nconcat_any w4.heap.size 2 _ _ (free.drop k) (lists ++ defd) _ (N5.out.below B5.out) (N4.out.below B5.out) R5.out R4.out (by have := HML.out; rw [List.length_drop]; have := HNF.out; omega) (hcl2 0) (hcl2 1))
    have hb := run_build_list2
    have HXL : Hid ((free.drop k ++ (lists ++ defd)).length < 65536) := Lib.hid (by rw [List.length_append, List.length_drop]; have := HML.out; have := HNF.out; omega)
    clear hcl2 N5 R5 N4 R4
    go_wp2_with (first
      | (refine wpList_store_list rfl (.tmp 2) (.tmp 49) rfl w.heap.size A1 A7 k cc1 names.length cc7 rfl rfl HT8.out ?_)
      | (go_at_call 66; refine SS.out.mono ?_; rintro e w8 ⟨rfl, o8, k8⟩; obtain ⟨A9, cc9, e9⟩ := own_form o8; have O8 := Lib.hid o8; have K8 := Lib.hid k8; have HT8 : Hid (w8.there w.heap.size 0 2) := there_keep HT7.out k8 (fun q => by have h1 := (O7.out.lt _ q).1; have h2 := B5.out.size; have h3 := HB4.out.size; have h4 := HW0.out; omega); clear o8 k8 e9)
      | (go_at_call 149; refine CC.out.mono ?_; rintro e w7 ⟨v7, rfl, o7, b7⟩; have O7 := Lib.hid o7; have B7 := Lib.hid b7; have HT7 := Lib.hid (there_keep (F := fun _ => False) (there_keep (F := fun _ => False) HT4.out (Keep.of_below B5.out) (fun h => h)) (Keep.of_below b7) (fun h => h)); have SS := Lib.hid (nsort_any o7 HXL.out HPM.out HRI.out); obtain ⟨A7, cc7, e7⟩ := own_form o7; rw [HPM.out.length_eq] at e7; subst e7; clear o7 b7)
      | (go_at_call 150; refine (HNE.out _).mono ?_; rintro e w5 ⟨rfl, rfl⟩))
    intro w10 HW k10
    have BLN : Hid (∀ b, (Value.slice A7 names.length cc7).ownBlock = some b → w.heap.size ≤ b ∧ b ≠ w.heap.size) := fun b hb => by
      have h1 := (O7.out.lt b hb).1
      have h2 := B5.out.size
      have h3 := HB4.out.size
      have h4 := HW0.out
      exact ⟨by omega, by omega⟩
    have HB10 : Hid (Below w.heap.size w w10) := by
      have h3 := HB4.out.size
      have h2 := B5.out.size
      have h7 := B7.out.size
      exact (((btr (btr HB4.out B5.out) B7.out).trans (K8.out.below (by omega) (fun b hb => (BLN.out b hb).1)))).trans (k10.below (by have := K8.out.size; omega) (fun b hb => by subst hb; exact Nat.le_refl _))
    have NN : Hid (Nums w10 (.slice A7 names.length cc7) names) := nkeep (Nums.own (Go.Joins.ownsRow_le O8.out (Nat.zero_le _))) k10 (fun _ b hb e => (BLN.out b hb).2 e)
    have NF : Hid (Nums w10 (.slice A1 k cc1) (free.take k)) := by
      have q : Nums w10 (.slice A1 nf cc1) free := nkeep (nkeep ((N1'.out.below B5.out).below B7.out) K8.out (fun h0 b hb q => by
        have h1 := (O7.out.lt b q).1
        have h2 := nlt N1'.out h0 b hb
        have h3 := B5.out.size
        have h4 : (w4.alloc (.cells #[.slice A5 (nf - k) (cc1 - k), .slice A4 nm cc4] 37)).heap.size = w4.heap.size + 1 := by simp
        omega)) k10 (fun _ b hb e => by have := BL1.out b hb; have h5 := HNX.out b hb; omega)
      exact q.cut k (by omega)
    have RR : Hid (Real (.slice A7 names.length cc7)) := Real.own O8.out
    have RF : Hid (Real (.slice A1 k cc1)) := fun n' c' e => by
      simp only [Value.slice.injEq] at e
      obtain ⟨rfl, rfl, rfl⟩ := e
      have := R1.out nf cc1 rfl
      have := HKF.out
      exact ⟨by omega, by omega⟩
    clear k10
    go_wp2
    exact bodyPost_ret (results_list rfl _ _ w.heap.size A1 A7 k cc1 names.length cc7 _ rfl rfl HW.out) rfl ⟨fun _ => ⟨_, _, rfl, NF.out, RF.out, NN.out, RR.out, fun b hb => BL1.out b (by cases A1 <;> exact hb), fun b hb => (BLN.out b hb).1⟩, fun h => by have := HNF.out; have := HKF.out; omega, HB10.out⟩
structure Dj (s : Pm) : Prop where
  ll : s.lists.Nodup
  fl : ∀ x ∈ s.x.free, x ∉ s.lists ∧ x ∉ s.x.defd ∧ x ∉ nums s.x.fresh
  dl : ∀ x ∈ s.x.defd, x ∉ s.lists ∧ x ∉ nums s.x.fresh
  frl : ∀ x ∈ nums s.x.fresh, x ∉ s.lists
  nl : ∀ x ∈ s.named, x ∉ s.lists
theorem Ris.nodup {s : List Int} (h : Ris s) : s.Nodup := h.up.imp (fun h => by omega)
theorem Dj.nodup {s : Pm} (h : Dj s) (ok : POk s) (k : Nat) : (s.x.free.drop k ++ (s.lists ++ s.x.defd)).Nodup := by
  refine List.nodup_append.2 ⟨ok.free.nodup.sublist (List.drop_sublist _ _), List.nodup_append.2 ⟨h.ll, ok.defd.nodup, fun a ha b hb e => ?_⟩, fun a ha b hb e => ?_⟩
  · subst e
    exact (h.dl a hb).1 ha
  · subst e
    have := h.fl a (List.mem_of_mem_drop ha)
    rcases List.mem_append.1 hb with q | q
    · exact this.1 q
    · exact this.2.1 q
theorem names_in {s : Pm} {x : Int} (h : x ∈ s.names) : x ∈ s.x.free ∨ x ∈ s.lists ∨ x ∈ s.x.defd := by
  rw [Pm.names, mem_sortP, List.mem_append, List.mem_append] at h
  rcases h with h | h | h
  · exact .inl (List.mem_of_mem_drop h)
  · exact .inr (.inl h)
  · exact .inr (.inr h)
theorem names_pgn {s : Pm} (ok : POk s) : Pgn (s.r.getD 0 0) s.names := fun x hx => by
  rcases names_in hx with h | h | h
  · exact ok.freep x h
  · exact ok.lists x h
  · exact ok.defdp x h
theorem names_ris {s : Pm} (ok : POk s) : Ris s.names := sortP_ris (fun x hx => by
  have hb := ok.bl
  have := names_pgn ok x (by rw [Pm.names, mem_sortP]; exact hx)
  omega)
theorem need_eq {s : Pm} : L.needZ ((s.x.free.length + (s.lists.length + s.x.defd.length) : Nat) : Int) = ((s.need : Nat) : Int) := by
  unfold Pm.need L.needZ
  split <;> omega
theorem nextlist_any (w : World) (col : Nat → Nat) (p : Nat) (dv : Value) (s : Pm) (h : Pgr w col p dv s) (hd : Dj s) :
    Calls Tryz.prog 120 #[.pointer (some ⟨p, 0, none⟩)] w fun e w' => (s.need ≤ s.x.free.length → ∃ lpv lnv, e = .returned (.tuple #[.agg #[lpv, lnv], .bool true]) ∧ Nums w' lpv (s.x.free.take s.need) ∧ Real lpv ∧ Nums w' lnv s.names ∧ Real lnv ∧ (∀ b, lpv.ownBlock = some b → w.heap.size ≤ b) ∧ (∀ b, lnv.ownBlock = some b → w.heap.size ≤ b)) ∧
      (s.x.free.length < s.need → e = .returned (.tuple #[.agg #[.slice none 0 0, .slice none 0 0], .bool false])) ∧ Below w.heap.size w w' := by
  obtain ⟨ok, cp, lv, pf0, pd0, m0, pf, pd, mb, C, S0, S, N, R, Lc⟩ := h
  obtain ⟨F, P1, _⟩ := S.free
  obtain ⟨G, P2, _⟩ := S.defd
  exact nextlist_core w p pf pd lv C.cl (scs_free C.rn ok.rtl) (scs_defd C.rn ok.rtl) s.x.free s.lists s.x.defd F G P1 P2 N R (ok.freep.len ok.free ok.bl) ok.llen (ok.defdp.len ok.defd ok.bl) s.need need_eq s.names (sortP_perm (hd.nodup ok _)) (names_ris ok)
end Go.Proofs.YtlcnefeikejcaaaGreatDoor
namespace Go.Proofs.YtlcnefeikejcaaaGreatDoor
open Go.RowKit Go.Sort Go.Maps
set_option maxRecDepth 100000
theorem run_build_super (q b f : Nat) (rt : List Nat) (h : rt.length = 24) (w : World) : (Instr.build 36 #[(0, .int .u64 (q : Int)), (1, .int .u32 (b : Int)), (3, .int .u32 (f : Int)), (4, .agg (rcs rt).toArray)]).run Tryz.prog w = .ok (.agg (sva q (b :: 0 :: f :: rt))) w := by
  match rt, h with
  | [x0, x1, x2, x3, x4, x5, x6, x7, x8, x9, x10, x11, x12, x13, x14, x15, x16, x17, x18, x19, x20, x21, x22, x23], _ => exact run_build w _ _ _ (by kernel_rfl)
theorem run_op_build_super {op : Oper} {a : Act} {w : World} (x0 x1 x2 x3 : Operand) (ho : op.op = .build 36 #[(0, x0), (1, x1), (3, x2), (4, x3)]) (q b f : Nat) (rt : List Nat) (h : rt.length = 24)
    (h0 : a.eval x0 = .int .u64 (q : Int)) (h1 : a.eval x1 = .int .u32 (b : Int)) (h2 : a.eval x2 = .int .u32 (f : Int)) (h3 : a.eval x3 = .agg (rcs rt).toArray) :
    (execOp a.eval op).run Tryz.prog w = .ok (.value (.agg (sva q (b :: 0 :: f :: rt)))) w := by
  have e := run_build_super q b f rt h w
  unfold execOp
  simp only [ho, List.map_toArray, List.map_cons, List.map_nil, h0, h1, h2, h3, Sem.run_bind, e, Result.andThen_ok]
  rfl
theorem pstore_sup {op : Oper} {a : Act} {w : World} {K : Act → World → Prop} {Q : Exit → Act → World → Prop} (x y : Operand) (ho : op.op = .store 36 x y)
    (b q : Nat) (r : List Nat) (hx : a.eval x = .pointer (some ⟨b, 0, none⟩)) (hy : a.eval y = .agg (sva q r)) (hr : r.length = 27) (ht : w.there b 0 28)
    (h : ∀ w', Hid (Sup w' b q r) → Keep (fun k => k = b) w w' → K (a.put op.dst undef) w') : op.wp Tryz.prog a w K Q :=
  wp_store_mid 36 x y ho b 0 (sva q r) hx hy (by rw [sva_size hr]; exact ht) (info_sva hr) (one_sva q r)
    (h _ (Sup.stored ht hr) (Keep.setCells (F := fun k => k = b) (Keep.refl _ _) (.inl rfl) 0 _))
def zsup : Array Value := sva 0 U.none27
theorem Tryz.zeroZ36 : (Tryz.prog.info? 36).map (fun i => (i.zero, i.size)) = some (some (.agg zsup), 28) := by kernel_rfl
theorem zsup_size : zsup.size = 28 := rfl
set_option maxHeartbeats 3200000 in
theorem nextsuper_core (w : World) (p q B : Nat) (lv : Value) (r : List Nat) (b0 : List Value) (rt : List Nat) (pf pd mb e : Nat) (o : Bool) (dv : Value) (C : Pgc w p dv q r lv b0 (scs rt pf pd mb) e o) (hr : rt.length = 24) (hB : r.getD 0 0 = B)
    (A1 A2 : Option Addr) (n1 c1 n2 c2 : Nat) (h2 : n2 < 4294967296) (pages : List Int) (hN : Nums w (.slice A1 n1 c1) pages) (x : Nat) (hx : (pages.getD 0 0) = (x : Int)) :
    Calls Tryz.prog 121 #[.pointer (some ⟨p, 0, none⟩), .agg #[.slice A1 n1 c1, .slice A2 n2 c2]] w fun e w' => e = .returned (.agg (sva ((q + 1) % 18446744073709551616) (B :: x :: n2 :: rt))) ∧ Below w.heap.size w w' := by
  have hz := (zero_of_info Tryz.zeroZ36).1
  have hzs := Lib.hid zsup_size
  have HN := Lib.hid hN
  have hnl : Hid (pages.length = n1) := (hN.len).1
  have HB0 : Hid (∀ Z : Array Value, Below w.heap.size w ((w.alloc (.cells #[.slice A1 n1 c1, .slice A2 n2 c2] 121)).alloc (.cells Z 36))) := fun Z => bal (alb _) _
  have HT : Hid (∀ Z : Array Value, Z.size = 28 → ((w.alloc (.cells #[.slice A1 n1 c1, .slice A2 n2 c2] 121)).alloc (.cells Z 36)).there (w.heap.size + 1) 0 28) := fun Z hZ => by
    have := there_newN (w.alloc (.cells #[.slice A1 n1 c1, .slice A2 n2 c2] 121)) Z 36 28 hZ
    rwa [show (w.alloc (.cells #[.slice A1 n1 c1, .slice A2 n2 c2] 121)).heap.size = w.heap.size + 1 by simp] at this
  have HL : Hid (∀ Z : Array Value, ((w.alloc (.cells #[.slice A1 n1 c1, .slice A2 n2 c2] 121)).alloc (.cells Z 36)).rangeAt w.heap.size 0 [.slice A1 n1 c1, .slice A2 n2 c2]) := fun Z => World.rangeAt_alloc (two_new w _ _) _
  have hsz0 : Hid (∀ Z : Array Value, ((w.alloc (.cells #[.slice A1 n1 c1, .slice A2 n2 c2] 121)).alloc (.cells Z 36)).heap.size = w.heap.size + 2) := fun Z => by simp
  have HC := Lib.hid C
  have HR := Lib.hid hr
  have hw1 : IntKind.u64.wrap ((q : Int) + 1) = (((q + 1) % 18446744073709551616 : Nat) : Int) := by rw [IntKind.wrap_u64]; omega
  have hw2 : IntKind.u32.wrap (n2 : Int) = (n2 : Int) := by rw [IntKind.wrap_u32]; omega
  have HBB := Lib.hid hB
  have HX := Lib.hid hx
  generalize (q + 1) % 18446744073709551616 = q1 at *
  clear C hr hB hN hx h2
  generalize zsup = Z at *
  go_enter Tryz.func121, Tryz.ntmps121
  go_wp2_with fail
  have HBz := Lib.hid (HB0.out Z)
  have HTz := Lib.hid (HT.out Z hzs.out)
  have HLz := Lib.hid (HL.out Z)
  have hszz := Lib.hid (hsz0.out Z)
  clear HB0 HT HL hsz0
  generalize (w.alloc (.cells #[.slice A1 n1 c1, .slice A2 n2 c2] 121)).alloc (.cells Z 36) = w0 at *
  have HC0 := Lib.hid (HC.out.below HBz.out)
  have Cq := Lib.hid HC0.out.cq
  have CB := Lib.hid (HC0.out.cr 0 (by omega))
  rw [HBB.out] at CB
  have CL1 := Lib.hid (HLz.out 1 _ rfl)
  have CL0 := Lib.hid (HLz.out 0 _ rfl)
  have hS : Hid (Below w0.heap.size w0 w0.drew) := (Below.refl _ _).drew
  refine lz_start 23 22 (fun W => Below w0.heap.size w0 W) rfl (by kernel_rfl) ?_
  refine lr_take 0 6 (v := ?_) rfl rfl (by kernel_rfl) (by kernel_rfl) (by kernel_rfl) (by kernel_rfl) (by kernel_rfl) (fun _ _ _ _ _ h => h) (by rfl) hS.out (fun W hW => ?_) ?_
  rotate_left
  · go_simp; try rfl
  try simp only [Act.put, List.setIfInBounds_toArray, List.set_cons_zero, List.set_cons_succ]
  refine lr_take 1 7 (v := ?_) rfl rfl (by kernel_rfl) (by kernel_rfl) (by kernel_rfl) (by kernel_rfl) (by kernel_rfl) (fun _ _ _ _ _ h => h) (by rfl) hS.out (fun W hW => ?_) ?_
  rotate_left
  · go_simp; try rfl
  try simp only [Act.put, List.setIfInBounds_toArray, List.set_cons_zero, List.set_cons_succ]
  refine lr_take 2 8 (v := ?_) rfl rfl (by kernel_rfl) (by kernel_rfl) (by kernel_rfl) (by kernel_rfl) (by kernel_rfl) (fun _ _ _ _ _ h => h) (by rfl) hS.out (fun W hW => ?_) ?_
  rotate_left
  · go_simp; try rfl
  try simp only [Act.put, List.setIfInBounds_toArray, List.set_cons_zero, List.set_cons_succ]
  refine lr_take 3 9 (v := ?_) rfl rfl (by kernel_rfl) (by kernel_rfl) (by kernel_rfl) (by kernel_rfl) (by kernel_rfl) (fun _ _ _ _ _ h => h) (by rfl) hS.out (fun W hW => ?_) ?_
  rotate_left
  · go_simp; try rfl
  try simp only [Act.put, List.setIfInBounds_toArray, List.set_cons_zero, List.set_cons_succ]
  refine lr_take 4 10 (v := ?_) rfl rfl (by kernel_rfl) (by kernel_rfl) (by kernel_rfl) (by kernel_rfl) (by kernel_rfl) (fun _ _ _ _ _ h => h) (by rfl) hS.out (fun W hW => ?_) ?_
  rotate_left
  · have q := kept Cq.out hW; go_simp; try rfl
  try simp only [Act.put, List.setIfInBounds_toArray, List.set_cons_zero, List.set_cons_succ]
  refine lr_take 5 11 (v := ?_) rfl rfl (by kernel_rfl) (by kernel_rfl) (by kernel_rfl) (by kernel_rfl) (by kernel_rfl) (fun _ _ _ _ _ h => h) (by rfl) hS.out (fun W hW => ?_) ?_
  rotate_left
  · go_simp; try rfl
  try simp only [Act.put, List.setIfInBounds_toArray, List.set_cons_zero, List.set_cons_succ]
  refine lr_take 6 12 (v := ?_) rfl rfl (by kernel_rfl) (by kernel_rfl) (by kernel_rfl) (by kernel_rfl) (by kernel_rfl) (fun _ _ _ _ _ h => h) (by rfl) hS.out (fun W hW => ?_) ?_
  rotate_left
  · go_simp; try rfl
  try simp only [Act.put, List.setIfInBounds_toArray, List.set_cons_zero, List.set_cons_succ]
  refine lr_take 7 13 (v := ?_) rfl rfl (by kernel_rfl) (by kernel_rfl) (by kernel_rfl) (by kernel_rfl) (by kernel_rfl) (fun _ _ _ _ _ h => h) (by rfl) hS.out (fun W hW => ?_) ?_
  rotate_left
  · go_simp; try rfl
  try simp only [Act.put, List.setIfInBounds_toArray, List.set_cons_zero, List.set_cons_succ]
  refine lr_take 8 14 (v := ?_) rfl rfl (by kernel_rfl) (by kernel_rfl) (by kernel_rfl) (by kernel_rfl) (by kernel_rfl) (fun _ _ _ _ _ h => h) (by rfl) hS.out (fun W hW => ?_) ?_
  rotate_left
  · go_simp; try rfl
  try simp only [Act.put, List.setIfInBounds_toArray, List.set_cons_zero, List.set_cons_succ]
  refine lr_take 9 15 (v := ?_) rfl rfl (by kernel_rfl) (by kernel_rfl) (by kernel_rfl) (by kernel_rfl) (by kernel_rfl) (fun _ _ _ _ _ h => h) (by rfl) hS.out (fun W hW => ?_) ?_
  rotate_left
  · go_simp; try rfl
  try simp only [Act.put, List.setIfInBounds_toArray, List.set_cons_zero, List.set_cons_succ]
  refine lr_take 10 16 (v := ?_) rfl rfl (by kernel_rfl) (by kernel_rfl) (by kernel_rfl) (by kernel_rfl) (by kernel_rfl) (fun _ _ _ _ _ h => h) (by rfl) hS.out (fun W hW => ?_) ?_
  rotate_left
  · have q := kept CB.out hW; go_simp; try rfl
  try simp only [Act.put, List.setIfInBounds_toArray, List.set_cons_zero, List.set_cons_succ]
  refine lr_take 11 17 (v := ?_) rfl rfl (by kernel_rfl) (by kernel_rfl) (by kernel_rfl) (by kernel_rfl) (by kernel_rfl) (fun _ _ _ _ _ h => h) (by rfl) hS.out (fun W hW => ?_) ?_
  rotate_left
  · go_simp; try rfl
  try simp only [Act.put, List.setIfInBounds_toArray, List.set_cons_zero, List.set_cons_succ]
  refine lr_take 12 18 (v := ?_) rfl rfl (by kernel_rfl) (by kernel_rfl) (by kernel_rfl) (by kernel_rfl) (by kernel_rfl) (fun _ _ _ _ _ h => h) (by rfl) hS.out (fun W hW => ?_) ?_
  rotate_left
  · have q := kept CL1.out hW; go_simp; try rfl
  try simp only [Act.put, List.setIfInBounds_toArray, List.set_cons_zero, List.set_cons_succ]
  refine lr_take 13 19 (v := ?_) rfl rfl (by kernel_rfl) (by kernel_rfl) (by kernel_rfl) (by kernel_rfl) (by kernel_rfl) (fun _ _ _ _ _ h => h) (by rfl) hS.out (fun W hW => ?_) ?_
  rotate_left
  · go_simp; try rfl
  try simp only [Act.put, List.setIfInBounds_toArray, List.set_cons_zero, List.set_cons_succ]
  refine lr_take 14 20 (v := ?_) rfl rfl (by kernel_rfl) (by kernel_rfl) (by kernel_rfl) (by kernel_rfl) (by kernel_rfl) (fun _ _ _ _ _ h => h) (by rfl) hS.out (fun W hW => ?_) ?_
  rotate_left
  · go_simp; try rfl
  try simp only [Act.put, List.setIfInBounds_toArray, List.set_cons_zero, List.set_cons_succ]
  refine lr_take 15 21 (v := ?_) rfl rfl (by kernel_rfl) (by kernel_rfl) (by kernel_rfl) (by kernel_rfl) (by kernel_rfl) (fun _ _ _ _ _ h => h) (by rfl) hS.out (fun W hW => ?_) ?_
  rotate_left
  · go_simp; try rfl
  try simp only [Act.put, List.setIfInBounds_toArray, List.set_cons_zero, List.set_cons_succ]
  refine lr_take 16 22 (v := ?_) rfl rfl (by kernel_rfl) (by kernel_rfl) (by kernel_rfl) (by kernel_rfl) (by kernel_rfl) (fun _ _ _ _ _ h => h) (by rfl) hS.out (fun W hW => ?_) ?_
  rotate_left
  · go_simp; try rfl
  try simp only [Act.put, List.setIfInBounds_toArray, List.set_cons_zero, List.set_cons_succ]
  refine lr_take 17 23 (v := ?_) rfl rfl (by kernel_rfl) (by kernel_rfl) (by kernel_rfl) (by kernel_rfl) (by kernel_rfl) (fun _ _ _ _ _ h => h) (by rfl) hS.out (fun W hW => ?_) ?_
  rotate_left
  · go_simp; try rfl
  try simp only [Act.put, List.setIfInBounds_toArray, List.set_cons_zero, List.set_cons_succ]
  refine lr_take 18 24 (v := ?_) rfl rfl (by kernel_rfl) (by kernel_rfl) (by kernel_rfl) (by kernel_rfl) (by kernel_rfl) (fun _ _ _ _ _ h => h) (by rfl) hS.out (fun W hW => ?_) ?_
  rotate_left
  · go_simp; try rfl
  try simp only [Act.put, List.setIfInBounds_toArray, List.set_cons_zero, List.set_cons_succ]
  refine lr_take 19 25 (v := ?_) rfl rfl (by kernel_rfl) (by kernel_rfl) (by kernel_rfl) (by kernel_rfl) (by kernel_rfl) (fun _ _ _ _ _ h => h) (by rfl) hS.out (fun W hW => ?_) ?_
  rotate_left
  · refine run_load_mid 34 (.tmp 24) ?_ p 57 ?_ (rcs rt) _ (scs_roots (HC0.out.below hW).rn) Tryz.underlying34 rfl (info_rcs HR.out) <;> rfl
  try simp only [Act.put, List.setIfInBounds_toArray, List.set_cons_zero, List.set_cons_succ]
  refine lr_take 20 26 (v := ?_) rfl rfl (by kernel_rfl) (by kernel_rfl) (by kernel_rfl) (by kernel_rfl) (by kernel_rfl) (fun _ _ _ _ _ h => h) (by rfl) hS.out (fun W hW => ?_) ?_
  rotate_left
  · refine run_op_build_super (.tmp 11) (.tmp 16) (.tmp 20) (.tmp 25) ?_ q1 B n2 rt HR.out ?_ ?_ ?_ ?_ <;> rfl
  try simp only [Act.put, List.setIfInBounds_toArray, List.set_cons_zero, List.set_cons_succ]
  generalize w0.drew = u at *
  refine lz_op 21 rfl rfl (by kernel_rfl) (fun K hK => ?_)
  go_simp
  have hS2 : Hid (Below w0.heap.size w0 (u.alloc (.cells Z 36))) := btr hS.out (alb _)
  have HTu : Hid ((u.alloc (.cells Z 36)).there u.heap.size 0 28) := there_newN u Z _ 28 hzs.out
  refine hK.out _ _ hS2.out ?_
  have HUS : Hid (w0.heap.size ≤ u.heap.size) := hS.out.size
  clear hK K hS
  have hS := hS2
  have HUL : Hid (u.heap.size < (u.alloc (.cells Z 36)).heap.size) := by
    show _ < _
    simp
  generalize u.alloc (.cells Z 36) = w1 at *
  generalize u.heap.size = b5 at *
  try simp only [Act.put, List.setIfInBounds_toArray, List.set_cons_zero, List.set_cons_succ]
  have hr27 : (B :: 0 :: n2 :: rt).length = 27 := by simp [HR.out]
  refine lz_end rfl rfl (by kernel_rfl) (by kernel_rfl) (fun K hK => ?_)
  refine pstore_sup (.tmp 5) (.tmp 26) rfl b5 q1 (B :: 0 :: n2 :: rt) rfl rfl hr27 HTu.out ?_
  intro w2 HS2 k2
  refine hK.out _ _ ?_
  have n5 : Hid (¬ w.heap.size = b5 ∧ ¬ w.heap.size + 1 = b5) := ⟨by have := HUS.out; have := hszz.out; omega, by have := HUS.out; have := hszz.out; omega⟩
  have c0 := k2.cell (kept CL0.out hS.out) n5.out.1
  have HT2 : Hid (w2.there (w.heap.size + 1) 0 28) := there_keep (there_keep (F := fun _ => False) HTz.out (Keep.of_below hS.out) (fun h => h)) k2 n5.out.2
  have HB2 : Hid (Below w.heap.size w w2) := (btr HBz.out hS.out).trans (k2.below (by have := HBz.out.size; have := hS.out.size; omega) (fun k hk => by subst hk; have := HUS.out; have := HBz.out.size; omega))
  have HN2 : Hid (Nums w2 (.slice A1 n1 c1) pages) := HN.out.below HB2.out
  clear hK K k2 HTu hS
  by_cases h0 : n1 = 0
  · subst h0
    have hx0 : x = 0 := by
      have h1 := HX.out
      rw [List.eq_nil_of_length_eq_zero hnl.out] at h1
      simp at h1
      omega
    subst hx0
    go_wp2_with (first
      | (refine wpList_load_sup rfl (.tmp 5) rfl b5 q1 (B :: 0 :: n2 :: rt) rfl HS2.out ?_)
      | (refine wpList_store_sup rfl (.tmp 4) (.tmp 36) rfl (w.heap.size + 1) q1 (B :: 0 :: n2 :: rt) rfl rfl hr27 HT2.out ?_))
    intro w3 HS3 k3
    go_wp2
    exact bodyPost_ret (results_sup1 rfl _ _ (w.heap.size + 1) q1 _ rfl HS3.out) rfl ⟨rfl, HB2.out.trans (k3.below HB2.out.size (fun k hk => by subst hk; omega))⟩
  · have hlt : (0 : Int) < (n1 : Int) := by omega
    obtain ⟨A', c', e1, _, _, q⟩ := HN2.out
    simp only [Value.slice.injEq] at e1
    obtain ⟨rfl, _, rfl⟩ := e1
    obtain ⟨bb, off, rfl, hcell⟩ := q (by have := hnl.out; omega)
    have cx := hcell 0 (by have := hnl.out; omega)
    have ex : pages[0]! = (x : Int) := by
      rw [← HX.out]
      cases hp : pages with
      | nil => have h1 := hnl.out; rw [hp] at h1; simp at h1; omega
      | cons y r => simp
    rw [ex, Nat.add_zero] at cx
    have c2 := HS2.out.cell 1 (by omega)
    have f2 := HS2.out.frozen 2 (by omega)
    have HS3 : Hid (Sup (w2.setCell ⟨b5, 2, none⟩ (.int .u32 ((x : Nat) : Int))) b5 q1 (B :: x :: n2 :: rt)) := HS2.out.set 1 x (by omega)
    have k3 : Keep (fun k => k = b5) w2 (w2.setCell ⟨b5, 2, none⟩ (.int .u32 ((x : Nat) : Int))) := Keep.setCell (F := fun k => k = b5) (p := ⟨b5, 2, none⟩) (Keep.refl _ _) (.inl rfl) _
    have HT3 : Hid ((w2.setCell ⟨b5, 2, none⟩ (.int .u32 ((x : Nat) : Int))).there (w.heap.size + 1) 0 28) := there_keep HT2.out k3 n5.out.2
    have HB3 : Hid (Below w.heap.size w (w2.setCell ⟨b5, 2, none⟩ (.int .u32 ((x : Nat) : Int)))) := HB2.out.trans (k3.below HB2.out.size (fun k hk => by subst hk; have := HUS.out; have := HBz.out.size; omega))
    have hr27 : (B :: x :: n2 :: rt).length = 27 := by simp [HR.out]
    clear k3 hcell q
    go_wp2_with (first
      | (refine wpList_load_sup rfl (.tmp 5) rfl b5 q1 (B :: x :: n2 :: rt) rfl HS3.out ?_)
      | (refine wpList_store_sup rfl (.tmp 4) (.tmp 36) rfl (w.heap.size + 1) q1 (B :: x :: n2 :: rt) rfl rfl hr27 HT3.out ?_))
    intro w4 HS4 k4
    go_wp2
    exact bodyPost_ret (results_sup1 rfl _ _ (w.heap.size + 1) q1 _ rfl HS4.out) rfl ⟨rfl, HB3.out.trans (k4.below HB3.out.size (fun k hk => by subst hk; omega))⟩
end Go.Proofs.YtlcnefeikejcaaaGreatDoor
