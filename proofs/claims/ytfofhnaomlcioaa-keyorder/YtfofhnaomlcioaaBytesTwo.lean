/- Bytes of wide numbers, second part: the document's own Read and Bytes. -/
import Derived.Test.YtfofhnaomlcioaaBytes
namespace Go.Proofs.Ytfofhnaomlcioaa
open Go.RowKit
open W (hi lo addN addB subN subB cmpN dig MM rowOf byTo val rdTo rowsTo)

theorem Try.info5 : (Try.prog.info? 5).map (fun i => (i.zero, i.size, i.bytes)) = some (some (.int .u8 0), 1, 1) := by kernel_rfl

theorem refread_no (s : ByteArray) (hn : s.size ≠ 16) (w : World) :
    Calls Try.prog 36 #[.string s] w fun e w' => e = .returned (.tuple #[.agg #[.int .u64 0, .int .u64 0], .bool false]) ∧ Below w.heap.size w w' := by
  have hne : ((s.size : Int) != 16) = true := by rw [bne_iff_ne]; omega
  clear hn
  go_enter Try.func36, Try.ntmps36
  go_wp2
  exact bodyPost_ret (v := .tuple #[.agg #[.int .u64 0, .int .u64 0], .bool false]) (by simp [results, Try.results36, go_sem]) rfl ⟨rfl, by
    repeat (first | exact Below.refl _ _ | apply bal)⟩

set_option maxHeartbeats 800000 in
theorem refread_any (s : ByteArray) (f : Nat → Nat) (hs : s.size = 16) (hb : ∀ k (h : k < s.size), (s[k]).toNat = f k) (hf : ∀ j, f j < 256) (w : World) :
    Calls Try.prog 36 #[.string s] w fun e w' =>
      e = .returned (.tuple #[.agg #[.int .u64 (hi (val f 16) : Nat), .int .u64 (lo (val f 16) : Nat)], .bool true]) ∧ Below w.heap.size w w' := by
  have hmk := run_make16
  have hne : ((s.size : Int) != 16) = false := by rw [hs]; rfl
  have HS := Lib.hid hs; clear hs
  have HB := Lib.hid hb; clear hb
  have HF := Lib.hid hf; clear hf
  go_enter Try.func36, Try.ntmps36
  go_wp2
  go_loopw [5] (fun i wr => ∃ k : Nat, k ≤ 16 ∧ i = .int .i64 (k : Int) ∧ Row wr (w.heap.size + 1) (rdTo f k) ∧
      wr.cell? ⟨w.heap.size, 0, none⟩ = some (.int .u64 0) ∧ wr.cell? ⟨w.heap.size, 1, none⟩ = some (.int .u64 0) ∧ wr.frozen? ⟨w.heap.size, 0, none⟩ = false ∧ wr.frozen? ⟨w.heap.size, 1, none⟩ = false ∧ Below w.heap.size w wr)
    (fun i _ => 16 - (intOf i).toNat)
  case atStart =>
    refine ⟨0, by omega, rfl, ?_, by simp [go_sem], by simp [go_sem], by simp [go_sem], by simp [go_sem], by repeat (first | exact Below.refl _ _ | apply bal)⟩
    have h := Row.made (w.alloc (.cells #[.int .u64 0, .int .u64 0] 35))
    simp only [World.size_alloc] at h
    exact h.congr fun j _ => W.rdTo_zero f j
  case round =>
    obtain ⟨k, hk, rfl, hx, d0, d1, g0, g1, hB⟩ := hrel
    by_cases hlt : k < 16
    · have c1 := (hx k (by omega)).1
      have f1 := (hx k (by omega)).2
      have hlen : k < s.size := by rw [HS.out]; exact hlt
      have hrow' := Lib.hid ((hx.set k ((f k : Nat) : Int)).congr fun j _ => W.rdTo_step f k j)
      have HV := Lib.hid (HB.out k hlen)
      clear hx
      go_wp2
      go_roundw
      case rel =>
        have e : wrap64 ((s[k]).toNat : Int) = ((f k : Nat) : Int) := by
          have h := HF.out k
          rw [HV.out]
          exact IntWalk.wrap64_in _ ⟨by omega, by omega⟩
        have hz : w.heap.size + 1 ≠ w.heap.size := by omega
        rw [e]
        exact ⟨k + 1, by omega, by go_num, hrow'.out, cfar hz d0, cfar hz d1, fzs g0, fzs g1, hB.setCell (by simp) _⟩
      case measure => simp [intOf]; omega
    · have hk8 : k = 16 := by omega
      subst hk8
      have hR : Hid (Row wr (w.heap.size + 1) (rowOf (val f 16))) := hx.congr (W.rdTo_all f HF.out)
      have HM := Lib.hid (W.val_max f HF.out)
      clear hx
      go_wp2_with fail
      refine (number_any (val f 16) HM.out _ _ hR.out).mono ?_
      rintro e w2 ⟨rfl, hb2⟩
      have d0' := kept d0 hb2
      have d1' := kept d1 hb2
      have g0' := keptf d0 g0 hb2
      have g1' := keptf d1 g1 hb2
      go_wp2
      exact bodyPost_ret (v := .tuple #[.agg #[.int .u64 (hi (val f 16) : Nat), .int .u64 (lo (val f 16) : Nat)], .bool true]) (by simp [results, Try.results36, go_sem, d0', d1']) rfl ⟨rfl, by
          repeat (first | exact btr hB hb2 | apply bal | (refine Below.setCell ?_ (by simp) _))⟩

/-- The text of a number's sixteen bytes. -/
def txt (n : Nat) : ByteArray := strOfNums (rowsTo n 16)

set_option maxHeartbeats 800000 in
theorem refbytes_any (n : Nat) (hn : n < MM) (w : World) : Calls Try.prog 20 #[.agg #[.int .u64 (hi n : Nat), .int .u64 (lo n : Nat)]] w fun e w' => e = .returned (.string (txt n)) ∧ Below w.heap.size w w' := by
  obtain ⟨i0, hi0, hz0, hz1, hz2⟩ := info_parts Try.info5
  have HN := Lib.hid hn; clear hn
  go_enter Try.func20, Try.ntmps20
  go_wp2_with fail
  refine (digits_any n HN.out _).mono ?_
  rintro e w1 ⟨rfl, hr1, hb1⟩
  simp only [World.size_alloc] at hr1
  have hB : Below w.heap.size w w1 := btr (alb _) hb1
  have hbs := hB.size
  have HR := Lib.hid hr1; clear hr1 hb1
  go_wp2
  go_loopw [4, 5] (fun v i wr => ∃ k : Nat, k ≤ 16 ∧ i = .int .i64 (k : Int) ∧ wr.ownsRow w1.heap.size 5 1 v k ((rowsTo n k).map (Value.int .u8)) ∧ Below w1.heap.size w1 wr)
    (fun _ i _ => 16 - (intOf i).toNat)
  case atStart =>
    refine ⟨0, by omega, rfl, ?_, alb _⟩
    exact World.ownsRow_lit w1 #[] 0 (Nat.le_refl _) (by unfold maxLen; omega) rfl
  case round =>
    obtain ⟨k, hk, rfl, hown, hB1⟩ := hrel
    by_cases hlt : k < 16
    · have c0 := ((HR.out.below hB1) k hlt).1
      have q1 := W.rowOf_bd n k
      have HT := Lib.hid (W.rowsTo_succ n k)
      have hb1 := hB1.size
      generalize rowOf n k = x at *
      go_wp2_with (first
        | (at_builtin; refine wpList_append_own _ rfl _ _ 22 rfl w1.heap.size 5 i0 _ 1 1 Try.underlying22 hi0 hz0 hz1 hz2 rfl (by omega) _ _ _ rfl (hown.alloc _) ⟨wr.heap.size, 0, none⟩ 1 1 [.int .u8 x] rfl rfl ?c1 ?c2 ?c3 ?c4 ?c5 ?_)
        | go_in)
      case c1 =>
        intro j u hj
        match j, hj with
        | 0, hj => simp at hj; subst hj; simp [Addr.add, go_sem]
      case c2 => intro u hu; simp at hu; subst hu; rfl
      case c3 => unfold maxLen; omega
      case c4 => omega
      case c5 => simp; omega
      intro v' w2 hown' hgrow _
      have hB' : Below w1.heap.size w1 w2 := (bal hB1 _).grown hgrow (by simp; omega) (fun g hg => (hown.lt g hg).1)
      clear hown hgrow c0
      go_wp2
      go_roundw
      case rel =>
        refine ⟨k + 1, by omega, by go_num, ?_, hB'⟩
        rw [HT.out, List.map_append]
        exact hown'
      case measure => simp [intOf]; omega
    · have hk8 : k = 16 := by omega
      subst hk8
      obtain ⟨g, cap, rfl⟩ : ∃ g cap, u4 = .slice (some ⟨g, 0, none⟩) 16 cap := by
        rcases hown.2 with ⟨_, h0⟩ | ⟨g, cap, cur, e, _⟩
        · omega
        · exact ⟨g, cap, e⟩
      have hcv := run_convert_bytes_arg (P := Try.prog) wr 22 5 Try.underlying22 Try.underlying5 g 0 16 cap (rowsTo n 16) (W.rowsTo_length n 16) (fun i hi => by
        rw [Nat.zero_add, hown.cellAt i (by omega)]
        have hl : i < (rowsTo n 16).length := by rw [W.rowsTo_length]; exact hi
        simp [List.getD, hl]) 9 Try.underlying9
      have HT : Hid (txt n = strOfNums (rowsTo n 16)) := rfl
      clear hown
      go_wp2
      go_ret
      exact ⟨by rw [HT.out]; rfl, btr hB hB1⟩
end Go.Proofs.Ytfofhnaomlcioaa
