/- digits.Text and digits.Short: a number's text. -/
import Derived.Test.YtehcmgaonpfafaaRev
import Derived.Laws.BytesArg
import Derived.Deep.LoopGhost
namespace Go.Proofs.Ytehcmgaonpfafaa
open Go.RowKit
open W (hi lo addN addB dig MM M txL Off ch)

theorem Try.info5 : (Try.prog.info? 5).map (fun i => (i.zero, i.size, i.bytes)) = some (some (.int .u8 0), 1, 1) := by kernel_rfl

/-- A text as the program has it. -/
def str (l : List UInt8) : ByteArray := ⟨l.toArray⟩
theorem str_size (l : List UInt8) : (str l).size = l.length := rfl
theorem str_list (l : List UInt8) : (str l).data.toList = l := by simp [str]
theorem strOfNums_bytes (l : List UInt8) : strOfNums (l.map fun c => ((c.toNat : Nat) : Int)) = str l := by
  unfold strOfNums str
  simp only [List.map_map]
  congr 2
  rw [List.map_congr_left (g := id) (fun c _ => by simp)]
  simp
/-- What the call owns stays its own, whatever blocks are laid behind. -/
theorem own_below {B : Nat} {e : TypeId} {k : Nat} {v : Value} {n : Nat} {xs : List Value} {w w' : World} (h : w.ownsRow B e k v n xs) (hb : Below w.heap.size w w') : w'.ownsRow B e k v n xs := by
  refine ⟨h.1, ?_⟩
  rcases h.2 with h0 | ⟨g, cap, cur, hv, hg, hh, r⟩
  · exact Or.inl h0
  · have lt := (h.lt g (by rw [hv]; rfl)).2
    exact Or.inr ⟨g, cap, cur, hv, hg, by rw [hb.block g lt]; exact hh, r⟩
theorem bvs_map (l : List UInt8) : bvs l = (l.map fun c => ((c.toNat : Nat) : Int)).map (Value.int .u8) := by simp [bvs]

set_option maxHeartbeats 800000 in
theorem text_any (n : Nat) (hn : n < MM) (w : World) : Calls Try.prog 7 #[.agg #[.int .u64 (hi n : Nat), .int .u64 (lo n : Nat)]] w fun e w' => e = .returned (.string (str (txL n))) ∧ Below w.heap.size w w' := by
  obtain ⟨i0, hi0, hz0, hz1, hz2⟩ := info_parts Try.info5
  have HN := Lib.hid hn; clear hn
  go_enter Try.func7, Try.ntmps7
  go_wp2_with fail
  refine (digitsOf_any n _).mono ?_
  rintro e w1 ⟨rfl, hw1⟩
  have hB0 : Below w.heap.size w w1 := by rw [← hw1]; exact bal (alb _) _
  have hs1 : w1.heap.size = w.heap.size + 2 := by rw [← hw1]; simp
  have s0 : w1.cell? ⟨w.heap.size + 1, 0, none⟩ = some (.int .u64 (hi n : Nat)) := by rw [← hw1]; simp [go_sem]
  have s1 : w1.cell? ⟨w.heap.size + 1, 1, none⟩ = some (.int .u64 (lo n : Nat)) := by rw [← hw1]; simp [go_sem]
  have s2 : w1.frozen? ⟨w.heap.size + 1, 0, none⟩ = false := by rw [← hw1]; simp [go_sem]
  have s3 : w1.frozen? ⟨w.heap.size + 1, 1, none⟩ = false := by rw [← hw1]; simp [go_sem]
  clear hw1
  have HS := Lib.hid hs1; clear hs1
  go_wp2
  go_loopg [4, 5] 40 (fun k v t wr => ∃ (m : Nat) (l : List UInt8) (g : Bool), Off n m l ∧ m < MM ∧ k + l.length = 40 ∧ t = .bool g ∧ (g = true → m ≠ 0 ∨ l = []) ∧ (g = false → m = 0 ∧ l ≠ []) ∧
      wr.ownsRow w1.heap.size 5 1 v l.length (bvs l) ∧ wr.cell? ⟨w.heap.size + 1, 0, none⟩ = some (.int .u64 (hi m : Nat)) ∧ wr.cell? ⟨w.heap.size + 1, 1, none⟩ = some (.int .u64 (lo m : Nat)) ∧
      wr.frozen? ⟨w.heap.size + 1, 0, none⟩ = false ∧ wr.frozen? ⟨w.heap.size + 1, 1, none⟩ = false ∧ Below w.heap.size w wr ∧ w1.heap.size ≤ wr.heap.size)
  case atStart => exact ⟨n, [], true, W.off_start n, HN.out, rfl, rfl, fun _ => Or.inr rfl, fun h => (by cases h), World.ownsRow_nil _ _ _ _, s0, s1, s2, s3, hB0, Nat.le_refl _⟩
  case round =>
    clear s0 s1 s2 s3
    obtain ⟨m, l, t, hoff, hm, hk, rfl, ht, hf, hown, c0, c1, f0, f1, hB, hz⟩ := hrel
    cases t with
    | true =>
      have HO := Lib.hid (W.off_step hoff (ht rfl))
      have HL := Lib.hid (W.off_len HO.out HN.out)
      have HK := Lib.hid hk
      clear hoff ht hf hk
      go_wp2_with fail
      refine (next_any _ m hm _ c0 c1 f0 f1).mono ?_
      rintro e w2 ⟨u, nn, hBu, hw2, rfl⟩
      have hs := HS.out
      have d01 := two_set (x0 := .int .u64 (hi (m / 10) : Nat)) (x1 := .int .u64 (lo (m / 10) : Nat)) (kept c0 hBu) (kept c1 hBu)
      have d0 : w2.cell? ⟨w.heap.size + 1, 0, none⟩ = some (.int .u64 (hi (m / 10) : Nat)) := by rw [hw2]; exact d01.1
      have d1 : w2.cell? ⟨w.heap.size + 1, 1, none⟩ = some (.int .u64 (lo (m / 10) : Nat)) := by rw [hw2]; exact d01.2
      have g0 : w2.frozen? ⟨w.heap.size + 1, 0, none⟩ = false := by rw [hw2]; exact fzs (fzs (keptf c0 f0 hBu))
      have g1 : w2.frozen? ⟨w.heap.size + 1, 1, none⟩ = false := by rw [hw2]; exact fzs (fzs (keptf c1 f1 hBu))
      have own2 : w2.ownsRow w1.heap.size 5 1 u4 l.length (bvs l) := by
        rw [hw2]
        exact ownsRow_setCell_below (ownsRow_setCell_below (own_below hown hBu) (by simp; omega) _) (by simp; omega) _
      have hB2 : Below w.heap.size w w2 := by
        rw [hw2]
        exact bdn (((btr hB hBu).setCell (by simp) _).setCell (by simp) _) _
      have hz2' : w1.heap.size ≤ w2.heap.size := by rw [hw2]; have := hBu.size; simp; omega
      clear hw2 d01 hBu c0 c1 f0 f1 hown hB hz u hs
      have hl : l.length ≤ 39 := by have := HL.out; simp at this; omega
      have hd : m % 10 < 10 := by omega
      have HC := Lib.hid (show ((48 + m % 10 : Nat) : Int) = (((ch (m % 10)).toNat : Nat) : Int) by rw [W.ch_nat _ hd])
      rw [HC.out]
      have HM : Hid (m / 10 < MM) := Nat.lt_of_le_of_lt (Nat.div_le_self _ _) hm
      generalize ch (m % 10) = c at *
      generalize m / 10 = q at *
      clear HC hd
      have e0 : ∃ t, t = decide (q ≠ 0) := ⟨_, rfl⟩
      obtain ⟨t, ht⟩ := e0
      rw [← ht]
      have HT := Lib.hid ht; clear ht
      go_wp2_with (first
        | (at_builtin; refine wpList_append_own _ rfl _ _ 43 rfl w1.heap.size 5 i0 _ 1 1 Try.underlying43 hi0 hz0 hz1 hz2 rfl (by omega) _ _ _ rfl (own2.alloc _) ⟨w2.heap.size, 0, none⟩ 1 1 [.int .u8 ((c.toNat : Nat) : Int)] rfl rfl ?c1 ?c2 ?c3 ?c4 ?c5 ?_)
        | go_in)
      case c1 =>
        intro j u hj
        match j, hj with
        | 0, hj => simp at hj; subst hj; simp [Addr.add, go_sem]
      case c2 => intro u hu; simp at hu; subst hu; rfl
      case c3 => unfold maxLen; omega
      case c4 => omega
      case c5 => simp; omega
      intro v' w3 hown' hgrow _
      have hB3 : Below w.heap.size w w3 := (bal hB2 _).grown hgrow (by have := hB2.size; simp; omega) (fun g hg => Nat.le_trans (by have := HS.out; omega) (own2.lt g hg).1)
      have hBb : Below w1.heap.size w2 w3 := ((Below.refl _ _).alloc hz2' _).grown hgrow (by simp; omega) (fun g hg => (own2.lt g hg).1)
      have hlt : w.heap.size + 1 < w1.heap.size := by have := HS.out; omega
      have k0 := hBb.cell (p := ⟨w.heap.size + 1, 0, none⟩) hlt
      have k1 := hBb.cell (p := ⟨w.heap.size + 1, 1, none⟩) hlt
      have k2 := hBb.frozen (p := ⟨w.heap.size + 1, 0, none⟩) hlt
      have k3 := hBb.frozen (p := ⟨w.heap.size + 1, 1, none⟩) hlt
      rw [d0] at k0
      rw [d1] at k1
      rw [g0] at k2
      rw [g1] at k3
      have hz3 : w1.heap.size ≤ w3.heap.size := Nat.le_trans hz2' hBb.size
      clear hgrow d0 d1 g0 g1 own2 hBb hlt
      go_wp2
      go_roundg (39 - l.length)
      case measure => have := HK.out; omega
      case rel =>
        refine ⟨q, l ++ [c], t, HO.out, HM.out, by have := HK.out; simp; omega, rfl, fun h => ?_, fun h => ?_, ?_, k0, k1, k2, k3, hB3, hz3⟩
        · rw [HT.out] at h; exact Or.inl (of_decide_eq_true h)
        · rw [HT.out] at h; simp at h; exact ⟨h, by simp⟩
        · rw [bvs_append, List.length_append]; exact hown'
    | false =>
      obtain ⟨h0, hne⟩ := hf rfl
      subst h0
      have HE := Lib.hid (W.off_end hoff hne)
      have hl : l.length ≤ 39 := W.off_len hoff HN.out
      obtain ⟨g, cap, hg, rfl⟩ : ∃ g cap, w1.heap.size ≤ g ∧ u4 = .slice (some ⟨g, 0, none⟩) l.length cap := by
        rcases hown.2 with ⟨_, h0⟩ | ⟨g, cap, cur, e, hg, _⟩
        · exact absurd (List.length_eq_zero_iff.1 h0) hne
        · exact ⟨g, cap, hg, e⟩
      clear hoff ht hf hk hm c0 c1 f0 f1
      have HO := Lib.hid hown; clear hown
      have HNE := Lib.hid hne; clear hne
      go_wp2_with fail
      refine (reverse_any w1.heap.size g cap l _ (by omega) HO.out hg).mono ?_
      rintro e w3 ⟨rfl, hown, hB3⟩
      rw [HE.out] at hown
      have hlen : l.length = (txL n).length := by rw [← HE.out]; simp
      rw [hlen] at hown ⊢
      have hcv := run_convert_bytes_arg (P := Try.prog) w3 43 5 Try.underlying43 Try.underlying5 g 0 (txL n).length cap ((txL n).map fun c => ((c.toNat : Nat) : Int)) (by simp) (fun i hi => by
        rw [Nat.zero_add, hown.cellAt i (by omega), bvs_map]
        simp [List.getD, hi]) 9 Try.underlying9
      rw [strOfNums_bytes] at hcv
      clear hown hlen
      go_wp2
      go_ret
      exact ⟨rfl, hB.trans (hB3.mono (by have := HS.out; omega))⟩
end Go.Proofs.Ytehcmgaonpfafaa
