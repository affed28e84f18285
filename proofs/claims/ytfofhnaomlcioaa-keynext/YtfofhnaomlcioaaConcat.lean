/- slices.Grow and slices.Concat at two rows of bytes. -/
import Derived.Test.YtfofhnaomlcioaaRowb
import Derived.Lib.AppendZeros
namespace Go.Proofs.Ytfofhnaomlcioaa
open Go.RowKit
open W (hi lo dig MM M cmpN)

set_option maxHeartbeats 400000 in
theorem grow_any (n : Nat) (hn : n ≤ 1000000) (w : World) :
    Calls Try.prog 41 #[.slice none 0 0, .int .i64 (n : Int)] w fun e w' => ∃ v', e = .returned v' ∧ w'.ownsRow w.heap.size 5 1 v' 0 [] ∧ Below w.heap.size w w' := by
  obtain ⟨i0, hi0, hz0, hz1, hz2⟩ := info_parts Try.info5
  by_cases h0 : n = 0
  · subst h0
    go_enter Try.func41, Try.ntmps41
    go_wp2
    go_ret
    exact ⟨_, rfl, World.ownsRow_nil _ _ _ _, Below.refl _ _⟩
  · have hpos : 0 < n := by omega
    have hr := Lib.run_append_nil_zeros (P := Try.prog) w 22 3 22 5 i0 _ .i64 .i64 Try.underlying22 Try.underlying3 hi0 hz0 n hpos (by omega) (by omega) (by rw [hz2]; omega)
    have hge := grownCap_ge w n 0 5
    have hmx := grownCap_le_maxLen w n 0 5 (by unfold maxLen; omega)
    generalize grownCap w n 0 5 = cap at *
    have hcs : (Builtin.zeroCells (Value.int .u8 0).cells n ++ Builtin.zeroCells (Value.int .u8 0).cells (cap - n)).size = cap * 1 := by
      simp [Builtin.zeroCells, Value.cells]
      omega
    generalize Builtin.zeroCells (Value.int .u8 0).cells n ++ Builtin.zeroCells (Value.int .u8 0).cells (cap - n) = cur at *
    have HR := Lib.hid hr; clear hr
    have hcap : ¬ cap = 0 := by omega
    go_enter Try.func41, Try.ntmps41
    go_wp2_with (first
      | (at_builtin; refine Lib.wpList_append_run _ rfl _ _ 22 3 rfl _ _ rfl rfl _ _ HR.out ?_)
      | go_in)
    go_wp2
    go_ret
    refine ⟨_, rfl, World.ownsRow_made (base := w.heap.size) (size := 1) w.drew cur cap (Nat.le_refl _) hmx hcs, ?_⟩
    exact bal ((Below.refl _ _).drew) _

/-- The first k of two rows. -/
def pre (l1 l2 : List UInt8) : Nat → List UInt8
  | 0 => []
  | 1 => l1
  | _ => l1 ++ l2
theorem pre_len (l1 l2 : List UInt8) (k : Nat) : (pre l1 l2 k).length ≤ l1.length + l2.length := by
  match k with
  | 0 => simp [pre]
  | 1 => simp [pre]
  | k + 2 => simp [pre]
/-- Two slices of bytes, of which none is empty, lie in a row. -/
theorem two_at {w : World} {b : Nat} {v1 v2 : Value} {l1 l2 : List UInt8} (h1 : Byts w v1 l1) (h2 : Byts w v2 l2) (n1 : 0 < l1.length) (n2 : 0 < l2.length)
    (c1 : w.cell? ⟨b, 0, none⟩ = some v1) (c2 : w.cell? ⟨b, 1, none⟩ = some v2) (k : Nat) (hk : k < 2) :
    ∃ (l : List UInt8) (g off c : Nat), w.cell? ⟨b, k, none⟩ = some (.slice (some ⟨g, off, none⟩) l.length c) ∧ (∀ j u, (bvs l)[j]? = some u → w.cell? ((⟨g, off, none⟩ : Addr).add j) = some u) ∧ l.length ≤ l1.length + l2.length ∧ pre l1 l2 (k + 1) = pre l1 l2 k ++ l := by
  have e : ∀ (g off j : Nat), (⟨g, off, none⟩ : Addr).add j = ⟨g, off + j, none⟩ := fun g off j => by unfold Addr.add; split <;> simp_all
  obtain ⟨A1, d1, rfl, _, q1⟩ := h1
  obtain ⟨A2, d2, rfl, _, q2⟩ := h2
  obtain ⟨g1, o1, rfl, r1⟩ := q1 n1
  obtain ⟨g2, o2, rfl, r2⟩ := q2 n2
  match k, hk with
  | 0, _ =>
    refine ⟨l1, g1, o1, d1, c1, fun j u hj => ?_, by omega, rfl⟩
    have hjl : j < l1.length := by rw [← bvs_length]; exact (List.getElem?_eq_some_iff.1 hj).1
    rw [bvs_get l1 j hjl] at hj
    rw [e, ← hj]
    exact r1 j hjl
  | 1, _ =>
    refine ⟨l2, g2, o2, d2, c2, fun j u hj => ?_, by omega, rfl⟩
    have hjl : j < l2.length := by rw [← bvs_length]; exact (List.getElem?_eq_some_iff.1 hj).1
    rw [bvs_get l2 j hjl] at hj
    rw [e, ← hj]
    exact r2 j hjl

set_option maxHeartbeats 800000 in
theorem concat_any (b c : Nat) (v1 v2 : Value) (l1 l2 : List UInt8) (w : World) (h1 : Byts w v1 l1) (h2 : Byts w v2 l2) (n1 : 0 < l1.length) (n2 : 0 < l2.length) (hs : l1.length + l2.length ≤ 1000)
    (c1 : w.cell? ⟨b, 0, none⟩ = some v1) (c2 : w.cell? ⟨b, 1, none⟩ = some v2) :
    Calls Try.prog 38 #[.slice (some ⟨b, 0, none⟩) 2 c] w fun e w' => ∃ v', e = .returned v' ∧ Byts w' v' (l1 ++ l2) ∧ Below w.heap.size w w' := by
  obtain ⟨i0, hi0, hz0, hz1, hz2⟩ := info_parts Try.info5
  have HT := Lib.hid (two_at h1 h2 n1 n2 c1 c2)
  have HL := Lib.hid (pre_len l1 l2)
  clear h1 h2 n1 n2 c1 c2
  have e0 : pre l1 l2 0 = [] := rfl
  have e2 : pre l1 l2 2 = l1 ++ l2 := rfl
  have E0 := Lib.hid e0
  have E2 := Lib.hid e2
  clear e0 e2
  rw [← E2.out]
  have hs2 := Lib.hid hs
  generalize pre l1 l2 = P at *
  generalize l1.length + l2.length = M at *
  go_enter Try.func38, Try.ntmps38
  go_wp2
  go_loop [3, 11] (fun z i => ∃ k : Nat, k ≤ 2 ∧ i = .int .i64 (k : Int) ∧ z = .int .i64 (((P k).length : Nat) : Int)) (fun _ i => 2 - (intOf i).toNat)
  case atStart => exact ⟨0, by omega, rfl, by rw [E0.out]; rfl⟩
  case round =>
    obtain ⟨k, hk, rfl, rfl⟩ := hrel
    have b1 := HL.out k
    by_cases hlt : k < 2
    · obtain ⟨l, g, off, d, a0, _, hl, hp⟩ := HT.out k hlt
      have HP := Lib.hid hp; clear hp
      generalize hz : (P k).length = z at *
      have HZ := Lib.hid hz
      clear hz
      go_wp2
      go_round
      case rel => exact ⟨k + 1, by omega, by go_num, by rw [HP.out, List.length_append, HZ.out]; go_num⟩
      case measure => simp [intOf]; omega
    · obtain rfl : k = 2 := by omega
      have HG := Lib.hid (grow_any (P 2).length (by omega))
      generalize hz : (P 2).length = z at *
      go_wp2_with fail
      refine (HG.out w).mono ?_
      rintro e w1 ⟨v1, rfl, hown, hB⟩
      clear HG
      go_wp2
      go_loopw [6, 27] (fun v i wr => ∃ k : Nat, k ≤ 2 ∧ i = .int .i64 (k : Int) ∧ wr.ownsRow w.heap.size 5 1 v (P k).length (bvs (P k)) ∧ Below w.heap.size w wr) (fun _ i _ => 2 - (intOf i).toNat)
      case atStart => exact ⟨0, by omega, rfl, by rw [E0.out]; exact hown, hB⟩
      case round =>
        clear hown hB hk
        obtain ⟨k, hk, rfl, hown, hB⟩ := hrel
        by_cases hlt : k < 2
        · obtain ⟨l, g, off, d, a0, hcell, hl, hp⟩ := HT.out k hlt
          have b2 := HL.out k
          have HP := Lib.hid hp; clear hp
          replace a0 := kept a0 hB
          have HC : Hid (∀ j u, (bvs l)[j]? = some u → wr.cell? ((⟨g, off, none⟩ : Addr).add j) = some u) := fun j u hj => kept (hcell j u hj) hB
          clear hcell
          have hbs := hB.size
          have hm := hs2.out
          go_wp2_with (first
            | (at_builtin; refine wpList_append_own _ rfl _ _ 22 rfl w.heap.size 5 i0 _ 1 1 Try.underlying22 hi0 hz0 hz1 hz2 rfl (by omega) _ _ _ rfl hown ⟨g, off, none⟩ l.length d (bvs l) rfl ?c1 ?c2 ?c3 ?c4 ?c5 ?c6 ?_)
            | go_in)
          case c1 => rw [bvs_length, Nat.mul_one]
          case c2 => exact HC.out
          case c3 => exact bvs_one l
          case c4 => unfold maxLen; omega
          case c5 => omega
          case c6 => exact hbs
          intro v' w2 hown' hgrow _
          have hB' : Below w.heap.size w w2 := hB.grown hgrow hbs (fun g hg => (hown.lt g hg).1)
          clear hown hgrow a0 HC
          go_wp2
          go_roundw
          case rel =>
            refine ⟨k + 1, by omega, by go_num, ?_, hB'⟩
            rw [HP.out, bvs_append, List.length_append]
            exact hown'
          case measure => simp [intOf]; omega
        · obtain rfl : k = 2 := by omega
          have HO := Lib.hid (Byts.own hown); clear hown
          go_wp2
          go_ret
          exact ⟨_, rfl, HO.out, hB⟩
end Go.Proofs.Ytfofhnaomlcioaa
