/- freelist.Need, and the document's own; which numbers may stand in a list, which may be pages. -/
import Derived.Test.YtnnegglhndllfaaFu
import Derived.Test.YtnnegglhndllfaaFm
namespace Go.Proofs.Ytnnegglhndllfaa
open Go.RowKit

theorem need_any (z : Int) (h : z ≤ 100000) (w : World) : Calls Try.prog 8 #[.int .i64 z] w fun e w' => e = .returned (.int .i64 (L.needZ z)) ∧ w = w' := by
  by_cases hz : z < 1
  · have e : L.needZ z = 0 := by unfold L.needZ; rw [if_pos hz]
    rw [e]
    go_enter Try.func8, Try.ntmps8
    go_wp2
    go_ret
    exact ⟨rfl, rfl⟩
  · obtain ⟨q, hq⟩ : ∃ q, q = (z - 1) / 124 := ⟨_, rfl⟩
    have e : L.needZ z = q + 1 := by unfold L.needZ; rw [if_neg hz, hq]
    have hq2 : (z - 1).tdiv 124 = q := by rw [Int.tdiv_eq_ediv_of_nonneg (by omega), hq]
    have hq0 : 0 ≤ q ∧ q ≤ 1000 := by omega
    rw [e]
    clear e hq
    go_enter Try.func8, Try.ntmps8
    go_wp2
    go_ret
    exact ⟨rfl, rfl⟩

theorem refneed_none (z : Int) (h : z < 1) (w : World) : Calls Try.prog 9 #[.int .i64 z] w fun e w' => e = .returned (.int .i64 0) ∧ w = w' := by
  have h0 : ¬ 0 < z := by omega
  go_enter Try.func9, Try.ntmps9
  go_wp2
  go_loopg [3] 1 (fun k s wr => s = .int .i64 0 ∧ w = wr)
  case atStart => exact ⟨rfl, rfl⟩
  case round =>
    obtain ⟨rfl, rfl⟩ := hrel
    go_wp2
    go_ret
    exact ⟨rfl, rfl⟩
theorem refneed_some (z N : Int) (h1 : 1 ≤ z) (h2 : z ≤ 100000) (hN0 : 0 ≤ N) (hN1 : N ≤ 1000) (hN2 : 123 * N ≥ z - N) (hN3 : 123 * (N - 1) < z - (N - 1)) (w : World) : Calls Try.prog 9 #[.int .i64 z] w fun e w' => e = .returned (.int .i64 N) ∧ w = w' := by
  have h0 : 0 < z := by omega
  go_enter Try.func9, Try.ntmps9
  go_wp2
  go_loopg [3] N.toNat (fun g s wr => ∃ k : Int, s = .int .i64 k ∧ 0 ≤ k ∧ k ≤ N ∧ (N - k).toNat ≤ g ∧ w = wr)
  case atStart => exact ⟨0, rfl, by omega, by omega, by omega, rfl⟩
  case round =>
    obtain ⟨k, rfl, k0, k1, k2, rfl⟩ := hrel
    by_cases hk : k < N
    · have hlt : 123 * k < z - k := by omega
      have hm : k < 1000000 := by omega
      go_wp2
      go_roundg (N - (k + 1)).toNat
      case measure => omega
      case rel => exact ⟨k + 1, by first | rfl | simp | (go_num), by omega, by omega, by omega, rfl⟩
    · obtain rfl : k = N := by omega
      have hlt : ¬ 123 * k < z - k := by omega
      go_wp2
      go_ret
      exact ⟨rfl, rfl⟩
theorem refneed_any (z : Int) (h : z ≤ 100000) (w : World) : Calls Try.prog 9 #[.int .i64 z] w fun e w' => e = .returned (.int .i64 (L.needZ z)) ∧ w = w' := by
  rcases L.need_law z h with ⟨h1, h2⟩ | ⟨h1, h2, h3, h4, h5⟩
  · rw [h2]
    exact refneed_none z h1 w
  · exact refneed_some z _ h1 h (by omega) h3 h4 h5 w

/-- What comes of a list from a place on. -/
theorem ris_step {l : List Int} {i : Nat} (hi : i < l.length) (a : Int) : L.ris a (l.drop i) = (decide (a < l[i]!) && L.ris l[i]! (l.drop (i + 1))) := by
  rw [List.drop_eq_getElem_cons hi, getElem!_pos l i hi]
  rfl
set_option maxHeartbeats 1600000 in
theorem rising_core (w : World) (A : Option Addr) (n c : Nat) (l : List Int) (R : Bool) (hn : n ≤ 9223372036854775807) (hl : l.length = n) (HR : Hid (L.ris 1 l = R))
    (H : Hid (0 < n → ∃ b off, A = some ⟨b, off, none⟩ ∧ ∀ j, j < n → w.cell? ⟨b, off + j, none⟩ = some (.int .u32 l[j]!))) :
    Calls Try.prog 15 #[.slice A n c] w fun e w' => e = .returned (.bool R) ∧ w = w' := by
  have HL := Lib.hid hl
  clear hl
  go_enter Try.func15, Try.ntmps15
  go_wp2
  go_loopg [3, 8] n (fun k s3 s8 wr => ∃ (i : Nat) (a : Int), s3 = .int .u32 a ∧ s8 = .int .i64 i ∧ i ≤ n ∧ n - i ≤ k ∧ w = wr ∧ Hid (L.ris a (l.drop i) = R))
  case atStart => exact ⟨0, 1, rfl, rfl, by omega, by omega, rfl, HR⟩
  case round =>
    obtain ⟨i, a, rfl, rfl, h1, h2, rfl, HI⟩ := hrel
    by_cases hi : i < n
    · have hz : (i : Int) < (n : Int) := by omega
      obtain ⟨b, off, rfl, hcell⟩ := H.out (by omega)
      have c0 := hcell i hi
      have HS := Lib.hid (ris_step (l := l) (i := i) (by rw [HL.out]; exact hi) a)
      generalize l[i]! = y at *
      clear hcell
      by_cases hxy : a < y
      · have hz3 : ¬ y ≤ a := by omega
        go_wp2
        go_roundg (n - (i + 1))
        case measure => omega
        case rel =>
          refine ⟨i + 1, y, rfl, by simp, by omega, by omega, rfl, ?_⟩
          have := HI.out
          rw [HS.out] at this
          refine Lib.hid ?_
          simpa [hxy] using this
      · have hz3 : y ≤ a := by omega
        have HD := Lib.hid (decide_eq_false hxy)
        clear hxy
        go_wp2
        go_ret
        refine ⟨?_, rfl⟩
        have := HI.out
        rw [HS.out, HD.out] at this
        rw [← this]
        rfl
    · have hz : ¬ (i : Int) < (n : Int) := by omega
      go_wp2
      go_ret
      refine ⟨?_, rfl⟩
      have := HI.out
      rw [List.drop_eq_nil_of_le (by rw [HL.out]; omega)] at this
      rw [← this]
      rfl
theorem rising_any (w : World) (v : Value) (l : List Int) (h : Nums w v l) : Calls Try.prog 15 #[v] w fun e w' => e = .returned (.bool (L.ris 1 l)) ∧ w = w' := by
  obtain ⟨A, c, rfl, hc, hm, h⟩ := h
  unfold maxLen at hm
  exact rising_core w A l.length c l _ (by omega) rfl (Lib.hid rfl) (Lib.hid h)

theorem ond_step {l : List Int} {i : Nat} (hi : i < l.length) : L.onD (l.drop i) = (decide (2 ≤ l[i]!) && L.onD (l.drop (i + 1))) := by
  rw [List.drop_eq_getElem_cons hi, getElem!_pos l i hi]
  rfl
set_option maxHeartbeats 1600000 in
theorem ondisk_core (w : World) (A : Option Addr) (n c : Nat) (l : List Int) (R : Bool) (hn : n ≤ 9223372036854775807) (hl : l.length = n) (HR : Hid (L.onD l = R))
    (H : Hid (0 < n → ∃ b off, A = some ⟨b, off, none⟩ ∧ ∀ j, j < n → w.cell? ⟨b, off + j, none⟩ = some (.int .u32 l[j]!))) :
    Calls Try.prog 16 #[.slice A n c] w fun e w' => e = .returned (.bool R) ∧ w = w' := by
  have HL := Lib.hid hl
  clear hl
  go_enter Try.func16, Try.ntmps16
  go_wp2
  go_loopg [7] n (fun k s8 wr => ∃ (i : Nat), s8 = .int .i64 i ∧ i ≤ n ∧ n - i ≤ k ∧ w = wr ∧ Hid (L.onD (l.drop i) = R))
  case atStart => exact ⟨0, rfl, by omega, by omega, rfl, HR⟩
  case round =>
    obtain ⟨i, rfl, h1, h2, rfl, HI⟩ := hrel
    by_cases hi : i < n
    · have hz : (i : Int) < (n : Int) := by omega
      obtain ⟨b, off, rfl, hcell⟩ := H.out (by omega)
      have c0 := hcell i hi
      have HS := Lib.hid (ond_step (l := l) (i := i) (by rw [HL.out]; exact hi))
      generalize l[i]! = y at *
      clear hcell
      by_cases hxy : 2 ≤ y
      · have hz3 : ¬ y < 2 := by omega
        go_wp2
        go_roundg (n - (i + 1))
        case measure => omega
        case rel =>
          refine ⟨i + 1, by simp, by omega, by omega, rfl, ?_⟩
          have := HI.out
          rw [HS.out] at this
          refine Lib.hid ?_
          simpa [hxy] using this
      · have hz3 : y < 2 := by omega
        have HD := Lib.hid (decide_eq_false hxy)
        clear hxy
        go_wp2
        go_ret
        refine ⟨?_, rfl⟩
        have := HI.out
        rw [HS.out, HD.out] at this
        rw [← this]
        rfl
    · have hz : ¬ (i : Int) < (n : Int) := by omega
      go_wp2
      go_ret
      refine ⟨?_, rfl⟩
      have := HI.out
      rw [List.drop_eq_nil_of_le (by rw [HL.out]; omega)] at this
      rw [← this]
      rfl
theorem ondisk_any (w : World) (v : Value) (l : List Int) (h : Nums w v l) : Calls Try.prog 16 #[v] w fun e w' => e = .returned (.bool (L.onD l)) ∧ w = w' := by
  obtain ⟨A, c, rfl, hc, hm, h⟩ := h
  unfold maxLen at hm
  exact ondisk_core w A l.length c l _ (by omega) rfl (Lib.hid rfl) (Lib.hid h)

theorem getD_get! (l : List Int) (i : Nat) (h : i < l.length) : l.getD i 0 = l[i]! := by
  rw [getElem!_pos l i h]
  simp [List.getD, h]
theorem behind_any (w : World) (v : Value) (p : List Int) (i : Nat) (h : Nums w v p) (hi : i < p.length) : Calls Try.prog 19 #[v, .int .i64 (i : Int)] w fun e w' => e = .returned (.int .u32 (L.nextOf p i)) ∧ w = w' := by
  obtain ⟨A, c, rfl, hc, hm, h⟩ := h
  unfold maxLen at hm
  by_cases hl : i + 1 = p.length
  · have e : L.nextOf p i = 0 := L.nextOf_last (by omega)
    have hz : ((i : Int) + 1 == (p.length : Int)) = true := by rw [beq_iff_eq]; omega
    have hw : (i : Int) + 1 ≤ 9223372036854775807 := by omega
    rw [e]
    generalize p.length = n at *
    go_enter Try.func19, Try.ntmps19
    go_wp2
    go_ret
    exact ⟨rfl, rfl⟩
  · obtain ⟨b, off, rfl, hcell⟩ := h (by omega)
    have c0 := hcell (i + 1) (by omega)
    have e : L.nextOf p i = p[i + 1]! := getD_get! p (i + 1) (by omega)
    rw [e]
    have hz : ((i : Int) + 1 == (p.length : Int)) = false := by rw [beq_eq_false_iff_ne]; omega
    have hw : (i : Int) + 1 ≤ 9223372036854775807 := by omega
    have hlt : (i : Int) + 1 < (p.length : Int) := by omega
    generalize p[i + 1]! = y at *
    clear hcell
    generalize p.length = n at *
    go_enter Try.func19, Try.ntmps19
    go_wp2
    go_ret
    exact ⟨rfl, rfl⟩
end Go.Proofs.Ytnnegglhndllfaa
