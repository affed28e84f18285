/- page.fourBytes, twoBytes, noughts, and bytes.Equal; slices of bytes cut at both ends. -/
import Derived.Test.YtbffpgndjbpifaaDoorSumsLaw
import Derived.Test.YtbffpgndjbpifaaDoorGm
namespace Go.Proofs.YtbffpgndjbpifaaDoor
open Go.RowKit

theorem str_eq (l m : List UInt8) : ((str l).toList == (str m).toList) = decide (l = m) := by
  rw [str_toList, str_toList]
  by_cases h : l = m
  · simp [h]
  · simp [h]
theorem four_vals (n : Nat) (hn : n < 4294967296) : (#[Value.int .u8 ((n : Int) / 16777216), Value.int .u8 ((n : Int) / 65536 % 256), Value.int .u8 ((n : Int) / 256 % 256), Value.int .u8 ((n : Int) % 256)] : Array Value) = (bvs (G.four n)).toArray := by
  simp only [bvs, G.four, List.map_cons, List.map_nil, UInt8.toNat_ofNat']
  congr 2
  · congr 1; omega
theorem two_vals (n : Nat) (hn : n < 65536) : (#[Value.int .u8 ((n : Int) / 256), Value.int .u8 ((n : Int) % 256)] : Array Value) = (bvs (G.two n)).toArray := by
  simp only [bvs, G.two, List.map_cons, List.map_nil, UInt8.toNat_ofNat']
  congr 2
  · congr 1; omega
theorem fourbytes_any (n : Nat) (hn : n < 4294967296) (w : World) :
    Calls Tryd.prog 26 #[.int .u32 (n : Int)] w fun e w' => ∃ v, e = .returned v ∧ Byts w' v (G.four n) ∧ Below w.heap.size w w' := by
  go_enter Tryd.func26, Tryd.ntmps26
  go_wp2
  go_ret
  refine ⟨_, rfl, ?_, alb _⟩
  rw [four_vals n hn]
  exact Byts.lit w (G.four n) (by rw [G.four_length]; omega)
theorem twobytes_any (n : Nat) (hn : n < 65536) (w : World) :
    Calls Tryd.prog 27 #[.int .i64 (n : Int)] w fun e w' => ∃ v, e = .returned v ∧ Byts w' v (G.two n) ∧ Below w.heap.size w w' := by
  go_enter Tryd.func27, Tryd.ntmps27
  go_wp2
  go_ret
  refine ⟨_, rfl, ?_, alb _⟩
  rw [two_vals n hn]
  exact Byts.lit w (G.two n) (by rw [G.two_length]; omega)
theorem equal_any (a b : Value) (l m : List UInt8) (w : World) (ha : Byts w a l) (hb : Byts w b m) :
    Calls Tryd.prog 29 #[a, b] w fun e w' => e = .returned (.bool (decide (l = m))) ∧ w' = w := by
  have h1 := ha.conv
  have h2 := hb.conv
  rw [← str_eq]
  clear ha hb
  generalize str l = sl at *
  generalize str m = sm at *
  go_enter Tryd.func29, Tryd.ntmps29
  go_wp2
  go_ret
  exact ⟨rfl, rfl⟩
theorem noughts_any (v : Value) (l : List UInt8) (w : World) (h : Byts w v l) (hl : l.length ≤ 1000000) :
    Calls Tryd.prog 30 #[v] w fun e w' => e = .returned (.bool (G.zeros l)) ∧ w' = w := by
  obtain ⟨A, c, rfl, hc, h⟩ := h
  have H : Hid (∀ j, j < l.length → ∃ b off x, A = some ⟨b, off, none⟩ ∧ w.cell? ⟨b, off + j, none⟩ = some (.int .u8 ((x : Nat) : Int)) ∧ x < 256 ∧ x = (l.getD j 0).toNat) := by
    intro j hj
    obtain ⟨b, off, e, q⟩ := h (by omega)
    exact ⟨b, off, _, e, q j hj, C.u8_lt _, by simp [List.getD, hj]⟩
  clear h
  have HN : Hid (∀ j, j < l.length → (l.getD j 0).toNat ≠ 0 → G.zeros l = false) := by
    intro j hj hx
    rw [← Bool.not_eq_true]
    unfold G.zeros
    intro k
    rw [List.all_eq_true] at k
    have := k l[j] (by simp)
    apply hx
    have e : l[j] = 0 := by simpa using this
    simp [List.getD, hj, e]
  have HY : Hid ((∀ j, j < l.length → (l.getD j 0).toNat = 0) → G.zeros l = true) := by
    intro k
    unfold G.zeros
    rw [List.all_eq_true]
    intro x hx
    obtain ⟨j, hj, rfl⟩ := List.getElem_of_mem hx
    have := k j hj
    simp [List.getD, hj] at this
    simpa using UInt8.toNat_inj.1 this
  generalize G.zeros l = z at *
  generalize l.length = n at *
  go_enter Tryd.func30, Tryd.ntmps30
  go_wp2
  go_loop [7] (fun i => ∃ j : Nat, j ≤ n ∧ i = .int .i64 (j : Int) ∧ Hid (∀ k, k < j → (l.getD k 0).toNat = 0)) (fun i => n - (intOf i).toNat)
  case atStart => exact ⟨0, by omega, rfl, fun k hk => by omega⟩
  case round =>
    obtain ⟨j, hj, rfl, HZ⟩ := hrel
    by_cases hlt : j < n
    · obtain ⟨b, off, x, rfl, a0, hx, ex⟩ := H.out j hlt
      by_cases h0 : x = 0
      · have HE : Hid ((l.getD j 0).toNat = 0) := by rw [h0] at ex; exact ex.symm
        subst h0
        clear ex
        go_wp2
        go_round
        case rel =>
          refine ⟨j + 1, by omega, by go_num, fun k hk => ?_⟩
          by_cases e : k = j
          · subst e; exact HE.out
          · exact HZ.out k (by omega)
        case measure => simp [intOf]; omega
      · have HE := Lib.hid (HN.out j hlt (by rw [← ex]; exact h0))
        have hb : ((x : Int) != 0) = true := by rw [bne_iff_ne]; omega
        clear ex
        go_wp2
        go_ret
        exact ⟨by rw [HE.out]; rfl, rfl⟩
    · obtain rfl : j = n := by omega
      have HE := Lib.hid (HY.out HZ.out)
      go_wp2
      go_ret
      exact ⟨by rw [HE.out]; rfl, rfl⟩
end Go.Proofs.YtbffpgndjbpifaaDoor
