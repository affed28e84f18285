/- The document's own Right. -/
import Derived.Test.YtceoelemlokelaaHq
namespace Go.Proofs.Ytceoelemlokelaa
open Go.RowKit

set_option maxHeartbeats 3200000 in
theorem refright_core (w : World) (lf : Bool) (A1 A2 A3 : Option Addr) (n1 d1 n2 d2 n3 d3 : Nat) (k v a b : Int) (ks vs : List (List UInt8)) (ps : List Int) (R4 R : Bool) (b1 : n1 ≤ 1000000) (b2 : n2 ≤ 1000000) (b3 : n3 ≤ 1000000)
    (L1 : Hid (ks.length = n1)) (L2 : Hid (vs.length = n2)) (L3 : Hid (ps.length = n3))
    (HR : Hid (R = (N.allLen ks k && (N.allLen vs v && (N.onD ps && (R4 && (if lf then decide (n3 = 0) && (decide (0 < (n1 : Int)) && (decide ((n1 : Int) ≤ a) && decide (n2 = n1))) else decide (n2 = 0) && (decide (1 < (n3 : Int)) && (decide ((n3 : Int) ≤ b) && decide (n1 + 1 = n3))))))))))
    (H1 : Hid (0 < n1 → ∃ b off, A1 = some ⟨b, off, none⟩ ∧ ∀ j, j < n1 → w.cell? ⟨b, off + j, none⟩ = some (.string (str (ks.getD j [])))))
    (H2 : Hid (0 < n2 → ∃ b off, A2 = some ⟨b, off, none⟩ ∧ ∀ j, j < n2 → w.cell? ⟨b, off + j, none⟩ = some (.string (str (vs.getD j [])))))
    (H3 : Hid (0 < n3 → ∃ b off, A3 = some ⟨b, off, none⟩ ∧ ∀ j, j < n3 → w.cell? ⟨b, off + j, none⟩ = some (.int .u32 ps[j]!)))
    (C0 : Hid (∀ W, Calls Try.prog 8 #[.int .i64 k, .int .i64 v] W fun e w' => e = .returned (.tuple #[.int .i64 a, .int .i64 b]) ∧ Below W.heap.size W w'))
    (C4 : Hid (∀ W, Below w.heap.size w W → Calls Try.prog 21 #[.slice A1 n1 d1] W fun e w' => e = .returned (.bool R4) ∧ Below W.heap.size W w')) :
    Calls Try.prog 15 #[.agg #[.bool lf, .slice A1 n1 d1, .slice A2 n2 d2, .slice A3 n3 d3], .int .i64 k, .int .i64 v] w fun e w' => e = .returned (.bool R) ∧ Below w.heap.size w w' := by
  have HA : Hid (Below w.heap.size w (w.alloc (.cells #[.bool lf, .slice A1 n1 d1, .slice A2 n2 d2, .slice A3 n3 d3] 38))) := alb _
  have HN : Hid (Nb (w.alloc (.cells #[.bool lf, .slice A1 n1 d1, .slice A2 n2 d2, .slice A3 n3 d3] 38)) w.heap.size lf (.slice A1 n1 d1) (.slice A2 n2 d2) (.slice A3 n3 d3)) :=
    ⟨by rw [World.cell?_alloc_at _ _ _ _ rfl]; rfl, by rw [World.cell?_alloc_at _ _ _ _ rfl]; rfl, by rw [World.cell?_alloc_at _ _ _ _ rfl]; rfl, by rw [World.cell?_alloc_at _ _ _ _ rfl]; rfl⟩
  go_enter Try.func15, Try.ntmps15
  go_wp2_with fail
  generalize w.alloc (.cells #[.bool lf, .slice A1 n1 d1, .slice A2 n2 d2, .slice A3 n3 d3] 38) = w1 at *
  refine (C0.out w1).mono ?_
  rintro e w2 ⟨rfl, hB2⟩
  have HB2 : Hid (Below w.heap.size w w2) := btr HA.out hB2
  obtain ⟨k0, k1, k2, k3⟩ := HN.out.below hB2
  clear hB2 HN HA C0
  go_wp2_with fail
  go_loopg [9] n1 (fun g s wr => ∃ i : Nat, s = .int .i64 (i : Int) ∧ i ≤ n1 ∧ n1 - i ≤ g ∧ w2 = wr ∧ Hid (∀ j, j < i → ((ks.getD j []).length : Int) = k))
  case atStart => exact ⟨0, rfl, by omega, by omega, rfl, fun j hj => by omega⟩
  case round =>
    obtain ⟨i, rfl, h1i, h2i, rfl, HiI⟩ := hrel
    by_cases hii : i < n1
    · have hz : (i : Int) < (n1 : Int) := by omega
      obtain ⟨b, off, rfl, hcell⟩ := H1.out (by omega)
      have c0 := kept (hcell i hii) HB2.out
      clear hcell
      obtain ⟨x, hx⟩ : ∃ x, x = (ks.getD i []).length := ⟨_, rfl⟩
      have hsz : (str (ks.getD i [])).size = x := by rw [str_size, hx]
      have HX := Lib.hid hx
      clear hx
      generalize str (ks.getD i []) = sx at *
      by_cases hxx : (x : Int) = k
      · have hne : ((x : Int) != k) = false := by simpa using hxx
        have HXX := Lib.hid hxx
        clear hxx
        go_wp2
        go_roundg (n1 - (i + 1))
        case measure => omega
        case rel =>
          refine ⟨i + 1, by go_num, by omega, by omega, rfl, fun j hj => ?_⟩
          by_cases e : j < i
          · exact HiI.out j e
          · obtain rfl : j = i := by omega
            rw [← HX.out]
            exact HXX.out
      · have hne : ((x : Int) != k) = true := by simpa using hxx
        have HXX := Lib.hid hxx
        clear hxx
        go_wp2
        go_ret
        refine ⟨?_, HB2.out⟩
        have hno : ¬ N.allLen ks k = true := fun q => by
          unfold N.allLen at q
          rw [List.all_eq_true] at q
          have h1 := of_decide_eq_true (q _ (N.getD_mem (d := []) (j := i) (by rw [L1.out]; exact hii)))
          rw [← HX.out] at h1
          exact HXX.out h1
        have e0 : R = false := by
          rw [HR.out, Bool.eq_false_iff.2 hno]
          simp
        rw [e0]
        rfl
    · have hz : ¬ (i : Int) < (n1 : Int) := by omega
      have HALLi : Hid (N.allLen ks k = true) := by
        show _ = true
        unfold N.allLen
        rw [List.all_eq_true]
        intro b hb
        obtain ⟨j, hj, rfl⟩ := List.getElem_of_mem hb
        have h3 := HiI.out j (by rw [L1.out] at hj; omega)
        rw [show ks.getD j [] = ks[j] by simp [List.getD, hj]] at h3
        exact decide_eq_true h3
      go_wp2_with fail
      clear HiI hz hii h1i h2i
      go_loopg [10] n2 (fun g s wr => ∃ m : Nat, s = .int .i64 (m : Int) ∧ m ≤ n2 ∧ n2 - m ≤ g ∧ w2 = wr ∧ Hid (∀ j, j < m → ((vs.getD j []).length : Int) = v))
      case atStart => exact ⟨0, rfl, by omega, by omega, rfl, fun j hj => by omega⟩
      case round =>
        obtain ⟨m, rfl, h1m, h2m, rfl, HmI⟩ := hrel
        by_cases him : m < n2
        · have hz : (m : Int) < (n2 : Int) := by omega
          obtain ⟨b, off, rfl, hcell⟩ := H2.out (by omega)
          have c0 := kept (hcell m him) HB2.out
          clear hcell
          obtain ⟨x, hx⟩ : ∃ x, x = (vs.getD m []).length := ⟨_, rfl⟩
          have hsz : (str (vs.getD m [])).size = x := by rw [str_size, hx]
          have HX := Lib.hid hx
          clear hx
          generalize str (vs.getD m []) = sx at *
          by_cases hxx : (x : Int) = v
          · have hne : ((x : Int) != v) = false := by simpa using hxx
            have HXX := Lib.hid hxx
            clear hxx
            go_wp2
            go_roundg (n2 - (m + 1))
            case measure => omega
            case rel =>
              refine ⟨m + 1, by go_num, by omega, by omega, rfl, fun j hj => ?_⟩
              by_cases e : j < m
              · exact HmI.out j e
              · obtain rfl : j = m := by omega
                rw [← HX.out]
                exact HXX.out
          · have hne : ((x : Int) != v) = true := by simpa using hxx
            have HXX := Lib.hid hxx
            clear hxx
            go_wp2
            go_ret
            refine ⟨?_, HB2.out⟩
            have hno : ¬ N.allLen vs v = true := fun q => by
              unfold N.allLen at q
              rw [List.all_eq_true] at q
              have h1 := of_decide_eq_true (q _ (N.getD_mem (d := []) (j := m) (by rw [L2.out]; exact him)))
              rw [← HX.out] at h1
              exact HXX.out h1
            have e0 : R = false := by
              rw [HR.out, HALLi.out, Bool.eq_false_iff.2 hno]
              simp
            rw [e0]
            rfl
        · have hz : ¬ (m : Int) < (n2 : Int) := by omega
          have HALLm : Hid (N.allLen vs v = true) := by
            show _ = true
            unfold N.allLen
            rw [List.all_eq_true]
            intro b hb
            obtain ⟨j, hj, rfl⟩ := List.getElem_of_mem hb
            have h3 := HmI.out j (by rw [L2.out] at hj; omega)
            rw [show vs.getD j [] = vs[j] by simp [List.getD, hj]] at h3
            exact decide_eq_true h3
          go_wp2_with fail
          clear HmI hz him h1m h2m
          go_loopg [11] n3 (fun g s wr => ∃ t : Nat, s = .int .i64 (t : Int) ∧ t ≤ n3 ∧ n3 - t ≤ g ∧ w2 = wr ∧ Hid (∀ j, j < t → 2 ≤ ps[j]!))
          case atStart => exact ⟨0, rfl, by omega, by omega, rfl, fun j hj => by omega⟩
          case round =>
            obtain ⟨t, rfl, h1t, h2t, rfl, HIt⟩ := hrel
            by_cases hit : t < n3
            · have hz : (t : Int) < (n3 : Int) := by omega
              obtain ⟨b, off, rfl, hcell⟩ := H3.out (by omega)
              have c0 := kept (hcell t hit) HB2.out
              obtain ⟨y, hy⟩ : ∃ y, y = ps[t]! := ⟨_, rfl⟩
              rw [← hy] at c0
              have HY := Lib.hid hy
              clear hcell hy
              by_cases hxy : 2 ≤ y
              · have hz3 : ¬ y < 2 := by omega
                go_wp2
                go_roundg (n3 - (t + 1))
                case measure => omega
                case rel =>
                  refine ⟨t + 1, by go_num, by omega, by omega, rfl, fun j hj => ?_⟩
                  by_cases e : j < t
                  · exact HIt.out j e
                  · obtain rfl : j = t := by omega
                    rw [← HY.out]
                    exact hxy
              · have hz3 : y < 2 := by omega
                clear hxy
                have HZ := Lib.hid hz3
                go_wp2
                go_ret
                refine ⟨?_, HB2.out⟩
                have hno : ¬ N.onD ps = true := fun q => by
                  unfold N.onD at q
                  rw [List.all_eq_true] at q
                  have hl : t < ps.length := by rw [L3.out]; exact hit
                  have h1 := of_decide_eq_true (q ps[t]! (by rw [getElem!_pos ps t hl]; exact List.getElem_mem hl))
                  rw [← HY.out] at h1
                  have := HZ.out
                  omega
                have e0 : R = false := by
                  rw [HR.out, HALLi.out, HALLm.out, Bool.eq_false_iff.2 hno]
                  simp
                rw [e0]
                rfl
            · have hz : ¬ (t : Int) < (n3 : Int) := by omega
              have HALLt : Hid (N.onD ps = true) := by
                show _ = true
                unfold N.onD
                rw [List.all_eq_true]
                intro b hb
                obtain ⟨j, hj, rfl⟩ := List.getElem_of_mem hb
                have h3 := HIt.out j (by rw [L3.out] at hj; omega)
                rw [getElem!_pos ps j hj] at h3
                exact decide_eq_true h3
              have HRR : Hid (R = (R4 && (if lf then decide (n3 = 0) && (decide (0 < (n1 : Int)) && (decide ((n1 : Int) ≤ a) && decide (n2 = n1))) else decide (n2 = 0) && (decide (1 < (n3 : Int)) && (decide ((n3 : Int) ≤ b) && decide (n1 + 1 = n3)))))) := by
                show R = _
                rw [HR.out, HALLi.out, HALLm.out, HALLt.out, Bool.true_and, Bool.true_and, Bool.true_and]
              clear HR HALLi HALLm HALLt
              go_wp2_with fail
              clear HIt hz hit h1t h2t
              refine (C4.out _ HB2.out).mono ?_
              rintro e w3 ⟨rfl, hB3⟩
              have HB3 := Lib.hid (btr HB2.out hB3)
              replace k0 := kept k0 hB3
              replace k1 := kept k1 hB3
              replace k2 := kept k2 hB3
              replace k3 := kept k3 hB3
              clear hB3 C4
              cases R4 with
              | false =>
                go_wp2
                go_ret
                exact ⟨by rw [HRR.out]; rfl, HB3.out⟩
              | true =>
                rw [Bool.true_and] at HRR
                cases lf with
                | true =>
                  rw [if_pos rfl] at HRR
                  by_cases e : n3 = 0
                  · have he : ((n3 : Int) == 0) = true := by first | omega | (rw [beq_iff_eq]; omega)
                    rw [decide_eq_true e, Bool.true_and] at HRR
                    clear e
                    by_cases e : 0 < (n1 : Int)
                    · have he : 0 < (n1 : Int) := by first | omega | (rw [beq_iff_eq]; omega)
                      rw [decide_eq_true e, Bool.true_and] at HRR
                      clear e
                      by_cases e : (n1 : Int) ≤ a
                      · have he : (n1 : Int) ≤ a := by first | omega | (rw [beq_iff_eq]; omega)
                        rw [decide_eq_true e, Bool.true_and] at HRR
                        clear e
                        obtain ⟨r, hr⟩ : ∃ r, ((n2 : Int) == (n1 : Int)) = r := ⟨_, rfl⟩
                        have HF : Hid (R = r) := by
                          show R = r
                          rw [HRR.out, ← hr, Bool.eq_iff_iff]
                          simp
                          try omega
                        clear HRR
                        go_wp2
                        go_ret
                        exact ⟨by rw [HF.out]; rfl, HB3.out⟩
                      · have he : ¬ (n1 : Int) ≤ a := by first | omega | (rw [beq_eq_false_iff_ne]; omega)
                        rw [decide_eq_false e, Bool.false_and] at HRR
                        clear e
                        go_wp2
                        go_ret
                        exact ⟨by rw [HRR.out]; rfl, HB3.out⟩
                    · have he : ¬ 0 < (n1 : Int) := by first | omega | (rw [beq_eq_false_iff_ne]; omega)
                      rw [decide_eq_false e, Bool.false_and] at HRR
                      clear e
                      go_wp2
                      go_ret
                      exact ⟨by rw [HRR.out]; rfl, HB3.out⟩
                  · have he : ((n3 : Int) == 0) = false := by first | omega | (rw [beq_eq_false_iff_ne]; omega)
                    rw [decide_eq_false e, Bool.false_and] at HRR
                    clear e
                    go_wp2
                    go_ret
                    exact ⟨by rw [HRR.out]; rfl, HB3.out⟩
                | false =>
                  rw [if_neg (by simp)] at HRR
                  by_cases e : n2 = 0
                  · have he : ((n2 : Int) == 0) = true := by first | omega | (rw [beq_iff_eq]; omega)
                    rw [decide_eq_true e, Bool.true_and] at HRR
                    clear e
                    by_cases e : 1 < (n3 : Int)
                    · have he : 1 < (n3 : Int) := by first | omega | (rw [beq_iff_eq]; omega)
                      rw [decide_eq_true e, Bool.true_and] at HRR
                      clear e
                      by_cases e : (n3 : Int) ≤ b
                      · have he : (n3 : Int) ≤ b := by first | omega | (rw [beq_iff_eq]; omega)
                        rw [decide_eq_true e, Bool.true_and] at HRR
                        clear e
                        obtain ⟨r, hr⟩ : ∃ r, ((n1 : Int) + 1 == (n3 : Int)) = r := ⟨_, rfl⟩
                        have HF : Hid (R = r) := by
                          show R = r
                          rw [HRR.out, ← hr, Bool.eq_iff_iff]
                          simp
                          try omega
                        clear HRR
                        go_wp2
                        go_ret
                        exact ⟨by rw [HF.out]; rfl, HB3.out⟩
                      · have he : ¬ (n3 : Int) ≤ b := by first | omega | (rw [beq_eq_false_iff_ne]; omega)
                        rw [decide_eq_false e, Bool.false_and] at HRR
                        clear e
                        go_wp2
                        go_ret
                        exact ⟨by rw [HRR.out]; rfl, HB3.out⟩
                    · have he : ¬ 1 < (n3 : Int) := by first | omega | (rw [beq_eq_false_iff_ne]; omega)
                      rw [decide_eq_false e, Bool.false_and] at HRR
                      clear e
                      go_wp2
                      go_ret
                      exact ⟨by rw [HRR.out]; rfl, HB3.out⟩
                  · have he : ((n2 : Int) == 0) = false := by first | omega | (rw [beq_eq_false_iff_ne]; omega)
                    rw [decide_eq_false e, Bool.false_and] at HRR
                    clear e
                    go_wp2
                    go_ret
                    exact ⟨by rw [HRR.out]; rfl, HB3.out⟩
theorem refright_any (w : World) (n : N.Nd) (kv vv pv : Value) (k v : Int) (h : RV w kv vv pv n) (b1 : n.ks.length ≤ 1000000) (b2 : n.vs.length ≤ 1000000) (b3 : n.ps.length ≤ 1000000) (hs : ∀ b ∈ n.ks, b.length ≤ 1000) :
    Calls Try.prog 15 #[nodv n.leaf kv vv pv, .int .i64 k, .int .i64 v] w fun e w' => e = .returned (.bool (N.right n k v)) ∧ Below w.heap.size w w' := by
  have HV := Lib.hid h
  obtain ⟨A1, d1, rfl, _, _, c1⟩ := h.keys
  obtain ⟨A2, d2, rfl, _, _, c2⟩ := h.vals
  obtain ⟨A3, d3, rfl, _, _, c3⟩ := h.kids
  refine refright_core w n.leaf A1 A2 A3 n.ks.length d1 n.vs.length d2 n.ps.length d3 k v _ _ n.ks n.vs n.ps (N.rises n.ks) _ b1 b2 b3 (Lib.hid rfl) (Lib.hid rfl) (Lib.hid rfl) (Lib.hid ?_) (Lib.hid c1) (Lib.hid c2) (Lib.hid c3) (Lib.hid fun W => refcaps_any k v W) (Lib.hid fun W hW => refrises_any W _ _ (HV.out.keys.below hW) b1 hs)
  unfold N.right N.may
  clear HV h c1 c2 c3 hs
  generalize n.ks.length = x1 at *
  generalize n.vs.length = x2 at *
  generalize n.ps.length = x3 at *
  cases N.rises n.ks <;> cases N.allLen n.ks k <;> cases N.allLen n.vs v <;> cases N.onD n.ps <;> cases n.leaf <;> simp
  all_goals
    rw [Bool.eq_iff_iff]
    simp
    omega
end Go.Proofs.Ytceoelemlokelaa
