/- The document's own Next and Filled of rows. -/
import Derived.Test.YtfofhnaomlcioaaRefSmall
import Derived.Test.YtfofhnaomlcioaaNextK
import Derived.Deep.LoopGhost
namespace Go.Proofs.Ytfofhnaomlcioaa
open Go.RowKit
open W (hi lo dig MM M cmpN)

theorem str_one (x : UInt8) (w : World) : (convert 22 9 (.slice (some ⟨w.heap.size, 0, none⟩) 1 1)).run Try.prog (w.alloc (.cells #[.int .u8 ((x.toNat : Nat) : Int)] 5)) = .ok (.string (str [x])) (w.alloc (.cells #[.int .u8 ((x.toNat : Nat) : Int)] 5)) :=
  Byts.conv (Byts.lit w [x] (by simp))
theorem zeros_snoc (l : List UInt8) (x : UInt8) (j : Nat) : l ++ List.replicate j x ++ [x] = l ++ List.replicate (j + 1) x := by
  rw [List.append_assoc, ← List.replicate_succ']

set_option maxHeartbeats 800000 in
theorem filled_any (l : List UInt8) (n : Int) (x : UInt8) (hl : l.length ≤ 1000) (w : World) :
    Calls Try.prog 13 #[.string (str l), .int .i64 n, .int .u8 ((x.toNat : Nat) : Int)] w fun e w' => e = .returned (.string (str (fillL l (cl n) x))) ∧ Below w.heap.size w w' := by
  have HK := Lib.hid (cl_le n)
  have hcase : (n < 0 ∧ Hid ((0 : Int) = ((cl n : Nat) : Int))) ∨ (0 ≤ n ∧ n ≤ 24 ∧ Hid (n = ((cl n : Nat) : Int))) ∨ (24 < n ∧ Hid ((24 : Int) = ((cl n : Nat) : Int))) := by
    have h1 : n < 0 → (0 : Int) = ((cl n : Nat) : Int) := by unfold cl; omega
    have h2 : 0 ≤ n → n ≤ 24 → n = ((cl n : Nat) : Int) := by unfold cl; omega
    have h3 : 24 < n → (24 : Int) = ((cl n : Nat) : Int) := by unfold cl; omega
    by_cases c1 : n < 0
    · exact .inl ⟨c1, h1 c1⟩
    · by_cases c2 : n ≤ 24
      · exact .inr (.inl ⟨by omega, c2, h2 (by omega) c2⟩)
      · exact .inr (.inr ⟨by omega, h3 (by omega)⟩)
  generalize cl n = k at *
  have HL := Lib.hid hl
  clear hl
  obtain ⟨R, hR⟩ : ∃ R, R = str (fillL l k x) := ⟨_, rfl⟩
  rw [← hR]
  have HRR := Lib.hid hR
  clear hR
  rcases hcase with ⟨q1, HE⟩ | ⟨q1, q3, HE⟩ | ⟨q1, HE⟩
  all_goals
    go_enter Try.func13, Try.ntmps13
    go_wp2
    go_loopg [7] (k - l.length) (fun g o wr => ∃ j : Nat, g + j = k - l.length ∧ o = .string (str (l ++ List.replicate j x)) ∧ Below w.heap.size w wr)
    case atStart => exact ⟨0, rfl, by simp, Below.refl _ _⟩
    case round =>
      obtain ⟨j, hj, rfl, hB⟩ := hrel
      have hsz : (str (l ++ List.replicate j x)).size = l.length + j := by rw [str_size]; simp
      have hk := HK.out
      by_cases hlt : l.length + j < k
      · have hcv := str_one x wr
        have hll := HL.out
        have hadd := run_str_add (l ++ List.replicate j x) [x] (by simp; omega)
        rw [zeros_snoc] at hadd
        have HJ : Hid (k - l.length - (j + 1) < k - l.length - j ∧ k - l.length - (j + 1) + (j + 1) = k - l.length) := ⟨by omega, by omega⟩
        have HG : Hid (k - l.length - j ≤ gk) := show k - l.length - j ≤ gk by omega
        generalize hS : str (l ++ List.replicate (j + 1) x) = S2 at *
        generalize str (l ++ List.replicate j x) = S1 at *
        generalize str [x] = S0 at *
        have HS := Lib.hid hS
        clear hS hj hll
        first
          | (exfalso; have := HE.out; omega)
          | (have hd : (S1.size : Int) < n := by (have := HE.out; omega)
             have hd2 : (S1.size : Int) < 24 := by omega
             clear hlt hsz
             go_wp2
             go_roundg (k - l.length - (j + 1))
             case measure => have := HJ.out; have := HG.out; omega
             case rel => exact ⟨j + 1, HJ.out.2, by rw [HS.out], bal hB _⟩)
      · have HX : Hid ((str (l ++ List.replicate j x)).extract 0 k = R) := by
          show (str (l ++ List.replicate j x)).extract 0 k = R
          rw [HRR.out, str_extract, List.drop_zero, Nat.sub_zero, fillL_take l k x j (by omega)]
        have hd : n ≤ ((l.length + j : Nat) : Int) ∨ (24 < n ∧ 24 ≤ ((l.length + j : Nat) : Int)) := by have := HE.out; omega
        rw [← hsz] at hd
        generalize str (l ++ List.replicate j x) = S1 at *
        clear hlt hsz hj
        rcases hd with hd | ⟨hx, hd⟩
        all_goals
          first
            | omega
            | (go_wp2
               go_ret
               refine ⟨?_, hB⟩
               rw [← HX.out]
               have h0 := HE.out
               first
                 | (have hk0 : k = 0 := by omega
                    subst hk0
                    simp)
                 | (show Ending.returned (.string (ByteArray.extract S1 0 _)) = _
                    congr 3
                    omega))

set_option maxHeartbeats 800000 in
theorem refnextK_any (l : List UInt8) (hl : l.length ≤ 1000) (w : World) :
    Calls Try.prog 9 #[.string (str l)] w fun e w' => e = .returned (.tuple #[.string (str ((nx l).getD [])), .bool (nx l).isSome]) ∧ Below w.heap.size w w' := by
  have GL : Hid (∀ k (h : k < (str l).size), ((str l)[k]).toNat = fb l k) := fun k h => by rw [fb_get l k h]; rfl
  have sl : (str l).size = l.length := rfl
  have HX := Lib.hid (fun i j => str_extract l i j)
  have SL := Lib.hid sl
  have HL := Lib.hid hl
  rw [← sl] at hl
  clear sl
  generalize str l = s at *
  obtain ⟨r, hr⟩ : ∃ r, r = nx l := ⟨_, rfl⟩
  rw [← hr]
  have HR := Lib.hid hr
  clear hr
  go_enter Try.func9, Try.ntmps9
  go_wp2
  go_loop [4] (fun n => ∃ p q : List UInt8, l = p ++ q ∧ (∀ c ∈ q, c = 255) ∧ n = .int .i64 (p.length : Int)) (fun n => (intOf n).toNat)
  case atStart => exact ⟨l, [], by simp, by simp, by rw [SL.out]⟩
  case round =>
    obtain ⟨p, q, hpq, hq, rfl⟩ := hrel
    rcases List.eq_nil_or_concat p with rfl | ⟨p, x, rfl⟩
    · have HV := Lib.hid (show r = none by rw [HR.out, hpq]; exact nx_ff _ (by simpa using hq))
      clear hq hpq
      go_wp2
      go_ret2
      exact ⟨by rw [HV.out]; rfl, Below.refl _ _⟩
    · have hlp : p.length < l.length := by rw [hpq]; simp
      have hls : p.length < s.size := by rw [SL.out]; exact hlp
      have gx := GL.out p.length hls
      have ex : fb l p.length = x.toNat := by rw [fb_get l _ hlp]; simp [hpq]
      rw [ex] at gx
      have HP := Lib.hid hpq
      have HQ := Lib.hid hq
      clear hpq hq ex
      have ep : (((p.concat x).length : Nat) : Int) = (p.length : Int) + 1 := by simp
      rw [ep]
      have hx := u8_le x
      by_cases h255 : x = 255
      · subst h255
        have e255 : (255 : UInt8).toNat = 255 := rfl
        rw [e255] at gx
        go_wp2
        go_round
        case rel => exact ⟨p, 255 :: q, by rw [HP.out]; simp, all_snoc HQ.out, by go_num⟩
        case measure => simp [intOf]
      · have HV := Lib.hid (show r = some (p ++ (x + 1) :: List.replicate q.length 0) by rw [HR.out, HP.out]; simpa using nx_at p x q HQ.out h255)
        have HLN := Lib.hid (show s.size = p.length + 1 + q.length by rw [SL.out, HP.out]; simp; omega)
        have hx2 : x.toNat ≤ 254 := by
          have : x.toNat ≠ 255 := fun e => h255 (UInt8.toNat_inj.1 e)
          omega
        have hxp : s.extract 0 p.length = str p := by rw [HX.out, HP.out]; simp
        have hadd := run_str_add p [x + 1] (by have := HL.out; simp; omega)
        have hcv := Byts.conv (((Byts.lit w [x + 1] (by simp))).below ((Below.refl _ _).drew))
        have ecs : (bvs [x + 1]).toArray = #[.int .u8 ((x.toNat : Int) + 1)] := by
          simp only [bvs, List.map_cons, List.map_nil, succ_nat x h255]
          simp
        rw [ecs] at hcv
        simp only [List.length_cons, List.length_nil, Nat.zero_add] at hcv
        clear ecs h255
        have hg : ((s[p.length]).toNat : Int) = (x.toNat : Int) := by rw [gx]
        generalize x.toNat = y at *
        generalize hS1 : str [x + 1] = S1 at *
        generalize hS0 : str p = S0 at *
        have HS1 := Lib.hid hS1
        have HS0 := Lib.hid hS0
        clear hS1 hS0 hg
        have hne : (((s[p.length]).toNat : Int) == 255) = false := by rw [gx]; rw [beq_eq_false_iff_ne]; omega
        go_wp2
        go_region
        all_goals
          have hB0 : Below w.heap.size w (w.alloc (.cells #[.int .u8 ((y : Int) + 1)] 5)).drew := (alb _).drew
          generalize (w.alloc (.cells #[.int .u8 ((y : Int) + 1)] 5)).drew = w1 at *
          clear hcv hadd hxp gx hne
          go_wp2
          go_loopg [5] q.length (fun g o wr => ∃ j : Nat, g + j = q.length ∧ o = .string (str (p ++ (x + 1) :: List.replicate j 0)) ∧ Below w.heap.size w wr)
          case atStart => exact ⟨0, rfl, rfl, hB0⟩
          case round =>
            clear hB0
            obtain ⟨j, hj, rfl, hB⟩ := hrel
            have hsz : (str (p ++ (x + 1) :: List.replicate j 0)).size = p.length + 1 + j := by rw [str_size]; simp; omega
            have hn := HLN.out
            by_cases hlt : j < q.length
            · have hadd : ∀ w, (Op.stringOp .add (str (p ++ (x + 1) :: List.replicate j 0)) ⟨#[0]⟩).run Try.prog w = .ok (.string (str (p ++ (x + 1) :: List.replicate (j + 1) 0))) w := fun w => by
                have k := run_str_add (p ++ (x + 1) :: List.replicate j 0) [0] (by have := HL.out; simp; omega) w
                have e : p ++ (x + 1) :: List.replicate j 0 ++ [0] = p ++ (x + 1) :: List.replicate (j + 1) 0 := by
                  rw [List.append_assoc, List.cons_append, ← List.replicate_succ']
                rw [e] at k
                exact k
              have HJ : Hid (q.length - (j + 1) < gk ∧ q.length - (j + 1) + (j + 1) = q.length) := ⟨by omega, by omega⟩
              have hd : (str (p ++ (x + 1) :: List.replicate j 0)).size < s.size := by omega
              generalize hT : str (p ++ (x + 1) :: List.replicate (j + 1) 0) = T2 at *
              generalize str (p ++ (x + 1) :: List.replicate j 0) = T1 at *
              have HT := Lib.hid hT
              clear hT hj hsz hn hlt
              go_wp2
              go_roundg (q.length - (j + 1))
              case measure => exact HJ.out.1
              case rel => exact ⟨j + 1, HJ.out.2, by rw [HT.out], hB⟩
            · obtain rfl : j = q.length := by omega
              have hd : ¬ (str (p ++ (x + 1) :: List.replicate q.length 0)).size < s.size := by omega
              have HT : Hid (str (r.getD []) = str (p ++ (x + 1) :: List.replicate q.length 0) ∧ r.isSome = true) := by
                rw [HV.out]
                exact ⟨rfl, rfl⟩
              generalize str (p ++ (x + 1) :: List.replicate q.length 0) = T1 at *
              clear hj hsz hn hlt
              go_wp2
              go_ret2
              exact ⟨by rw [HT.out.1, HT.out.2]; rfl, hB⟩
end Go.Proofs.Ytfofhnaomlcioaa
