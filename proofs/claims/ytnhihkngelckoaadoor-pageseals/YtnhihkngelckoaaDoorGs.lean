/- The walk of the law PageSeals. -/
import Derived.Test.YtnhihkngelckoaaDoorGf
namespace Go.Proofs.YtnhihkngelckoaaDoor
open Go.RowKit
open C (crc)

set_option maxHeartbeats 1600000 in
theorem seals_core (n len : Nat) (k : UInt8) (A : Option Addr) (c g : Nat) (sB sP : ByteArray) (w : World) (hl : len ≤ 500)
    (HF : Hid (∀ W : World, Below w.heap.size w W → Calls Tryd.prog 7 #[] W fun e w' => e = .returned (.bool true) ∧ Below W.heap.size W w'))
    (QB : Hid (Cvs w (.slice A len c) sB))
    (HS : Hid (Calls Tryd.prog 8 #[.int .u32 (n : Int), .int .u8 ((k.toNat : Nat) : Int), .slice A len c] w fun e w1 => e = .returned (.tuple #[.slice (some ⟨g, 0, none⟩) 512 512, .int .i64 0]) ∧ Below w.heap.size w w1 ∧ Cvs w1 (.slice (some ⟨g, 0, none⟩) 512 512) sP ∧
      ∀ W : World, Below w1.heap.size w1 W → Calls Tryd.prog 10 #[.int .u32 (n : Int), .slice (some ⟨g, 0, none⟩) 512 512] W fun e w2 => ∃ v2, e = .returned (.tuple #[.int .u8 ((k.toNat : Nat) : Int), v2, .int .i64 0]) ∧ Below W.heap.size W w2 ∧ Cvs w2 v2 sB))
    (HR : Hid (∀ W : World, Calls Tryd.prog 9 #[.int .u32 (n : Int), .int .u8 ((k.toNat : Nat) : Int), .string sB] W fun e w1 => e = .returned (.tuple #[.string sP, .int .i64 0]) ∧ Below W.heap.size W w1)) :
    Calls Tryd.prog 3 #[.int .u32 (n : Int), .int .u8 ((k.toNat : Nat) : Int), .slice A len c] w fun e w' => e = .returned (.bool true) ∧ Below w.heap.size w w' := by
  have hd : decide ((700 : Int) < (len : Int)) = false := by simp; omega
  have hk := C.u8_lt k
  go_enter Tryd.func3, Tryd.ntmps3
  go_wp2_with fail
  refine HS.out.mono ?_
  rintro e w1 ⟨rfl, hB, hP, ho⟩
  have HP := Lib.hid hP
  have HO := Lib.hid ho
  clear ho hP HS
  have q1 := QB.out w1 hB
  go_wp2_with fail
  refine (HR.out _).mono ?_
  rintro e w2 ⟨rfl, h2⟩
  clear q1
  have q2 := HP.out w2 h2
  have HO2 := Lib.hid (HO.out w2 h2)
  replace hB := btr hB h2
  clear h2 HO HP
  go_wp2_with fail
  refine HO2.out.mono ?_
  rintro e w3 ⟨v3, rfl, h3, hv3⟩
  have HV3 := Lib.hid hv3
  replace hB := btr hB h3
  clear h3 hv3 q2 HO2
  go_wp2_with fail
  refine (HF.out _ hB).mono ?_
  rintro e w4 ⟨rfl, h4⟩
  replace hB := btr hB h4
  have q3 := HV3.out w4 h4
  have q4 := QB.out w4 hB
  clear h4
  go_wp2
  go_ret
  exact ⟨rfl, hB⟩
set_option maxHeartbeats 800000 in
theorem seals_long (n len : Nat) (k : UInt8) (A : Option Addr) (c : Nat) (sB : ByteArray) (w : World) (hl : 500 < len) (hl2 : len ≤ 700) (hz : sB.size = len)
    (HF : Hid (∀ W : World, Below w.heap.size w W → Calls Tryd.prog 7 #[] W fun e w' => e = .returned (.bool true) ∧ Below W.heap.size W w'))
    (QB : Hid (Cvs w (.slice A len c) sB)) :
    Calls Tryd.prog 3 #[.int .u32 (n : Int), .int .u8 ((k.toNat : Nat) : Int), .slice A len c] w fun e w' => e = .returned (.bool true) ∧ Below w.heap.size w w' := by
  have hd : decide ((700 : Int) < (len : Int)) = false := by simp; omega
  have q1 := QB.out w (Below.refl _ _)
  have HS := Lib.hid (seal_long (n : Int) ((k.toNat : Nat) : Int) A c len w hl)
  have HR := Lib.hid (refseal_long (n : Int) ((k.toNat : Nat) : Int) sB (by omega) (by omega) w)
  go_enter Tryd.func3, Tryd.ntmps3
  go_wp2_with fail
  refine HS.out.mono ?_
  rintro e w1 ⟨rfl, rfl⟩
  go_wp2_with fail
  refine HR.out.mono ?_
  rintro e w2 ⟨rfl, hB⟩
  have q2 : (convert 23 9 (.slice none 0 0)).run Tryd.prog w2 = .ok (.string ⟨#[]⟩) w2 := (Byts.none w2).conv
  clear q1 HS HR
  go_wp2_with fail
  refine (HF.out _ hB).mono ?_
  rintro e w4 ⟨rfl, h4⟩
  replace hB := btr hB h4
  clear h4
  go_wp2
  go_ret
  exact ⟨rfl, hB⟩
theorem seals_big (n k : Int) (A : Option Addr) (c len : Nat) (h : 700 < len) (w : World) (hT : Tab w) :
    Calls Tryd.prog 3 #[.int .u32 n, .int .u8 k, .slice A len c] w fun e w' => e = .returned (.bool true) ∧ Below w.heap.size w w' := by
  have HF := Lib.hid (fixed_any w hT)
  clear hT
  go_enter Tryd.func3, Tryd.ntmps3
  go_wp2_with fail
  refine HF.out.mono ?_
  rintro e w4 ⟨rfl, h4⟩
  go_wp2
  go_ret
  exact ⟨rfl, h4⟩
theorem sealslaw_any (n : Nat) (hn : n < 4294967296) (k : UInt8) (v : Value) (l : List UInt8) (w : World) (b : Byts w v l) (hT : Tab w) :
    Calls Tryd.prog 3 #[.int .u32 (n : Int), .int .u8 ((k.toNat : Nat) : Int), v] w fun e w' => e = .returned (.bool true) ∧ Below w.heap.size w w' := by
  obtain ⟨A, c, rfl⟩ := b.form
  by_cases h : l.length ≤ 500
  · refine seals_core n l.length k A c w.heap.size (str l) (str (G.page n k l)) w h (fun W hB => fixed_any W (hT.below hB)) b.cvs ?_ ?_
    · refine (seal_page n hn k _ l w b h hT).mono fun e w1 ⟨h1, h2, h3⟩ => ⟨h1, h3, h2.byts.cvs, fun W hW => ?_⟩
      have q := open_any n hn _ _ W (h2.below hW).byts ((hT.below h3).below hW)
      rw [G.page_open_self n k l h, (G.page_back n k l h).1, (G.page_back n k l h).2] at q
      exact q.mono fun e w2 ⟨v2, k1, k2, k3⟩ => ⟨v2, k1, k3, k2.cvs⟩
    · intro W
      have q := refseal_any n hn k l (by omega) W
      have e1 : G.sealE l = 0 := if_pos h
      have e2 : G.sealL n k l = G.page n k l := if_pos h
      rw [e1, e2] at q
      exact q
  · by_cases h2 : l.length ≤ 700
    · exact seals_long n l.length k A c (str l) w (by omega) h2 rfl (fun W hB => fixed_any W (hT.below hB)) b.cvs
    · exact seals_big _ _ A c _ (by omega) w hT
end Go.Proofs.YtnhihkngelckoaaDoor
