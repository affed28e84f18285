/- The chapter's example as mathematics. -/
import Derived.Test.YtcbiagdpolhbfaaLb
namespace Go.Proofs.Ytcbiagdpolhbfaa
open Go.RowKit
open D (St)

def exA : St := D.setFuse (D.new 8) 1
def exB (y1 : List UInt8) : St := D.write exA 3 y1
def exC (y1 y2 : List UInt8) : St := D.write (exB y1) 4 y2
def exD (y1 y2 : List UInt8) : St := D.crash (exC y1 y2) [(0, 512)]
theorem exB_eq (y1 : List UInt8) (h1 : y1.length = 512) : exB y1 = ⟨List.replicate 8 D.zero, [(3, y1)], 0, false, 1⟩ := by
  simp [exB, exA, D.write, D.bad, D.setFuse, D.new, h1, D.put, D.act]
theorem exC_eq (y1 y2 : List UInt8) (h1 : y1.length = 512) (h2 : y2.length = 512) : exC y1 y2 = ⟨List.replicate 8 D.zero, [(3, y1), (4, y2)], 0, true, 2⟩ := by
  unfold exC
  rw [exB_eq y1 h1]
  simp [D.write, D.bad, h2, D.put, D.act]
theorem exE1 (y1 : List UInt8) (h1 : y1.length = 512) : D.writeE exA 3 y1 = 0 := by simp [exA, D.writeE, D.bad, D.setFuse, D.new, h1, D.ans]
theorem exE2 (y1 y2 : List UInt8) (h1 : y1.length = 512) (h2 : y2.length = 512) : D.writeE (exB y1) 4 y2 = 7 := by
  rw [exB_eq y1 h1]
  simp [D.writeE, D.bad, h2, D.ans]
theorem part_all (a b : List UInt8) (ha : a.length = 512) (hb : b.length = 512) : D.part a b 0 512 = b := by
  unfold D.part
  rw [if_pos (by omega), List.take_zero, List.nil_append, List.drop_zero, List.take_of_length_le (by omega), List.drop_of_length_le (by omega), List.append_nil]
theorem zero_length : D.zero.length = 512 := List.length_replicate
theorem exD_eq (y1 y2 : List UInt8) (h1 : y1.length = 512) (h2 : y2.length = 512) : exD y1 y2 = ⟨(List.replicate 8 D.zero).set 3 y1, [], -1, false, 2⟩ := by
  unfold exD
  rw [exC_eq y1 y2 h1 h2]
  have hb0 : D.bnd 0 = 0 := by decide
  have hb1 : D.bnd 512 = 512 := by decide
  have hg : (List.replicate 8 D.zero).getD 3 [] = D.zero := by simp [List.getD]
  simp only [D.crash, D.left, D.give, hb0, hb1, hg, part_all _ _ zero_length h1]
theorem exR1 (y1 y2 : List UInt8) (h1 : y1.length = 512) (h2 : y2.length = 512) : readE (exD y1 y2) 3 = 0 ∧ readB (exD y1 y2) 3 = y1 := by
  rw [exD_eq y1 y2 h1 h2]
  simp [readE, readB, hasB, D.look, D.lk]
theorem exR2 (y1 y2 : List UInt8) (h1 : y1.length = 512) (h2 : y2.length = 512) : readE (exD y1 y2) 4 = 0 ∧ readB (exD y1 y2) 4 = D.zero := by
  rw [exD_eq y1 y2 h1 h2]
  simp [readE, readB, hasB, D.look, D.lk]
theorem exF (y1 : List UInt8) (h1 : y1.length = 512) : exA.waits.length ≤ 1000000 ∧ exA.writes ≤ 1000000 ∧ (exB y1).waits.length ≤ 1000000 ∧ (exB y1).writes ≤ 1000000 := by
  rw [exB_eq y1 h1]
  simp [exA, D.setFuse, D.new]
end Go.Proofs.Ytcbiagdpolhbfaa
