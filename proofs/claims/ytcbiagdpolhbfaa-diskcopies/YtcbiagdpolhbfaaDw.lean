/- disk.Write. -/
import Derived.Test.YtcbiagdpolhbfaaDd
import Derived.Test.YtcbiagdpolhbfaaLz
import Derived.Test.YtcbiagdpolhbfaaBs
namespace Go.Proofs.Ytcbiagdpolhbfaa
open Go.RowKit
open D (St)

/-- The cells of a write that waits, as an array. -/
def wz (x : Nat × List UInt8) : Array Value := (wcells x).toArray
theorem wz_size {x : Nat × List UInt8} (h : x.2.length = 512) : (wz x).size = 513 := by simp [wz, wcells_length h]
theorem Try.zero75 : (Try.prog.info? 75).map (fun i => (i.zero, i.size)) = some (some (.agg (wz (0, D.zero))), 513) := by kernel_rfl
theorem Try.infoZ75 : (Try.prog.info? 75).map (fun i => (i.zero, i.size, i.bytes)) = some (some (.agg (wz (0, D.zero))), 513, 520) := by kernel_rfl
theorem Try.built75 (n : Nat) : Try.prog.built 75 [(0, .int .i64 (n : Int))] = some (wz (n, D.zero)) := by kernel_rfl

/-- A write that was laid: its place, then its bytes by copy. -/
theorem laid_write (w : World) (n : Nat) (y : List UInt8) (hy : y.length = 512) (Z ZN : Array Value) (hZ : Z.size = 513) (hZN : wz (n, D.zero) = ZN) {b off c : Nat} (hc : ∀ j (h : j < y.length), w.cell? ⟨b, off + j, none⟩ = some (.int .u8 ((y[j].toNat : Nat) : Int))) :
    ∃ w3, (Builtin.copy_ #[44, 44] 3 #[.slice (some ⟨w.heap.size, 1, none⟩) 512 512, .slice (some ⟨b, off, none⟩) 512 c]).run Try.prog ((w.alloc (.cells Z 75)).setCells w.heap.size 0 ZN.toList) = .ok (goInt 512) w3 ∧
      w3.rangeAt w.heap.size 0 (wcells (n, y)) ∧ Below w.heap.size w w3 ∧ w.heap.size < w3.heap.size := by
  have hzl : ZN.toList.length = 513 := by rw [← hZN]; kernel_rfl
  have ht0 : (w.alloc (.cells Z 75)).there w.heap.size 0 513 := there_new w Z 75 513 hZ
  have ht : ((w.alloc (.cells Z 75)).setCells w.heap.size 0 ZN.toList).there w.heap.size 0 513 := World.there_setCells ht0 _ _ _
  have ht1 : ((w.alloc (.cells Z 75)).setCells w.heap.size 0 ZN.toList).there w.heap.size 1 (bvs y).length := fun j hj => by
    have := ht (1 + j) (by rw [bvs_length, hy] at hj; omega)
    simpa using this
  have hr0 := World.rangeAt_setCells_same (w.alloc (.cells Z 75)) w.heap.size 0 ZN.toList (by rw [hzl]; exact ht0)
  have hb : b < w.heap.size := World.block_lt_of_cell? w _ (hc 0 (by omega))
  have hk0 : Keep (fun _ => False) w ((w.alloc (.cells Z 75)).setCells w.heap.size 0 ZN.toList) := Keep.setCells (Keep.of_below (alb _)) (.inr (Nat.le_refl _)) _ _
  refine ⟨((w.alloc (.cells Z 75)).setCells w.heap.size 0 ZN.toList).setCells w.heap.size 1 (bvs y), ?_, ?_, ?_, ?_⟩
  · have := run_copy_cells (P := Try.prog) ((w.alloc (.cells Z 75)).setCells w.heap.size 0 ZN.toList) 44 44 3 5 w.heap.size 1 512 512 ⟨b, off, none⟩ 512 c (bvs y) Try.underlying44 (by kernel_rfl) (by rw [bvs_length, hy]; rfl)
      (fun j v hj => by
        have hjl : j < y.length := by rw [← bvs_length]; exact (List.getElem?_eq_some_iff.1 hj).1
        rw [bvs_get y j hjl] at hj
        rw [Addr.add_mid, ← hj]
        exact hk0.cell (hc j hjl) (fun h => h)) (fun j hj => (ht1 j hj).1) (fun j hj => (ht1 j hj).2) (bvs_one y)
    rw [bvs_length, hy] at this
    exact this
  · intro j v hv
    cases j with
    | zero =>
      rw [World.cell?_setCells_out _ _ _ _ _ (fun _ _ => .inl (by show 0 + 0 < 1; omega))]
      have e : (wcells (n, y))[0]? = ZN.toList[0]? := by rw [← hZN]; rfl
      rw [e] at hv
      exact hr0 0 v hv
    | succ k =>
      have := World.rangeAt_setCells_same ((w.alloc (.cells Z 75)).setCells w.heap.size 0 ZN.toList) w.heap.size 1 (bvs y) ht1 k v (by simpa [wcells] using hv)
      rw [show 0 + (k + 1) = 1 + k by omega]
      exact this
  · exact (Keep.setCells (F := fun _ => False) hk0 (.inr (Nat.le_refl _)) 1 (bvs y)).below (Nat.le_refl _) (fun _ h => h.elim)
  · rw [size_setCells, size_setCells]
    simp
end Go.Proofs.Ytcbiagdpolhbfaa
