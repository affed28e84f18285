/- disk.New; rows of blocks. -/
import Derived.Test.YtcbiagdpolhbfaaDq
namespace Go.Proofs.Ytcbiagdpolhbfaa
open Go.RowKit
open D (St)

/-- The cells of a row of blocks. -/
def sall (l : List (List UInt8)) : List Value := l.flatMap bvs
theorem sall_length : ∀ (l : List (List UInt8)), (∀ x ∈ l, x.length = 512) → (sall l).length = l.length * 512
  | [], _ => rfl
  | x :: r, h => by
    simp only [sall, List.flatMap_cons, List.length_append, List.length_cons]
    have := sall_length r (fun y hy => h y (by simp [hy]))
    rw [bvs_length, h x (by simp)]
    simp only [sall] at this
    rw [this]
    omega
theorem sall_get : ∀ (l : List (List UInt8)), (∀ x ∈ l, x.length = 512) → ∀ i (hi : i < l.length) j, j < 512 → (sall l)[i * 512 + j]? = (bvs l[i])[j]?
  | x :: r, h, 0, _, j, hj => by
    have := h x (by simp)
    simp only [sall, List.flatMap_cons, Nat.zero_mul, Nat.zero_add]
    rw [List.getElem?_append_left (by rw [bvs_length]; omega)]
    rfl
  | x :: r, h, i + 1, hi, j, hj => by
    have := h x (by simp)
    simp only [sall, List.flatMap_cons]
    rw [List.getElem?_append_right (by rw [bvs_length]; omega), bvs_length, this, show (i + 1) * 512 + j - 512 = i * 512 + j by omega]
    exact sall_get r (fun y hy => h y (by simp [hy])) i (by simpa using hi) j hj
theorem sall_one (l : List (List UInt8)) : ∀ u ∈ sall l, u.oneCell' = true := by
  intro u hu
  obtain ⟨x, _, hx⟩ := List.mem_flatMap.1 hu
  exact bvs_one x u hx
theorem made_blocks (n : Nat) : (madeCells zb (n * 512)).toList = sall (List.replicate n D.zero) := by
  have hf : ∀ x ∈ List.replicate n D.zero, x.length = 512 := fun x hx => by rw [(List.mem_replicate.1 hx).2]; exact List.length_replicate
  apply List.ext_getElem?
  intro k
  by_cases h : k < n * 512
  · have e : k = k / 512 * 512 + k % 512 := by omega
    have hi : k / 512 < (List.replicate n D.zero).length := by simp; omega
    have e1 : (sall (List.replicate n D.zero))[k]? = (bvs D.zero)[k % 512]? := by
      have := sall_get _ hf (k / 512) hi (k % 512) (by omega)
      rw [← e] at this
      rw [this]
      simp
    rw [e1]
    have e2 : (madeCells zb (n * 512)).toList[k]? = some (zb[k % zb.size]!) := by simp [madeCells, h]
    rw [e2, zb_size]
    have hm : k % 512 < zb.size := by rw [zb_size]; omega
    rw [getElem!_pos zb (k % 512) hm]
    have : (bvs D.zero)[k % 512]? = zb[k % 512]? := by simp [zb]
    rw [this]
    simp [hm]
  · rw [List.getElem?_eq_none (by simp [size_madeCells]; omega), List.getElem?_eq_none (by rw [sall_length _ hf]; simp; omega)]
theorem blocks_own {w : World} {base g n cap : Nat} {ss : List (List UInt8)} (h : w.ownsRow base 73 512 (.slice (some ⟨g, 0, none⟩) n cap) n (sall ss)) (hn : ss.length = n) (hf : ∀ x ∈ ss, x.length = 512) :
    (∀ i (hi : i < ss.length), w.rangeAt g (i * 512) (bvs ss[i])) ∧ (∀ i, i < ss.length → w.there g (i * 512) 512) := by
  have key : ∀ i (hi : i < ss.length) j, j < 512 → w.cell? ⟨g, i * 512 + j, none⟩ = (bvs ss[i])[j]? := fun i hi j hj => by
    rw [h.cellAt (i * 512 + j) (by have : (i + 1) * 512 ≤ n * 512 := Nat.mul_le_mul_right _ (by omega); omega), sall_get ss hf i hi j hj]
  refine ⟨fun i hi j v hv => ?_, fun i hi j hj => ⟨?_, h.frozenAt _⟩⟩
  · have hj : j < 512 := by
      have := (List.getElem?_eq_some_iff.1 hv).1
      rw [bvs_length, hf _ (List.getElem_mem hi)] at this
      exact this
    rw [key i hi j hj]
    exact hv
  · rw [key i hi j hj]
    simp [bvs, hf _ (List.getElem_mem hi), hj]
theorem Try.infoZ73 : (Try.prog.info? 73).map (fun i => (i.zero, i.size, i.bytes)) = some (some (.agg zb), 512, 512) := by kernel_rfl
theorem Try.zero65 : (Try.prog.info? 65).map (fun i => (i.zero, i.size)) = some (some (.agg #[.slice none 0 0, .slice none 0 0, .int .i64 0, .bool false, .int .i64 0]), 5) := by kernel_rfl
/-- A struct that was laid over a row of blocks. -/
theorem new_dsk {w : World} {g n cap : Nat} {wv : Value} {s : St} {fu wr : Int} {dn : Bool} (ho : w.ownsRow 0 73 512 (.slice (some ⟨g, 0, none⟩) n cap) n (sall s.safe)) (hn : s.safe.length = n) (hok : D.Ok s) (hw : w.ownsRow 0 75 513 wv s.waits.length (wall s.waits)) (hne : wv.ownBlock ≠ some g)
    (e1 : s.fuse = fu) (e2 : s.down = dn) (e3 : (s.writes : Int) = wr) :
    Dsk (w.alloc (.cells #[.slice (some ⟨g, 0, none⟩) n cap, wv, .int .i64 fu, .bool dn, .int .i64 wr] 65)) w.heap.size g wv s := by
  subst hn e1 e2 e3
  have hk : ∀ o, Keep (fun _ => False) w (w.alloc o) := fun o => Keep.of_below (alb o)
  obtain ⟨h1, h2⟩ := blocks_own ho rfl hok.full
  have hg : g < w.heap.size := (ho.lt g rfl).2
  refine ⟨hok, ⟨cap, ?_⟩, ?_, ?_, ?_, ?_, fun i => ?_, fun i hi => range_keep (h1 i hi) (hk _) (fun h => h), fun i hi => there_keep (h2 i hi) (hk _) (fun h => h), own_keep hw (hk _) (fun _ _ h => h), by omega, fun e => ?_, hne⟩
  · rw [World.cell?_alloc_at _ _ _ _ rfl]; rfl
  · rw [World.cell?_alloc_at _ _ _ _ rfl]; rfl
  · rw [World.cell?_alloc_at _ _ _ _ rfl]; rfl
  · rw [World.cell?_alloc_at _ _ _ _ rfl]; rfl
  · rw [World.cell?_alloc_at _ _ _ _ rfl]; rfl
  · simp
  · have := (hw.lt _ e).2
    omega
end Go.Proofs.Ytcbiagdpolhbfaa
