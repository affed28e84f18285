/- The library's sort at uint32: the sort by a heap. -/
import Derived.Test.YtmjjkoiepoblmaaSd
namespace Go.Proofs.Ytmjjkoiepoblmaa
open Go.RowKit Go.Sort

theorem size_sift (h f : Nat) : ∀ (n r : Nat) (d : Array Int), h - r ≤ n → (siftDown ltInt h f r d).size = d.size := by
  intro n
  induction n with
  | zero => intro r d hr; rw [sd_end ltInt d (by omega)]
  | succ n ih =>
    intro r d hr
    rw [siftDown]
    split
    · rfl
    · split
      · split
        · rfl
        · split
          · rw [ih _ _ (by omega), size_swp]
          · rfl
      · split
        · rfl
        · rw [ih _ _ (by omega), size_swp]
theorem heap_end (l n : Nat) (d dk dj : Array Int) (h1 : heapBuild ltInt n l 0 dk = heapBuild ltInt n l ((n - 1) / 2 + 1) d) (h2 : heapPop ltInt l 0 dj = heapPop ltInt l n dk) : heapSort ltInt d l (l + n) = dj := by
  have e2 : heapBuild ltInt n l 0 dk = dk := rfl
  have e3 : heapPop ltInt l 0 dj = dj := rfl
  unfold heapSort
  rw [show l + n - l = n by omega, ← h1, e2, ← h2, e3]
theorem build_go (n l m : Nat) (d : Array Int) : heapBuild ltInt n l (m + 1) d = heapBuild ltInt n l m (siftDown ltInt n l m d) := by rw [heapBuild]
theorem pop_go (l m : Nat) (d : Array Int) : heapPop ltInt l (m + 1) d = heapPop ltInt l m (siftDown ltInt m l 0 (swp d l (l + m))) := by rw [heapPop]

set_option maxHeartbeats 3200000 in
set_option maxRecDepth 1000000 in
theorem heap_any (b o cap : Nat) (d : Array Int) (l h : Nat) (w : World) (hH : Holds eU w b o d) (hab : l < h) (hb : h ≤ d.size) (hsz : d.size < 4611686018427387904) :
    Calls Try.prog 30 #[.slice (some ⟨b, o, none⟩) d.size cap, .int .i64 l, .int .i64 h] w fun e w' => e = .returned (.tuple #[]) ∧ Rw w b o (heapSort ltInt d l h) w' := by
  obtain ⟨n, hnh⟩ : ∃ n, h = l + n := ⟨h - l, by omega⟩
  have hn : 0 < n := by omega
  have e0 : (h : Int) - (l : Int) = (n : Int) := by omega
  rw [show heapSort ltInt d l h = heapSort ltInt d l (l + n) by rw [hnh]]
  have hb' : l + n ≤ d.size := by omega
  clear hab hnh hb
  have e1 : Int.tdiv ((n : Int) - 1) 2 = (((n - 1) / 2 : Nat) : Int) := by
    rw [show (n : Int) - 1 = ((n - 1 : Nat) : Int) by omega]
    rfl
  go_enter Try.func30, Try.ntmps30
  go_wp2
  go_loopg [9] ((n - 1) / 2 + 1) (fun k s9 wr => ∃ (z : Int) (dk : Array Int), s9 = .int .i64 z ∧ z = (k : Int) - 1 ∧ k ≤ n ∧ dk.size = d.size ∧ Rw w b o dk wr ∧ heapBuild ltInt n l k dk = heapBuild ltInt n l ((n - 1) / 2 + 1) d)
  case atStart => exact ⟨_, d, rfl, by omega, by omega, rfl, Rw.self hH, rfl⟩
  case round =>
    obtain ⟨z, dk, rfl, hz, hk, hds, R, heq⟩ := hrel
    have HO := Lib.hid heq
    have A := Lib.hid R
    clear heq R
    rcases gk with _ | m
    · have hz0 : ¬ (0 ≤ z) := by omega
      go_wp2
      go_loopg [10] n (fun k s10 wq => ∃ (y : Int) (dj : Array Int), s10 = .int .i64 y ∧ y = (k : Int) - 1 ∧ k ≤ n ∧ dj.size = d.size ∧ Rw w b o dj wq ∧ heapPop ltInt l k dj = heapPop ltInt l n dk)
      case atStart => exact ⟨_, dk, rfl, by omega, by omega, hds, A.out, rfl⟩
      case round =>
        obtain ⟨y, dj, rfl, hy, hk2, hdj, R2, heq2⟩ := hrel
        obtain ⟨G, HG, hcw, hfw⟩ := R2.fams hdj
        have HI := Lib.hid heq2
        have A2 := Lib.hid R2
        clear heq2 R2 hH
        rcases gk with _ | q
        · have hy0 : ¬ (0 ≤ y) := by omega
          go_wp2
          go_end0
          refine ⟨rfl, ?_⟩
          rw [heap_end l n d dk dj HO.out HI.out]
          exact A2.out
        · obtain rfl : y = (q : Int) := by omega
          clear hy
          rcases Nat.eq_zero_or_pos q with rfl | hq
          · go_wp2_with fail
            go_region
            have A3 := Lib.hid (A2.out.swap (i := l) (j := l + 0) (by omega) (by omega) (x := .int .u32 (G l)) (y := .int .u32 (G l)) (by rw [HG.out]; rfl) (by rw [HG.out]))
            simp only [Nat.add_zero] at A3
            clear A2 hcw hfw
            generalize ((wr.setCell _ _).setCell _ _).drew = wr3 at A3 ⊢
            have c := sift_len b o cap (swp dj l l) d.size ((size_swp dj l l).trans hdj) 0 0 l wr3 A3.out.there (by omega) (by omega) (by omega)
            have C := Lib.hid c
            clear c
            go_wp2_with (go_at_call 40; refine C.out.mono ?_; rintro e w1 ⟨rfl, R1⟩)
            go_roundg 0
            case measure => omega
            case rel =>
              refine ⟨_, siftDown ltInt 0 l 0 (swp dj l l), rfl, rfl, by omega, by rw [size_sift _ _ _ _ _ (Nat.le_refl _), size_swp]; exact hdj, A3.out.trans R1, ?_⟩
              exact (pop_go l 0 dj).symm.trans HI.out
          · go_wp2_with fail
            go_region
            have A3 := Lib.hid (A2.out.swap (i := l) (j := l + q) (by omega) (by omega) (x := .int .u32 (G (l + q))) (y := .int .u32 (G l)) (by rw [HG.out]) (by rw [HG.out]))
            clear A2 hcw hfw
            generalize ((wr.setCell _ _).setCell _ _).drew = wr3 at A3 ⊢
            have c := sift_len b o cap (swp dj l (l + q)) d.size ((size_swp dj l (l + q)).trans hdj) 0 q l wr3 A3.out.there (by omega) (by omega) (by omega)
            have C := Lib.hid c
            clear c
            go_wp2_with (go_at_call 40; refine C.out.mono ?_; rintro e w1 ⟨rfl, R1⟩)
            go_roundg q
            case measure => omega
            case rel =>
              refine ⟨_, siftDown ltInt q l 0 (swp dj l (l + q)), rfl, rfl, by omega, by rw [size_sift _ _ _ _ _ (Nat.le_refl _), size_swp]; exact hdj, A3.out.trans R1, ?_⟩
              exact (pop_go l q dj).symm.trans HI.out
    · obtain rfl : z = (m : Int) := by omega
      clear hz
      have c := sift_len b o cap dk d.size hds m n l wr A.out.there (by omega) (by omega) (by omega)
      have C := Lib.hid c
      clear c
      go_wp2_with (go_at_call 40; refine C.out.mono ?_; rintro e w1 ⟨rfl, R1⟩)
      go_roundg m
      case measure => omega
      case rel =>
        refine ⟨_, siftDown ltInt n l m dk, rfl, rfl, by omega, by rw [size_sift _ _ _ _ _ (Nat.le_refl _)]; exact hds, A.out.trans R1, ?_⟩
        exact (build_go n l m dk).symm.trans HO.out
end Go.Proofs.Ytmjjkoiepoblmaa
