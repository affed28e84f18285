/- The document's own Cmp of rows: byte by byte. -/
import Derived.Test.YtfofhnaomlcioaaRowb
namespace Go.Proofs.Ytfofhnaomlcioaa
open Go.RowKit
open W (hi lo dig MM M cmpN)

theorem cmp_lt {a b : List UInt8} {k : Nat} (ha : k < a.length) (hb : k < b.length) (h : ∀ j, j < k → a.getD j 0 = b.getD j 0) (hx : fb a k < fb b k) : Lib.compareBytes a b = -1 := by
  rw [cmp_drop a b k (by omega) (by omega) h, List.drop_eq_getElem_cons ha, List.drop_eq_getElem_cons hb]
  rw [fb_get a k ha, fb_get b k hb] at hx
  unfold Lib.compareBytes
  rw [if_pos (UInt8.lt_iff_toNat_lt.2 hx)]
theorem cmp_gt {a b : List UInt8} {k : Nat} (ha : k < a.length) (hb : k < b.length) (h : ∀ j, j < k → a.getD j 0 = b.getD j 0) (hx : fb b k < fb a k) : Lib.compareBytes a b = 1 := by
  rw [cmp_drop a b k (by omega) (by omega) h, List.drop_eq_getElem_cons ha, List.drop_eq_getElem_cons hb]
  rw [fb_get a k ha, fb_get b k hb] at hx
  unfold Lib.compareBytes
  rw [if_neg (fun c => by have := UInt8.lt_iff_toNat_lt.1 c; omega), if_pos (UInt8.lt_iff_toNat_lt.2 hx)]
theorem cmp_same {a b : List UInt8} {k : Nat} (ha : k < a.length) (hb : k < b.length) (h : ∀ j, j < k → a.getD j 0 = b.getD j 0) (hx : fb a k = fb b k) : ∀ j, j < k + 1 → a.getD j 0 = b.getD j 0 := by
  intro j hj
  by_cases e : j = k
  · subst e
    exact UInt8.toNat_inj.1 hx
  · exact h j (by omega)
theorem cmp_end {a b : List UInt8} {k : Nat} (ha : k ≤ a.length) (hb : k ≤ b.length) (h : ∀ j, j < k → a.getD j 0 = b.getD j 0) (he : k = a.length ∨ k = b.length) :
    Lib.compareBytes a b = if a.length < b.length then -1 else if b.length < a.length then 1 else 0 := by
  rw [cmp_drop a b k ha hb h]
  rcases he with rfl | rfl
  · rw [List.drop_length]
    by_cases c : a.length < b.length
    · rw [if_pos c, List.drop_eq_getElem_cons c]
      rfl
    · have e : b.drop a.length = [] := List.drop_of_length_le (by omega)
      rw [e, if_neg c, if_neg (by omega)]
      rfl
  · rw [List.drop_length]
    by_cases c : b.length < a.length
    · rw [if_neg (by omega), if_pos c, List.drop_eq_getElem_cons c]
      rfl
    · have e : a.drop b.length = [] := List.drop_of_length_le (by omega)
      rw [e, if_neg (by omega), if_neg c]
      rfl

set_option maxHeartbeats 800000 in
theorem refcmpK_any (a b : List UInt8) (ha : a.length ≤ 1000000) (hb : b.length ≤ 1000000) (w : World) :
    Calls Try.prog 11 #[.string (str a), .string (str b)] w fun e w' => e = .returned (.int .i64 (Lib.compareBytes a b)) ∧ Below w.heap.size w w' := by
  have sa : (str a).size = a.length := rfl
  have sb : (str b).size = b.length := rfl
  have GA : Hid (∀ k (h : k < (str a).size), ((str a)[k]).toNat = fb a k) := fun k h => by rw [fb_get a k h]; rfl
  have GB : Hid (∀ k (h : k < (str b).size), ((str b)[k]).toNat = fb b k) := fun k h => by rw [fb_get b k h]; rfl
  rw [← sa] at ha
  rw [← sb] at hb
  have SA := Lib.hid sa
  have SB := Lib.hid sb
  clear sa sb
  generalize str a = s at *
  generalize str b = t at *
  have HC : Hid (∃ r, r = Lib.compareBytes a b) := ⟨_, rfl⟩
  obtain ⟨r, hr⟩ := HC.out
  rw [← hr]
  have HR := Lib.hid hr
  clear hr HC
  go_enter Try.func11, Try.ntmps11
  go_wp2
  go_loopw [5] (fun i wr => ∃ k : Nat, k ≤ s.size ∧ k ≤ t.size ∧ i = .int .i64 (k : Int) ∧ (∀ j, j < k → a.getD j 0 = b.getD j 0) ∧ Below w.heap.size w wr) (fun i _ => s.size - (intOf i).toNat)
  case atStart => exact ⟨0, by omega, by omega, rfl, fun j hj => by omega, Below.refl _ _⟩
  case round =>
    obtain ⟨k, h1, h2, rfl, he, hB⟩ := hrel
    by_cases hlt : k < s.size ∧ k < t.size
    · obtain ⟨hs, ht⟩ := hlt
      have ga := GA.out k hs
      have gb := GB.out k ht
      have ks : k < a.length := by rw [← SA.out]; exact hs
      have kt : k < b.length := by rw [← SB.out]; exact ht
      have HE := Lib.hid he
      clear he
      rcases Nat.lt_trichotomy (fb a k) (fb b k) with c | c | c
      · have HV := Lib.hid (cmp_lt ks kt HE.out c)
        rw [← HR.out] at HV
        rw [← ga, ← gb] at c
        clear ks kt ga gb
        go_wp2
        go_quiet (fail)
        go_wp2
        go_ret
        exact ⟨by rw [HV.out]; rfl, bdn hB _⟩
      · have HV := Lib.hid (cmp_same ks kt HE.out c)
        rw [← ga, ← gb] at c
        clear ks kt ga gb
        go_wp2
        go_quiet (fail)
        go_wp2
        go_quiet (fail)
        go_wp2
        go_roundw
        case rel => exact ⟨k + 1, by omega, by omega, by go_num, HV.out, by first | exact bdn hB _ | exact bdn (bdn hB _) _⟩
        case measure => simp [intOf]; omega
      · have HV := Lib.hid (cmp_gt ks kt HE.out c)
        rw [← HR.out] at HV
        rw [← ga, ← gb] at c
        clear ks kt ga gb
        go_wp2
        go_quiet (fail)
        go_wp2
        go_quiet (fail)
        go_wp2
        go_ret
        exact ⟨by rw [HV.out]; rfl, by first | exact bdn hB _ | exact bdn (bdn hB _) _⟩
    · have HV := Lib.hid (cmp_end (k := k) (by rw [← SA.out]; exact h1) (by rw [← SB.out]; exact h2) he (by rw [← SA.out, ← SB.out]; omega))
      rw [← HR.out, ← SA.out, ← SB.out] at HV
      clear he
      have hc : ¬ k < s.size ∨ (k < s.size ∧ ¬ k < t.size) := by omega
      clear hlt
      rcases hc with hc | ⟨hc, hd⟩
      all_goals
        rcases Nat.lt_trichotomy s.size t.size with c | c | c
        · first
            | omega
            | (rw [if_pos c] at HV
               go_wp2
               go_ret
               exact ⟨by rw [HV.out]; rfl, hB⟩)
        · first
            | omega
            | (rw [if_neg (by omega), if_neg (by omega)] at HV
               go_wp2
               go_ret
               exact ⟨by rw [HV.out]; rfl, hB⟩)
        · first
            | omega
            | (rw [if_neg (by omega), if_pos c] at HV
               go_wp2
               go_ret
               exact ⟨by rw [HV.out]; rfl, hB⟩)
end Go.Proofs.Ytfofhnaomlcioaa
