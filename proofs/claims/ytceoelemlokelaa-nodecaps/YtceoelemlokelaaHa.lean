/- key.Cmp and the document's own Cmp of rows of bytes: as stage 3 has them, behind lib04's Byt. -/
import Derived.Test.YtceoelemlokelaaByt
import Derived.Lib.Bytealg
import Derived.Lib.BytesEntry
import Derived.Laws.DeepStrings4
import Derived.Lib.SmallJoins
namespace Go.Proofs.Ytceoelemlokelaa
open Go.RowKit

/-- Behind equal beginnings the rest tells. -/
theorem cmp_drop (a b : List UInt8) : ∀ k, k ≤ a.length → k ≤ b.length → (∀ j, j < k → a.getD j 0 = b.getD j 0) → Lib.compareBytes a b = Lib.compareBytes (a.drop k) (b.drop k) := by
  induction a generalizing b with
  | nil => intro k hk _ _; obtain rfl : k = 0 := by simpa using hk
           simp
  | cons x a ih =>
    intro k hk hb h
    cases k with
    | zero => simp
    | succ k =>
      cases b with
      | nil => simp at hb
      | cons y b =>
        have h0 : x = y := by simpa using h 0 (by omega)
        subst h0
        simp only [List.drop_succ_cons]
        rw [← ih b k (by simpa using hk) (by simpa using hb) (fun j hj => by simpa using h (j + 1) (by omega))]
        conv => lhs; unfold Lib.compareBytes
        simp

/-! What 'val' of W tells of a row. -/
def fb (l : List UInt8) (j : Nat) : Nat := (l.getD j 0).toNat
theorem fb_lt (l : List UInt8) (j : Nat) : fb l j < 256 := (l.getD j 0).toNat_lt
theorem fb_get (l : List UInt8) (j : Nat) (h : j < l.length) : fb l j = l[j].toNat := by simp [fb, h]
theorem Byts.load {w : World} {v : Value} {l : List UInt8} (h : Byts w v l) : (Extern.Bytes.bytesOf v).run Try.prog w = .ok (str l) w := by
  obtain ⟨A, c, rfl, hc, h⟩ := h
  by_cases h0 : 0 < l.length
  · obtain ⟨b, off, rfl, h2⟩ := h h0
    have k := Lib.run_loadBytesX (P := Try.prog) w (l.map fun c => ((c.toNat : Nat) : Int)) ⟨b, off, Option.none⟩ .empty (fun j x hj => by
      have hjl : j < l.length := by simpa using (List.getElem?_eq_some_iff.1 hj).1
      have e : (⟨b, off, Option.none⟩ : Addr).add j = ⟨b, off + j, Option.none⟩ := by unfold Addr.add; split <;> simp_all
      rw [e, h2 j hjl]
      simp [hjl] at hj
      rw [hj])
    simp only [Extern.Bytes.bytesOf]
    rw [List.length_map] at k
    rw [k]
    congr 1
    apply ByteArray.ext
    show #[] ++ _ = _
    simp only [Array.empty_append, str, Lib.bytesOf, List.map_map]
    congr 1
    rw [List.map_congr_left (g := id) (fun c _ => by simp)]
    simp
  · obtain rfl : l = [] := List.length_eq_zero_iff.1 (by omega)
    cases A <;> rfl

theorem run_bytecmp {w : World} {v1 v2 : Value} {l1 l2 : List UInt8} (h1 : Byts w v1 l1) (h2 : Byts w v2 l2) :
    (callFunc 48 #[v1, v2]).run Try.prog w = .ok (.value (.int .i64 (Lib.compareBytes l1 l2))) w := by
  rw [run_callFunc_extern Try.func48 (by kernel_rfl) (by kernel_rfl) (by kernel_rfl) (e := Extern.BytealgCompare.compare) (by kernel_rfl)]
  have k : (Extern.BytealgCompare.compare #[v1, v2]).run Try.prog w = .ok (.int .i64 (Lib.compareBytes l1 l2)) w := by
    change Sem.run Try.prog (do pure (goInt (Extern.BytealgCompare.cmp (← Extern.Bytes.bytesOf v1) (← Extern.Bytes.bytesOf v2)))) w = _
    simp only [Sem.run_bind, Sem.run_pure, h1.load, h2.load, Result.andThen]
    rw [Lib.cmp_eq, str_list, str_list]
    rfl
  rw [k]
  rfl
theorem compare_any (v1 v2 : Value) (l1 l2 : List UInt8) (w : World) (h1 : Byts w v1 l1) (h2 : Byts w v2 l2) :
    Calls Try.prog 47 #[v1, v2] w fun e w' => e = .returned (.int .i64 (Lib.compareBytes l1 l2)) ∧ Below w.heap.size w w' := by
  have hr := run_bytecmp h1 h2
  clear h1 h2
  go_enter Try.func47, Try.ntmps47
  go_wp2
  go_ret
  exact ⟨rfl, Below.refl _ _⟩
theorem keycmp_any (v1 v2 : Value) (l1 l2 : List UInt8) (w : World) (h1 : Byts w v1 l1) (h2 : Byts w v2 l2) :
    Calls Try.prog 41 #[v1, v2] w fun e w' => e = .returned (.int .i64 (Lib.compareBytes l1 l2)) ∧ Below w.heap.size w w' := by
  have H := Lib.hid (compare_any v1 v2 l1 l2 w h1 h2)
  clear h1 h2
  go_enter Try.func41, Try.ntmps41
  go_wp2_with fail
  refine H.out.mono ?_
  rintro e w1 ⟨rfl, hb⟩
  go_wp2
  go_ret
  exact ⟨rfl, hb⟩

theorem cmp_lt {a b : List UInt8} {k : Nat} (ha : k < a.length) (hb : k < b.length) (h : ∀ j, j < k → a.getD j 0 = b.getD j 0) (hx : fb a k < fb b k) : Lib.compareBytes a b = -1 := by
  rw [cmp_drop a b k (by omega) (by omega) h, List.drop_eq_getElem_cons ha, List.drop_eq_getElem_cons hb]
  rw [fb_get a k ha, fb_get b k hb] at hx
  unfold Lib.compareBytes
  rw [if_pos (UInt8.lt_iff_toNat_lt.2 hx)]
theorem cmp_gt {a b : List UInt8} {k : Nat} (ha : k < a.length) (hb : k < b.length) (h : ∀ j, j < k → a.getD j 0 = b.getD j 0) (hx : fb b k < fb a k) : Lib.compareBytes a b = 1 := by
  rw [cmp_drop a b k (by omega) (by omega) h, List.drop_eq_getElem_cons ha, List.drop_eq_getElem_cons hb]
  rw [fb_get a k ha, fb_get b k hb] at hx
  unfold Lib.compareBytes
  rw [if_neg (fun c => by have := UInt8.lt_iff_toNat_lt.1 c; omega), if_pos (UInt8.lt_iff_toNat_lt.2 hx)]
theorem cmp_same {a b : List UInt8} {k : Nat} (ha : k < a.length) (hb : k < b.length) (h : ∀ j, j < k → a.getD j 0 = b.getD j 0) (hx : fb a k = fb b k) : ∀ j, j < k + 1 → a.getD j 0 = b.getD j 0 := by
  intro j hj
  by_cases e : j = k
  · subst e
    exact UInt8.toNat_inj.1 hx
  · exact h j (by omega)
theorem cmp_end {a b : List UInt8} {k : Nat} (ha : k ≤ a.length) (hb : k ≤ b.length) (h : ∀ j, j < k → a.getD j 0 = b.getD j 0) (he : k = a.length ∨ k = b.length) :
    Lib.compareBytes a b = if a.length < b.length then -1 else if b.length < a.length then 1 else 0 := by
  rw [cmp_drop a b k ha hb h]
  rcases he with rfl | rfl
  · rw [List.drop_length]
    by_cases c : a.length < b.length
    · rw [if_pos c, List.drop_eq_getElem_cons c]
      rfl
    · have e : b.drop a.length = [] := List.drop_of_length_le (by omega)
      rw [e, if_neg c, if_neg (by omega)]
      rfl
  · rw [List.drop_length]
    by_cases c : b.length < a.length
    · rw [if_neg (by omega), if_pos c, List.drop_eq_getElem_cons c]
      rfl
    · have e : a.drop b.length = [] := List.drop_of_length_le (by omega)
      rw [e, if_neg (by omega), if_neg c]
      rfl

set_option maxHeartbeats 800000 in
theorem refcmpK_any (a b : List UInt8) (ha : a.length ≤ 1000000) (hb : b.length ≤ 1000000) (w : World) :
    Calls Try.prog 40 #[.string (str a), .string (str b)] w fun e w' => e = .returned (.int .i64 (Lib.compareBytes a b)) ∧ Below w.heap.size w w' := by
  have sa : (str a).size = a.length := rfl
  have sb : (str b).size = b.length := rfl
  have GA : Hid (∀ k (h : k < (str a).size), ((str a)[k]).toNat = fb a k) := fun k h => by rw [fb_get a k h]; rfl
  have GB : Hid (∀ k (h : k < (str b).size), ((str b)[k]).toNat = fb b k) := fun k h => by rw [fb_get b k h]; rfl
  rw [← sa] at ha
  rw [← sb] at hb
  have SA := Lib.hid sa
  have SB := Lib.hid sb
  clear sa sb
  generalize str a = s at *
  generalize str b = t at *
  have HC : Hid (∃ r, r = Lib.compareBytes a b) := ⟨_, rfl⟩
  obtain ⟨r, hr⟩ := HC.out
  rw [← hr]
  have HR := Lib.hid hr
  clear hr HC
  go_enter Try.func40, Try.ntmps40
  go_wp2
  go_loopw [5] (fun i wr => ∃ k : Nat, k ≤ s.size ∧ k ≤ t.size ∧ i = .int .i64 (k : Int) ∧ (∀ j, j < k → a.getD j 0 = b.getD j 0) ∧ Below w.heap.size w wr) (fun i _ => s.size - (intOf i).toNat)
  case atStart => exact ⟨0, by omega, by omega, rfl, fun j hj => by omega, Below.refl _ _⟩
  case round =>
    obtain ⟨k, h1, h2, rfl, he, hB⟩ := hrel
    by_cases hlt : k < s.size ∧ k < t.size
    · obtain ⟨hs, ht⟩ := hlt
      have ga := GA.out k hs
      have gb := GB.out k ht
      have ks : k < a.length := by rw [← SA.out]; exact hs
      have kt : k < b.length := by rw [← SB.out]; exact ht
      have HE := Lib.hid he
      clear he
      rcases Nat.lt_trichotomy (fb a k) (fb b k) with c | c | c
      · have HV := Lib.hid (cmp_lt ks kt HE.out c)
        rw [← HR.out] at HV
        rw [← ga, ← gb] at c
        clear ks kt ga gb
        go_wp2
        go_quiet (fail)
        go_wp2
        go_ret
        exact ⟨by rw [HV.out]; rfl, bdn hB _⟩
      · have HV := Lib.hid (cmp_same ks kt HE.out c)
        rw [← ga, ← gb] at c
        clear ks kt ga gb
        go_wp2
        go_quiet (fail)
        go_wp2
        go_quiet (fail)
        go_wp2
        go_roundw
        case rel => exact ⟨k + 1, by omega, by omega, by go_num, HV.out, by first | exact bdn hB _ | exact bdn (bdn hB _) _⟩
        case measure => simp [intOf]; omega
      · have HV := Lib.hid (cmp_gt ks kt HE.out c)
        rw [← HR.out] at HV
        rw [← ga, ← gb] at c
        clear ks kt ga gb
        go_wp2
        go_quiet (fail)
        go_wp2
        go_quiet (fail)
        go_wp2
        go_ret
        exact ⟨by rw [HV.out]; rfl, by first | exact bdn hB _ | exact bdn (bdn hB _) _⟩
    · have HV := Lib.hid (cmp_end (k := k) (by rw [← SA.out]; exact h1) (by rw [← SB.out]; exact h2) he (by rw [← SA.out, ← SB.out]; omega))
      rw [← HR.out, ← SA.out, ← SB.out] at HV
      clear he
      have hc : ¬ k < s.size ∨ (k < s.size ∧ ¬ k < t.size) := by omega
      clear hlt
      rcases hc with hc | ⟨hc, hd⟩
      all_goals
        rcases Nat.lt_trichotomy s.size t.size with c | c | c
        · first
            | omega
            | (rw [if_pos c] at HV
               go_wp2
               go_ret
               exact ⟨by rw [HV.out]; rfl, hB⟩)
        · first
            | omega
            | (rw [if_neg (by omega), if_neg (by omega)] at HV
               go_wp2
               go_ret
               exact ⟨by rw [HV.out]; rfl, hB⟩)
        · first
            | omega
            | (rw [if_neg (by omega), if_pos c] at HV
               go_wp2
               go_ret
               exact ⟨by rw [HV.out]; rfl, hB⟩)
end Go.Proofs.Ytceoelemlokelaa
