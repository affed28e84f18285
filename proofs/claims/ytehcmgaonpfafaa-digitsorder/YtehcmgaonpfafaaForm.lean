/- digits.isText and the document's own form: is a text some number's? -/
import Derived.Test.YtehcmgaonpfafaaText
namespace Go.Proofs.Ytehcmgaonpfafaa
open Go.RowKit
open W (hi lo addN addB dig MM M txL isT isD dg)

theorem str_get (l : List UInt8) (k : Nat) (h : k < (str l).size) : (str l)[k] = l[k]'h := rfl
theorem str_getD (l : List UInt8) (k : Nat) (h : k < (str l).size) : (str l)[k] = l.getD k 0 := by
  have h2 : k < l.length := h
  rw [str_get]
  simp [h2]
  rfl
theorem str_of (s : ByteArray) : str s.data.toList = s := by cases s; simp [str]
theorem str_toList (l : List UInt8) : (str l).toList = l := by rw [ByteArray.toList_eq]; exact str_list l
theorem isT_nil : isT [] = false := rfl
theorem isT_nought (l : List UInt8) (h : 1 < l.length) (h0 : l.head? = some 48) : isT l = false := by
  unfold W.isT
  simp [h, h0]
theorem isT_bad (l : List UInt8) (k : Nat) (h : k < l.length) (hb : isD l[k] = false) : isT l = false := by
  have : l.all isD = false := by
    rw [List.all_eq_false]
    exact ⟨l[k], List.getElem_mem h, by rw [hb]; simp⟩
  unfold W.isT
  rw [this]
  simp
theorem isT_good (l : List UInt8) (h : l ≠ []) (h0 : ¬ (1 < l.length ∧ l.head? = some 48)) (ha : l.all isD = true) : isT l = true := by
  unfold W.isT
  rw [ha]
  have h1 : l.isEmpty = false := by cases l; exact absurd rfl h; rfl
  rw [h1]
  by_cases hl : 1 < l.length
  · have : ¬ l.head? = some 48 := fun e => h0 ⟨hl, e⟩
    simp [hl, this]
  · simp [hl]
theorem all_take_succ (l : List UInt8) (k : Nat) (h : k < l.length) (ha : (l.take k).all isD = true) (hk : isD l[k] = true) : (l.take (k + 1)).all isD = true := by
  rw [List.take_succ_eq_append_getElem h, List.all_append, ha]
  simp [hk]
theorem isD_yes {c : UInt8} (h : isD c = true) : 48 ≤ c.toNat ∧ c.toNat ≤ 57 := by unfold W.isD at h; simpa using h
theorem isD_no {c : UInt8} (h : isD c = false) : c.toNat < 48 ∨ (48 ≤ c.toNat ∧ 57 < c.toNat) := by
  unfold W.isD at h
  simp at h
  omega
theorem head_nought (s : ByteArray) (l : List UInt8) (h : s = str l) (h0 : 0 < s.size) : (((s[0].toNat : Nat) : Int) == 48) = true ↔ l.head? = some 48 := by
  subst h
  rw [str_get]
  cases l with
  | nil => exact absurd h0 (Nat.lt_irrefl 0)
  | cons a l =>
    show (((a.toNat : Nat) : Int) == 48) = true ↔ _
    simp only [List.head?_cons, beq_iff_eq, Option.some.injEq]
    constructor
    · intro h; exact UInt8.toNat_inj.1 (by show a.toNat = 48; omega)
    · intro h; subst h; rfl

theorem isText_nil (w : World) : Calls Try.prog 19 #[.string (str [])] w fun e w' => e = .returned (.bool (isT [])) ∧ w = w' := by
  rw [isT_nil]
  have h1 : (str []).toList = [] := str_toList []
  go_enter Try.func19, Try.ntmps19
  go_wp2
  go_ret
  exact ⟨rfl, rfl⟩

set_option maxHeartbeats 400000 in
theorem isText_any (l : List UInt8) (hl : l.length ≤ maxLen) (w : World) : Calls Try.prog 19 #[.string (str l)] w fun e w' => e = .returned (.bool (isT l)) ∧ w = w' := by
  by_cases hnil : l = []
  · subst hnil
    exact isText_nil w
  unfold maxLen at hl
  have hsz : (str l).size = l.length := rfl
  have n1 : ¬ (str l).toList = [] := by rw [str_toList]; exact hnil
  have n2 : (str l).toList.isEmpty = false := by rw [str_toList]; cases l; exact absurd rfl hnil; rfl
  have p0 : 0 < (str l).size := by rw [hsz]; exact List.length_pos_iff.2 hnil
  have hh := head_nought (str l) l rfl p0
  have HG := Lib.hid (fun k h => str_getD l k h)
  rw [← hsz] at hl
  have HSZ := Lib.hid hsz
  have HNL := Lib.hid hnil; clear hnil
  generalize hs : str l = s at *
  clear hs hsz
  by_cases hb : 1 < s.size ∧ l.head? = some 48
  · have q1 : (1 : Int) < (s.size : Int) := by omega
    have q2 := hh.2 hb.2
    have HR := Lib.hid (isT_nought l (by rw [← HSZ.out]; exact hb.1) hb.2)
    clear hb hh
    go_enter Try.func19, Try.ntmps19
    go_wp2
    go_ret
    exact ⟨by rw [HR.out]; rfl, rfl⟩
  · have HB := Lib.hid hb
    have hcase : (s.size : Int) ≤ 1 ∨ ((1 : Int) < (s.size : Int) ∧ (((s[0].toNat : Nat) : Int) == 48) = false) := by
      by_cases h1 : 1 < s.size
      · refine Or.inr ⟨by omega, ?_⟩
        cases he : (((s[0].toNat : Nat) : Int) == 48) with
        | false => rfl
        | true => exact absurd ⟨h1, hh.1 he⟩ hb
      · exact Or.inl (by omega)
    clear hb hh
    rcases hcase with q1 | ⟨q1, q2⟩
    all_goals
      go_enter Try.func19, Try.ntmps19
      go_wp2
      go_loop [18] (fun i => ∃ k : Nat, k ≤ s.size ∧ i = .int .i64 (k : Int) ∧ Hid ((l.take k).all isD = true)) (fun i => s.size - (intOf i).toNat)
      case atStart => exact ⟨0, Nat.zero_le _, rfl, rfl⟩
      case round =>
        obtain ⟨k, hk, rfl, hall⟩ := hrel
        by_cases hlt : k < s.size
        · have hkl : k < l.length := by rw [← HSZ.out]; exact hlt
          have hg : s[k] = l[k] := (HG.out k hlt).trans (by simp [hkl])
          cases hd : isD l[k] with
          | true =>
            have hy := isD_yes hd
            rw [← hg] at hy
            obtain ⟨y1, y2⟩ := hy
            have HA := Lib.hid (all_take_succ l k hkl hall.out hd)
            clear hg hd hall
            go_wp2
            go_round
            case rel => exact ⟨k + 1, by omega, by go_num, HA.out⟩
            case measure => simp [intOf]; omega
          | false =>
            have hy := isD_no hd
            rw [← hg] at hy
            have HR := Lib.hid (isT_bad l k hkl hd)
            clear hg hd hall
            rcases hy with y1 | ⟨y1, y2⟩
            all_goals
              go_wp2
              go_ret
              exact ⟨by rw [HR.out]; rfl, rfl⟩
        · have HR := Lib.hid (isT_good l HNL.out (by rw [← HSZ.out]; exact HB.out) (by have h := hall.out; rwa [List.take_of_length_le (by rw [← HSZ.out]; omega)] at h))
          go_wp2
          go_ret
          exact ⟨by rw [HR.out]; rfl, rfl⟩

theorem form_nil (w : World) : Calls Try.prog 25 #[.string (str [])] w fun e w' => e = .returned (.bool (isT [])) ∧ w = w' := by
  rw [isT_nil]
  have h1 : (str []).toList = [] := str_toList []
  go_enter Try.func25, Try.ntmps25
  go_wp2
  go_ret
  exact ⟨rfl, rfl⟩

set_option maxHeartbeats 400000 in
theorem form_any (l : List UInt8) (hl : l.length ≤ maxLen) (w : World) : Calls Try.prog 25 #[.string (str l)] w fun e w' => e = .returned (.bool (isT l)) ∧ w = w' := by
  by_cases hnil : l = []
  · subst hnil
    exact form_nil w
  unfold maxLen at hl
  have hsz : (str l).size = l.length := rfl
  have n1 : ¬ (str l).toList = [] := by rw [str_toList]; exact hnil
  have n2 : (str l).toList.isEmpty = false := by rw [str_toList]; cases l; exact absurd rfl hnil; rfl
  have p0 : 0 < (str l).size := by rw [hsz]; exact List.length_pos_iff.2 hnil
  have hh := head_nought (str l) l rfl p0
  have HG := Lib.hid (fun k h => str_getD l k h)
  rw [← hsz] at hl
  have HSZ := Lib.hid hsz
  have HNL := Lib.hid hnil; clear hnil
  generalize hs : str l = s at *
  clear hs hsz
  by_cases hb : 1 < s.size ∧ l.head? = some 48
  · have q1 : (1 : Int) < (s.size : Int) := by omega
    have q2 := hh.2 hb.2
    have HR := Lib.hid (isT_nought l (by rw [← HSZ.out]; exact hb.1) hb.2)
    clear hb hh
    go_enter Try.func25, Try.ntmps25
    go_wp2
    go_ret
    exact ⟨by rw [HR.out]; rfl, rfl⟩
  · have HB := Lib.hid hb
    have hcase : (s.size : Int) ≤ 1 ∨ ((1 : Int) < (s.size : Int) ∧ (((s[0].toNat : Nat) : Int) == 48) = false) := by
      by_cases h1 : 1 < s.size
      · refine Or.inr ⟨by omega, ?_⟩
        cases he : (((s[0].toNat : Nat) : Int) == 48) with
        | false => rfl
        | true => exact absurd ⟨h1, hh.1 he⟩ hb
      · exact Or.inl (by omega)
    clear hb hh
    rcases hcase with q1 | ⟨q1, q2⟩
    all_goals
      go_enter Try.func25, Try.ntmps25
      go_wp2
      go_loop [3] (fun i => ∃ k : Nat, k ≤ s.size ∧ i = .int .i64 (k : Int) ∧ Hid ((l.take k).all isD = true)) (fun i => s.size - (intOf i).toNat)
      case atStart => exact ⟨0, Nat.zero_le _, rfl, rfl⟩
      case round =>
        obtain ⟨k, hk, rfl, hall⟩ := hrel
        by_cases hlt : k < s.size
        · have hkl : k < l.length := by rw [← HSZ.out]; exact hlt
          have hg : s[k] = l[k] := (HG.out k hlt).trans (by simp [hkl])
          cases hd : isD l[k] with
          | true =>
            have hy := isD_yes hd
            rw [← hg] at hy
            obtain ⟨y1, y2⟩ := hy
            have HA := Lib.hid (all_take_succ l k hkl hall.out hd)
            clear hg hd hall
            go_wp2
            go_round
            case rel => exact ⟨k + 1, by omega, by go_num, HA.out⟩
            case measure => simp [intOf]; omega
          | false =>
            have hy := isD_no hd
            rw [← hg] at hy
            have HR := Lib.hid (isT_bad l k hkl hd)
            clear hg hd hall
            rcases hy with y1 | ⟨y1, y2⟩
            all_goals
              go_wp2
              go_ret
              exact ⟨by rw [HR.out]; rfl, rfl⟩
        · have HR := Lib.hid (isT_good l HNL.out (by rw [← HSZ.out]; exact HB.out) (by have h := hall.out; rwa [List.take_of_length_le (by rw [← HSZ.out]; omega)] at h))
          go_wp2
          go_ret
          exact ⟨by rw [HR.out]; rfl, rfl⟩
end Go.Proofs.Ytehcmgaonpfafaa
