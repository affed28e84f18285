/- The row's methods as the library's heap calls them: which function each is, and its receiver. -/
import Derived.Test.YtmjjkoiepoblmaaSa
namespace Go.Proofs.Ytmjjkoiepoblmaa
open Go.RowKit Go.Sort

theorem m_push (k : Nat) (p : Option Addr) (w : World) : (method (k + 1) 52 (.pointer p) "Push").run Try.prog w = .ok (67, .pointer p) w := by kernel_rfl
theorem m_pop (k : Nat) (p : Option Addr) (w : World) : (method (k + 1) 52 (.pointer p) "Pop").run Try.prog w = .ok (66, .pointer p) w := by kernel_rfl
theorem recv_val (p o : Nat) (A : Option Addr) (n c : Nat) (s : String) (w : World) (c0 : w.cell? ⟨p, o, none⟩ = some (.slice A n c)) :
    (receiverAt 52 (.val (.pointer (some ⟨p, o, none⟩))) false (some s)).run Try.prog w = .ok (.slice A n c) w := by
  have hl : (loadVar 44 ⟨p, o, none⟩).run Try.prog w = .ok (.slice A n c) w := by
    go_simp
  have hu : (underlying 52).run Try.prog w = .ok (.pointer 44) w := by kernel_rfl
  have hc : (Builtin.ssaWrapNilChk_ #[52] 52 #[.pointer (some ⟨p, o, none⟩), strVal "", strVal s]).run Try.prog w = .ok (.pointer (some ⟨p, o, none⟩)) w := by kernel_rfl
  simp [receiverAt, hu, Place.get, hc, hl, asAddr]
theorem method_run (k : Nat) (t : TypeId) (v : Value) (name : String) (f : FuncId) (pr : Bool) (w : World)
    (h : (Try.prog.info? t).map (fun i => (i.methods.find? (·.name == name)).map (fun m => (m.path.toList, m.func))) = some (some ([], some (f, pr)))) :
    (method (k + 1) t v name).run Try.prog w = ((receiverAt t (.val v) pr (some ((name.splitOn ".").getLastD name))).run Try.prog w).andThen (fun r w' => .ok (f, r) w') := by
  cases hi : Try.prog.info? t with
  | none => simp [hi] at h
  | some i =>
    cases hm : i.methods.find? (·.name == name) with
    | none => simp [hi, hm] at h
    | some m =>
      obtain ⟨hp, hf⟩ : m.path.toList = [] ∧ m.func = some (f, pr) := by simpa [hi, hm] using h
      have hpe : m.path = #[] := Array.toList_inj.1 hp
      rw [method]
      simp [typeInfo, hi, hm, hf, hpe, follow]
theorem m_of (k p o : Nat) (A : Option Addr) (n c f : Nat) (s : String) (w : World) (c0 : w.cell? ⟨p, o, none⟩ = some (.slice A n c))
    (h : (Try.prog.info? 52).map (fun i => (i.methods.find? (·.name == s)).map (fun m => (m.path.toList, m.func))) = some (some ([], some (f, false)))) :
    (method (k + 1) 52 (.pointer (some ⟨p, o, none⟩)) s).run Try.prog w = .ok (f, .slice A n c) w := by
  rw [method_run k _ _ s f false w h, recv_val p o A n c _ w c0]
  rfl
theorem m_len (k p o : Nat) (A : Option Addr) (n c : Nat) (w : World) (c0 : w.cell? ⟨p, o, none⟩ = some (.slice A n c)) : (method (k + 1) 52 (.pointer (some ⟨p, o, none⟩)) "Len").run Try.prog w = .ok (63, .slice A n c) w :=
  m_of k p o A n c _ "Len" w c0 (by kernel_rfl)
theorem m_less (k p o : Nat) (A : Option Addr) (n c : Nat) (w : World) (c0 : w.cell? ⟨p, o, none⟩ = some (.slice A n c)) : (method (k + 1) 52 (.pointer (some ⟨p, o, none⟩)) "Less").run Try.prog w = .ok (64, .slice A n c) w :=
  m_of k p o A n c _ "Less" w c0 (by kernel_rfl)
theorem m_swap (k p o : Nat) (A : Option Addr) (n c : Nat) (w : World) (c0 : w.cell? ⟨p, o, none⟩ = some (.slice A n c)) : (method (k + 1) 52 (.pointer (some ⟨p, o, none⟩)) "Swap").run Try.prog w = .ok (65, .slice A n c) w :=
  m_of k p o A n c _ "Swap" w c0 (by kernel_rfl)
end Go.Proofs.Ytmjjkoiepoblmaa
