/- A disk as mathematics: what each call makes of it, and what it answers. No program. -/
namespace Go.Proofs.Ytcbiagdpolhbfaa.D

/-- A disk: the blocks that are safe, the writes that wait in order, the fuse (-1: none), whether it is down, how many writes there were. -/
structure St where
  safe : List (List UInt8)
  waits : List (Nat × List UInt8)
  fuse : Int
  down : Bool
  writes : Nat

/-- A disk as the calls keep it. -/
structure Ok (s : St) : Prop where
  few : 8 ≤ s.safe.length
  many : s.safe.length ≤ 4096
  full : ∀ b ∈ s.safe, b.length = 512
  place : ∀ x ∈ s.waits, x.1 < s.safe.length
  bytes : ∀ x ∈ s.waits, x.2.length = 512
  fuse : -1 ≤ s.fuse
  fuse2 : s.fuse ≤ 9223372036854775807

def zero : List UInt8 := List.replicate 512 0
def new (n : Nat) : St := ⟨List.replicate n zero, [], -1, false, 0⟩
theorem new_ok {n : Nat} (h1 : 8 ≤ n) (h2 : n ≤ 4096) : Ok (new n) :=
  ⟨by simpa [new] using h1, by simpa [new] using h2, fun b hb => by simp only [new, List.mem_replicate] at hb; rw [hb.2]; exact List.length_replicate, fun x hx => by simp [new] at hx, fun x hx => by simp [new] at hx, by simp [new], by simp [new]⟩

/-- What is written last at n, over b. -/
def lk (n : Nat) : List UInt8 → List (Nat × List UInt8) → List UInt8
  | b, [] => b
  | b, x :: r => lk n (if x.1 = n then x.2 else b) r
theorem lk_snoc (n : Nat) (x : Nat × List UInt8) : ∀ (b : List UInt8) (l : List (Nat × List UInt8)), lk n b (l ++ [x]) = if x.1 = n then x.2 else lk n b l
  | b, [] => rfl
  | b, y :: r => by simp only [List.cons_append, lk]; exact lk_snoc n x _ r
theorem lk_take (n : Nat) (b : List UInt8) (l : List (Nat × List UInt8)) (k : Nat) (h : k < l.length) : lk n b (l.take (k + 1)) = if l[k].1 = n then l[k].2 else lk n b (l.take k) := by
  rw [List.take_succ_eq_append_getElem h, lk_snoc]
theorem lk_length (n : Nat) : ∀ (b : List UInt8) (l : List (Nat × List UInt8)), b.length = 512 → (∀ x ∈ l, x.2.length = 512) → (lk n b l).length = 512
  | b, [], h, _ => h
  | b, x :: r, h, hl => by
    simp only [lk]
    refine lk_length n _ r ?_ (fun y hy => hl y (by simp [hy]))
    split
    · exact hl x (by simp)
    · exact h
theorem lk_none (n : Nat) : ∀ (b : List UInt8) (l : List (Nat × List UInt8)), (∀ x ∈ l, x.1 ≠ n) → lk n b l = b
  | b, [], _ => rfl
  | b, x :: r, h => by
    simp only [lk]
    rw [if_neg (h x (by simp))]
    exact lk_none n b r (fun y hy => h y (by simp [hy]))
/-- What a block reads as. -/
def look (s : St) (n : Nat) : List UInt8 := lk n (s.safe.getD n []) s.waits
theorem getD_full {s : St} (h : Ok s) {n : Nat} (hn : n < s.safe.length) : (s.safe.getD n []).length = 512 := by
  have : s.safe.getD n [] = s.safe[n] := by simp [List.getD, hn]
  rw [this]
  exact h.full _ (List.getElem_mem hn)
theorem look_length {s : St} (h : Ok s) {n : Nat} (hn : n < s.safe.length) : (look s n).length = 512 := lk_length n _ _ (getD_full h hn) h.bytes

/-- An act. -/
def act (s : St) : St := if s.fuse = 0 then { s with down := true } else if 0 < s.fuse then { s with fuse := s.fuse - 1 } else s
theorem act_ok {s : St} (h : Ok s) : Ok (act s) := by
  unfold act
  split
  · exact ⟨h.few, h.many, h.full, h.place, h.bytes, h.fuse, h.fuse2⟩
  · split
    · have := h.fuse2
      exact ⟨h.few, h.many, h.full, h.place, h.bytes, by simp; omega, by simp; omega⟩
    · exact h
theorem act_safe (s : St) : (act s).safe = s.safe := by
  unfold act
  split
  · rfl
  · split <;> rfl
theorem act_waits (s : St) : (act s).waits = s.waits := by
  unfold act
  split
  · rfl
  · split <;> rfl
theorem act_writes (s : St) : (act s).writes = s.writes := by
  unfold act
  split
  · rfl
  · split <;> rfl
/-- Its answer, on a disk that is up. -/
def ans (s : St) : Int := if s.fuse = 0 then 7 else 0

/-- A write that waits. -/
def put (s : St) (n : Nat) (b : List UInt8) : St := { s with waits := s.waits ++ [(n, b)], writes := s.writes + 1 }
theorem put_ok {s : St} (h : Ok s) {n : Nat} {b : List UInt8} (hn : n < s.safe.length) (hb : b.length = 512) : Ok (put s n b) :=
  ⟨h.few, h.many, h.full, fun x hx => by
    simp only [put, List.mem_append, List.mem_singleton] at hx
    rcases hx with hx | rfl
    · exact h.place x hx
    · exact hn, fun x hx => by
    simp only [put, List.mem_append, List.mem_singleton] at hx
    rcases hx with hx | rfl
    · exact h.bytes x hx
    · exact hb, h.fuse, h.fuse2⟩

/-- Why a Write isn't done: 0, if it is. -/
def bad (s : St) (n : Int) (k : Nat) : Int := if s.down then 7 else if n < 0 ∨ (s.safe.length : Int) ≤ n then 4 else if k ≠ 512 then 1 else 0
def write (s : St) (n : Int) (b : List UInt8) : St := if bad s n b.length = 0 then act (put s n.toNat b) else s
def writeE (s : St) (n : Int) (b : List UInt8) : Int := if bad s n b.length = 0 then ans s else bad s n b.length

/-- The writes are laid over the blocks. -/
def lay : List (List UInt8) → List (Nat × List UInt8) → List (List UInt8)
  | ss, [] => ss
  | ss, x :: r => lay (ss.set x.1 x.2) r
theorem lay_snoc (x : Nat × List UInt8) : ∀ (ss : List (List UInt8)) (l : List (Nat × List UInt8)), lay ss (l ++ [x]) = (lay ss l).set x.1 x.2
  | _, [] => rfl
  | ss, y :: r => by simp only [List.cons_append, lay]; exact lay_snoc x _ r
theorem lay_take (ss : List (List UInt8)) (l : List (Nat × List UInt8)) (k : Nat) (h : k < l.length) : lay ss (l.take (k + 1)) = (lay ss (l.take k)).set l[k].1 l[k].2 := by
  rw [List.take_succ_eq_append_getElem h, lay_snoc]
theorem lay_length : ∀ (ss : List (List UInt8)) (l : List (Nat × List UInt8)), (lay ss l).length = ss.length
  | _, [] => rfl
  | ss, y :: r => by simp only [lay]; rw [lay_length]; simp
theorem lay_full : ∀ (ss : List (List UInt8)) (l : List (Nat × List UInt8)), (∀ b ∈ ss, b.length = 512) → (∀ x ∈ l, x.2.length = 512) → ∀ b ∈ lay ss l, b.length = 512
  | _, [], h, _ => h
  | ss, x :: r, h, hl => by
    simp only [lay]
    refine lay_full _ r (fun b hb => ?_) (fun y hy => hl y (by simp [hy]))
    rcases List.mem_or_eq_of_mem_set hb with hb | rfl
    · exact h b hb
    · exact hl x (by simp)
def sync (s : St) : St := if s.down then s else if s.fuse = 0 then { s with down := true } else { act s with safe := lay s.safe s.waits, waits := [] }
def syncE (s : St) : Int := if s.down then 7 else ans s
theorem sync_ok {s : St} (h : Ok s) : Ok (sync s) := by
  have ha := act_ok h
  unfold sync
  split
  · exact h
  · split
    · exact ⟨h.few, h.many, h.full, h.place, h.bytes, h.fuse, h.fuse2⟩
    · exact ⟨by simpa [lay_length] using h.few, by simpa [lay_length] using h.many, lay_full _ _ h.full h.bytes, fun x hx => by simp at hx, fun x hx => by simp at hx, ha.fuse, ha.fuse2⟩

def setFuse (s : St) (n : Int) : St := if s.down then s else { s with fuse := if n < 0 then -1 else n }
theorem setFuse_ok {s : St} (h : Ok s) {n : Int} (hn : n ≤ 9223372036854775807) : Ok (setFuse s n) := by
  unfold setFuse
  split
  · exact h
  · refine ⟨h.few, h.many, h.full, h.place, h.bytes, ?_, ?_⟩
    · show -1 ≤ (if n < 0 then (-1 : Int) else n)
      split <;> omega
    · show (if n < 0 then (-1 : Int) else n) ≤ 9223372036854775807
      split <;> omega

/-- The nearest place of a block. -/
def bnd (n : Int) : Nat := if n < 0 then 0 else if 512 < n then 512 else n.toNat
theorem bnd_le (n : Int) : bnd n ≤ 512 := by
  unfold bnd
  split
  · omega
  · split <;> omega
/-- A block of which a part is given. -/
def part (old new : List UInt8) (f t : Nat) : List UInt8 := if f < t then old.take f ++ ((new.drop f).take (t - f) ++ old.drop t) else old
theorem part_length {old new : List UInt8} {f t : Nat} (ho : old.length = 512) (hn : new.length = 512) (ht : t ≤ 512) : (part old new f t).length = 512 := by
  unfold part
  split
  · simp [ho, hn]; omega
  · exact ho
def give (ss : List (List UInt8)) (x : Nat × List UInt8) (l : Int × Int) : List (List UInt8) := ss.set x.1 (part (ss.getD x.1 []) x.2 (bnd l.1) (bnd l.2))
/-- What a crash leaves of the blocks. -/
def left : List (List UInt8) → List (Nat × List UInt8) → List (Int × Int) → List (List UInt8)
  | ss, x :: r, l :: m => left (give ss x l) r m
  | ss, _, _ => ss
theorem left_nil (ss : List (List UInt8)) (ws : List (Nat × List UInt8)) : left ss ws [] = ss := by cases ws <;> rfl
theorem left_snoc (x : Nat × List UInt8) (l : Int × Int) : ∀ (ss : List (List UInt8)) (ws : List (Nat × List UInt8)) (ls : List (Int × Int)), ws.length = ls.length → left ss (ws ++ [x]) (ls ++ [l]) = give (left ss ws ls) x l
  | _, [], [], _ => rfl
  | ss, y :: r, m :: q, h => by simp only [List.cons_append, left]; exact left_snoc x l _ r q (by simpa using h)
theorem left_take (ss : List (List UInt8)) (ws : List (Nat × List UInt8)) (ls : List (Int × Int)) (k : Nat) (h1 : k < ws.length) (h2 : k < ls.length) :
    left ss (ws.take (k + 1)) (ls.take (k + 1)) = give (left ss (ws.take k) (ls.take k)) ws[k] ls[k] := by
  rw [List.take_succ_eq_append_getElem h1, List.take_succ_eq_append_getElem h2, left_snoc _ _ _ _ _ (by simp; omega)]
theorem left_min : ∀ (ss : List (List UInt8)) (ws : List (Nat × List UInt8)) (ls : List (Int × Int)) (k : Nat), (ws.length ≤ k ∨ ls.length ≤ k) → left ss (ws.take k) (ls.take k) = left ss ws ls
  | _, [], _, _, _ => by simp [left]
  | _, _ :: _, [], _, _ => by simp [left_nil]
  | ss, x :: r, l :: m, 0, h => by simp at h
  | ss, x :: r, l :: m, k + 1, h => by
    simp only [List.take_succ_cons, left]
    exact left_min _ r m k (by simpa using h)
theorem left_length : ∀ (ss : List (List UInt8)) (ws : List (Nat × List UInt8)) (ls : List (Int × Int)), (left ss ws ls).length = ss.length
  | _, [], _ => rfl
  | _, _ :: _, [] => rfl
  | ss, x :: r, l :: m => by simp only [left]; rw [left_length]; simp [give]
theorem give_full {ss : List (List UInt8)} {x : Nat × List UInt8} {l : Int × Int} (h : ∀ b ∈ ss, b.length = 512) (hp : x.1 < ss.length) (hx : x.2.length = 512) : ∀ b ∈ give ss x l, b.length = 512 := by
  intro b hb
  rcases List.mem_or_eq_of_mem_set hb with hb | rfl
  · exact h b hb
  · refine part_length ?_ hx (bnd_le _)
    have : ss.getD x.1 [] = ss[x.1] := by simp [List.getD, hp]
    rw [this]
    exact h _ (List.getElem_mem hp)
theorem left_full : ∀ (ss : List (List UInt8)) (ws : List (Nat × List UInt8)) (ls : List (Int × Int)), (∀ b ∈ ss, b.length = 512) → (∀ x ∈ ws, x.1 < ss.length) → (∀ x ∈ ws, x.2.length = 512) → ∀ b ∈ left ss ws ls, b.length = 512
  | _, [], _, h, _, _ => h
  | _, _ :: _, [], h, _, _ => h
  | ss, x :: r, l :: m, h, hp, hx => by
    simp only [left]
    exact left_full _ r m (give_full h (hp x (by simp)) (hx x (by simp))) (fun y hy => by simpa [give] using hp y (by simp [hy])) (fun y hy => hx y (by simp [hy]))
/-- A block to which nothing waits is as it was. -/
theorem left_other (n : Nat) : ∀ (ss : List (List UInt8)) (ws : List (Nat × List UInt8)) (ls : List (Int × Int)), (∀ x ∈ ws, x.1 ≠ n) → (left ss ws ls).getD n [] = ss.getD n []
  | _, [], _, _ => rfl
  | _, _ :: _, [], _ => rfl
  | ss, x :: r, l :: m, h => by
    simp only [left]
    rw [left_other n _ r m (fun y hy => h y (by simp [hy]))]
    simp [give, List.getD, List.getElem?_set_ne (h x (by simp))]
def crash (s : St) (l : List (Int × Int)) : St := ⟨left s.safe s.waits l, [], -1, false, s.writes⟩
theorem crash_ok {s : St} (h : Ok s) (l : List (Int × Int)) : Ok (crash s l) :=
  ⟨by simpa [crash, left_length] using h.few, by simpa [crash, left_length] using h.many, left_full _ _ _ h.full h.place h.bytes, fun x hx => by simp [crash] at hx, fun x hx => by simp [crash] at hx, by simp [crash], by simp [crash]⟩
theorem write_ok {s : St} (h : Ok s) (n : Int) (b : List UInt8) : Ok (write s n b) := by
  unfold write
  split
  · rename_i hb
    unfold bad at hb
    split at hb
    · simp at hb
    · split at hb
      · simp at hb
      · split at hb
        · simp at hb
        · exact act_ok (put_ok h (by omega) (by omega))
  · exact h
end Go.Proofs.Ytcbiagdpolhbfaa.D
