/-
  Numbers that are taken and given back, as lists; nothing of the program is read here.
-/
namespace Go.Proofs.Ytbnjbnjhpccomaa

/-- How many there are, how many were ever taken, what is taken, what was given back. -/
structure AS where
  most : Nat
  next : Nat
  T : List Int
  B : List Int

/-- What always holds. -/
structure AS.Ok (s : AS) : Prop where
  nodT : s.T.Nodup
  nodB : s.B.Nodup
  apart : ∀ n ∈ s.T, n ∉ s.B
  all : ∀ n : Int, (n ∈ s.T ∨ n ∈ s.B) ↔ 0 ≤ n ∧ n < s.next
  nextLe : s.next ≤ s.most
  mostLe : s.most ≤ 20000

theorem nodup_range_length (n : Nat) : ∀ l : List Int, l.Nodup → (∀ x : Int, x ∈ l ↔ 0 ≤ x ∧ x < n) → l.length = n := by
  induction n with
  | zero =>
    intro l _ h
    cases l with
    | nil => rfl
    | cons a l => have := (h a).1 (List.mem_cons_self); omega
  | succ n ih =>
    intro l hl h
    have hn : (n : Int) ∈ l := (h n).2 ⟨by omega, by omega⟩
    have h1 := ih (l.erase (n : Int)) (hl.erase _) (fun x => by
      rw [hl.mem_erase_iff, h x]
      constructor
      · rintro ⟨h1, h2, h3⟩; omega
      · rintro ⟨h1, h2⟩; exact ⟨by omega, by omega, by omega⟩)
    have h2 := List.length_erase_of_mem hn
    have h3 : 0 < l.length := List.length_pos_of_mem hn
    omega

theorem AS.Ok.len {s : AS} (h : s.Ok) : s.T.length + s.B.length = s.next := by
  have := nodup_range_length s.next (s.T ++ s.B) (List.nodup_append.2 ⟨h.nodT, h.nodB, fun a ha b hb e => h.apart a ha (e ▸ hb)⟩) (fun x => by rw [List.mem_append]; exact h.all x)
  rwa [List.length_append] at this

/-- What the code keeps: a flag for each number that was ever taken. -/
def AS.flags (s : AS) : List Bool := (List.range s.next).map fun (i : Nat) => decide (((i : Nat) : Int) ∈ s.T)

theorem AS.flags_length (s : AS) : s.flags.length = s.next := by simp [AS.flags]

/-- What Take tells: the number. -/
def AS.takeN (s : AS) : Int := if s.T.length = s.most then 0 else match s.B.getLast? with | some n => n | none => s.next
/-- The error's number. -/
def AS.takeE (s : AS) : Int := if s.T.length = s.most then 2 else 0
/-- What is left. -/
def AS.take (s : AS) : AS := if s.T.length = s.most then s else match s.B.getLast? with
  | some n => { s with T := s.T ++ [n], B := s.B.dropLast }
  | none => { s with T := s.T ++ [(s.next : Int)], next := s.next + 1 }
def AS.giveE (s : AS) (n : Int) : Int := if n ∈ s.T then 0 else 1
def AS.give (s : AS) (n : Int) : AS := if n ∈ s.T then { s with T := s.T.filter (fun x => x != n), B := s.B ++ [n] } else s

theorem AS.new_ok (most : Nat) (h : most ≤ 20000) : (AS.mk most 0 [] []).Ok :=
  ⟨List.nodup_nil, List.nodup_nil, (fun _ h => by cases h), (fun n => by simp), Nat.zero_le _, h⟩

theorem AS.Ok.take_full {s : AS} (hf : s.T.length = s.most) : s.takeN = 0 ∧ s.takeE = 2 ∧ s.take = s := by simp [AS.takeN, AS.takeE, AS.take, hf]
theorem AS.Ok.take_new {s : AS} (hf : s.T.length ≠ s.most) (hb : s.B = []) : s.takeN = s.next ∧ s.takeE = 0 ∧ s.take = { s with T := s.T ++ [(s.next : Int)], next := s.next + 1 } := by simp [AS.takeN, AS.takeE, AS.take, hf, hb]
theorem AS.Ok.take_again {s : AS} (hf : s.T.length ≠ s.most) {l : List Int} {n : Int} (hb : s.B = l ++ [n]) : s.takeN = n ∧ s.takeE = 0 ∧ s.take = { s with T := s.T ++ [n], B := l } := by simp [AS.takeN, AS.takeE, AS.take, hf, hb]
theorem AS.give_yes {s : AS} {n : Int} (h : n ∈ s.T) : s.giveE n = 0 ∧ s.give n = { s with T := s.T.filter (fun x => x != n), B := s.B ++ [n] } := by simp [AS.giveE, AS.give, h]
theorem AS.give_no {s : AS} {n : Int} (h : n ∉ s.T) : s.giveE n = 1 ∧ s.give n = s := by simp [AS.giveE, AS.give, h]

theorem last_or_nil (l : List Int) : l = [] ∨ ∃ k n, l = k ++ [n] := by
  cases h : l.getLast? with
  | none => exact .inl (by simpa using h)
  | some n => exact .inr ⟨l.dropLast, n, by rw [List.getLast?_eq_some_iff] at h; obtain ⟨k, rfl⟩ := h; simp⟩

theorem AS.Ok.take {s : AS} (h : s.Ok) : s.take.Ok := by
  by_cases hf : s.T.length = s.most
  · rw [(AS.Ok.take_full hf).2.2]; exact h
  · have hl := h.len
    rcases last_or_nil s.B with hb | ⟨l, n, hb⟩
    · rw [(AS.Ok.take_new hf hb).2.2]
      have hnx : (s.next : Int) ∉ s.T := fun e => by have := (h.all s.next).1 (.inl e); omega
      refine ⟨?_, h.nodB, fun n hn => ?_, fun n => ?_, ?_, h.mostLe⟩
      · rw [List.nodup_append]; exact ⟨h.nodT, by simp, fun a ha b hb e => hnx (by rw [List.mem_singleton] at hb; rw [← hb, ← e]; exact ha)⟩
      · simp [hb]
      · have := h.all n
        rw [hb] at this
        simp only [List.mem_append, List.mem_singleton, List.not_mem_nil, or_false, hb] at this ⊢
        rw [this]
        omega
      · rw [hb] at hl; have := h.nextLe; simp at hl ⊢; omega
    · rw [(AS.Ok.take_again hf hb).2.2]
      have hn : n ∉ s.T := fun e => h.apart n e (by rw [hb]; simp)
      have hnd := h.nodB
      rw [hb, List.nodup_append] at hnd
      refine ⟨?_, hnd.1, fun m hm => ?_, fun m => ?_, h.nextLe, h.mostLe⟩
      · rw [List.nodup_append]; exact ⟨h.nodT, by simp, fun a ha b hb e => hn (by rw [List.mem_singleton] at hb; rw [← hb, ← e]; exact ha)⟩
      · rcases List.mem_append.1 hm with h1 | h1
        · exact fun e => h.apart m h1 (by rw [hb]; exact List.mem_append_left _ e)
        · rw [List.mem_singleton] at h1; subst h1; exact fun e => hnd.2.2 m e m (by simp) rfl
      · have := h.all m
        rw [← this, hb]
        simp only [List.mem_append, List.mem_singleton]
        constructor
        · rintro ((h1 | h1) | h1)
          · exact .inl h1
          · exact .inr (.inr h1)
          · exact .inr (.inl h1)
        · rintro (h1 | h1 | h1)
          · exact .inl (.inl h1)
          · exact .inr h1
          · exact .inl (.inr h1)

theorem AS.Ok.give {s : AS} (h : s.Ok) (n : Int) : (s.give n).Ok := by
  by_cases hn : n ∈ s.T
  · rw [(AS.give_yes hn).2]
    refine ⟨h.nodT.filter _, ?_, fun m hm => ?_, fun m => ?_, h.nextLe, h.mostLe⟩
    · rw [List.nodup_append]; exact ⟨h.nodB, by simp, fun a ha b hb e => h.apart n hn (by rw [List.mem_singleton] at hb; rw [← hb, ← e]; exact ha)⟩
    · have := List.mem_filter.1 hm
      simp only [bne_iff_ne, ne_eq] at this
      intro e
      rcases List.mem_append.1 e with e | e
      · exact h.apart m this.1 e
      · exact this.2 (List.mem_singleton.1 e)
    · rw [← h.all m]
      simp only [List.mem_append, List.mem_singleton, List.mem_filter, bne_iff_ne, ne_eq]
      constructor
      · rintro (h1 | h1 | h1)
        · exact .inl h1.1
        · exact .inr h1
        · exact .inl (h1 ▸ hn)
      · rintro (h1 | h1)
        · by_cases e : m = n
          · exact .inr (.inr e)
          · exact .inl ⟨h1, e⟩
        · exact .inr (.inl h1)
  · rw [(AS.give_no hn).2]; exact h

theorem AS.Ok.flag {s : AS} (h : s.Ok) (n : Int) : (decide (0 ≤ n) && s.flags.getD n.toNat false) = decide (n ∈ s.T) := by
  by_cases h0 : 0 ≤ n
  · rw [decide_eq_true h0, Bool.true_and]
    by_cases h1 : n.toNat < s.next
    · rw [List.getD, AS.flags, List.getElem?_map, List.getElem?_range h1]
      simp only [Option.map_some, Option.getD_some, Int.toNat_of_nonneg h0]
    · rw [List.getD, List.getElem?_eq_none (by rw [s.flags_length]; omega)]
      simp only [Option.getD_none]
      exact (decide_eq_false (fun e => by have := (h.all n).1 (.inl e); omega)).symm
  · rw [decide_eq_false h0, Bool.false_and]
    exact (decide_eq_false (fun e => by have := (h.all n).1 (.inl e); omega)).symm

theorem AS.flags_new (s : AS) : ({ s with T := s.T ++ [(s.next : Int)], next := s.next + 1 } : AS).flags = s.flags ++ [true] := by
  simp only [AS.flags, List.range_succ, List.map_append, List.map_cons, List.map_nil]
  congr 1
  · refine List.map_congr_left fun i hi => ?_
    have := List.mem_range.1 hi
    congr 1
    simp only [List.mem_append, List.mem_singleton, eq_iff_iff]
    exact ⟨fun e => e.elim id (fun e => by omega), .inl⟩
  · simp

theorem AS.flags_again (s : AS) (n : Nat) (l : List Int) (hn : n < s.next) : ({ s with T := s.T ++ [(n : Int)], B := l } : AS).flags = s.flags.set n true := by
  refine List.ext_getElem? fun i => ?_
  rw [List.getElem?_set]
  rcases Nat.lt_or_ge i s.next with hi | hi
  · simp only [AS.flags, List.getElem?_map, List.getElem?_range hi, Option.map_some, List.length_map, List.length_range, hn, if_true]
    split
    · rename_i e; subst e; simp
    · rename_i e
      congr 1
      congr 1
      simp only [List.mem_append, List.mem_singleton, eq_iff_iff]
      exact ⟨fun e => e.elim id (fun e => by omega), .inl⟩
  · rw [List.getElem?_eq_none (by rw [AS.flags_length]; exact hi), if_neg (by omega), List.getElem?_eq_none (by rw [AS.flags_length]; exact hi)]

theorem AS.flags_give (s : AS) (n : Nat) (l : List Int) (hn : n < s.next) : ({ s with T := s.T.filter (fun x => x != (n : Int)), B := l } : AS).flags = s.flags.set n false := by
  refine List.ext_getElem? fun i => ?_
  rw [List.getElem?_set]
  rcases Nat.lt_or_ge i s.next with hi | hi
  · simp only [AS.flags, List.getElem?_map, List.getElem?_range hi, Option.map_some, List.length_map, List.length_range, hn, if_true]
    split
    · rename_i e; subst e; simp
    · rename_i e
      congr 1
      congr 1
      simp only [List.mem_filter, bne_iff_ne, ne_eq, eq_iff_iff]
      exact ⟨fun e => e.1, fun h => ⟨h, by omega⟩⟩
  · rw [List.getElem?_eq_none (by rw [AS.flags_length]; exact hi), if_neg (by omega), List.getElem?_eq_none (by rw [AS.flags_length]; exact hi)]

/-- A list without repetition, without its last. -/
theorem filter_last {l : List Int} {n : Int} (h : (l ++ [n]).Nodup) : (l ++ [n]).filter (fun x => x != n) = l := by
  rw [List.nodup_append] at h
  rw [List.filter_append]
  have h1 : l.filter (fun x => x != n) = l := List.filter_eq_self.2 fun a ha => by
    simp only [bne_iff_ne, ne_eq]
    exact fun e => h.2.2 a ha n (by simp) e
  rw [h1]
  simp

end Go.Proofs.Ytbnjbnjhpccomaa
