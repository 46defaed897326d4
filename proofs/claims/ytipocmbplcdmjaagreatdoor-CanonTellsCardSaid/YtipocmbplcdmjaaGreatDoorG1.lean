/-
  Texts of this proof, one behind the other: ArenaM, PermM, StoreM, StoreV, StoreW.
-/
/-
  Numbers that are taken and given back, as lists; nothing of the program is read here.
-/
namespace Go.Proofs.YtipocmbplcdmjaaGreatDoor

/-- How many there are, how many were ever taken, what is taken, what was given back. -/
structure AS where
  most : Nat
  next : Nat
  T : List Int
  B : List Int

/-- What always holds. -/
structure AS.Ok (s : AS) : Prop where
  nodT : s.T.Nodup
  nodB : s.B.Nodup
  apart : ∀ n ∈ s.T, n ∉ s.B
  all : ∀ n : Int, (n ∈ s.T ∨ n ∈ s.B) ↔ 0 ≤ n ∧ n < s.next
  nextLe : s.next ≤ s.most
  mostLe : s.most ≤ 20000

theorem nodup_range_length (n : Nat) : ∀ l : List Int, l.Nodup → (∀ x : Int, x ∈ l ↔ 0 ≤ x ∧ x < n) → l.length = n := by
  induction n with
  | zero =>
    intro l _ h
    cases l with
    | nil => rfl
    | cons a l => have := (h a).1 (List.mem_cons_self); omega
  | succ n ih =>
    intro l hl h
    have hn : (n : Int) ∈ l := (h n).2 ⟨by omega, by omega⟩
    have h1 := ih (l.erase (n : Int)) (hl.erase _) (fun x => by
      rw [hl.mem_erase_iff, h x]
      constructor
      · rintro ⟨h1, h2, h3⟩; omega
      · rintro ⟨h1, h2⟩; exact ⟨by omega, by omega, by omega⟩)
    have h2 := List.length_erase_of_mem hn
    have h3 : 0 < l.length := List.length_pos_of_mem hn
    omega

theorem AS.Ok.len {s : AS} (h : s.Ok) : s.T.length + s.B.length = s.next := by
  have := nodup_range_length s.next (s.T ++ s.B) (List.nodup_append.2 ⟨h.nodT, h.nodB, fun a ha b hb e => h.apart a ha (e ▸ hb)⟩) (fun x => by rw [List.mem_append]; exact h.all x)
  rwa [List.length_append] at this

/-- What the code keeps: a flag for each number that was ever taken. -/
def AS.flags (s : AS) : List Bool := (List.range s.next).map fun (i : Nat) => decide (((i : Nat) : Int) ∈ s.T)

theorem AS.flags_length (s : AS) : s.flags.length = s.next := by simp [AS.flags]

/-- What Take tells: the number. -/
def AS.takeN (s : AS) : Int := if s.T.length = s.most then 0 else match s.B.getLast? with | some n => n | none => s.next
/-- The error's number. -/
def AS.takeE (s : AS) : Int := if s.T.length = s.most then 2 else 0
/-- What is left. -/
def AS.take (s : AS) : AS := if s.T.length = s.most then s else match s.B.getLast? with
  | some n => { s with T := s.T ++ [n], B := s.B.dropLast }
  | none => { s with T := s.T ++ [(s.next : Int)], next := s.next + 1 }
def AS.giveE (s : AS) (n : Int) : Int := if n ∈ s.T then 0 else 1
def AS.give (s : AS) (n : Int) : AS := if n ∈ s.T then { s with T := s.T.filter (fun x => x != n), B := s.B ++ [n] } else s

theorem AS.new_ok (most : Nat) (h : most ≤ 20000) : (AS.mk most 0 [] []).Ok :=
  ⟨List.nodup_nil, List.nodup_nil, (fun _ h => by cases h), (fun n => by simp), Nat.zero_le _, h⟩

theorem AS.Ok.take_full {s : AS} (hf : s.T.length = s.most) : s.takeN = 0 ∧ s.takeE = 2 ∧ s.take = s := by simp [AS.takeN, AS.takeE, AS.take, hf]
theorem AS.Ok.take_new {s : AS} (hf : s.T.length ≠ s.most) (hb : s.B = []) : s.takeN = s.next ∧ s.takeE = 0 ∧ s.take = { s with T := s.T ++ [(s.next : Int)], next := s.next + 1 } := by simp [AS.takeN, AS.takeE, AS.take, hf, hb]
theorem AS.Ok.take_again {s : AS} (hf : s.T.length ≠ s.most) {l : List Int} {n : Int} (hb : s.B = l ++ [n]) : s.takeN = n ∧ s.takeE = 0 ∧ s.take = { s with T := s.T ++ [n], B := l } := by simp [AS.takeN, AS.takeE, AS.take, hf, hb]
theorem AS.give_yes {s : AS} {n : Int} (h : n ∈ s.T) : s.giveE n = 0 ∧ s.give n = { s with T := s.T.filter (fun x => x != n), B := s.B ++ [n] } := by simp [AS.giveE, AS.give, h]
theorem AS.give_no {s : AS} {n : Int} (h : n ∉ s.T) : s.giveE n = 1 ∧ s.give n = s := by simp [AS.giveE, AS.give, h]

theorem last_or_nil (l : List Int) : l = [] ∨ ∃ k n, l = k ++ [n] := by
  cases h : l.getLast? with
  | none => exact .inl (by simpa using h)
  | some n => exact .inr ⟨l.dropLast, n, by rw [List.getLast?_eq_some_iff] at h; obtain ⟨k, rfl⟩ := h; simp⟩

theorem AS.Ok.take {s : AS} (h : s.Ok) : s.take.Ok := by
  by_cases hf : s.T.length = s.most
  · rw [(AS.Ok.take_full hf).2.2]; exact h
  · have hl := h.len
    rcases last_or_nil s.B with hb | ⟨l, n, hb⟩
    · rw [(AS.Ok.take_new hf hb).2.2]
      have hnx : (s.next : Int) ∉ s.T := fun e => by have := (h.all s.next).1 (.inl e); omega
      refine ⟨?_, h.nodB, fun n hn => ?_, fun n => ?_, ?_, h.mostLe⟩
      · rw [List.nodup_append]; exact ⟨h.nodT, by simp, fun a ha b hb e => hnx (by rw [List.mem_singleton] at hb; rw [← hb, ← e]; exact ha)⟩
      · simp [hb]
      · have := h.all n
        rw [hb] at this
        simp only [List.mem_append, List.mem_singleton, List.not_mem_nil, or_false, hb] at this ⊢
        rw [this]
        omega
      · rw [hb] at hl; have := h.nextLe; simp at hl ⊢; omega
    · rw [(AS.Ok.take_again hf hb).2.2]
      have hn : n ∉ s.T := fun e => h.apart n e (by rw [hb]; simp)
      have hnd := h.nodB
      rw [hb, List.nodup_append] at hnd
      refine ⟨?_, hnd.1, fun m hm => ?_, fun m => ?_, h.nextLe, h.mostLe⟩
      · rw [List.nodup_append]; exact ⟨h.nodT, by simp, fun a ha b hb e => hn (by rw [List.mem_singleton] at hb; rw [← hb, ← e]; exact ha)⟩
      · rcases List.mem_append.1 hm with h1 | h1
        · exact fun e => h.apart m h1 (by rw [hb]; exact List.mem_append_left _ e)
        · rw [List.mem_singleton] at h1; subst h1; exact fun e => hnd.2.2 m e m (by simp) rfl
      · have := h.all m
        rw [← this, hb]
        simp only [List.mem_append, List.mem_singleton]
        constructor
        · rintro ((h1 | h1) | h1)
          · exact .inl h1
          · exact .inr (.inr h1)
          · exact .inr (.inl h1)
        · rintro (h1 | h1 | h1)
          · exact .inl (.inl h1)
          · exact .inr h1
          · exact .inl (.inr h1)

theorem AS.Ok.give {s : AS} (h : s.Ok) (n : Int) : (s.give n).Ok := by
  by_cases hn : n ∈ s.T
  · rw [(AS.give_yes hn).2]
    refine ⟨h.nodT.filter _, ?_, fun m hm => ?_, fun m => ?_, h.nextLe, h.mostLe⟩
    · rw [List.nodup_append]; exact ⟨h.nodB, by simp, fun a ha b hb e => h.apart n hn (by rw [List.mem_singleton] at hb; rw [← hb, ← e]; exact ha)⟩
    · have := List.mem_filter.1 hm
      simp only [bne_iff_ne, ne_eq] at this
      intro e
      rcases List.mem_append.1 e with e | e
      · exact h.apart m this.1 e
      · exact this.2 (List.mem_singleton.1 e)
    · rw [← h.all m]
      simp only [List.mem_append, List.mem_singleton, List.mem_filter, bne_iff_ne, ne_eq]
      constructor
      · rintro (h1 | h1 | h1)
        · exact .inl h1.1
        · exact .inr h1
        · exact .inl (h1 ▸ hn)
      · rintro (h1 | h1)
        · by_cases e : m = n
          · exact .inr (.inr e)
          · exact .inl ⟨h1, e⟩
        · exact .inr (.inl h1)
  · rw [(AS.give_no hn).2]; exact h

theorem AS.Ok.flag {s : AS} (h : s.Ok) (n : Int) : (decide (0 ≤ n) && s.flags.getD n.toNat false) = decide (n ∈ s.T) := by
  by_cases h0 : 0 ≤ n
  · rw [decide_eq_true h0, Bool.true_and]
    by_cases h1 : n.toNat < s.next
    · rw [List.getD, AS.flags, List.getElem?_map, List.getElem?_range h1]
      simp only [Option.map_some, Option.getD_some, Int.toNat_of_nonneg h0]
    · rw [List.getD, List.getElem?_eq_none (by rw [s.flags_length]; omega)]
      simp only [Option.getD_none]
      exact (decide_eq_false (fun e => by have := (h.all n).1 (.inl e); omega)).symm
  · rw [decide_eq_false h0, Bool.false_and]
    exact (decide_eq_false (fun e => by have := (h.all n).1 (.inl e); omega)).symm

theorem AS.flags_new (s : AS) : ({ s with T := s.T ++ [(s.next : Int)], next := s.next + 1 } : AS).flags = s.flags ++ [true] := by
  simp only [AS.flags, List.range_succ, List.map_append, List.map_cons, List.map_nil]
  congr 1
  · refine List.map_congr_left fun i hi => ?_
    have := List.mem_range.1 hi
    congr 1
    simp only [List.mem_append, List.mem_singleton, eq_iff_iff]
    exact ⟨fun e => e.elim id (fun e => by omega), .inl⟩
  · simp

theorem AS.flags_again (s : AS) (n : Nat) (l : List Int) (hn : n < s.next) : ({ s with T := s.T ++ [(n : Int)], B := l } : AS).flags = s.flags.set n true := by
  refine List.ext_getElem? fun i => ?_
  rw [List.getElem?_set]
  rcases Nat.lt_or_ge i s.next with hi | hi
  · simp only [AS.flags, List.getElem?_map, List.getElem?_range hi, Option.map_some, List.length_map, List.length_range, hn, if_true]
    split
    · rename_i e; subst e; simp
    · rename_i e
      congr 1
      congr 1
      simp only [List.mem_append, List.mem_singleton, eq_iff_iff]
      exact ⟨fun e => e.elim id (fun e => by omega), .inl⟩
  · rw [List.getElem?_eq_none (by rw [AS.flags_length]; exact hi), if_neg (by omega), List.getElem?_eq_none (by rw [AS.flags_length]; exact hi)]

/-- A list without repetition, without its last. -/
theorem filter_last {l : List Int} {n : Int} (h : (l ++ [n]).Nodup) : (l ++ [n]).filter (fun x => x != n) = l := by
  rw [List.nodup_append] at h
  rw [List.filter_append]
  have h1 : l.filter (fun x => x != n) = l := List.filter_eq_self.2 fun a ha => by
    simp only [bne_iff_ne, ne_eq]
    exact fun e => h.2.2 a ha n (by simp) e
  rw [h1]
  simp

end Go.Proofs.YtipocmbplcdmjaaGreatDoor

/-
  Mathematics of orders: where a number stands, whether all stand, two exchanged. Nothing of the program is read here.
-/
namespace Go.Proofs.YtipocmbplcdmjaaGreatDoor

/-- The first place from i on, among f, at which v stands; -1. -/
def lf (o : Nat → Int) (v : Int) : Nat → Nat → Int
  | 0, _ => -1
  | f + 1, i => if o i = v then (i : Int) else lf o v f (i + 1)
/-- The first place. -/
def levO (o : Nat → Int) (v : Int) : Int := lf o v 8 0
/-- How many of the first k numbers stand. -/
def cntO (o : Nat → Int) (k : Nat) : Nat := ((List.range k).filter fun v : Nat => decide (0 ≤ levO o (v : Int))).length
/-- All stand. -/
def mayO (o : Nat → Int) : Bool := decide (cntO o 8 = 8)
/-- Two that stand side by side, exchanged. -/
def swapO (o : Nat → Int) (l : Int) : Nat → Int := fun i => if 0 ≤ l ∧ l ≤ 6 then (if (i : Int) = l then o (i + 1) else if (i : Int) = l + 1 then o (i - 1) else o i) else o i

theorem lf_cases (o : Nat → Int) (v : Int) : ∀ f i, (lf o v f i = -1 ∧ ∀ j, i ≤ j → j < i + f → o j ≠ v) ∨ ∃ j : Nat, lf o v f i = (j : Int) ∧ i ≤ j ∧ j < i + f ∧ o j = v ∧ ∀ k, i ≤ k → k < j → o k ≠ v := by
  intro f
  induction f with
  | zero => intro i; exact .inl ⟨rfl, fun j h1 h2 => by omega⟩
  | succ f ih =>
    intro i
    by_cases h : o i = v
    · exact .inr ⟨i, by simp [lf, h], Nat.le_refl _, by omega, h, fun k h1 h2 => by omega⟩
    · have e : lf o v (f + 1) i = lf o v f (i + 1) := by simp [lf, h]
      rw [e]
      rcases ih (i + 1) with ⟨h1, h2⟩ | ⟨j, h1, h2, h3, h4, h5⟩
      · refine .inl ⟨h1, fun j h3 h4 => ?_⟩
        by_cases hj : j = i
        · subst hj; exact h
        · exact h2 j (by omega) (by omega)
      · refine .inr ⟨j, h1, by omega, by omega, h4, fun k h6 h7 => ?_⟩
        by_cases hk : k = i
        · subst hk; exact h
        · exact h5 k (by omega) h7

theorem levO_cases (o : Nat → Int) (v : Int) : (levO o v = -1 ∧ ∀ j, j < 8 → o j ≠ v) ∨ ∃ j : Nat, levO o v = (j : Int) ∧ j < 8 ∧ o j = v ∧ ∀ k, k < j → o k ≠ v := by
  rcases lf_cases o v 8 0 with ⟨h1, h2⟩ | ⟨j, h1, _, h3, h4, h5⟩
  · exact .inl ⟨h1, fun j hj => h2 j (Nat.zero_le _) (by omega)⟩
  · exact .inr ⟨j, h1, by omega, h4, fun k hk => h5 k (Nat.zero_le _) hk⟩
theorem levO_range (o : Nat → Int) (v : Int) : -1 ≤ levO o v ∧ levO o v ≤ 7 := by
  rcases levO_cases o v with ⟨h, _⟩ | ⟨j, h, hj, _⟩ <;> omega
theorem levO_nonneg {o : Nat → Int} {v : Int} : 0 ≤ levO o v ↔ ∃ j : Nat, j < 8 ∧ o j = v := by
  rcases levO_cases o v with ⟨h, h2⟩ | ⟨j, h, hj, h4, _⟩
  · constructor
    · intro h1; omega
    · rintro ⟨j, hj, e⟩; exact absurd e (h2 j hj)
  · exact ⟨fun _ => ⟨j, hj, h4⟩, fun _ => by omega⟩

theorem cntO_succ (o : Nat → Int) (k : Nat) : cntO o (k + 1) = cntO o k + if 0 ≤ levO o (k : Int) then 1 else 0 := by
  unfold cntO
  rw [List.range_succ, List.filter_append, List.length_append]
  congr 1
  by_cases h : 0 ≤ levO o (k : Int) <;> simp [h]
theorem cntO_le (o : Nat → Int) (k : Nat) : cntO o k ≤ k := by
  unfold cntO
  exact Nat.le_trans (List.length_filter_le _ _) (by simp)
theorem cntO_all (o : Nat → Int) : ∀ k, cntO o k = k ↔ ∀ v : Nat, v < k → 0 ≤ levO o (v : Int) := by
  intro k
  induction k with
  | zero => simp [cntO]
  | succ k ih =>
    rw [cntO_succ]
    have := cntO_le o k
    constructor
    · intro h v hv
      by_cases hl : 0 ≤ levO o (k : Int)
      · rw [if_pos hl] at h
        by_cases hvk : v = k
        · subst hvk; exact hl
        · exact ih.1 (by omega) v (by omega)
      · rw [if_neg hl] at h; omega
    · intro h
      rw [if_pos (h k (by omega)), ih.2 fun v hv => h v (by omega)]
theorem mayO_iff {o : Nat → Int} : mayO o = true ↔ ∀ v : Nat, v < 8 → ∃ j : Nat, j < 8 ∧ o j = (v : Int) := by
  unfold mayO
  rw [decide_eq_true_iff, cntO_all]
  exact forall_congr' fun v => ⟨fun h hv => levO_nonneg.1 (h hv), fun h hv => levO_nonneg.2 (h hv)⟩

/-- Numbers below n, no two alike, are n at most. -/
theorem few_below : ∀ (n : Nat) (l : List Nat), l.Nodup → (∀ x ∈ l, x < n) → l.length ≤ n := by
  intro n
  induction n with
  | zero => intro l _ h; cases l with | nil => exact Nat.le_refl _ | cons a l => exact absurd (h a (List.mem_cons_self)) (by omega)
  | succ n ih =>
    intro l hn h
    have h1 := ih (l.erase n) (hn.erase n) fun x hx => by
      have h2 := h x (List.mem_of_mem_erase hx)
      have h3 : x ≠ n := fun e => by subst e; exact hn.not_mem_erase hx
      omega
    have h4 := List.length_erase (a := n) (l := l)
    split at h4 <;> omega

/-- In an order each place has a variable, which stands there first. -/
theorem mayO_all {o : Nat → Int} (h : mayO o = true) : ∀ i, i < 8 → ∃ v : Nat, v < 8 ∧ o i = (v : Int) ∧ levO o (v : Int) = (i : Int) := by
  have hm := mayO_iff.1 h
  have hl : ∀ v : Nat, v < 8 → ∃ k : Nat, levO o (v : Int) = (k : Int) ∧ k < 8 ∧ o k = (v : Int) := fun v hv => by
    rcases levO_cases o (v : Int) with ⟨_, h2⟩ | ⟨k, h1, h2, h3, _⟩
    · obtain ⟨k, hk, e⟩ := hm v hv; exact absurd e (h2 k hk)
    · exact ⟨k, h1, h2, h3⟩
  have hnd : ((List.range 8).map fun v : Nat => (levO o (v : Int)).toNat).Nodup := by
    rw [List.Nodup, List.pairwise_map]
    refine List.Pairwise.imp_of_mem (R := fun a b => a ≠ b) ?_ List.nodup_range
    intro a b ha hb hab he
    obtain ⟨k, k1, k2, k3⟩ := hl a (List.mem_range.1 ha)
    obtain ⟨m, m1, m2, m3⟩ := hl b (List.mem_range.1 hb)
    rw [k1, m1] at he
    have hkm : k = m := by simpa using he
    subst hkm
    rw [k3] at m3
    exact hab (by omega)
  exact fun i hi => by
    refine Classical.byContradiction fun hno => ?_
    have h1 := few_below 8 (i :: (List.range 8).map fun v : Nat => (levO o (v : Int)).toNat) (List.nodup_cons.2 ⟨fun hx => ?_, hnd⟩) fun x hx => ?_
    · simp at h1
    · obtain ⟨v, hv, e⟩ := List.mem_map.1 hx
      obtain ⟨k, k1, k2, k3⟩ := hl v (List.mem_range.1 hv)
      have hki : k = i := by rw [k1] at e; simpa using e
      subst hki
      exact hno ⟨v, List.mem_range.1 hv, k3, k1⟩
    · rcases List.mem_cons.1 hx with rfl | hx
      · exact hi
      · obtain ⟨v, hv, rfl⟩ := List.mem_map.1 hx
        obtain ⟨k, k1, k2, k3⟩ := hl v (List.mem_range.1 hv)
        rw [k1]; simpa using k2
/-- In an order each number stands once. -/
theorem mayO_once {o : Nat → Int} (h : mayO o = true) {i j : Nat} (hi : i < 8) (hj : j < 8) (e : o i = o j) : i = j := by
  have hall := mayO_all h
  obtain ⟨a, _, a2, a3⟩ := hall i hi
  obtain ⟨b, _, b2, b3⟩ := hall j hj
  rw [a2, b2] at e
  rw [e] at a3
  omega

/-- Where it stands, told by any place. -/
theorem levO_at {o : Nat → Int} (h : mayO o = true) {v : Int} {i : Nat} (hi : i < 8) (e : o i = v) : levO o v = (i : Int) := by
  rcases levO_cases o v with ⟨_, h2⟩ | ⟨k, h1, h2, h3, _⟩
  · exact absurd e (h2 i hi)
  · rw [h1, mayO_once h h2 hi (h3.trans e.symm)]

theorem swapO_out {o : Nat → Int} {l : Int} (h : ¬ (0 ≤ l ∧ l ≤ 6)) : swapO o l = o := by funext i; simp [swapO, h]
theorem swapO_swapO (o : Nat → Int) (l : Int) : swapO (swapO o l) l = o := by
  funext i
  by_cases h : 0 ≤ l ∧ l ≤ 6
  · obtain ⟨m, rfl⟩ := Int.eq_ofNat_of_zero_le h.1
    by_cases h1 : i = m
    · subst h1
      have h2 : ¬ ((i : Int) + 1 = i) := by omega
      simp [swapO, h, h2]
    · by_cases h2 : i = m + 1
      · subst h2
        have h3 : ¬ ((m : Int) + 1 = m) := by omega
        simp [swapO, h, h3]
      · have h3 : ¬ (i : Int) = (m : Int) := by omega
        have h4 : ¬ (i : Int) = (m : Int) + 1 := by omega
        simp [swapO, h, h3, h4]
  · rw [swapO_out h, swapO_out h]

/-- What stands in one stands in the other. -/
theorem swapO_stands (o : Nat → Int) (l v : Int) : (∃ j : Nat, j < 8 ∧ swapO o l j = v) ↔ ∃ j : Nat, j < 8 ∧ o j = v := by
  have key : ∀ o : Nat → Int, (∃ j, j < 8 ∧ o j = v) → ∃ j, j < 8 ∧ swapO o l j = v := fun o => by
    rintro ⟨j, hj, e⟩
    by_cases h : 0 ≤ l ∧ l ≤ 6
    · by_cases h1 : (j : Int) = l
      · refine ⟨j + 1, by omega, ?_⟩
        have h2 : ¬ ((j : Int) + 1 = l) := by omega
        simp [swapO, h, h1, e]
        intro h3; omega
      · by_cases h2 : (j : Int) = l + 1
        · obtain ⟨m, rfl⟩ := Int.eq_ofNat_of_zero_le h.1
          refine ⟨m, by omega, ?_⟩
          have : m + 1 = j := by omega
          simp [swapO, h, this, e]
        · exact ⟨j, hj, by simp [swapO, h, h1, h2, e]⟩
    · exact ⟨j, hj, by rw [swapO_out h]; exact e⟩
  constructor
  · intro h
    have := key (swapO o l) h
    rwa [swapO_swapO] at this
  · exact key o
theorem swapO_may (o : Nat → Int) (l : Int) : mayO (swapO o l) = mayO o := by
  have h : mayO (swapO o l) = true ↔ mayO o = true := by
    rw [mayO_iff, mayO_iff]
    exact forall_congr' fun v => ⟨fun h hv => (swapO_stands o l v).1 (h hv), fun h hv => (swapO_stands o l v).2 (h hv)⟩
  cases h1 : mayO o <;> cases h2 : mayO (swapO o l) <;> simp_all

/-- What doesn't stand at one of both places stays; what does changes places. -/
theorem swapO_lev {o : Nat → Int} (h : mayO o = true) {l : Int} (h0 : 0 ≤ l) (h6 : l ≤ 6) {v : Nat} (hv : v < 8) :
    (levO o (v : Int) ≠ l → levO o (v : Int) ≠ l + 1 → levO (swapO o l) (v : Int) = levO o (v : Int)) ∧ (levO o (v : Int) = l → levO (swapO o l) (v : Int) = l + 1) ∧ (levO o (v : Int) = l + 1 → levO (swapO o l) (v : Int) = l) := by
  have hm : mayO (swapO o l) = true := by rw [swapO_may]; exact h
  obtain ⟨m, rfl⟩ := Int.eq_ofNat_of_zero_le h0
  rcases levO_cases o (v : Int) with ⟨_, h2⟩ | ⟨k, h1, h2, h3, _⟩
  · obtain ⟨j, hj, e⟩ := mayO_iff.1 h v hv
    exact absurd e (h2 j hj)
  · rw [h1]
    refine ⟨fun a b => ?_, fun a => ?_, fun a => ?_⟩
    · exact levO_at hm h2 (by simp [swapO, h0, h6, a, b, h3])
    · have hk : k = m := by omega
      subst hk
      have h5 : ¬ ((k : Int) + 1 = k) := by omega
      have := levO_at (v := (v : Int)) hm (i := k + 1) (by omega) (by simp [swapO, h0, h6, h5, h3])
      rw [this]; rfl
    · have hk : k = m + 1 := by omega
      subst hk
      exact levO_at hm (by omega) (by simp [swapO, h0, h6, h3])

end Go.Proofs.YtipocmbplcdmjaaGreatDoor

/-
  Mathematics of a store of nodes: what the document's layer 7 says, as functions on a state; what always holds of it. (Begun ahead of stage 7.) Nothing of the program is read here.
-/
namespace Go.Proofs.YtipocmbplcdmjaaGreatDoor

/-- A node. -/
structure Nd where
  var : Int
  lo : Int
  hi : Int
deriving DecidableEq

/-- The document's store: its arena, its nodes by their numbers less 2, its order. -/
structure MS where make ::
  ar : AS
  N : List Nd
  o : Nat → Int

namespace MS
def has (s : MS) (n : Int) : Bool := decide (2 ≤ n) && decide (n - 2 ∈ s.ar.T)
def nd (s : MS) (n : Int) : Nd := s.N.getD (n - 2).toNat ⟨0, 0, 0⟩
def node (s : MS) (n : Int) : Option Nd := if s.has n then some (s.nd n) else none
def room (s : MS) : Int := s.ar.most - s.ar.T.length
/-- Its numbers, rising. -/
def all (s : MS) : List Int := ((List.range s.N.length).map fun i : Nat => (i : Int) + 2).filter s.has
def behind (s : MS) (n v : Int) : Bool := match s.node n with
  | none => n == 0 || n == 1
  | some x => decide (levO s.o v < levO s.o x.var)
/-- The node that is so, without those of a list. -/
def find (s : MS) (x : Nd) (but : List Int) : Option Int := ((List.range s.N.length).map fun i : Nat => (i : Int) + 2).find? fun n => decide (s.nd n = x) && s.has n && !(but.contains n)
def takeS (s : MS) (x : Nd) : MS := ⟨s.ar.take, if s.ar.takeN = s.N.length then s.N ++ [x] else s.N.set s.ar.takeN.toNat x, s.o⟩
/-- What it makes: the number, the error's number, the state. -/
def mk (s : MS) (v lo hi : Int) (but : List Int) : Int × Int × MS :=
  if v < 0 ∨ 7 < v ∨ s.behind lo v = false ∨ s.behind hi v = false then (0, 1, s)
  else if lo = hi then (lo, 0, s)
  else match s.find ⟨v, lo, hi⟩ but with
    | some n => (n, 0, s)
    | none => if s.ar.takeE ≠ 0 then (0, s.ar.takeE, s) else (s.ar.takeN + 2, 0, s.takeS ⟨v, lo, hi⟩)
def isOf (s : MS) (n v : Int) : Bool := match s.node n with | none => false | some x => x.var == v
def side (s : MS) (n y : Int) (b : Bool) : Int := if s.isOf n y then (if b then (s.nd n).hi else (s.nd n).lo) else n
def setNd (s : MS) (n : Int) (x : Nd) : MS := { s with N := s.N.set (n - 2).toNat x }
/-- What changes by an exchange. -/
def changes (s : MS) (x y : Int) : List Int := s.all.filter fun n => decide ((s.nd n).var = x) && (s.isOf (s.nd n).lo y || s.isOf (s.nd n).hi y)
/-- One of them. -/
def swap1 (s : MS) (x y : Int) : List Int → MS
  | [] => s
  | n :: rest =>
    let old := s.nd n
    let a := s.mk x (s.side old.lo y false) (s.side old.hi y false) (n :: rest)
    let b := a.2.2.mk x (a.2.2.side old.lo y true) (a.2.2.side old.hi y true) (n :: rest)
    swap1 (b.2.2.setNd n ⟨y, a.1, b.1⟩) x y rest
def swap (s : MS) (l : Int) : Int × MS :=
  if l < 0 ∨ 6 < l then (1, s)
  else
    let x := s.o l.toNat
    let y := s.o (l.toNat + 1)
    if s.room < 2 * (s.changes x y).length then (2, s)
    else (0, swap1 { s with o := swapO s.o l } x y (s.changes x y))

/-- What always holds of the numbers alone. -/
structure Base (s : MS) : Prop where
  ar : s.ar.Ok
  len : s.N.length = s.ar.next
/-- What always holds. -/
structure Ok (s : MS) : Prop extends Base s where
  order : mayO s.o = true
  /-- Of what is there: its variable; unlike sides, each a constant or there, further behind. -/
  var : ∀ n, s.has n = true → 0 ≤ (s.nd n).var ∧ (s.nd n).var ≤ 7
  unlike : ∀ n, s.has n = true → (s.nd n).lo ≠ (s.nd n).hi
  lo : ∀ n, s.has n = true → s.behind (s.nd n).lo (s.nd n).var = true
  hi : ∀ n, s.has n = true → s.behind (s.nd n).hi (s.nd n).var = true
  /-- No two are alike. -/
  one : ∀ n m, s.has n = true → s.has m = true → s.nd n = s.nd m → n = m
/-- What holds but for a list's. -/
structure Okb (s : MS) (R : List Int) : Prop extends Base s where
  order : mayO s.o = true
  var : ∀ n, s.has n = true → n ∉ R → 0 ≤ (s.nd n).var ∧ (s.nd n).var ≤ 7
  unlike : ∀ n, s.has n = true → n ∉ R → (s.nd n).lo ≠ (s.nd n).hi
  lo : ∀ n, s.has n = true → n ∉ R → s.behind (s.nd n).lo (s.nd n).var = true
  hi : ∀ n, s.has n = true → n ∉ R → s.behind (s.nd n).hi (s.nd n).var = true
  one : ∀ n m, s.has n = true → s.has m = true → n ∉ R → m ∉ R → s.nd n = s.nd m → n = m
theorem Okb.ok {s : MS} (h : s.Okb []) : s.Ok :=
  ⟨h.toBase, h.order, fun n hn => h.var n hn (by simp), fun n hn => h.unlike n hn (by simp), fun n hn => h.lo n hn (by simp), fun n hn => h.hi n hn (by simp), fun n m hn hm => h.one n m hn hm (by simp) (by simp)⟩
theorem Ok.okb {s : MS} (h : s.Ok) (R : List Int) : s.Okb R :=
  ⟨h.toBase, h.order, fun n hn _ => h.var n hn, fun n hn _ => h.unlike n hn, fun n hn _ => h.lo n hn, fun n hn _ => h.hi n hn, fun n m hn hm _ _ => h.one n m hn hm⟩
end MS

section
variable {s : MS}
theorem MS.Base.range (h : s.Base) {n : Int} (hn : s.has n = true) : 2 ≤ n ∧ (n - 2).toNat < s.N.length ∧ n - 2 ∈ s.ar.T := by
  simp only [MS.has, Bool.and_eq_true, decide_eq_true_eq] at hn
  have := (h.ar.all (n - 2)).1 (.inl hn.2)
  rw [h.len]
  exact ⟨hn.1, by omega, hn.2⟩
theorem MS.behind_const {n v : Int} (h : n = 0 ∨ n = 1) : s.behind n v = true := by
  have hh : s.has n = false := by rcases h with rfl | rfl <;> rfl
  rcases h with rfl | rfl <;> simp [MS.behind, MS.node, hh]
theorem MS.behind_node {n v : Int} (h : s.has n = true) : s.behind n v = decide (levO s.o v < levO s.o (s.nd n).var) := by simp [MS.behind, MS.node, h]
theorem MS.behind_cases {n v : Int} (h : s.behind n v = true) : (n = 0 ∨ n = 1) ∨ (s.has n = true ∧ levO s.o v < levO s.o (s.nd n).var) := by
  cases hh : s.has n
  · simp only [MS.behind, MS.node, hh] at h
    left; simpa using h
  · rw [MS.behind_node hh] at h
    exact .inr ⟨rfl, by simpa using h⟩
theorem MS.Ok.new (most : Nat) (h : most ≤ 20000) (o : Nat → Int) (ho : mayO o = true) : (MS.make ⟨most, 0, [], []⟩ [] o).Ok := by
  have hn : ∀ n, (MS.make ⟨most, 0, [], []⟩ [] o).has n = false := fun n => by simp [MS.has]
  exact ⟨⟨AS.new_ok most h, rfl⟩, ho, fun n e => (by rw [hn] at e; cases e), fun n e => (by rw [hn] at e; cases e), fun n e => (by rw [hn] at e; cases e), fun n e => (by rw [hn] at e; cases e), fun n m e => (by rw [hn] at e; cases e)⟩

/-- Where there is room: what is taken is new, and in its place. -/
theorem MS.Base.took (h : s.Base) (hf : s.ar.T.length ≠ s.ar.most) : 0 ≤ s.ar.takeN ∧ s.ar.takeN ∉ s.ar.T ∧ (∀ m : Int, m ∈ s.ar.take.T ↔ m ∈ s.ar.T ∨ m = s.ar.takeN) ∧
    ((s.ar.takeN = s.N.length ∧ s.ar.take.next = s.N.length + 1) ∨ (s.ar.takeN < s.N.length ∧ s.ar.take.next = s.N.length)) := by
  have hl := h.len
  rcases last_or_nil s.ar.B with hb | ⟨l, n, hb⟩
  · obtain ⟨e1, _, e3⟩ := AS.Ok.take_new hf hb
    rw [e1, e3]
    refine ⟨by omega, fun e => ?_, fun m => by simp, .inl ⟨by omega, by show s.ar.next + 1 = _; omega⟩⟩
    have := (h.ar.all s.ar.next).1 (.inl e); omega
  · obtain ⟨e1, _, e3⟩ := AS.Ok.take_again hf hb
    rw [e1, e3]
    have hin := (h.ar.all n).1 (.inr (by rw [hb]; simp))
    refine ⟨by omega, fun e => h.ar.apart n e (by rw [hb]; simp), fun m => by simp, .inr ⟨by omega, by show s.ar.next = _; omega⟩⟩

/-- A node laid: what is there then. -/
theorem MS.Base.takeS_has (h : s.Base) (hf : s.ar.T.length ≠ s.ar.most) (x : Nd) (n : Int) : (s.takeS x).has n = true ↔ s.has n = true ∨ n = s.ar.takeN + 2 := by
  obtain ⟨h0, _, h2, _⟩ := h.took hf
  simp only [MS.has, MS.takeS, Bool.and_eq_true, decide_eq_true_eq, h2]
  constructor
  · rintro ⟨a, b | b⟩
    · exact .inl ⟨a, b⟩
    · exact .inr (by omega)
  · rintro (⟨a, b⟩ | b)
    · exact ⟨a, .inl b⟩
    · exact ⟨by omega, .inr (by omega)⟩
theorem MS.Base.takeS_new (h : s.Base) (hf : s.ar.T.length ≠ s.ar.most) (x : Nd) : (s.takeS x).nd (s.ar.takeN + 2) = x := by
  obtain ⟨h0, _, _, h3⟩ := h.took hf
  unfold MS.nd MS.takeS
  rw [show s.ar.takeN + 2 - 2 = s.ar.takeN by omega]
  rcases h3 with ⟨e, _⟩ | ⟨e, _⟩
  · simp [e, List.getD]
  · have e2 : s.ar.takeN.toNat < s.N.length := by omega
    have e3 : ¬ s.ar.takeN = s.N.length := by omega
    simp [e3, e2, List.getD]
theorem MS.Base.takeS_old (h : s.Base) (hf : s.ar.T.length ≠ s.ar.most) (x : Nd) {n : Int} (hn : s.has n = true) : (s.takeS x).nd n = s.nd n := by
  obtain ⟨h0, h1, _, h3⟩ := h.took hf
  obtain ⟨r1, r2, r3⟩ := h.range hn
  have hne : s.ar.takeN.toNat ≠ (n - 2).toNat := fun e => h1 (by rw [show s.ar.takeN = n - 2 by omega]; exact r3)
  unfold MS.nd MS.takeS
  rcases h3 with ⟨e, _⟩ | ⟨e, _⟩
  · simp [e, List.getD, List.getElem?_append_left r2]
  · have e3 : ¬ s.ar.takeN = s.N.length := by omega
    simp [e3, List.getD, List.getElem?_set_ne hne]
theorem MS.Base.takeS_behind (h : s.Base) (hf : s.ar.T.length ≠ s.ar.most) (x : Nd) {n v : Int} (hb : s.behind n v = true) : (s.takeS x).behind n v = true := by
  rcases MS.behind_cases hb with hc | ⟨hc, hl⟩
  · exact MS.behind_const hc
  · rw [MS.behind_node ((h.takeS_has hf x n).2 (.inl hc)), h.takeS_old hf x hc]
    exact decide_eq_true hl

/-- A node that is unlike all that are there, laid: all that holds, holds. -/
theorem MS.Okb.takeS {R : List Int} (h : s.Okb R) (hf : s.ar.T.length ≠ s.ar.most) {x : Nd} (hv : 0 ≤ x.var ∧ x.var ≤ 7) (hu : x.lo ≠ x.hi) (hlo : s.behind x.lo x.var = true) (hhi : s.behind x.hi x.var = true) (hone : ∀ n, s.has n = true → n ∉ R → s.nd n ≠ x) : (s.takeS x).Okb R := by
  obtain ⟨h0, h1, h2, h3⟩ := h.took hf
  have hcase : ∀ n, (s.takeS x).has n = true → (s.has n = true ∧ (s.takeS x).nd n = s.nd n) ∨ (n = s.ar.takeN + 2 ∧ (s.takeS x).nd n = x) := fun n hn => by
    rcases (h.takeS_has hf x n).1 hn with hc | rfl
    · exact .inl ⟨hc, h.takeS_old hf x hc⟩
    · exact .inr ⟨rfl, h.takeS_new hf x⟩
  refine ⟨⟨h.ar.take, ?_⟩, h.order, ?_, ?_, ?_, ?_, ?_⟩
  · unfold MS.takeS
    rcases h3 with ⟨e, e2⟩ | ⟨e, e2⟩
    · simp [e, e2]
    · have e3 : ¬ s.ar.takeN = s.N.length := by omega
      simp [e3, e2]
  · intro n hn hR
    rcases hcase n hn with ⟨hc, e⟩ | ⟨_, e⟩
    · rw [e]; exact h.var n hc hR
    · rw [e]; exact hv
  · intro n hn hR
    rcases hcase n hn with ⟨hc, e⟩ | ⟨_, e⟩
    · rw [e]; exact h.unlike n hc hR
    · rw [e]; exact hu
  · intro n hn hR
    rcases hcase n hn with ⟨hc, e⟩ | ⟨_, e⟩
    · rw [e]; exact h.takeS_behind hf x (h.lo n hc hR)
    · rw [e]; exact h.takeS_behind hf x hlo
  · intro n hn hR
    rcases hcase n hn with ⟨hc, e⟩ | ⟨_, e⟩
    · rw [e]; exact h.takeS_behind hf x (h.hi n hc hR)
    · rw [e]; exact h.takeS_behind hf x hhi
  · intro n m hn hm hR hS he
    rcases hcase n hn with ⟨hc, e⟩ | ⟨e1, e⟩
    · rcases hcase m hm with ⟨hd, f⟩ | ⟨f1, f⟩
      · rw [e, f] at he; exact h.one n m hc hd hR hS he
      · rw [e, f] at he; exact absurd he (hone n hc hR)
    · rcases hcase m hm with ⟨hd, f⟩ | ⟨f1, f⟩
      · rw [e, f] at he; exact absurd he.symm (hone m hd hS)
      · rw [e1, f1]

theorem MS.has_in {n : Int} (h : s.Base) (hn : s.has n = true) : n ∈ ((List.range s.N.length).map fun i : Nat => (i : Int) + 2) := by
  obtain ⟨r1, r2, _⟩ := h.range hn
  exact List.mem_map.2 ⟨(n - 2).toNat, List.mem_range.2 r2, by omega⟩
theorem MS.find_some {x : Nd} {but : List Int} {n : Int} (h : s.find x but = some n) : s.has n = true ∧ s.nd n = x ∧ n ∉ but := by
  have := List.find?_some h
  simp only [Bool.and_eq_true, decide_eq_true_eq, Bool.not_eq_true', List.contains_eq_mem, decide_eq_false_iff_not] at this
  exact ⟨this.1.2, this.1.1, this.2⟩
theorem MS.find_none (ok : s.Base) {x : Nd} {but : List Int} (h : s.find x but = none) {n : Int} (hn : s.has n = true) (hb : n ∉ but) : s.nd n ≠ x := by
  intro e
  have := List.find?_eq_none.1 h n (MS.has_in ok hn)
  simp [e, hn, hb] at this

/-- What Mk does: nothing, or one node that is unlike all that are there (but those of a list). -/
theorem MS.mk_cases (s : MS) (v lo hi : Int) (but : List Int) :
    (∃ r e, s.mk v lo hi but = (r, e, s)) ∨ (s.ar.T.length ≠ s.ar.most ∧ 0 ≤ v ∧ v ≤ 7 ∧ s.behind lo v = true ∧ s.behind hi v = true ∧ lo ≠ hi ∧ s.find ⟨v, lo, hi⟩ but = none ∧ s.mk v lo hi but = (s.ar.takeN + 2, 0, s.takeS ⟨v, lo, hi⟩)) := by
  unfold MS.mk
  by_cases h1 : v < 0 ∨ 7 < v ∨ s.behind lo v = false ∨ s.behind hi v = false
  · rw [if_pos h1]; exact .inl ⟨_, _, rfl⟩
  · rw [if_neg h1]
    by_cases h2 : lo = hi
    · rw [if_pos h2]; exact .inl ⟨_, _, rfl⟩
    · rw [if_neg h2]
      cases h3 : s.find ⟨v, lo, hi⟩ but with
      | some n => exact .inl ⟨_, _, rfl⟩
      | none =>
        by_cases h4 : s.ar.T.length = s.ar.most
        · have h5 := (AS.Ok.take_full h4).2.1
          simp only [h5]
          exact .inl ⟨_, _, rfl⟩
        · have h5 : s.ar.takeE = 0 := by simp [AS.takeE, h4]
          simp only [h5, ne_eq, not_true_eq_false, if_false]
          simp only [not_or, Bool.not_eq_false] at h1
          exact .inr ⟨h4, by omega, by omega, h1.2.2.1, h1.2.2.2, h2, trivial, trivial⟩
theorem MS.Ok.made (h : s.Ok) (v lo hi : Int) : (s.mk v lo hi []).2.2.Ok := by
  rcases s.mk_cases v lo hi [] with ⟨r, e, h1⟩ | ⟨h1, h2, h3, h4, h5, h6, h7, h8⟩
  · rw [h1]; exact h
  · rw [h8]; exact ((h.okb []).takeS h1 ⟨h2, h3⟩ h6 h4 h5 fun n hn _ => MS.find_none h.toBase h7 hn (by simp)).ok

end

end Go.Proofs.YtipocmbplcdmjaaGreatDoor

/-
  Mathematics of a store of nodes: how deep a node stands, what it is in a row. Nothing of the program is read here.
-/
namespace Go.Proofs.YtipocmbplcdmjaaGreatDoor

section
variable {s : MS}

/-- A constant, or a node that is there. -/
def MS.there (s : MS) (n : Int) : Bool := n == 0 || n == 1 || s.has n
theorem MS.behind_there {n v : Int} (h : s.behind n v = true) : s.there n = true := by
  rcases MS.behind_cases h with (rfl | rfl) | ⟨h, _⟩ <;> simp [MS.there, *]
theorem MS.there_cases {n : Int} (h : s.there n = true) : ((n = 0 ∨ n = 1) ∧ s.has n = false) ∨ s.has n = true := by
  simp only [MS.there, Bool.or_eq_true, beq_iff_eq] at h
  rcases h with (rfl | rfl) | h
  · exact .inl ⟨.inl rfl, rfl⟩
  · exact .inl ⟨.inr rfl, rfl⟩
  · exact .inr h
theorem MS.node_has {n : Int} (h : s.has n = true) : s.node n = some (s.nd n) := by simp [MS.node, h]
theorem MS.node_not {n : Int} (h : s.has n = false) : s.node n = none := by simp [MS.node, h]

/-- How many levels there are from a node's on. -/
def MS.dep (s : MS) (n : Int) : Nat := if s.has n then (8 - levO s.o (s.nd n).var).toNat else 0
/-- What a number is where b tells each variable, told by so many steps. -/
def MS.valF (s : MS) (b : Int → Bool) : Nat → Int → Bool
  | 0, n => n == 1
  | k + 1, n => match s.node n with
    | none => n == 1
    | some x => s.valF b k (if b x.var then x.hi else x.lo)
/-- What a number is where b tells each variable. -/
def MS.val (s : MS) (b : Int → Bool) (n : Int) : Bool := s.valF b 8 n

theorem MS.Ok.lev (h : s.Ok) {n : Int} (hn : s.has n = true) : 0 ≤ levO s.o (s.nd n).var ∧ levO s.o (s.nd n).var ≤ 7 := by
  have hv := h.var n hn
  have hr := levO_range s.o (s.nd n).var
  obtain ⟨v, hv'⟩ := Int.eq_ofNat_of_zero_le hv.1
  have := levO_nonneg.2 (mayO_iff.1 h.order v (by omega))
  rw [hv'] at hr ⊢
  exact ⟨this, hr.2⟩
theorem MS.Ok.dep_le (h : s.Ok) (n : Int) : s.dep n ≤ 8 := by
  unfold MS.dep
  split
  · rename_i hn; have := h.lev hn; omega
  · omega
theorem MS.Ok.dep_pos (h : s.Ok) {n : Int} (hn : s.has n = true) : 0 < s.dep n := by
  have := h.lev hn
  simp only [MS.dep, hn, if_true]; omega
theorem MS.Ok.dep_behind (h : s.Ok) {n m : Int} (hn : s.has n = true) (hb : s.behind m (s.nd n).var = true) : s.dep m < s.dep n := by
  have h1 := h.lev hn
  rcases MS.behind_cases hb with hc | ⟨hm, hl⟩
  · have : s.has m = false := by rcases hc with rfl | rfl <;> rfl
    simp only [MS.dep, hn, this, if_true]; simp; omega
  · have h2 := h.lev hm
    simp only [MS.dep, hn, hm, if_true]; omega
theorem MS.Ok.valF_more (h : s.Ok) (b : Int → Bool) : ∀ k n, s.dep n ≤ k → s.valF b (k + 1) n = s.valF b k n := by
  intro k
  induction k with
  | zero =>
    intro n hd
    cases hn : s.has n
    · simp [MS.valF, MS.node_not hn]
    · have := h.dep_pos hn; omega
  | succ k ih =>
    intro n hd
    cases hn : s.has n
    · simp [MS.valF, MS.node_not hn]
    · have h1 := h.dep_behind hn (h.lo n hn)
      have h2 := h.dep_behind hn (h.hi n hn)
      rw [MS.valF, MS.valF, MS.node_has hn]
      dsimp only
      split
      · exact ih _ (by omega)
      · exact ih _ (by omega)
theorem MS.Ok.valF_enough (h : s.Ok) (b : Int → Bool) {n : Int} {k : Nat} (hk : s.dep n ≤ k) : ∀ d, s.valF b (k + d) n = s.valF b k n := by
  intro d
  induction d with
  | zero => rfl
  | succ d ih => rw [← ih, ← Nat.add_assoc]; exact h.valF_more b _ _ (by omega)
theorem MS.Ok.valF_val (h : s.Ok) (b : Int → Bool) {n : Int} {k : Nat} (hk : s.dep n ≤ k) : s.valF b k n = s.val b n := by
  unfold MS.val
  have h8 := h.dep_le n
  rcases Nat.le_total k 8 with hle | hle
  · have := h.valF_enough b hk (8 - k)
    rw [show k + (8 - k) = 8 by omega] at this
    exact this.symm
  · have := h.valF_enough b h8 (k - 8)
    rw [show 8 + (k - 8) = k by omega] at this
    exact this
/-- Of a node: its Hi's, or its Lo's. -/
theorem MS.Ok.val_node (h : s.Ok) (b : Int → Bool) {n : Int} (hn : s.has n = true) : s.val b n = s.val b (if b (s.nd n).var then (s.nd n).hi else (s.nd n).lo) := by
  have h1 := h.dep_behind hn (h.lo n hn)
  have h2 := h.dep_behind hn (h.hi n hn)
  have h8 := h.dep_le n
  have : s.val b n = s.valF b 7 (if b (s.nd n).var then (s.nd n).hi else (s.nd n).lo) := by
    unfold MS.val
    rw [MS.valF, MS.node_has hn]
  rw [this]
  exact h.valF_val b (by split <;> omega)
theorem MS.val_const (b : Int → Bool) {n : Int} (hn : s.has n = false) : s.val b n = (n == 1) := by
  unfold MS.val
  rw [MS.valF, MS.node_not hn]
end

end Go.Proofs.YtipocmbplcdmjaaGreatDoor

/-
  Mathematics of a store of nodes: levels that are exchanged. Nothing of the program is read here.
-/
namespace Go.Proofs.YtipocmbplcdmjaaGreatDoor

theorem mayO_range {o : Nat → Int} (h : mayO o = true) {i : Nat} (hi : i < 8) : 0 ≤ o i ∧ o i ≤ 7 := by
  obtain ⟨v, hv, e, _⟩ := mayO_all h i hi
  omega
theorem lev_place {o : Nat → Int} {v : Int} {l : Nat} (h : levO o v = (l : Int)) : o l = v := by
  rcases levO_cases o v with ⟨h1, _⟩ | ⟨j, h1, _, h3, _⟩
  · omega
  · obtain rfl : j = l := by omega
    exact h3
theorem lev_swap {o : Nat → Int} (h : mayO o = true) {l : Nat} (hl : l ≤ 6) {v : Int} (h0 : 0 ≤ v) (h7 : v ≤ 7) :
    levO (swapO o l) v = if levO o v = (l : Int) then (l : Int) + 1 else if levO o v = (l : Int) + 1 then (l : Int) else levO o v := by
  obtain ⟨n, rfl⟩ := Int.eq_ofNat_of_zero_le h0
  have := swapO_lev h (l := l) (by omega) (by omega) (v := n) (by omega)
  split
  · exact this.2.1 (by assumption)
  · split
    · exact this.2.2 (by assumption)
    · exact this.1 (by assumption) (by assumption)

section
variable {s t : MS} {l : Nat} {C R : List Int}

theorem MS.Base.mem_all (h : s.Base) {n : Int} : n ∈ s.all ↔ s.has n = true := by
  unfold MS.all
  rw [List.mem_filter]
  exact ⟨fun h => h.2, fun hn => ⟨MS.has_in h hn, hn⟩⟩
theorem MS.isOf_iff {n v : Int} : s.isOf n v = true ↔ s.has n = true ∧ (s.nd n).var = v := by
  unfold MS.isOf
  cases hn : s.has n
  · simp [MS.node, hn]
  · simp [MS.node, hn]
theorem MS.Base.mem_changes (h : s.Base) {n x y : Int} : n ∈ s.changes x y ↔ s.has n = true ∧ (s.nd n).var = x ∧ (s.isOf (s.nd n).lo y = true ∨ s.isOf (s.nd n).hi y = true) := by
  unfold MS.changes
  rw [List.mem_filter, h.mem_all]
  simp

/-- A constant, or a node behind both levels. -/
def MS.deep (s : MS) (l : Nat) (p : Int) : Prop := (p = 0 ∨ p = 1) ∨ (s.has p = true ∧ (l : Int) + 1 < levO s.o (s.nd p).var)
/-- Such a one, or a node of the second level. -/
def MS.deep1 (s : MS) (l : Nat) (p : Int) : Prop := s.deep l p ∨ s.isOf p (s.o (l + 1)) = true

theorem MS.Ok.lev_l (h : s.Ok) (hl : l ≤ 7) : levO s.o (s.o l) = (l : Int) := levO_at h.order (by omega) rfl
/-- Sides of a node of the first level. -/
theorem MS.Ok.deep1_x (h : s.Ok) (hl : l ≤ 6) {p : Int} (hb : s.behind p (s.o l) = true) : s.deep1 l p := by
  rcases MS.behind_cases hb with hc | ⟨hp, hlev⟩
  · exact .inl (.inl hc)
  · rw [h.lev_l (by omega)] at hlev
    by_cases e : levO s.o (s.nd p).var = (l : Int) + 1
    · exact .inr (MS.isOf_iff.2 ⟨hp, (lev_place (l := l + 1) (by rw [e]; rfl)).symm⟩)
    · exact .inl (.inr ⟨hp, by omega⟩)
theorem MS.Ok.deep_y (h : s.Ok) (hl : l ≤ 6) {p : Int} (hb : s.behind p (s.o (l + 1)) = true) : s.deep l p := by
  rcases MS.behind_cases hb with hc | ⟨hp, hlev⟩
  · exact .inl hc
  · rw [h.lev_l (by omega)] at hlev
    exact .inr ⟨hp, by omega⟩
theorem MS.Ok.deep_not (h : s.Ok) (hl : l ≤ 6) {p v : Int} (hd : s.deep l p) (hp : s.has p = true) (hv : v = s.o l ∨ v = s.o (l + 1)) : (s.nd p).var ≠ v := by
  intro e
  have h1 := h.lev_l (l := l) (by omega)
  have h2 := h.lev_l (l := l + 1) (by omega)
  rcases hd with (rfl | rfl) | ⟨_, hd⟩
  · cases hp
  · cases hp
  · rcases hv with rfl | rfl <;> rw [e] at hd <;> omega
/-- A side is behind both. -/
theorem MS.Ok.deep_side (h : s.Ok) (hl : l ≤ 6) {p : Int} (hp : s.deep1 l p) (b : Bool) : s.deep l (s.side p (s.o (l + 1)) b) := by
  unfold MS.side
  split
  · rename_i ho
    obtain ⟨h1, h2⟩ := MS.isOf_iff.1 ho
    split
    · exact h.deep_y hl (h2 ▸ h.hi p h1)
    · exact h.deep_y hl (h2 ▸ h.lo p h1)
  · rename_i ho
    exact hp.resolve_right ho
/-- What both sides are tells the number. -/
theorem MS.Ok.side_inj (h : s.Ok) {y p q : Int} (h0 : s.side p y false = s.side q y false) (h1 : s.side p y true = s.side q y true) : p = q := by
  unfold MS.side at h0 h1
  by_cases hp : s.isOf p y = true
  · obtain ⟨p1, p2⟩ := MS.isOf_iff.1 hp
    have hu := h.unlike p p1
    by_cases hq : s.isOf q y = true
    · obtain ⟨q1, q2⟩ := MS.isOf_iff.1 hq
      simp only [hp, hq, if_true] at h0 h1
      simp only [Bool.false_eq_true, if_false] at h0
      refine h.one p q p1 q1 ?_
      revert h0 h1 p2 q2
      generalize s.nd p = a
      generalize s.nd q = b
      cases a; cases b
      simp only [Nd.mk.injEq]
      intro e0 e1 e2 e3
      simp_all
    · simp only [hp, hq, if_true, if_false, Bool.false_eq_true] at h0 h1
      exact absurd (h0.trans h1.symm) hu
  · by_cases hq : s.isOf q y = true
    · have hu := h.unlike q (MS.isOf_iff.1 hq).1
      simp only [hp, hq, if_true, if_false, Bool.false_eq_true] at h0 h1
      exact absurd (h0.symm.trans h1) hu
    · simpa only [hp, hq, if_false, Bool.false_eq_true] using h0
theorem MS.Ok.side_same (h : s.Ok) {y p : Int} (h0 : s.side p y false = s.side p y true) : s.isOf p y = false := by
  cases hp : s.isOf p y
  · rfl
  · have hu := h.unlike p (MS.isOf_iff.1 hp).1
    simp only [MS.side, hp, if_true, Bool.false_eq_true, if_false] at h0
    exact absurd h0 hu

/-- What Mk tells of a node of the first level. -/
def MS.Made (s : MS) (l : Nat) (C : List Int) (t : MS) (a p q : Int) : Prop := (p = q ∧ a = p) ∨ (p ≠ q ∧ t.has a = true ∧ a ∉ C ∧ t.nd a = ⟨s.o l, p, q⟩)

/-- What holds while one after the other becomes one of the second variable: R are still to come. -/
structure MS.J (s : MS) (l : Nat) (C R : List Int) (t : MS) : Prop where
  okb : t.Okb R
  o : t.o = swapO s.o l
  has : ∀ n, s.has n = true → t.has n = true
  old : ∀ n, s.has n = true → (n ∉ C ∨ n ∈ R) → t.nd n = s.nd n
  made : ∀ n ∈ C, n ∉ R → ∃ a b, t.nd n = ⟨s.o (l + 1), a, b⟩ ∧ MS.Made s l C t a (s.side (s.nd n).lo (s.o (l + 1)) false) (s.side (s.nd n).hi (s.o (l + 1)) false) ∧ MS.Made s l C t b (s.side (s.nd n).lo (s.o (l + 1)) true) (s.side (s.nd n).hi (s.o (l + 1)) true)
  new : ∀ n, t.has n = true → s.has n = false → (t.nd n).var = s.o l ∧ s.deep l (t.nd n).lo ∧ s.deep l (t.nd n).hi

/-- What is exchanged. -/
structure MS.Sw (s : MS) (l : Nat) (C : List Int) : Prop where
  ok : s.Ok
  l6 : l ≤ 6
  mem : ∀ n, n ∈ C ↔ s.has n = true ∧ (s.nd n).var = s.o l ∧ (s.isOf (s.nd n).lo (s.o (l + 1)) = true ∨ s.isOf (s.nd n).hi (s.o (l + 1)) = true)

theorem MS.Sw.not_deep (w : s.Sw l C) {p : Int} (hp : s.deep l p) : p ∉ C := fun hc => by
  obtain ⟨h1, h2, _⟩ := (w.mem p).1 hc
  exact w.ok.deep_not w.l6 hp h1 (.inl rfl) h2
theorem MS.Sw.not_y (w : s.Sw l C) {p : Int} (hp : s.isOf p (s.o (l + 1)) = true) : p ∉ C := fun hc => by
  obtain ⟨h1, h2, _⟩ := (w.mem p).1 hc
  have h3 := (MS.isOf_iff.1 hp).2
  have h4 := w.ok.lev_l (l := l) (by have := w.l6; omega)
  have h5 := w.ok.lev_l (l := l + 1) (by have := w.l6; omega)
  rw [← h2, h3] at h4
  omega
theorem MS.Sw.xy (w : s.Sw l C) : s.o l ≠ s.o (l + 1) := fun e => by
  have h4 := w.ok.lev_l (l := l) (by have := w.l6; omega)
  have h5 := w.ok.lev_l (l := l + 1) (by have := w.l6; omega)
  rw [e] at h4
  omega

/-- In what came of it a deep one is behind the first variable. -/
theorem MS.J.deep_lev (w : s.Sw l C) (j : MS.J s l C R t) {p : Int} (hp : s.deep l p) (hh : s.has p = true) : t.has p = true ∧ t.nd p = s.nd p ∧ (l : Int) + 1 < levO t.o (t.nd p).var := by
  have h1 := j.has p hh
  have h2 := j.old p hh (.inl (w.not_deep hp))
  refine ⟨h1, h2, ?_⟩
  have hv := w.ok.var p hh
  rcases hp with (rfl | rfl) | ⟨_, hp⟩
  · cases hh
  · cases hh
  · rw [h2, j.o, lev_swap w.ok.order w.l6 hv.1 hv.2, if_neg (by omega), if_neg (by omega)]
    exact hp
theorem MS.J.lev_x (w : s.Sw l C) (j : MS.J s l C R t) : levO t.o (s.o l) = (l : Int) + 1 := by
  have := mayO_range w.ok.order (i := l) (by have := w.l6; omega)
  rw [j.o, lev_swap w.ok.order w.l6 this.1 this.2, if_pos (w.ok.lev_l (by have := w.l6; omega))]
theorem MS.J.lev_y (w : s.Sw l C) (j : MS.J s l C R t) : levO t.o (s.o (l + 1)) = (l : Int) := by
  have := mayO_range w.ok.order (i := l + 1) (by have := w.l6; omega)
  have e := w.ok.lev_l (l := l + 1) (by have := w.l6; omega)
  rw [j.o, lev_swap w.ok.order w.l6 this.1 this.2, if_neg (by rw [e]; omega), if_pos (by rw [e]; rfl)]
theorem MS.J.deep_behind (w : s.Sw l C) (j : MS.J s l C R t) {p : Int} (hp : s.deep l p) : t.behind p (s.o l) = true := by
  rcases hp with hc | ⟨hh, hp⟩
  · exact MS.behind_const hc
  · obtain ⟨h1, h2, h3⟩ := j.deep_lev w (.inr ⟨hh, hp⟩) hh
    rw [MS.behind_node h1, j.lev_x w]
    exact decide_eq_true h3

/-- A node of the first variable made, or met. -/
theorem MS.J.mkd (w : s.Sw l C) (j : MS.J s l C R t) {p q : Int} (hp : s.deep l p) (hq : s.deep l q) (hroom : 0 < t.room) :
    ∃ a t', t.mk (s.o l) p q R = (a, 0, t') ∧ MS.J s l C R t' ∧ MS.Made s l C t' a p q ∧ t.room ≤ t'.room + 1 ∧ (∀ n, t.has n = true → t'.has n = true ∧ t'.nd n = t.nd n) := by
  have hx := mayO_range w.ok.order (i := l) (by have := w.l6; omega)
  have b1 := j.deep_behind w hp
  have b2 := j.deep_behind w hq
  have h1 : ¬ (s.o l < 0 ∨ 7 < s.o l ∨ t.behind p (s.o l) = false ∨ t.behind q (s.o l) = false) := by rw [b1, b2]; simp; omega
  unfold MS.mk
  rw [if_neg h1]
  by_cases h2 : p = q
  · rw [if_pos h2]
    exact ⟨_, _, rfl, j, .inl ⟨h2, rfl⟩, by omega, fun n hn => ⟨hn, rfl⟩⟩
  · rw [if_neg h2]
    cases h3 : t.find ⟨s.o l, p, q⟩ R with
    | some n =>
      obtain ⟨f1, f2, f3⟩ := MS.find_some h3
      refine ⟨_, _, rfl, j, .inr ⟨h2, f1, fun hc => ?_, f2⟩, by omega, fun n hn => ⟨hn, rfl⟩⟩
      obtain ⟨a, b, e, _⟩ := j.made n hc f3
      rw [f2] at e
      exact w.xy (by injection e)
    | none =>
      have hf : t.ar.T.length ≠ t.ar.most := fun e => by simp only [MS.room] at hroom; omega
      have h5 : t.ar.takeE = 0 := by simp [AS.takeE, hf]
      simp only [h5, ne_eq, not_true_eq_false, if_false]
      have hB := j.okb.toBase
      have hnew : t.has (t.ar.takeN + 2) = false := Bool.eq_false_iff.2 fun e => by
        obtain ⟨_, h1, _, _⟩ := hB.took hf
        have := (hB.range e).2.2
        rw [show t.ar.takeN + 2 - 2 = t.ar.takeN by omega] at this
        exact h1 this
      have hs0 : s.has (t.ar.takeN + 2) = false := Bool.eq_false_iff.2 fun e => by rw [j.has _ e] at hnew; cases hnew
      have hold : ∀ n, t.has n = true → (t.takeS ⟨s.o l, p, q⟩).has n = true ∧ (t.takeS ⟨s.o l, p, q⟩).nd n = t.nd n := fun n hn => ⟨(hB.takeS_has hf _ n).2 (.inl hn), hB.takeS_old hf _ hn⟩
      have hn1 := hB.takeS_new hf ⟨s.o l, p, q⟩
      have hn2 := (hB.takeS_has hf ⟨s.o l, p, q⟩ (t.ar.takeN + 2)).2 (.inr rfl)
      have hmk : ∀ a p' q', MS.Made s l C t a p' q' → MS.Made s l C (t.takeS ⟨s.o l, p, q⟩) a p' q' := fun a p' q' h => by
        rcases h with h | ⟨a1, a2, a3, a4⟩
        · exact .inl h
        · exact .inr ⟨a1, (hold a a2).1, a3, by rw [(hold a a2).2]; exact a4⟩
      refine ⟨_, _, rfl, ⟨j.okb.takeS hf hx h2 b1 b2 fun n hn hnR => MS.find_none hB h3 hn hnR, j.o, fun n hn => (hold n (j.has n hn)).1, fun n hn hc => by rw [(hold n (j.has n hn)).2]; exact j.old n hn hc, fun n hn hnR => ?_, fun n hn hsn => ?_⟩, .inr ⟨h2, hn2, fun hc => ?_, hn1⟩, ?_, hold⟩
      · obtain ⟨a, b, e, m1, m2⟩ := j.made n hn hnR
        have := hold n (j.has n ((w.mem n).1 hn).1)
        exact ⟨a, b, by rw [this.2]; exact e, hmk _ _ _ m1, hmk _ _ _ m2⟩
      · rcases (hB.takeS_has hf _ n).1 hn with hc | rfl
        · rw [(hold n hc).2]; exact j.new n hc hsn
        · rw [hn1]; exact ⟨rfl, hp, hq⟩
      · rw [((w.mem _).1 hc).1] at hs0; cases hs0
      · have : (t.takeS ⟨s.o l, p, q⟩).ar.T.length = t.ar.T.length + 1 ∧ (t.takeS ⟨s.o l, p, q⟩).ar.most = t.ar.most := by
          show t.ar.take.T.length = _ ∧ t.ar.take.most = _
          rcases last_or_nil t.ar.B with hb | ⟨k, n, hb⟩
          · rw [(AS.Ok.take_new hf hb).2.2]; simp
          · rw [(AS.Ok.take_again hf hb).2.2]; simp
        simp only [MS.room]
        rw [this.1, this.2]
        omega

/-- What is behind both levels has the sides that it had. -/
theorem MS.J.side_as (w : s.Sw l C) (j : MS.J s l C R t) {p : Int} (hp : s.deep1 l p) (b : Bool) : t.side p (s.o (l + 1)) b = s.side p (s.o (l + 1)) b := by
  cases hh : s.has p
  · have hc : p = 0 ∨ p = 1 := by
      rcases hp with (hc | ⟨h1, _⟩) | h1
      · exact hc
      · rw [hh] at h1; cases h1
      · rw [(MS.isOf_iff.1 h1).1] at hh; cases hh
    have h1 : t.has p = false := by rcases hc with rfl | rfl <;> rfl
    simp [MS.side, MS.isOf, MS.node, hh, h1]
  · have h1 := j.has p hh
    have h2 := j.old p hh (.inl (hp.elim w.not_deep w.not_y))
    simp [MS.side, MS.isOf, MS.node, hh, h1, h2]
theorem MS.J.made_deep (w : s.Sw l C) (j : MS.J s l C R t) {a p q : Int} (ha : s.deep l a) (h : MS.Made s l C t a p q) : p = q ∧ a = p := by
  rcases h with h | ⟨_, h1, _, h2⟩
  · exact h
  · exfalso
    cases hh : s.has a
    · rcases ha with hc | ⟨h3, _⟩
      · have : t.has a = false := by rcases hc with rfl | rfl <;> rfl
        rw [this] at h1; cases h1
      · rw [hh] at h3; cases h3
    · have h3 := (j.deep_lev w ha hh).2.1
      rw [h3] at h2
      exact w.ok.deep_not w.l6 ha hh (.inl rfl) (by rw [h2])
theorem MS.J.made_inj (w : s.Sw l C) (j : MS.J s l C R t) {a p q p' q' : Int} (hp : s.deep l p) (hp' : s.deep l p') (h : MS.Made s l C t a p q) (h' : MS.Made s l C t a p' q') : p = p' ∧ q = q' := by
  rcases h with ⟨h1, rfl⟩ | ⟨h1, h2, h3, h4⟩
  · obtain ⟨e1, e2⟩ := j.made_deep w hp h'
    exact ⟨e2, by omega⟩
  · rcases h' with ⟨k1, rfl⟩ | ⟨k1, k2, k3, k4⟩
    · obtain ⟨e1, e2⟩ := j.made_deep w hp' (.inr ⟨h1, h2, h3, h4⟩)
      exact ⟨e2.symm, by omega⟩
    · rw [h4] at k4
      simpa using k4
theorem MS.Made.not_in (w : s.Sw l C) {a p q : Int} (hp : s.deep l p) (h : MS.Made s l C t a p q) : a ∉ C := by
  rcases h with ⟨_, rfl⟩ | ⟨_, _, h, _⟩
  · exact w.not_deep hp
  · exact h
theorem MS.Made.behind (w : s.Sw l C) (j : MS.J s l C R t) {a p q : Int} (hp : s.deep l p) (h : MS.Made s l C t a p q) : t.behind a (s.o (l + 1)) = true := by
  rcases h with ⟨_, rfl⟩ | ⟨_, h1, _, h2⟩
  · rcases hp with hc | hp
    · exact MS.behind_const hc
    · obtain ⟨e1, _, e3⟩ := j.deep_lev w (.inr hp) hp.1
      rw [MS.behind_node e1, j.lev_y w]
      exact decide_eq_true (by omega)
  · rw [MS.behind_node h1, j.lev_y w, h2, j.lev_x w]
    exact decide_eq_true (by omega)
/-- The four sides of what changes. -/
theorem MS.Sw.sides (w : s.Sw l C) {n : Int} (hn : n ∈ C) : s.deep1 l (s.nd n).lo ∧ s.deep1 l (s.nd n).hi := by
  obtain ⟨h1, h2, _⟩ := (w.mem n).1 hn
  exact ⟨w.ok.deep1_x w.l6 (h2 ▸ w.ok.lo n h1), w.ok.deep1_x w.l6 (h2 ▸ w.ok.hi n h1)⟩
/-- What isn't still to come, and is of the second variable, has no sides that change. -/
theorem MS.J.side_y (w : s.Sw l C) (j : MS.J s l C R t) {m : Int} (hm : t.has m = true) (hR : m ∉ R) (hv : (t.nd m).var = s.o (l + 1)) : (t.nd m).lo ∉ C ∧ (t.nd m).hi ∉ C := by
  cases hh : s.has m
  · exact absurd ((j.new m hm hh).1.symm.trans hv) w.xy
  · by_cases hc : m ∈ C
    · obtain ⟨a, b, e, m1, m2⟩ := j.made m hc hR
      obtain ⟨d1, d2⟩ := w.sides hc
      rw [e]
      exact ⟨MS.Made.not_in w (w.ok.deep_side w.l6 d1 _) m1, MS.Made.not_in w (w.ok.deep_side w.l6 d1 _) m2⟩
    · have e := j.old m hh (.inl hc)
      rw [e] at hv ⊢
      exact ⟨w.not_deep (w.ok.deep_y w.l6 (hv ▸ w.ok.lo m hh)), w.not_deep (w.ok.deep_y w.l6 (hv ▸ w.ok.hi m hh))⟩

theorem MS.setNd_has {n m : Int} {x : Nd} : (t.setNd n x).has m = t.has m := rfl
theorem MS.Base.setNd_at (h : t.Base) {n : Int} (hn : t.has n = true) (x : Nd) : (t.setNd n x).nd n = x := by
  have := (h.range hn).2.1
  simp [MS.nd, MS.setNd, List.getD, this]
theorem MS.Base.setNd_ne (h : t.Base) {n m : Int} (hn : t.has n = true) (hm : t.has m = true) (hne : m ≠ n) (x : Nd) : (t.setNd n x).nd m = t.nd m := by
  have h1 := (h.range hn).1
  have h2 := (h.range hm).1
  have : (n - 2).toNat ≠ (m - 2).toNat := by omega
  simp [MS.nd, MS.setNd, List.getD, List.getElem?_set_ne this]

/-- One of them becomes one of the second variable. -/
theorem MS.J.put (w : s.Sw l C) {n : Int} (hn : n ∈ C) (hnR : n ∉ R) (j : MS.J s l C (n :: R) t) {a b : Int}
    (ma : MS.Made s l C t a (s.side (s.nd n).lo (s.o (l + 1)) false) (s.side (s.nd n).hi (s.o (l + 1)) false))
    (mb : MS.Made s l C t b (s.side (s.nd n).lo (s.o (l + 1)) true) (s.side (s.nd n).hi (s.o (l + 1)) true)) : MS.J s l C R (t.setNd n ⟨s.o (l + 1), a, b⟩) := by
  have hB := j.okb.toBase
  obtain ⟨n1, n2, n3⟩ := (w.mem n).1 hn
  have t1 := j.has n n1
  obtain ⟨d1, d2⟩ := w.sides hn
  have p00 := w.ok.deep_side w.l6 d1 false
  have p10 := w.ok.deep_side w.l6 d2 false
  have p01 := w.ok.deep_side w.l6 d1 true
  have p11 := w.ok.deep_side w.l6 d2 true
  have e1 := hB.setNd_at t1 ⟨s.o (l + 1), a, b⟩
  have e2 : ∀ m, t.has m = true → m ≠ n → (t.setNd n ⟨s.o (l + 1), a, b⟩).nd m = t.nd m := fun m hm hne => hB.setNd_ne t1 hm hne _
  have aC := MS.Made.not_in w p00 ma
  have bC := MS.Made.not_in w p01 mb
  have hbeh : ∀ p v, t.behind p v = true → (p = n → levO t.o v < (l : Int)) → (t.setNd n ⟨s.o (l + 1), a, b⟩).behind p v = true := fun p v hb hne => by
    rcases MS.behind_cases hb with hc | ⟨hp, hl⟩
    · exact MS.behind_const hc
    · rw [MS.behind_node (by rw [MS.setNd_has]; exact hp)]
      by_cases e : p = n
      · subst e
        rw [e1]
        show decide (levO t.o v < levO t.o (s.o (l + 1))) = true
        rw [j.lev_y w]
        exact decide_eq_true (hne rfl)
      · rw [e2 p hp e]; exact decide_eq_true hl
  have hab : a ≠ b := fun e => by
    subst e
    obtain ⟨f1, f2⟩ := j.made_inj w p00 p01 ma mb
    rw [w.ok.side_same f1, w.ok.side_same f2] at n3
    simp at n3
  -- a side of what stays isn't what changes, if it is of the second variable
  have hstay : ∀ m p, t.has m = true → m ∉ R → m ≠ n → (p = (t.nd m).lo ∨ p = (t.nd m).hi) → t.behind p (t.nd m).var = true → (p = n → levO t.o (t.nd m).var < (l : Int)) := fun m p hm hmR hne hp hb e => by
    subst e
    rw [MS.behind_node t1, j.old p n1 (.inr (List.mem_cons_self)), n2, j.lev_x w] at hb
    have hb' := of_decide_eq_true hb
    refine Classical.byContradiction fun hno => ?_
    have h1 : levO t.o (t.nd m).var = (l : Int) := by omega
    have h2 := lev_place h1
    have h3 := lev_place (j.lev_y w)
    have h4 := j.side_y w hm (by simp [hne, hmR]) (h2.symm.trans h3)
    rcases hp with e | e
    · exact h4.1 (e ▸ hn)
    · exact h4.2 (e ▸ hn)
  -- what is made is unlike what there is
  have hnew : ∀ m, t.has m = true → m ∉ R → m ≠ n → t.nd m ≠ ⟨s.o (l + 1), a, b⟩ := fun m hm hmR hne e => by
    cases hh : s.has m
    · have := (j.new m hm hh).1
      rw [e] at this
      exact w.xy this.symm
    · by_cases hc : m ∈ C
      · obtain ⟨a', b', e', m1, m2⟩ := j.made m hc (by simp [hne, hmR])
        rw [e] at e'
        have ea : a = a' := by injection e'
        have eb : b = b' := by injection e'
        subst ea; subst eb
        obtain ⟨c1, c2⟩ := w.sides hc
        obtain ⟨f1, f2⟩ := j.made_inj w p00 (w.ok.deep_side w.l6 c1 false) ma m1
        obtain ⟨g1, g2⟩ := j.made_inj w p01 (w.ok.deep_side w.l6 c1 true) mb m2
        have q1 := w.ok.side_inj f1 g1
        have q2 := w.ok.side_inj f2 g2
        have q3 := ((w.mem m).1 hc).2.1
        refine hne (w.ok.one m n hh n1 ?_)
        revert q1 q2 q3 n2
        generalize s.nd m = u
        generalize s.nd n = v
        cases u; cases v
        intro r1 r2 r3 r4
        simp_all
      · have h1 := j.old m hh (.inl hc)
        rw [e] at h1
        have hv : (s.nd m).var = s.o (l + 1) := by rw [← h1]
        have da : s.deep l a := by have := w.ok.deep_y w.l6 (hv ▸ w.ok.lo m hh); rw [← h1] at this; exact this
        have db : s.deep l b := by have := w.ok.deep_y w.l6 (hv ▸ w.ok.hi m hh); rw [← h1] at this; exact this
        exact w.ok.unlike n n1 (w.ok.side_inj (j.made_deep w da ma).1 (j.made_deep w db mb).1)
  refine ⟨⟨⟨hB.ar, ?_⟩, j.okb.order, fun m hm hR => ?_, fun m hm hR => ?_, fun m hm hR => ?_, fun m hm hR => ?_, fun m k hm hk hmR hkR he => ?_⟩, j.o, j.has, fun m hm hc => ?_, fun m hm hR => ?_, fun m hm hsm => ?_⟩
  · show (t.N.set _ _).length = _
    rw [List.length_set]; exact hB.len
  · by_cases e : m = n
    · subst e; rw [e1]; exact mayO_range w.ok.order (i := l + 1) (by have := w.l6; omega)
    · rw [e2 m hm e]; exact j.okb.var m hm (by simp [e, hR])
  · by_cases e : m = n
    · subst e; rw [e1]; exact hab
    · rw [e2 m hm e]; exact j.okb.unlike m hm (by simp [e, hR])
  · by_cases e : m = n
    · subst e; rw [e1]; exact hbeh _ _ (MS.Made.behind w j p00 ma) (fun e => by have e' : a = m := e; rw [← e'] at hn; exact absurd hn aC)
    · rw [e2 m hm e]
      have hb := j.okb.lo m hm (by simp [e, hR])
      exact hbeh _ _ hb (hstay m _ hm hR e (.inl rfl) hb)
  · by_cases e : m = n
    · subst e; rw [e1]; exact hbeh _ _ (MS.Made.behind w j p01 mb) (fun e => by have e' : b = m := e; rw [← e'] at hn; exact absurd hn bC)
    · rw [e2 m hm e]
      have hb := j.okb.hi m hm (by simp [e, hR])
      exact hbeh _ _ hb (hstay m _ hm hR e (.inr rfl) hb)
  · by_cases e : m = n
    · by_cases f : k = n
      · rw [e, f]
      · rw [e, e1, e2 k hk f] at he
        exact absurd he.symm (hnew k hk hkR f)
    · by_cases f : k = n
      · rw [f, e1, e2 m hm e] at he
        exact absurd he (hnew m hm hmR e)
      · rw [e2 m hm e, e2 k hk f] at he
        exact j.okb.one m k hm hk (by simp [e, hmR]) (by simp [f, hkR]) he
  · have hne : m ≠ n := fun e => by
      subst e
      rcases hc with hc | hc
      · exact hc hn
      · exact hnR hc
    rw [e2 m (j.has m hm) hne]
    exact j.old m hm (hc.imp id (List.mem_cons_of_mem _))
  · have hmk : ∀ c p q, MS.Made s l C t c p q → MS.Made s l C (t.setNd n ⟨s.o (l + 1), a, b⟩) c p q := fun c p q h => by
      rcases h with h | ⟨h1, h2, h3, h4⟩
      · exact .inl h
      · exact .inr ⟨h1, h2, h3, by rw [e2 c h2 (fun e => h3 (e ▸ hn))]; exact h4⟩
    by_cases e : m = n
    · subst e; rw [e1]; exact ⟨a, b, rfl, hmk _ _ _ ma, hmk _ _ _ mb⟩
    · obtain ⟨a', b', e', m1, m2⟩ := j.made m hm (by simp [e, hR])
      rw [e2 m (j.has m ((w.mem m).1 hm).1) e]
      exact ⟨a', b', e', hmk _ _ _ m1, hmk _ _ _ m2⟩
  · have hne : m ≠ n := fun e => by subst e; rw [n1] at hsm; cases hsm
    rw [e2 m hm hne]
    exact j.new m hm hsm

/-- One round of an exchange: both nodes are made, or met; then it is one of the second variable. -/
theorem MS.J.round (w : s.Sw l C) {n : Int} (hn : n ∈ C) (hnR : n ∉ R) (j : MS.J s l C (n :: R) t) (hroom : 2 * ((n :: R).length : Int) ≤ t.room) :
    ∃ a b t1 t2, t.nd n = s.nd n ∧ t.mk (s.o l) (t.side (t.nd n).lo (s.o (l + 1)) false) (t.side (t.nd n).hi (s.o (l + 1)) false) (n :: R) = (a, 0, t1) ∧
      t1.mk (s.o l) (t1.side (t.nd n).lo (s.o (l + 1)) true) (t1.side (t.nd n).hi (s.o (l + 1)) true) (n :: R) = (b, 0, t2) ∧
      MS.J s l C (n :: R) t1 ∧ MS.J s l C (n :: R) t2 ∧ t2.has n = true ∧ MS.J s l C R (t2.setNd n ⟨s.o (l + 1), a, b⟩) ∧ 2 * (R.length : Int) ≤ (t2.setNd n ⟨s.o (l + 1), a, b⟩).room := by
  obtain ⟨n1, n2, n3⟩ := (w.mem n).1 hn
  obtain ⟨d1, d2⟩ := w.sides hn
  have e0 := j.old n n1 (.inr (List.mem_cons_self))
  simp only [List.length_cons, Int.natCast_add, Int.natCast_one] at hroom
  obtain ⟨a, t1, h1, j1, m1, r1, k1⟩ := j.mkd w (w.ok.deep_side w.l6 d1 false) (w.ok.deep_side w.l6 d2 false) (by omega)
  obtain ⟨b, t2, h2, j2, m2, r2, k2⟩ := j1.mkd w (w.ok.deep_side w.l6 d1 true) (w.ok.deep_side w.l6 d2 true) (by omega)
  have m1' : MS.Made s l C t2 a (s.side (s.nd n).lo (s.o (l + 1)) false) (s.side (s.nd n).hi (s.o (l + 1)) false) := by
    rcases m1 with h | ⟨g1, g2, g3, g4⟩
    · exact .inl h
    · exact .inr ⟨g1, (k2 a g2).1, g3, by rw [(k2 a g2).2]; exact g4⟩
  refine ⟨a, b, t1, t2, e0, ?_, ?_, j1, j2, j2.has n n1, j2.put w hn hnR m1' m2, ?_⟩
  · rw [e0, j.side_as w d1, j.side_as w d2]; exact h1
  · rw [e0, j1.side_as w d1, j1.side_as w d2]; exact h2
  · show 2 * (R.length : Int) ≤ t2.room
    omega

theorem MS.swap1_J (w : s.Sw l C) : ∀ (R : List Int) (t : MS), (∀ n ∈ R, n ∈ C) → R.Nodup → MS.J s l C R t → 2 * (R.length : Int) ≤ t.room → MS.J s l C [] (MS.swap1 t (s.o l) (s.o (l + 1)) R) := by
  intro R
  induction R with
  | nil => intro t _ _ j _; exact j
  | cons n R ih =>
    intro t hR hnd j hroom
    obtain ⟨a, b, t1, t2, e0, h1, h2, _, _, _, j3, r3⟩ := j.round w (hR n List.mem_cons_self) (List.nodup_cons.1 hnd).1 hroom
    unfold MS.swap1
    simp only [h1, h2]
    exact ih _ (fun m hm => hR m (List.mem_cons_of_mem _ hm)) (List.nodup_cons.1 hnd).2 j3 r3

/-- Ahead of the first one. -/
theorem MS.J.start (w : s.Sw l C) : MS.J s l C C { s with o := swapO s.o l } := by
  have h := w.ok
  have hb : ∀ n p, s.has n = true → n ∉ C → (p = (s.nd n).lo ∨ p = (s.nd n).hi) → s.behind p (s.nd n).var = true → MS.behind { s with o := swapO s.o l } p (s.nd n).var = true := fun n p hn hc hp hb => by
    rcases MS.behind_cases hb with hc | ⟨hh, hl⟩
    · exact MS.behind_const hc
    · rw [MS.behind_node (s := { s with o := swapO s.o l }) hh]
      have v1 := h.var n hn
      have v2 := h.var p hh
      refine decide_eq_true ?_
      show levO (swapO s.o l) (s.nd n).var < levO (swapO s.o l) (s.nd p).var
      rw [lev_swap h.order w.l6 v1.1 v1.2, lev_swap h.order w.l6 v2.1 v2.2]
      have hno : ¬ (levO s.o (s.nd n).var = (l : Int) ∧ levO s.o (s.nd p).var = (l : Int) + 1) := fun ⟨q1, q2⟩ => by
        refine hc ((w.mem n).2 ⟨hn, (lev_place q1).symm, ?_⟩)
        have hy : s.isOf p (s.o (l + 1)) = true := MS.isOf_iff.2 ⟨hh, (lev_place (l := l + 1) (by rw [q2]; rfl)).symm⟩
        rcases hp with rfl | rfl
        · exact .inl hy
        · exact .inr hy
      repeat' split
      all_goals omega
  exact ⟨⟨⟨h.ar, h.len⟩, by show mayO (swapO s.o l) = true; rw [swapO_may]; exact h.order, fun n hn _ => h.var n hn, fun n hn _ => h.unlike n hn, fun n hn hc => hb n _ hn hc (.inl rfl) (h.lo n hn), fun n hn hc => hb n _ hn hc (.inr rfl) (h.hi n hn), fun n m hn hm _ _ => h.one n m hn hm⟩, rfl, fun n hn => hn, fun n _ _ => rfl, fun n hn hnot => absurd hn hnot, fun n hn hs => by
    have : s.has n = true := hn
    rw [hs] at this; cases this⟩

theorem MS.all_nodup (s : MS) : s.all.Nodup := by
  unfold MS.all
  refine List.Pairwise.filter _ ?_
  rw [List.pairwise_map]
  exact List.Pairwise.imp (fun h e => h (by omega)) List.nodup_range
theorem MS.Ok.sw (h : s.Ok) (hl : l ≤ 6) : s.Sw l (s.changes (s.o l) (s.o (l + 1))) := ⟨h, hl, fun _ => h.toBase.mem_changes⟩
/-- What an exchange comes to. -/
theorem MS.Ok.swap_J (h : s.Ok) (hl : l ≤ 6) (hroom : 2 * ((s.changes (s.o l) (s.o (l + 1))).length : Int) ≤ s.room) :
    MS.J s l (s.changes (s.o l) (s.o (l + 1))) [] (MS.swap1 { s with o := swapO s.o l } (s.o l) (s.o (l + 1)) (s.changes (s.o l) (s.o (l + 1)))) :=
  MS.swap1_J (h.sw hl) _ _ (fun _ h => h) (List.Pairwise.filter _ s.all_nodup) (MS.J.start (h.sw hl)) hroom

/-- All that holds, holds. -/
theorem MS.Ok.swapped (h : s.Ok) (l : Int) : (s.swap l).2.Ok := by
  unfold MS.swap
  split
  · exact h
  · rename_i hl
    obtain ⟨k, rfl⟩ := Int.eq_ofNat_of_zero_le (by omega : 0 ≤ l)
    dsimp only
    split
    · exact h
    · rename_i hr
      exact (h.swap_J (l := k) (by omega) (by simpa using hr)).okb.ok

end

theorem MS.Base.few {s : MS} (ok : s.Base) : s.N.length ≤ 20000 := by
  have := ok.len; have := ok.ar.nextLe; have := ok.ar.mostLe; omega
theorem MS.Base.has_le {s : MS} (ok : s.Base) {n : Int} (h : s.has n = true) : 2 ≤ n ∧ n ≤ 20001 := by
  have := ok.few
  obtain ⟨r1, r2, _⟩ := ok.range h
  omega
theorem MS.Base.behind_le {s : MS} (ok : s.Base) {n v : Int} (h : s.behind n v = true) : 0 ≤ n ∧ n ≤ 20001 := by
  rcases MS.behind_cases h with h | ⟨h, _⟩
  · omega
  · have := ok.has_le h; omega

/-- The first numbers. -/
def numsTo (k : Nat) : List Int := (List.range k).map fun i : Nat => (i : Int) + 2
theorem numsTo_filter_length (p : Int → Bool) (k : Nat) : ((numsTo k).filter p).length ≤ k := Nat.le_trans (List.length_filter_le _ _) (by simp [numsTo])

/-- The plain order. -/
def plainO : Nat → Int := fun i => (i : Int)
theorem plainO_may : mayO plainO = true := by decide +kernel

/-- A store of none. -/
def MS.none (most : Nat) : MS := ⟨⟨most, 0, [], []⟩, [], plainO⟩
theorem MS.none_ok (most : Nat) (h : most ≤ 20000) : (MS.none most).Ok := MS.Ok.new most h plainO plainO_may
theorem numsTo_succ (k : Nat) : numsTo (k + 1) = numsTo k ++ [(k : Int) + 2] := by simp [numsTo, List.range_succ]
theorem numsTo_split {k n : Nat} (h : k < n) : ∃ r, numsTo n = numsTo k ++ ((k : Int) + 2) :: r := by
  obtain ⟨d, rfl⟩ := Nat.exists_eq_add_of_lt h
  clear h
  induction d with
  | zero => exact ⟨[], numsTo_succ k⟩
  | succ d ih =>
    obtain ⟨r, e⟩ := ih
    exact ⟨r ++ [((k + d + 1 : Nat) : Int) + 2], by rw [show k + (d + 1) + 1 = (k + d + 1) + 1 by omega, numsTo_succ, e]; simp⟩
theorem numsTo_filter (p : Int → Bool) (k : Nat) : (numsTo (k + 1)).filter p = (numsTo k).filter p ++ if p ((k : Int) + 2) then [(k : Int) + 2] else [] := by
  rw [numsTo_succ, List.filter_append]
  congr 1
  cases h : p ((k : Int) + 2) <;> simp [h]
theorem numsTo_find {p : Int → Bool} {k n : Nat} (h : k < n) (h0 : (numsTo k).find? p = none) : (p ((k : Int) + 2) = true → (numsTo n).find? p = some ((k : Int) + 2)) ∧ (p ((k : Int) + 2) = false → (numsTo (k + 1)).find? p = none) := by
  constructor
  · intro hp
    obtain ⟨r, e⟩ := numsTo_split h
    rw [e, List.find?_append, h0]
    simp [hp]
  · intro hp
    rw [numsTo_succ, List.find?_append, h0]
    simp [hp]

end Go.Proofs.YtipocmbplcdmjaaGreatDoor
