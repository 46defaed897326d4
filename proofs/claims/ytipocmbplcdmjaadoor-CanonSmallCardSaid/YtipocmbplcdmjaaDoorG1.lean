/-
  Texts of this proof, one behind the other: ArenaM, PermM, StoreM.
-/
/-
  Numbers that are taken and given back, as lists; nothing of the program is read here.
-/
namespace Go.Proofs.YtipocmbplcdmjaaDoor

/-- How many there are, how many were ever taken, what is taken, what was given back. -/
structure AS where
  most : Nat
  next : Nat
  T : List Int
  B : List Int

/-- What always holds. -/
structure AS.Ok (s : AS) : Prop where
  nodT : s.T.Nodup
  nodB : s.B.Nodup
  apart : ∀ n ∈ s.T, n ∉ s.B
  all : ∀ n : Int, (n ∈ s.T ∨ n ∈ s.B) ↔ 0 ≤ n ∧ n < s.next
  nextLe : s.next ≤ s.most
  mostLe : s.most ≤ 20000

theorem nodup_range_length (n : Nat) : ∀ l : List Int, l.Nodup → (∀ x : Int, x ∈ l ↔ 0 ≤ x ∧ x < n) → l.length = n := by
  induction n with
  | zero =>
    intro l _ h
    cases l with
    | nil => rfl
    | cons a l => have := (h a).1 (List.mem_cons_self); omega
  | succ n ih =>
    intro l hl h
    have hn : (n : Int) ∈ l := (h n).2 ⟨by omega, by omega⟩
    have h1 := ih (l.erase (n : Int)) (hl.erase _) (fun x => by
      rw [hl.mem_erase_iff, h x]
      constructor
      · rintro ⟨h1, h2, h3⟩; omega
      · rintro ⟨h1, h2⟩; exact ⟨by omega, by omega, by omega⟩)
    have h2 := List.length_erase_of_mem hn
    have h3 : 0 < l.length := List.length_pos_of_mem hn
    omega

theorem AS.Ok.len {s : AS} (h : s.Ok) : s.T.length + s.B.length = s.next := by
  have := nodup_range_length s.next (s.T ++ s.B) (List.nodup_append.2 ⟨h.nodT, h.nodB, fun a ha b hb e => h.apart a ha (e ▸ hb)⟩) (fun x => by rw [List.mem_append]; exact h.all x)
  rwa [List.length_append] at this

/-- What the code keeps: a flag for each number that was ever taken. -/
def AS.flags (s : AS) : List Bool := (List.range s.next).map fun (i : Nat) => decide (((i : Nat) : Int) ∈ s.T)

theorem AS.flags_length (s : AS) : s.flags.length = s.next := by simp [AS.flags]

/-- What Take tells: the number. -/
def AS.takeN (s : AS) : Int := if s.T.length = s.most then 0 else match s.B.getLast? with | some n => n | none => s.next
/-- The error's number. -/
def AS.takeE (s : AS) : Int := if s.T.length = s.most then 2 else 0
/-- What is left. -/
def AS.take (s : AS) : AS := if s.T.length = s.most then s else match s.B.getLast? with
  | some n => { s with T := s.T ++ [n], B := s.B.dropLast }
  | none => { s with T := s.T ++ [(s.next : Int)], next := s.next + 1 }

theorem AS.new_ok (most : Nat) (h : most ≤ 20000) : (AS.mk most 0 [] []).Ok :=
  ⟨List.nodup_nil, List.nodup_nil, (fun _ h => by cases h), (fun n => by simp), Nat.zero_le _, h⟩

theorem AS.Ok.take_full {s : AS} (hf : s.T.length = s.most) : s.takeN = 0 ∧ s.takeE = 2 ∧ s.take = s := by simp [AS.takeN, AS.takeE, AS.take, hf]
theorem AS.Ok.take_new {s : AS} (hf : s.T.length ≠ s.most) (hb : s.B = []) : s.takeN = s.next ∧ s.takeE = 0 ∧ s.take = { s with T := s.T ++ [(s.next : Int)], next := s.next + 1 } := by simp [AS.takeN, AS.takeE, AS.take, hf, hb]
theorem AS.Ok.take_again {s : AS} (hf : s.T.length ≠ s.most) {l : List Int} {n : Int} (hb : s.B = l ++ [n]) : s.takeN = n ∧ s.takeE = 0 ∧ s.take = { s with T := s.T ++ [n], B := l } := by simp [AS.takeN, AS.takeE, AS.take, hf, hb]

theorem last_or_nil (l : List Int) : l = [] ∨ ∃ k n, l = k ++ [n] := by
  cases h : l.getLast? with
  | none => exact .inl (by simpa using h)
  | some n => exact .inr ⟨l.dropLast, n, by rw [List.getLast?_eq_some_iff] at h; obtain ⟨k, rfl⟩ := h; simp⟩

theorem AS.Ok.take {s : AS} (h : s.Ok) : s.take.Ok := by
  by_cases hf : s.T.length = s.most
  · rw [(AS.Ok.take_full hf).2.2]; exact h
  · have hl := h.len
    rcases last_or_nil s.B with hb | ⟨l, n, hb⟩
    · rw [(AS.Ok.take_new hf hb).2.2]
      have hnx : (s.next : Int) ∉ s.T := fun e => by have := (h.all s.next).1 (.inl e); omega
      refine ⟨?_, h.nodB, fun n hn => ?_, fun n => ?_, ?_, h.mostLe⟩
      · rw [List.nodup_append]; exact ⟨h.nodT, by simp, fun a ha b hb e => hnx (by rw [List.mem_singleton] at hb; rw [← hb, ← e]; exact ha)⟩
      · simp [hb]
      · have := h.all n
        rw [hb] at this
        simp only [List.mem_append, List.mem_singleton, List.not_mem_nil, or_false, hb] at this ⊢
        rw [this]
        omega
      · rw [hb] at hl; have := h.nextLe; simp at hl ⊢; omega
    · rw [(AS.Ok.take_again hf hb).2.2]
      have hn : n ∉ s.T := fun e => h.apart n e (by rw [hb]; simp)
      have hnd := h.nodB
      rw [hb, List.nodup_append] at hnd
      refine ⟨?_, hnd.1, fun m hm => ?_, fun m => ?_, h.nextLe, h.mostLe⟩
      · rw [List.nodup_append]; exact ⟨h.nodT, by simp, fun a ha b hb e => hn (by rw [List.mem_singleton] at hb; rw [← hb, ← e]; exact ha)⟩
      · rcases List.mem_append.1 hm with h1 | h1
        · exact fun e => h.apart m h1 (by rw [hb]; exact List.mem_append_left _ e)
        · rw [List.mem_singleton] at h1; subst h1; exact fun e => hnd.2.2 m e m (by simp) rfl
      · have := h.all m
        rw [← this, hb]
        simp only [List.mem_append, List.mem_singleton]
        constructor
        · rintro ((h1 | h1) | h1)
          · exact .inl h1
          · exact .inr (.inr h1)
          · exact .inr (.inl h1)
        · rintro (h1 | h1 | h1)
          · exact .inl (.inl h1)
          · exact .inr h1
          · exact .inl (.inr h1)

theorem AS.Ok.flag {s : AS} (h : s.Ok) (n : Int) : (decide (0 ≤ n) && s.flags.getD n.toNat false) = decide (n ∈ s.T) := by
  by_cases h0 : 0 ≤ n
  · rw [decide_eq_true h0, Bool.true_and]
    by_cases h1 : n.toNat < s.next
    · rw [List.getD, AS.flags, List.getElem?_map, List.getElem?_range h1]
      simp only [Option.map_some, Option.getD_some, Int.toNat_of_nonneg h0]
    · rw [List.getD, List.getElem?_eq_none (by rw [s.flags_length]; omega)]
      simp only [Option.getD_none]
      exact (decide_eq_false (fun e => by have := (h.all n).1 (.inl e); omega)).symm
  · rw [decide_eq_false h0, Bool.false_and]
    exact (decide_eq_false (fun e => by have := (h.all n).1 (.inl e); omega)).symm

theorem AS.flags_new (s : AS) : ({ s with T := s.T ++ [(s.next : Int)], next := s.next + 1 } : AS).flags = s.flags ++ [true] := by
  simp only [AS.flags, List.range_succ, List.map_append, List.map_cons, List.map_nil]
  congr 1
  · refine List.map_congr_left fun i hi => ?_
    have := List.mem_range.1 hi
    congr 1
    simp only [List.mem_append, List.mem_singleton, eq_iff_iff]
    exact ⟨fun e => e.elim id (fun e => by omega), .inl⟩
  · simp

theorem AS.flags_again (s : AS) (n : Nat) (l : List Int) (hn : n < s.next) : ({ s with T := s.T ++ [(n : Int)], B := l } : AS).flags = s.flags.set n true := by
  refine List.ext_getElem? fun i => ?_
  rw [List.getElem?_set]
  rcases Nat.lt_or_ge i s.next with hi | hi
  · simp only [AS.flags, List.getElem?_map, List.getElem?_range hi, Option.map_some, List.length_map, List.length_range, hn, if_true]
    split
    · rename_i e; subst e; simp
    · rename_i e
      congr 1
      congr 1
      simp only [List.mem_append, List.mem_singleton, eq_iff_iff]
      exact ⟨fun e => e.elim id (fun e => by omega), .inl⟩
  · rw [List.getElem?_eq_none (by rw [AS.flags_length]; exact hi), if_neg (by omega), List.getElem?_eq_none (by rw [AS.flags_length]; exact hi)]

end Go.Proofs.YtipocmbplcdmjaaDoor

/-
  Mathematics of orders: where a number stands, whether all stand, two exchanged. Nothing of the program is read here.
-/
namespace Go.Proofs.YtipocmbplcdmjaaDoor

/-- The first place from i on, among f, at which v stands; -1. -/
def lf (o : Nat → Int) (v : Int) : Nat → Nat → Int
  | 0, _ => -1
  | f + 1, i => if o i = v then (i : Int) else lf o v f (i + 1)
/-- The first place. -/
def levO (o : Nat → Int) (v : Int) : Int := lf o v 8 0
/-- How many of the first k numbers stand. -/
def cntO (o : Nat → Int) (k : Nat) : Nat := ((List.range k).filter fun v : Nat => decide (0 ≤ levO o (v : Int))).length
/-- All stand. -/
def mayO (o : Nat → Int) : Bool := decide (cntO o 8 = 8)
/-- Two that stand side by side, exchanged. -/
def swapO (o : Nat → Int) (l : Int) : Nat → Int := fun i => if 0 ≤ l ∧ l ≤ 6 then (if (i : Int) = l then o (i + 1) else if (i : Int) = l + 1 then o (i - 1) else o i) else o i

theorem lf_cases (o : Nat → Int) (v : Int) : ∀ f i, (lf o v f i = -1 ∧ ∀ j, i ≤ j → j < i + f → o j ≠ v) ∨ ∃ j : Nat, lf o v f i = (j : Int) ∧ i ≤ j ∧ j < i + f ∧ o j = v ∧ ∀ k, i ≤ k → k < j → o k ≠ v := by
  intro f
  induction f with
  | zero => intro i; exact .inl ⟨rfl, fun j h1 h2 => by omega⟩
  | succ f ih =>
    intro i
    by_cases h : o i = v
    · exact .inr ⟨i, by simp [lf, h], Nat.le_refl _, by omega, h, fun k h1 h2 => by omega⟩
    · have e : lf o v (f + 1) i = lf o v f (i + 1) := by simp [lf, h]
      rw [e]
      rcases ih (i + 1) with ⟨h1, h2⟩ | ⟨j, h1, h2, h3, h4, h5⟩
      · refine .inl ⟨h1, fun j h3 h4 => ?_⟩
        by_cases hj : j = i
        · subst hj; exact h
        · exact h2 j (by omega) (by omega)
      · refine .inr ⟨j, h1, by omega, by omega, h4, fun k h6 h7 => ?_⟩
        by_cases hk : k = i
        · subst hk; exact h
        · exact h5 k (by omega) h7

theorem levO_cases (o : Nat → Int) (v : Int) : (levO o v = -1 ∧ ∀ j, j < 8 → o j ≠ v) ∨ ∃ j : Nat, levO o v = (j : Int) ∧ j < 8 ∧ o j = v ∧ ∀ k, k < j → o k ≠ v := by
  rcases lf_cases o v 8 0 with ⟨h1, h2⟩ | ⟨j, h1, _, h3, h4, h5⟩
  · exact .inl ⟨h1, fun j hj => h2 j (Nat.zero_le _) (by omega)⟩
  · exact .inr ⟨j, h1, by omega, h4, fun k hk => h5 k (Nat.zero_le _) hk⟩
theorem levO_range (o : Nat → Int) (v : Int) : -1 ≤ levO o v ∧ levO o v ≤ 7 := by
  rcases levO_cases o v with ⟨h, _⟩ | ⟨j, h, hj, _⟩ <;> omega
theorem levO_nonneg {o : Nat → Int} {v : Int} : 0 ≤ levO o v ↔ ∃ j : Nat, j < 8 ∧ o j = v := by
  rcases levO_cases o v with ⟨h, h2⟩ | ⟨j, h, hj, h4, _⟩
  · constructor
    · intro h1; omega
    · rintro ⟨j, hj, e⟩; exact absurd e (h2 j hj)
  · exact ⟨fun _ => ⟨j, hj, h4⟩, fun _ => by omega⟩

theorem cntO_succ (o : Nat → Int) (k : Nat) : cntO o (k + 1) = cntO o k + if 0 ≤ levO o (k : Int) then 1 else 0 := by
  unfold cntO
  rw [List.range_succ, List.filter_append, List.length_append]
  congr 1
  by_cases h : 0 ≤ levO o (k : Int) <;> simp [h]
theorem cntO_le (o : Nat → Int) (k : Nat) : cntO o k ≤ k := by
  unfold cntO
  exact Nat.le_trans (List.length_filter_le _ _) (by simp)
theorem cntO_all (o : Nat → Int) : ∀ k, cntO o k = k ↔ ∀ v : Nat, v < k → 0 ≤ levO o (v : Int) := by
  intro k
  induction k with
  | zero => simp [cntO]
  | succ k ih =>
    rw [cntO_succ]
    have := cntO_le o k
    constructor
    · intro h v hv
      by_cases hl : 0 ≤ levO o (k : Int)
      · rw [if_pos hl] at h
        by_cases hvk : v = k
        · subst hvk; exact hl
        · exact ih.1 (by omega) v (by omega)
      · rw [if_neg hl] at h; omega
    · intro h
      rw [if_pos (h k (by omega)), ih.2 fun v hv => h v (by omega)]
theorem mayO_iff {o : Nat → Int} : mayO o = true ↔ ∀ v : Nat, v < 8 → ∃ j : Nat, j < 8 ∧ o j = (v : Int) := by
  unfold mayO
  rw [decide_eq_true_iff, cntO_all]
  exact forall_congr' fun v => ⟨fun h hv => levO_nonneg.1 (h hv), fun h hv => levO_nonneg.2 (h hv)⟩

/-- Numbers below n, no two alike, are n at most. -/
theorem few_below : ∀ (n : Nat) (l : List Nat), l.Nodup → (∀ x ∈ l, x < n) → l.length ≤ n := by
  intro n
  induction n with
  | zero => intro l _ h; cases l with | nil => exact Nat.le_refl _ | cons a l => exact absurd (h a (List.mem_cons_self)) (by omega)
  | succ n ih =>
    intro l hn h
    have h1 := ih (l.erase n) (hn.erase n) fun x hx => by
      have h2 := h x (List.mem_of_mem_erase hx)
      have h3 : x ≠ n := fun e => by subst e; exact hn.not_mem_erase hx
      omega
    have h4 := List.length_erase (a := n) (l := l)
    split at h4 <;> omega

/-- In an order each place has a variable, which stands there first. -/
theorem mayO_all {o : Nat → Int} (h : mayO o = true) : ∀ i, i < 8 → ∃ v : Nat, v < 8 ∧ o i = (v : Int) ∧ levO o (v : Int) = (i : Int) := by
  have hm := mayO_iff.1 h
  have hl : ∀ v : Nat, v < 8 → ∃ k : Nat, levO o (v : Int) = (k : Int) ∧ k < 8 ∧ o k = (v : Int) := fun v hv => by
    rcases levO_cases o (v : Int) with ⟨_, h2⟩ | ⟨k, h1, h2, h3, _⟩
    · obtain ⟨k, hk, e⟩ := hm v hv; exact absurd e (h2 k hk)
    · exact ⟨k, h1, h2, h3⟩
  have hnd : ((List.range 8).map fun v : Nat => (levO o (v : Int)).toNat).Nodup := by
    rw [List.Nodup, List.pairwise_map]
    refine List.Pairwise.imp_of_mem (R := fun a b => a ≠ b) ?_ List.nodup_range
    intro a b ha hb hab he
    obtain ⟨k, k1, k2, k3⟩ := hl a (List.mem_range.1 ha)
    obtain ⟨m, m1, m2, m3⟩ := hl b (List.mem_range.1 hb)
    rw [k1, m1] at he
    have hkm : k = m := by simpa using he
    subst hkm
    rw [k3] at m3
    exact hab (by omega)
  exact fun i hi => by
    refine Classical.byContradiction fun hno => ?_
    have h1 := few_below 8 (i :: (List.range 8).map fun v : Nat => (levO o (v : Int)).toNat) (List.nodup_cons.2 ⟨fun hx => ?_, hnd⟩) fun x hx => ?_
    · simp at h1
    · obtain ⟨v, hv, e⟩ := List.mem_map.1 hx
      obtain ⟨k, k1, k2, k3⟩ := hl v (List.mem_range.1 hv)
      have hki : k = i := by rw [k1] at e; simpa using e
      subst hki
      exact hno ⟨v, List.mem_range.1 hv, k3, k1⟩
    · rcases List.mem_cons.1 hx with rfl | hx
      · exact hi
      · obtain ⟨v, hv, rfl⟩ := List.mem_map.1 hx
        obtain ⟨k, k1, k2, k3⟩ := hl v (List.mem_range.1 hv)
        rw [k1]; simpa using k2
/-- In an order each number stands once. -/
theorem mayO_once {o : Nat → Int} (h : mayO o = true) {i j : Nat} (hi : i < 8) (hj : j < 8) (e : o i = o j) : i = j := by
  have hall := mayO_all h
  obtain ⟨a, _, a2, a3⟩ := hall i hi
  obtain ⟨b, _, b2, b3⟩ := hall j hj
  rw [a2, b2] at e
  rw [e] at a3
  omega

/-- Where it stands, told by any place. -/
theorem levO_at {o : Nat → Int} (h : mayO o = true) {v : Int} {i : Nat} (hi : i < 8) (e : o i = v) : levO o v = (i : Int) := by
  rcases levO_cases o v with ⟨_, h2⟩ | ⟨k, h1, h2, h3, _⟩
  · exact absurd e (h2 i hi)
  · rw [h1, mayO_once h h2 hi (h3.trans e.symm)]

theorem swapO_out {o : Nat → Int} {l : Int} (h : ¬ (0 ≤ l ∧ l ≤ 6)) : swapO o l = o := by funext i; simp [swapO, h]
theorem swapO_swapO (o : Nat → Int) (l : Int) : swapO (swapO o l) l = o := by
  funext i
  by_cases h : 0 ≤ l ∧ l ≤ 6
  · obtain ⟨m, rfl⟩ := Int.eq_ofNat_of_zero_le h.1
    by_cases h1 : i = m
    · subst h1
      have h2 : ¬ ((i : Int) + 1 = i) := by omega
      simp [swapO, h, h2]
    · by_cases h2 : i = m + 1
      · subst h2
        have h3 : ¬ ((m : Int) + 1 = m) := by omega
        simp [swapO, h, h3]
      · have h3 : ¬ (i : Int) = (m : Int) := by omega
        have h4 : ¬ (i : Int) = (m : Int) + 1 := by omega
        simp [swapO, h, h3, h4]
  · rw [swapO_out h, swapO_out h]

/-- What stands in one stands in the other. -/
theorem swapO_stands (o : Nat → Int) (l v : Int) : (∃ j : Nat, j < 8 ∧ swapO o l j = v) ↔ ∃ j : Nat, j < 8 ∧ o j = v := by
  have key : ∀ o : Nat → Int, (∃ j, j < 8 ∧ o j = v) → ∃ j, j < 8 ∧ swapO o l j = v := fun o => by
    rintro ⟨j, hj, e⟩
    by_cases h : 0 ≤ l ∧ l ≤ 6
    · by_cases h1 : (j : Int) = l
      · refine ⟨j + 1, by omega, ?_⟩
        have h2 : ¬ ((j : Int) + 1 = l) := by omega
        simp [swapO, h, h1, e]
        intro h3; omega
      · by_cases h2 : (j : Int) = l + 1
        · obtain ⟨m, rfl⟩ := Int.eq_ofNat_of_zero_le h.1
          refine ⟨m, by omega, ?_⟩
          have : m + 1 = j := by omega
          simp [swapO, h, this, e]
        · exact ⟨j, hj, by simp [swapO, h, h1, h2, e]⟩
    · exact ⟨j, hj, by rw [swapO_out h]; exact e⟩
  constructor
  · intro h
    have := key (swapO o l) h
    rwa [swapO_swapO] at this
  · exact key o
theorem swapO_may (o : Nat → Int) (l : Int) : mayO (swapO o l) = mayO o := by
  have h : mayO (swapO o l) = true ↔ mayO o = true := by
    rw [mayO_iff, mayO_iff]
    exact forall_congr' fun v => ⟨fun h hv => (swapO_stands o l v).1 (h hv), fun h hv => (swapO_stands o l v).2 (h hv)⟩
  cases h1 : mayO o <;> cases h2 : mayO (swapO o l) <;> simp_all

/-- What doesn't stand at one of both places stays; what does changes places. -/
theorem swapO_lev {o : Nat → Int} (h : mayO o = true) {l : Int} (h0 : 0 ≤ l) (h6 : l ≤ 6) {v : Nat} (hv : v < 8) :
    (levO o (v : Int) ≠ l → levO o (v : Int) ≠ l + 1 → levO (swapO o l) (v : Int) = levO o (v : Int)) ∧ (levO o (v : Int) = l → levO (swapO o l) (v : Int) = l + 1) ∧ (levO o (v : Int) = l + 1 → levO (swapO o l) (v : Int) = l) := by
  have hm : mayO (swapO o l) = true := by rw [swapO_may]; exact h
  obtain ⟨m, rfl⟩ := Int.eq_ofNat_of_zero_le h0
  rcases levO_cases o (v : Int) with ⟨_, h2⟩ | ⟨k, h1, h2, h3, _⟩
  · obtain ⟨j, hj, e⟩ := mayO_iff.1 h v hv
    exact absurd e (h2 j hj)
  · rw [h1]
    refine ⟨fun a b => ?_, fun a => ?_, fun a => ?_⟩
    · exact levO_at hm h2 (by simp [swapO, h0, h6, a, b, h3])
    · have hk : k = m := by omega
      subst hk
      have h5 : ¬ ((k : Int) + 1 = k) := by omega
      have := levO_at (v := (v : Int)) hm (i := k + 1) (by omega) (by simp [swapO, h0, h6, h5, h3])
      rw [this]; rfl
    · have hk : k = m + 1 := by omega
      subst hk
      exact levO_at hm (by omega) (by simp [swapO, h0, h6, h3])

end Go.Proofs.YtipocmbplcdmjaaDoor

/-
  Mathematics of a store of nodes: what the document's layer 7 says, as functions on a state; what always holds of it. (Begun ahead of stage 7.) Nothing of the program is read here.
-/
namespace Go.Proofs.YtipocmbplcdmjaaDoor

/-- A node. -/
structure Nd where
  var : Int
  lo : Int
  hi : Int
deriving DecidableEq

/-- The document's store: its arena, its nodes by their numbers less 2, its order. -/
structure MS where make ::
  ar : AS
  N : List Nd
  o : Nat → Int

namespace MS
def has (s : MS) (n : Int) : Bool := decide (2 ≤ n) && decide (n - 2 ∈ s.ar.T)
def nd (s : MS) (n : Int) : Nd := s.N.getD (n - 2).toNat ⟨0, 0, 0⟩
def node (s : MS) (n : Int) : Option Nd := if s.has n then some (s.nd n) else none
def room (s : MS) : Int := s.ar.most - s.ar.T.length
/-- Its numbers, rising. -/
def all (s : MS) : List Int := ((List.range s.N.length).map fun i : Nat => (i : Int) + 2).filter s.has
def behind (s : MS) (n v : Int) : Bool := match s.node n with
  | none => n == 0 || n == 1
  | some x => decide (levO s.o v < levO s.o x.var)
/-- The node that is so, without those of a list. -/
def find (s : MS) (x : Nd) (but : List Int) : Option Int := ((List.range s.N.length).map fun i : Nat => (i : Int) + 2).find? fun n => decide (s.nd n = x) && s.has n && !(but.contains n)
def takeS (s : MS) (x : Nd) : MS := ⟨s.ar.take, if s.ar.takeN = s.N.length then s.N ++ [x] else s.N.set s.ar.takeN.toNat x, s.o⟩
/-- What it makes: the number, the error's number, the state. -/
def mk (s : MS) (v lo hi : Int) (but : List Int) : Int × Int × MS :=
  if v < 0 ∨ 7 < v ∨ s.behind lo v = false ∨ s.behind hi v = false then (0, 1, s)
  else if lo = hi then (lo, 0, s)
  else match s.find ⟨v, lo, hi⟩ but with
    | some n => (n, 0, s)
    | none => if s.ar.takeE ≠ 0 then (0, s.ar.takeE, s) else (s.ar.takeN + 2, 0, s.takeS ⟨v, lo, hi⟩)
def isOf (s : MS) (n v : Int) : Bool := match s.node n with | none => false | some x => x.var == v
def side (s : MS) (n y : Int) (b : Bool) : Int := if s.isOf n y then (if b then (s.nd n).hi else (s.nd n).lo) else n
def setNd (s : MS) (n : Int) (x : Nd) : MS := { s with N := s.N.set (n - 2).toNat x }
/-- What changes by an exchange. -/
def changes (s : MS) (x y : Int) : List Int := s.all.filter fun n => decide ((s.nd n).var = x) && (s.isOf (s.nd n).lo y || s.isOf (s.nd n).hi y)
/-- One of them. -/
def swap1 (s : MS) (x y : Int) : List Int → MS
  | [] => s
  | n :: rest =>
    let old := s.nd n
    let a := s.mk x (s.side old.lo y false) (s.side old.hi y false) (n :: rest)
    let b := a.2.2.mk x (a.2.2.side old.lo y true) (a.2.2.side old.hi y true) (n :: rest)
    swap1 (b.2.2.setNd n ⟨y, a.1, b.1⟩) x y rest
def swap (s : MS) (l : Int) : Int × MS :=
  if l < 0 ∨ 6 < l then (1, s)
  else
    let x := s.o l.toNat
    let y := s.o (l.toNat + 1)
    if s.room < 2 * (s.changes x y).length then (2, s)
    else (0, swap1 { s with o := swapO s.o l } x y (s.changes x y))

/-- What always holds of the numbers alone. -/
structure Base (s : MS) : Prop where
  ar : s.ar.Ok
  len : s.N.length = s.ar.next
/-- What always holds. -/
structure Ok (s : MS) : Prop extends Base s where
  order : mayO s.o = true
  /-- Of what is there: its variable; unlike sides, each a constant or there, further behind. -/
  var : ∀ n, s.has n = true → 0 ≤ (s.nd n).var ∧ (s.nd n).var ≤ 7
  unlike : ∀ n, s.has n = true → (s.nd n).lo ≠ (s.nd n).hi
  lo : ∀ n, s.has n = true → s.behind (s.nd n).lo (s.nd n).var = true
  hi : ∀ n, s.has n = true → s.behind (s.nd n).hi (s.nd n).var = true
  /-- No two are alike. -/
  one : ∀ n m, s.has n = true → s.has m = true → s.nd n = s.nd m → n = m
/-- What holds but for a list's. -/
structure Okb (s : MS) (R : List Int) : Prop extends Base s where
  order : mayO s.o = true
  var : ∀ n, s.has n = true → n ∉ R → 0 ≤ (s.nd n).var ∧ (s.nd n).var ≤ 7
  unlike : ∀ n, s.has n = true → n ∉ R → (s.nd n).lo ≠ (s.nd n).hi
  lo : ∀ n, s.has n = true → n ∉ R → s.behind (s.nd n).lo (s.nd n).var = true
  hi : ∀ n, s.has n = true → n ∉ R → s.behind (s.nd n).hi (s.nd n).var = true
  one : ∀ n m, s.has n = true → s.has m = true → n ∉ R → m ∉ R → s.nd n = s.nd m → n = m
theorem Okb.ok {s : MS} (h : s.Okb []) : s.Ok :=
  ⟨h.toBase, h.order, fun n hn => h.var n hn (by simp), fun n hn => h.unlike n hn (by simp), fun n hn => h.lo n hn (by simp), fun n hn => h.hi n hn (by simp), fun n m hn hm => h.one n m hn hm (by simp) (by simp)⟩
theorem Ok.okb {s : MS} (h : s.Ok) (R : List Int) : s.Okb R :=
  ⟨h.toBase, h.order, fun n hn _ => h.var n hn, fun n hn _ => h.unlike n hn, fun n hn _ => h.lo n hn, fun n hn _ => h.hi n hn, fun n m hn hm _ _ => h.one n m hn hm⟩
end MS

section
variable {s : MS}
theorem MS.Base.range (h : s.Base) {n : Int} (hn : s.has n = true) : 2 ≤ n ∧ (n - 2).toNat < s.N.length ∧ n - 2 ∈ s.ar.T := by
  simp only [MS.has, Bool.and_eq_true, decide_eq_true_eq] at hn
  have := (h.ar.all (n - 2)).1 (.inl hn.2)
  rw [h.len]
  exact ⟨hn.1, by omega, hn.2⟩
theorem MS.behind_const {n v : Int} (h : n = 0 ∨ n = 1) : s.behind n v = true := by
  have hh : s.has n = false := by rcases h with rfl | rfl <;> rfl
  rcases h with rfl | rfl <;> simp [MS.behind, MS.node, hh]
theorem MS.behind_node {n v : Int} (h : s.has n = true) : s.behind n v = decide (levO s.o v < levO s.o (s.nd n).var) := by simp [MS.behind, MS.node, h]
theorem MS.behind_cases {n v : Int} (h : s.behind n v = true) : (n = 0 ∨ n = 1) ∨ (s.has n = true ∧ levO s.o v < levO s.o (s.nd n).var) := by
  cases hh : s.has n
  · simp only [MS.behind, MS.node, hh] at h
    left; simpa using h
  · rw [MS.behind_node hh] at h
    exact .inr ⟨rfl, by simpa using h⟩
theorem MS.Ok.new (most : Nat) (h : most ≤ 20000) (o : Nat → Int) (ho : mayO o = true) : (MS.make ⟨most, 0, [], []⟩ [] o).Ok := by
  have hn : ∀ n, (MS.make ⟨most, 0, [], []⟩ [] o).has n = false := fun n => by simp [MS.has]
  exact ⟨⟨AS.new_ok most h, rfl⟩, ho, fun n e => (by rw [hn] at e; cases e), fun n e => (by rw [hn] at e; cases e), fun n e => (by rw [hn] at e; cases e), fun n e => (by rw [hn] at e; cases e), fun n m e => (by rw [hn] at e; cases e)⟩

/-- Where there is room: what is taken is new, and in its place. -/
theorem MS.Base.took (h : s.Base) (hf : s.ar.T.length ≠ s.ar.most) : 0 ≤ s.ar.takeN ∧ s.ar.takeN ∉ s.ar.T ∧ (∀ m : Int, m ∈ s.ar.take.T ↔ m ∈ s.ar.T ∨ m = s.ar.takeN) ∧
    ((s.ar.takeN = s.N.length ∧ s.ar.take.next = s.N.length + 1) ∨ (s.ar.takeN < s.N.length ∧ s.ar.take.next = s.N.length)) := by
  have hl := h.len
  rcases last_or_nil s.ar.B with hb | ⟨l, n, hb⟩
  · obtain ⟨e1, _, e3⟩ := AS.Ok.take_new hf hb
    rw [e1, e3]
    refine ⟨by omega, fun e => ?_, fun m => by simp, .inl ⟨by omega, by show s.ar.next + 1 = _; omega⟩⟩
    have := (h.ar.all s.ar.next).1 (.inl e); omega
  · obtain ⟨e1, _, e3⟩ := AS.Ok.take_again hf hb
    rw [e1, e3]
    have hin := (h.ar.all n).1 (.inr (by rw [hb]; simp))
    refine ⟨by omega, fun e => h.ar.apart n e (by rw [hb]; simp), fun m => by simp, .inr ⟨by omega, by show s.ar.next = _; omega⟩⟩

/-- A node laid: what is there then. -/
theorem MS.Base.takeS_has (h : s.Base) (hf : s.ar.T.length ≠ s.ar.most) (x : Nd) (n : Int) : (s.takeS x).has n = true ↔ s.has n = true ∨ n = s.ar.takeN + 2 := by
  obtain ⟨h0, _, h2, _⟩ := h.took hf
  simp only [MS.has, MS.takeS, Bool.and_eq_true, decide_eq_true_eq, h2]
  constructor
  · rintro ⟨a, b | b⟩
    · exact .inl ⟨a, b⟩
    · exact .inr (by omega)
  · rintro (⟨a, b⟩ | b)
    · exact ⟨a, .inl b⟩
    · exact ⟨by omega, .inr (by omega)⟩
theorem MS.Base.takeS_new (h : s.Base) (hf : s.ar.T.length ≠ s.ar.most) (x : Nd) : (s.takeS x).nd (s.ar.takeN + 2) = x := by
  obtain ⟨h0, _, _, h3⟩ := h.took hf
  unfold MS.nd MS.takeS
  rw [show s.ar.takeN + 2 - 2 = s.ar.takeN by omega]
  rcases h3 with ⟨e, _⟩ | ⟨e, _⟩
  · simp [e, List.getD]
  · have e2 : s.ar.takeN.toNat < s.N.length := by omega
    have e3 : ¬ s.ar.takeN = s.N.length := by omega
    simp [e3, e2, List.getD]
theorem MS.Base.takeS_old (h : s.Base) (hf : s.ar.T.length ≠ s.ar.most) (x : Nd) {n : Int} (hn : s.has n = true) : (s.takeS x).nd n = s.nd n := by
  obtain ⟨h0, h1, _, h3⟩ := h.took hf
  obtain ⟨r1, r2, r3⟩ := h.range hn
  have hne : s.ar.takeN.toNat ≠ (n - 2).toNat := fun e => h1 (by rw [show s.ar.takeN = n - 2 by omega]; exact r3)
  unfold MS.nd MS.takeS
  rcases h3 with ⟨e, _⟩ | ⟨e, _⟩
  · simp [e, List.getD, List.getElem?_append_left r2]
  · have e3 : ¬ s.ar.takeN = s.N.length := by omega
    simp [e3, List.getD, List.getElem?_set_ne hne]
theorem MS.Base.takeS_behind (h : s.Base) (hf : s.ar.T.length ≠ s.ar.most) (x : Nd) {n v : Int} (hb : s.behind n v = true) : (s.takeS x).behind n v = true := by
  rcases MS.behind_cases hb with hc | ⟨hc, hl⟩
  · exact MS.behind_const hc
  · rw [MS.behind_node ((h.takeS_has hf x n).2 (.inl hc)), h.takeS_old hf x hc]
    exact decide_eq_true hl

/-- A node that is unlike all that are there, laid: all that holds, holds. -/
theorem MS.Okb.takeS {R : List Int} (h : s.Okb R) (hf : s.ar.T.length ≠ s.ar.most) {x : Nd} (hv : 0 ≤ x.var ∧ x.var ≤ 7) (hu : x.lo ≠ x.hi) (hlo : s.behind x.lo x.var = true) (hhi : s.behind x.hi x.var = true) (hone : ∀ n, s.has n = true → n ∉ R → s.nd n ≠ x) : (s.takeS x).Okb R := by
  obtain ⟨h0, h1, h2, h3⟩ := h.took hf
  have hcase : ∀ n, (s.takeS x).has n = true → (s.has n = true ∧ (s.takeS x).nd n = s.nd n) ∨ (n = s.ar.takeN + 2 ∧ (s.takeS x).nd n = x) := fun n hn => by
    rcases (h.takeS_has hf x n).1 hn with hc | rfl
    · exact .inl ⟨hc, h.takeS_old hf x hc⟩
    · exact .inr ⟨rfl, h.takeS_new hf x⟩
  refine ⟨⟨h.ar.take, ?_⟩, h.order, ?_, ?_, ?_, ?_, ?_⟩
  · unfold MS.takeS
    rcases h3 with ⟨e, e2⟩ | ⟨e, e2⟩
    · simp [e, e2]
    · have e3 : ¬ s.ar.takeN = s.N.length := by omega
      simp [e3, e2]
  · intro n hn hR
    rcases hcase n hn with ⟨hc, e⟩ | ⟨_, e⟩
    · rw [e]; exact h.var n hc hR
    · rw [e]; exact hv
  · intro n hn hR
    rcases hcase n hn with ⟨hc, e⟩ | ⟨_, e⟩
    · rw [e]; exact h.unlike n hc hR
    · rw [e]; exact hu
  · intro n hn hR
    rcases hcase n hn with ⟨hc, e⟩ | ⟨_, e⟩
    · rw [e]; exact h.takeS_behind hf x (h.lo n hc hR)
    · rw [e]; exact h.takeS_behind hf x hlo
  · intro n hn hR
    rcases hcase n hn with ⟨hc, e⟩ | ⟨_, e⟩
    · rw [e]; exact h.takeS_behind hf x (h.hi n hc hR)
    · rw [e]; exact h.takeS_behind hf x hhi
  · intro n m hn hm hR hS he
    rcases hcase n hn with ⟨hc, e⟩ | ⟨e1, e⟩
    · rcases hcase m hm with ⟨hd, f⟩ | ⟨f1, f⟩
      · rw [e, f] at he; exact h.one n m hc hd hR hS he
      · rw [e, f] at he; exact absurd he (hone n hc hR)
    · rcases hcase m hm with ⟨hd, f⟩ | ⟨f1, f⟩
      · rw [e, f] at he; exact absurd he.symm (hone m hd hS)
      · rw [e1, f1]

theorem MS.has_in {n : Int} (h : s.Base) (hn : s.has n = true) : n ∈ ((List.range s.N.length).map fun i : Nat => (i : Int) + 2) := by
  obtain ⟨r1, r2, _⟩ := h.range hn
  exact List.mem_map.2 ⟨(n - 2).toNat, List.mem_range.2 r2, by omega⟩
theorem MS.find_some {x : Nd} {but : List Int} {n : Int} (h : s.find x but = some n) : s.has n = true ∧ s.nd n = x ∧ n ∉ but := by
  have := List.find?_some h
  simp only [Bool.and_eq_true, decide_eq_true_eq, Bool.not_eq_true', List.contains_eq_mem, decide_eq_false_iff_not] at this
  exact ⟨this.1.2, this.1.1, this.2⟩
theorem MS.find_none (ok : s.Base) {x : Nd} {but : List Int} (h : s.find x but = none) {n : Int} (hn : s.has n = true) (hb : n ∉ but) : s.nd n ≠ x := by
  intro e
  have := List.find?_eq_none.1 h n (MS.has_in ok hn)
  simp [e, hn, hb] at this

/-- What Mk does: nothing, or one node that is unlike all that are there (but those of a list). -/
theorem MS.mk_cases (s : MS) (v lo hi : Int) (but : List Int) :
    (∃ r e, s.mk v lo hi but = (r, e, s)) ∨ (s.ar.T.length ≠ s.ar.most ∧ 0 ≤ v ∧ v ≤ 7 ∧ s.behind lo v = true ∧ s.behind hi v = true ∧ lo ≠ hi ∧ s.find ⟨v, lo, hi⟩ but = none ∧ s.mk v lo hi but = (s.ar.takeN + 2, 0, s.takeS ⟨v, lo, hi⟩)) := by
  unfold MS.mk
  by_cases h1 : v < 0 ∨ 7 < v ∨ s.behind lo v = false ∨ s.behind hi v = false
  · rw [if_pos h1]; exact .inl ⟨_, _, rfl⟩
  · rw [if_neg h1]
    by_cases h2 : lo = hi
    · rw [if_pos h2]; exact .inl ⟨_, _, rfl⟩
    · rw [if_neg h2]
      cases h3 : s.find ⟨v, lo, hi⟩ but with
      | some n => exact .inl ⟨_, _, rfl⟩
      | none =>
        by_cases h4 : s.ar.T.length = s.ar.most
        · have h5 := (AS.Ok.take_full h4).2.1
          simp only [h5]
          exact .inl ⟨_, _, rfl⟩
        · have h5 : s.ar.takeE = 0 := by simp [AS.takeE, h4]
          simp only [h5, ne_eq, not_true_eq_false, if_false]
          simp only [not_or, Bool.not_eq_false] at h1
          exact .inr ⟨h4, by omega, by omega, h1.2.2.1, h1.2.2.2, h2, trivial, trivial⟩
theorem MS.Ok.made (h : s.Ok) (v lo hi : Int) : (s.mk v lo hi []).2.2.Ok := by
  rcases s.mk_cases v lo hi [] with ⟨r, e, h1⟩ | ⟨h1, h2, h3, h4, h5, h6, h7, h8⟩
  · rw [h1]; exact h
  · rw [h8]; exact ((h.okb []).takeS h1 ⟨h2, h3⟩ h6 h4 h5 fun n hn _ => MS.find_none h.toBase h7 hn (by simp)).ok

end

end Go.Proofs.YtipocmbplcdmjaaDoor
