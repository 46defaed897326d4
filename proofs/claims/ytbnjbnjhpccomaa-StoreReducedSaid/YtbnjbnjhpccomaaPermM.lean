/-
  Mathematics of orders: where a number stands, whether all stand, two exchanged. Nothing of the program is read here.
-/
namespace Go.Proofs.Ytbnjbnjhpccomaa

/-- The first place from i on, among f, at which v stands; -1. -/
def lf (o : Nat → Int) (v : Int) : Nat → Nat → Int
  | 0, _ => -1
  | f + 1, i => if o i = v then (i : Int) else lf o v f (i + 1)
/-- The first place. -/
def levO (o : Nat → Int) (v : Int) : Int := lf o v 8 0
/-- How many of the first k numbers stand. -/
def cntO (o : Nat → Int) (k : Nat) : Nat := ((List.range k).filter fun v : Nat => decide (0 ≤ levO o (v : Int))).length
/-- All stand. -/
def mayO (o : Nat → Int) : Bool := decide (cntO o 8 = 8)
/-- Two that stand side by side, exchanged. -/
def swapO (o : Nat → Int) (l : Int) : Nat → Int := fun i => if 0 ≤ l ∧ l ≤ 6 then (if (i : Int) = l then o (i + 1) else if (i : Int) = l + 1 then o (i - 1) else o i) else o i

theorem lf_cases (o : Nat → Int) (v : Int) : ∀ f i, (lf o v f i = -1 ∧ ∀ j, i ≤ j → j < i + f → o j ≠ v) ∨ ∃ j : Nat, lf o v f i = (j : Int) ∧ i ≤ j ∧ j < i + f ∧ o j = v ∧ ∀ k, i ≤ k → k < j → o k ≠ v := by
  intro f
  induction f with
  | zero => intro i; exact .inl ⟨rfl, fun j h1 h2 => by omega⟩
  | succ f ih =>
    intro i
    by_cases h : o i = v
    · exact .inr ⟨i, by simp [lf, h], Nat.le_refl _, by omega, h, fun k h1 h2 => by omega⟩
    · have e : lf o v (f + 1) i = lf o v f (i + 1) := by simp [lf, h]
      rw [e]
      rcases ih (i + 1) with ⟨h1, h2⟩ | ⟨j, h1, h2, h3, h4, h5⟩
      · refine .inl ⟨h1, fun j h3 h4 => ?_⟩
        by_cases hj : j = i
        · subst hj; exact h
        · exact h2 j (by omega) (by omega)
      · refine .inr ⟨j, h1, by omega, by omega, h4, fun k h6 h7 => ?_⟩
        by_cases hk : k = i
        · subst hk; exact h
        · exact h5 k (by omega) h7

theorem levO_cases (o : Nat → Int) (v : Int) : (levO o v = -1 ∧ ∀ j, j < 8 → o j ≠ v) ∨ ∃ j : Nat, levO o v = (j : Int) ∧ j < 8 ∧ o j = v ∧ ∀ k, k < j → o k ≠ v := by
  rcases lf_cases o v 8 0 with ⟨h1, h2⟩ | ⟨j, h1, _, h3, h4, h5⟩
  · exact .inl ⟨h1, fun j hj => h2 j (Nat.zero_le _) (by omega)⟩
  · exact .inr ⟨j, h1, by omega, h4, fun k hk => h5 k (Nat.zero_le _) hk⟩
theorem levO_range (o : Nat → Int) (v : Int) : -1 ≤ levO o v ∧ levO o v ≤ 7 := by
  rcases levO_cases o v with ⟨h, _⟩ | ⟨j, h, hj, _⟩ <;> omega
theorem levO_nonneg {o : Nat → Int} {v : Int} : 0 ≤ levO o v ↔ ∃ j : Nat, j < 8 ∧ o j = v := by
  rcases levO_cases o v with ⟨h, h2⟩ | ⟨j, h, hj, h4, _⟩
  · constructor
    · intro h1; omega
    · rintro ⟨j, hj, e⟩; exact absurd e (h2 j hj)
  · exact ⟨fun _ => ⟨j, hj, h4⟩, fun _ => by omega⟩

theorem cntO_succ (o : Nat → Int) (k : Nat) : cntO o (k + 1) = cntO o k + if 0 ≤ levO o (k : Int) then 1 else 0 := by
  unfold cntO
  rw [List.range_succ, List.filter_append, List.length_append]
  congr 1
  by_cases h : 0 ≤ levO o (k : Int) <;> simp [h]
theorem cntO_le (o : Nat → Int) (k : Nat) : cntO o k ≤ k := by
  unfold cntO
  exact Nat.le_trans (List.length_filter_le _ _) (by simp)
theorem cntO_all (o : Nat → Int) : ∀ k, cntO o k = k ↔ ∀ v : Nat, v < k → 0 ≤ levO o (v : Int) := by
  intro k
  induction k with
  | zero => simp [cntO]
  | succ k ih =>
    rw [cntO_succ]
    have := cntO_le o k
    constructor
    · intro h v hv
      by_cases hl : 0 ≤ levO o (k : Int)
      · rw [if_pos hl] at h
        by_cases hvk : v = k
        · subst hvk; exact hl
        · exact ih.1 (by omega) v (by omega)
      · rw [if_neg hl] at h; omega
    · intro h
      rw [if_pos (h k (by omega)), ih.2 fun v hv => h v (by omega)]
theorem mayO_iff {o : Nat → Int} : mayO o = true ↔ ∀ v : Nat, v < 8 → ∃ j : Nat, j < 8 ∧ o j = (v : Int) := by
  unfold mayO
  rw [decide_eq_true_iff, cntO_all]
  exact forall_congr' fun v => ⟨fun h hv => levO_nonneg.1 (h hv), fun h hv => levO_nonneg.2 (h hv)⟩
/-- One that doesn't stand ends it. -/
theorem mayO_no {o : Nat → Int} {v : Nat} (hv : v < 8) (h : levO o (v : Int) < 0) : mayO o = false := by
  refine Bool.eq_false_iff.2 fun h1 => ?_
  have := levO_nonneg.2 (mayO_iff.1 h1 v hv)
  omega
theorem mayO_yes {o : Nat → Int} (h : ∀ v : Nat, v < 8 → 0 ≤ levO o (v : Int)) : mayO o = true := mayO_iff.2 fun v hv => levO_nonneg.1 (h v hv)

/-- Numbers below n, no two alike, are n at most. -/
theorem few_below : ∀ (n : Nat) (l : List Nat), l.Nodup → (∀ x ∈ l, x < n) → l.length ≤ n := by
  intro n
  induction n with
  | zero => intro l _ h; cases l with | nil => exact Nat.le_refl _ | cons a l => exact absurd (h a (List.mem_cons_self)) (by omega)
  | succ n ih =>
    intro l hn h
    have h1 := ih (l.erase n) (hn.erase n) fun x hx => by
      have h2 := h x (List.mem_of_mem_erase hx)
      have h3 : x ≠ n := fun e => by subst e; exact hn.not_mem_erase hx
      omega
    have h4 := List.length_erase (a := n) (l := l)
    split at h4 <;> omega

/-- In an order each place has a variable, which stands there first. -/
theorem mayO_all {o : Nat → Int} (h : mayO o = true) : ∀ i, i < 8 → ∃ v : Nat, v < 8 ∧ o i = (v : Int) ∧ levO o (v : Int) = (i : Int) := by
  have hm := mayO_iff.1 h
  have hl : ∀ v : Nat, v < 8 → ∃ k : Nat, levO o (v : Int) = (k : Int) ∧ k < 8 ∧ o k = (v : Int) := fun v hv => by
    rcases levO_cases o (v : Int) with ⟨_, h2⟩ | ⟨k, h1, h2, h3, _⟩
    · obtain ⟨k, hk, e⟩ := hm v hv; exact absurd e (h2 k hk)
    · exact ⟨k, h1, h2, h3⟩
  have hnd : ((List.range 8).map fun v : Nat => (levO o (v : Int)).toNat).Nodup := by
    rw [List.Nodup, List.pairwise_map]
    refine List.Pairwise.imp_of_mem (R := fun a b => a ≠ b) ?_ List.nodup_range
    intro a b ha hb hab he
    obtain ⟨k, k1, k2, k3⟩ := hl a (List.mem_range.1 ha)
    obtain ⟨m, m1, m2, m3⟩ := hl b (List.mem_range.1 hb)
    rw [k1, m1] at he
    have hkm : k = m := by simpa using he
    subst hkm
    rw [k3] at m3
    exact hab (by omega)
  exact fun i hi => by
    refine Classical.byContradiction fun hno => ?_
    have h1 := few_below 8 (i :: (List.range 8).map fun v : Nat => (levO o (v : Int)).toNat) (List.nodup_cons.2 ⟨fun hx => ?_, hnd⟩) fun x hx => ?_
    · simp at h1
    · obtain ⟨v, hv, e⟩ := List.mem_map.1 hx
      obtain ⟨k, k1, k2, k3⟩ := hl v (List.mem_range.1 hv)
      have hki : k = i := by rw [k1] at e; simpa using e
      subst hki
      exact hno ⟨v, List.mem_range.1 hv, k3, k1⟩
    · rcases List.mem_cons.1 hx with rfl | hx
      · exact hi
      · obtain ⟨v, hv, rfl⟩ := List.mem_map.1 hx
        obtain ⟨k, k1, k2, k3⟩ := hl v (List.mem_range.1 hv)
        rw [k1]; simpa using k2
/-- In an order each number stands once. -/
theorem mayO_once {o : Nat → Int} (h : mayO o = true) {i j : Nat} (hi : i < 8) (hj : j < 8) (e : o i = o j) : i = j := by
  have hall := mayO_all h
  obtain ⟨a, _, a2, a3⟩ := hall i hi
  obtain ⟨b, _, b2, b3⟩ := hall j hj
  rw [a2, b2] at e
  rw [e] at a3
  omega

/-- Where it stands, told by any place. -/
theorem levO_at {o : Nat → Int} (h : mayO o = true) {v : Int} {i : Nat} (hi : i < 8) (e : o i = v) : levO o v = (i : Int) := by
  rcases levO_cases o v with ⟨_, h2⟩ | ⟨k, h1, h2, h3, _⟩
  · exact absurd e (h2 i hi)
  · rw [h1, mayO_once h h2 hi (h3.trans e.symm)]

theorem swapO_out {o : Nat → Int} {l : Int} (h : ¬ (0 ≤ l ∧ l ≤ 6)) : swapO o l = o := by funext i; simp [swapO, h]
theorem swapO_swapO (o : Nat → Int) (l : Int) : swapO (swapO o l) l = o := by
  funext i
  by_cases h : 0 ≤ l ∧ l ≤ 6
  · obtain ⟨m, rfl⟩ := Int.eq_ofNat_of_zero_le h.1
    by_cases h1 : i = m
    · subst h1
      have h2 : ¬ ((i : Int) + 1 = i) := by omega
      simp [swapO, h, h2]
    · by_cases h2 : i = m + 1
      · subst h2
        have h3 : ¬ ((m : Int) + 1 = m) := by omega
        simp [swapO, h, h3]
      · have h3 : ¬ (i : Int) = (m : Int) := by omega
        have h4 : ¬ (i : Int) = (m : Int) + 1 := by omega
        simp [swapO, h, h3, h4]
  · rw [swapO_out h, swapO_out h]

/-- What stands in one stands in the other. -/
theorem swapO_stands (o : Nat → Int) (l v : Int) : (∃ j : Nat, j < 8 ∧ swapO o l j = v) ↔ ∃ j : Nat, j < 8 ∧ o j = v := by
  have key : ∀ o : Nat → Int, (∃ j, j < 8 ∧ o j = v) → ∃ j, j < 8 ∧ swapO o l j = v := fun o => by
    rintro ⟨j, hj, e⟩
    by_cases h : 0 ≤ l ∧ l ≤ 6
    · by_cases h1 : (j : Int) = l
      · refine ⟨j + 1, by omega, ?_⟩
        have h2 : ¬ ((j : Int) + 1 = l) := by omega
        simp [swapO, h, h1, e]
        intro h3; omega
      · by_cases h2 : (j : Int) = l + 1
        · obtain ⟨m, rfl⟩ := Int.eq_ofNat_of_zero_le h.1
          refine ⟨m, by omega, ?_⟩
          have : m + 1 = j := by omega
          simp [swapO, h, this, e]
        · exact ⟨j, hj, by simp [swapO, h, h1, h2, e]⟩
    · exact ⟨j, hj, by rw [swapO_out h]; exact e⟩
  constructor
  · intro h
    have := key (swapO o l) h
    rwa [swapO_swapO] at this
  · exact key o
theorem swapO_may (o : Nat → Int) (l : Int) : mayO (swapO o l) = mayO o := by
  have h : mayO (swapO o l) = true ↔ mayO o = true := by
    rw [mayO_iff, mayO_iff]
    exact forall_congr' fun v => ⟨fun h hv => (swapO_stands o l v).1 (h hv), fun h hv => (swapO_stands o l v).2 (h hv)⟩
  cases h1 : mayO o <;> cases h2 : mayO (swapO o l) <;> simp_all

/-- What doesn't stand at one of both places stays; what does changes places. -/
theorem swapO_lev {o : Nat → Int} (h : mayO o = true) {l : Int} (h0 : 0 ≤ l) (h6 : l ≤ 6) {v : Nat} (hv : v < 8) :
    (levO o (v : Int) ≠ l → levO o (v : Int) ≠ l + 1 → levO (swapO o l) (v : Int) = levO o (v : Int)) ∧ (levO o (v : Int) = l → levO (swapO o l) (v : Int) = l + 1) ∧ (levO o (v : Int) = l + 1 → levO (swapO o l) (v : Int) = l) := by
  have hm : mayO (swapO o l) = true := by rw [swapO_may]; exact h
  obtain ⟨m, rfl⟩ := Int.eq_ofNat_of_zero_le h0
  rcases levO_cases o (v : Int) with ⟨_, h2⟩ | ⟨k, h1, h2, h3, _⟩
  · obtain ⟨j, hj, e⟩ := mayO_iff.1 h v hv
    exact absurd e (h2 j hj)
  · rw [h1]
    refine ⟨fun a b => ?_, fun a => ?_, fun a => ?_⟩
    · exact levO_at hm h2 (by simp [swapO, h0, h6, a, b, h3])
    · have hk : k = m := by omega
      subst hk
      have h5 : ¬ ((k : Int) + 1 = k) := by omega
      have := levO_at (v := (v : Int)) hm (i := k + 1) (by omega) (by simp [swapO, h0, h6, h5, h3])
      rw [this]; rfl
    · have hk : k = m + 1 := by omega
      subst hk
      exact levO_at hm (by omega) (by simp [swapO, h0, h6, h3])

end Go.Proofs.Ytbnjbnjhpccomaa
