/-
  Plain mathematics of layer 3's own law: Not, the sides of a top, constants; 77 nodes.
-/
import Derived.Test.YtgccgjeehggagaaDoorMath3c
namespace Go.Proofs.YtgccgjeehggagaaDoor
open Go Go.RowKit

/-! ### Not -/
theorem up_lt {x m : Nat} (hx : x < 256) (hm : m < 8) (h0 : x / 2 ^ m % 2 = 0) : x + 2 ^ m < 256 := by
  rcases pow8 hm with e | e | e | e | e | e | e | e <;> rw [e] at h0 ⊢ <;> omega

theorem shows_not (f : Fn) (m x : Nat) (hm : m < 8) (hx : x < 256) : shows (~~~f) m x = shows f m x := by
  unfold shows
  by_cases h0 : x / 2 ^ m % 2 = 0
  · have := up_lt hx hm h0
    rw [BitVec.getLsbD_not, BitVec.getLsbD_not, decide_eq_true hx, decide_eq_true this]
    cases f.getLsbD x <;> cases f.getLsbD (x + 2 ^ m) <;> rfl
  · rw [decide_eq_false h0, Bool.false_and, Bool.false_and]

theorem depF_iff (f : Fn) (m : Nat) : depF f m = true ↔ ∃ x, x < 256 ∧ shows f m x = true := by
  rw [depF, List.any_eq_true]
  exact ⟨fun ⟨x, h1, h2⟩ => ⟨x, List.mem_range.1 h1, h2⟩, fun ⟨x, h1, h2⟩ => ⟨x, List.mem_range.2 h1, h2⟩⟩

theorem depF_not (f : Fn) (m : Nat) (hm : m < 8) : depF (~~~f) m = depF f m := by
  rw [Bool.eq_iff_iff, depF_iff, depF_iff]
  constructor
  · rintro ⟨x, h1, h2⟩; exact ⟨x, h1, by rw [← shows_not f m x hm h1]; exact h2⟩
  · rintro ⟨x, h1, h2⟩; exact ⟨x, h1, by rw [shows_not f m x hm h1]; exact h2⟩

theorem depAny_not (f : Fn) (v : Int) : depAny (~~~f) v = depAny f v := by
  unfold depAny
  split
  · exact depF_not f _ (by omega)
  · rfl

theorem supF_not (f : Fn) : supF (~~~f) = 0 ↔ supF f = 0 := by
  rw [supF_zero, supF_zero]
  exact ⟨fun h i hi => by rw [← depF_not f i hi]; exact h i hi, fun h i hi => by rw [depF_not f i hi]; exact h i hi⟩

theorem topF_not (f : Fn) (o : Nat → Int) : topF (~~~f) o = topF f o := by
  have key : ∀ n i, topFrom (~~~f) o n i = topFrom f o n i := by
    intro n
    induction n with
    | zero => intro i; rfl
    | succ n ih => intro i; simp only [topFrom, depAny_not, ih]
  exact key 8 0

theorem cof_not (f : Fn) (v : Int) (b : Bool) : cofAny (~~~f) v b = ~~~(cofAny f v b) := by
  unfold cofAny
  split
  · refine fn_ext fun x hx => ?_
    have hr := rowF_lt x v.toNat b hx (by omega)
    rw [cofF_bit _ _ _ _ hx, BitVec.getLsbD_not, BitVec.getLsbD_not, cofF_bit _ _ _ _ hx, decide_eq_true hx, decide_eq_true hr]
  · rfl

theorem reach_not {f : Fn} {o : Nat → Int} {g : Fn} (h : Reach [~~~f] o g) : Reach [f] o (~~~g) := by
  induction h with
  | base h =>
    rw [List.mem_singleton] at h
    subst h
    rw [BitVec.not_not]
    exact .base (List.mem_singleton.2 rfl)
  | step b _ hs ht ih =>
    rename_i g _
    rw [← cof_not, ← topF_not g o]
    exact .step b ih (fun e => hs ((supF_not g).1 e)) (by rw [topF_not]; exact ht)

theorem nodup_map {α β : Type} {l : List α} {p : α → β} (hl : l.Nodup) (h : ∀ a ∈ l, ∀ b ∈ l, p a = p b → a = b) : (l.map p).Nodup := by
  induction l with
  | nil => exact List.nodup_nil
  | cons a l ih =>
    have hn := List.nodup_cons.1 hl
    rw [List.map_cons, List.nodup_cons]
    refine ⟨fun hm => ?_, ih hn.2 fun x hx y hy => h x (List.mem_cons_of_mem _ hx) y (List.mem_cons_of_mem _ hy)⟩
    obtain ⟨b, hb, e⟩ := List.mem_map.1 hm
    have := h b (List.mem_cons_of_mem _ hb) a (List.mem_cons_self ..) e
    subst this
    exact hn.1 hb

/-- Not of a function needs as many nodes as it. -/
theorem size_not (f : Fn) (o : Nat → Int) : sizeF [~~~f] o = sizeF [f] o := by
  obtain ⟨a, ha, hma, hla⟩ := sizeF_is [f] o
  refine sizeF_eq ⟨a.map (~~~·), nodup_map ha (fun x _ y _ e => by have := congrArg (~~~·) e; simpa using this), fun g => ?_, by rw [List.length_map, hla]⟩
  rw [List.mem_map]
  constructor
  · rintro ⟨x, hx, rfl⟩
    obtain ⟨h1, h2⟩ := (hma x).1 hx
    refine ⟨?_, fun e => h2 ((supF_not x).1 e)⟩
    have h3 : Reach [~~~(~~~f)] o x := by rw [BitVec.not_not]; exact h1
    exact reach_not h3
  · rintro ⟨h1, h2⟩
    exact ⟨~~~g, (hma _).2 ⟨reach_not h1, fun e => h2 ((supF_not g).1 e)⟩, by simp⟩

/-! ### The sides of a top -/
theorem sup_of_dep {f : Fn} {v : Int} (h : depAny f v = true) : supF f ≠ 0 := by
  have hr := depAny_range h
  intro e
  unfold depAny at h
  rw [if_pos hr, (supF_zero f).1 e v.toNat (by omega)] at h
  cases h

theorem dep_cofAny (f : Fn) (v u : Int) (b : Bool) (h : depAny f u = false) : depAny (cofAny f v b) u = false := by
  unfold depAny cofAny at *
  by_cases hu : 0 ≤ u ∧ u < 8
  · rw [if_pos hu] at h ⊢
    by_cases hv : 0 ≤ v ∧ v < 8
    · rw [if_pos hv]; exact dep_cof_other f _ _ b (by omega) (by omega) h
    · rw [if_neg hv]; exact h
  · rw [if_neg hu]

theorem reach_sides {f : Fn} {o : Nat → Int} {v : Int} {g : Fn} (h : Reach [cofAny f v false, cofAny f v true] o g) : depAny g v = false := by
  induction h with
  | base h =>
    simp only [List.mem_cons, List.not_mem_nil, or_false] at h
    rcases h with rfl | rfl <;> exact dep_cof _ _ _
  | step b _ _ _ ih => exact dep_cofAny _ _ _ _ ih

/-- With its top set, both sides need one node less. -/
theorem size_sides (f : Fn) (o : Nat → Int) (ht : 0 ≤ topF f o) : sizeF [f] o = sizeF [cofAny f (topF f o) false, cofAny f (topF f o) true] o + 1 := by
  have hd : depAny f (topF f o) = true := topFrom_dep f o 8 0 ht
  have hs := sup_of_dep hd
  obtain ⟨a, ha, hma, hla⟩ := sizeF_is [cofAny f (topF f o) false, cofAny f (topF f o) true] o
  refine sizeF_eq ⟨f :: a, List.nodup_cons.2 ⟨fun hf => ?_, ha⟩, fun g => ?_, by rw [List.length_cons, hla]⟩
  · have := reach_sides ((hma f).1 hf).1
    rw [hd] at this
    cases this
  · rw [List.mem_cons, hma]
    constructor
    · rintro (rfl | ⟨h1, h2⟩)
      · exact ⟨.base (List.mem_singleton.2 rfl), hs⟩
      · refine ⟨?_, h2⟩
        have hb : ∀ b, Reach [f] o (cofAny f (topF f o) b) := fun b => .step b (.base (List.mem_singleton.2 rfl)) hs ht
        clear h2 hma hla ha
        induction h1 with
        | base h =>
          simp only [List.mem_cons, List.not_mem_nil, or_false] at h
          rcases h with rfl | rfl
          · exact hb false
          · exact hb true
        | step b _ h3 h4 ih => exact .step b ih h3 h4
    · rintro ⟨h1, h2⟩
      have key : g = f ∨ Reach [cofAny f (topF f o) false, cofAny f (topF f o) true] o g := by
        clear h2 hma hla ha
        induction h1 with
        | base h => exact .inl (List.mem_singleton.1 h)
        | step b _ h3 h4 ih =>
          right
          rcases ih with rfl | ih
          · exact .base (by cases b <;> simp)
          · exact .step b ih h3 h4
      exact key.imp id fun h => ⟨h, h2⟩

/-! ### Constants -/
theorem size_zero (f : Fn) (o : Nat → Int) : sizeF [f] o = 0 ↔ supF f = 0 := by
  obtain ⟨a, ha, hma, hla⟩ := sizeF_is [f] o
  rw [← hla, List.length_eq_zero_iff]
  constructor
  · rintro rfl
    rcases Nat.eq_zero_or_pos (supF f) with h | h
    · exact h
    · have := (hma f).2 ⟨.base (List.mem_singleton.2 rfl), by omega⟩
      cases this
  · intro hs
    refine List.eq_nil_iff_forall_not_mem.2 fun g hg => ?_
    obtain ⟨h1, h2⟩ := (hma g).1 hg
    have : g = f := by
      clear h2 hg
      induction h1 with
      | base h => exact List.mem_singleton.1 h
      | step b _ h3 _ ih => subst ih; exact absurd hs h3
    subst this
    exact h2 hs

/-- All variables but a and b set to 0. -/
def projR (a b : Nat) (x : Nat) : Nat := (List.range 8).foldl (fun y v => if v = a ∨ v = b then y else rowF y v false) x
def ptR (a b : Nat) (p q : Bool) : Nat := (if p then 2 ^ a else 0) + (if q ∧ b ≠ a then 2 ^ b else 0)

theorem projR_eq (a b x : Nat) (ha : a < 8) (hb : b < 8) (hx : x < 256) : projR a b x = ptR a b (x.testBit a) (x.testBit b) := by
  have H : ∀ a : Fin 8, ∀ b : Fin 8, ∀ x : Fin 256, projR a b x = ptR a b ((x : Nat).testBit a) ((x : Nat).testBit b) := by decide +kernel
  exact H ⟨a, ha⟩ ⟨b, hb⟩ ⟨x, hx⟩

theorem indep_row (g : Fn) (v x : Nat) (hv : v < 8) (hx : x < 256) (h : depF g v = false) : g.getLsbD (rowF x v false) = g.getLsbD x := by
  have h1 : ∀ y, y < 256 → y / 2 ^ v % 2 = 0 → g.getLsbD y = g.getLsbD (y + 2 ^ v) := fun y hy h0 => by
    have hs : shows g v y = false := by
      cases hs : shows g v y
      · rfl
      · rw [depF_true hy hs] at h; cases h
    unfold shows at hs
    rw [decide_eq_true h0, Bool.true_and] at hs
    simpa using hs
  by_cases hb : x / 2 ^ v % 2 = 1
  · have e : rowF x v false = x - 2 ^ v := by unfold rowF; rw [if_pos hb]; simp
    have hle : 2 ^ v ≤ x ∧ (x - 2 ^ v) / 2 ^ v % 2 = 0 := by rcases pow8 hv with e | e | e | e | e | e | e | e <;> rw [e] at hb ⊢ <;> omega
    rw [e, h1 (x - 2 ^ v) (Nat.lt_of_le_of_lt (Nat.sub_le _ _) hx) hle.2, Nat.sub_add_cancel hle.1]
  · have e : rowF x v false = x := by unfold rowF; rw [if_neg hb]; simp
    rw [e]

theorem proj_bit (g : Fn) (a b x : Nat) (hx : x < 256) (h : ∀ v, v < 8 → v ≠ a → v ≠ b → depF g v = false) : g.getLsbD x = g.getLsbD (projR a b x) := by
  have key : ∀ (l : List Nat) (y : Nat), (∀ v ∈ l, v < 8) → y < 256 → g.getLsbD y = g.getLsbD (l.foldl (fun y v => if v = a ∨ v = b then y else rowF y v false) y) := by
    intro l
    induction l with
    | nil => intro y _ _; rfl
    | cons v l ih =>
      intro y hl hy
      rw [List.foldl_cons]
      have hv := hl v (List.mem_cons_self ..)
      by_cases hc : v = a ∨ v = b
      · rw [if_pos hc]; exact ih y (fun u hu => hl u (List.mem_cons_of_mem _ hu)) hy
      · rw [if_neg hc, ← ih (rowF y v false) (fun u hu => hl u (List.mem_cons_of_mem _ hu)) (rowF_lt _ _ _ hy hv), indep_row g v y hv hy (h v hv (fun e => hc (.inl e)) (fun e => hc (.inr e)))]
  exact key (List.range 8) x (fun v hv => List.mem_range.1 hv) hx

theorem bit_at (g : Fn) (a b x : Nat) (ha : a < 8) (hb : b < 8) (hx : x < 256) (h : ∀ v, v < 8 → v ≠ a → v ≠ b → depF g v = false) : g.getLsbD x = g.getLsbD (ptR a b (x.testBit a) (x.testBit b)) := by
  rw [proj_bit g a b x hx h, projR_eq a b x ha hb hx]

/-- A function that depends on nothing is a constant. -/
theorem const_of_sup (f : Fn) (h : supF f = 0) : f = BitVec.allOnes 256 ∨ f = 0#256 := by
  have hd := (supF_zero f).1 h
  have key : ∀ x, x < 256 → f.getLsbD x = f.getLsbD 0 := fun x hx => by
    rw [bit_at f 0 0 x (by decide) (by decide) hx (fun v hv _ _ => hd v hv)]
    cases x.testBit 0
    · rfl
    · have := indep_row f 0 1 (by decide) (by decide) (hd 0 (by decide))
      exact this.symm
  cases h0 : f.getLsbD 0
  · right
    exact fn_ext fun x hx => by rw [key x hx, h0, BitVec.getLsbD_zero]
  · left
    exact fn_ext fun x hx => by rw [key x hx, h0, BitVec.getLsbD_allOnes, decide_eq_true hx]

theorem sup_const : supF (BitVec.allOnes 256) = 0 ∧ supF (0#256) = 0 := by decide +kernel

end Go.Proofs.YtgccgjeehggagaaDoor
