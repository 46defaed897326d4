/-
  Plain mathematics of layer 3: the top of a function in an order, the nodes of functions.
-/
import Derived.Test.YtgccgjeehggagaaDoorMath2b
namespace Go.Proofs.YtgccgjeehggagaaDoor
open Go Go.RowKit

/-- The first of n numbers from place i on, on which f depends; -1, if there is none. -/
def topFrom (f : Fn) (o : Nat → Int) : Nat → Nat → Int
  | 0, _ => -1
  | n + 1, i => if depAny f (o i) then o i else topFrom f o n (i + 1)

/-- The top. -/
def topF (f : Fn) (o : Nat → Int) : Int := topFrom f o 8 0

/-- What is reached from functions by setting tops. -/
inductive Reach (l : List Fn) (o : Nat → Int) : Fn → Prop
  | base {f : Fn} (h : f ∈ l) : Reach l o f
  | step {f : Fn} (b : Bool) (h : Reach l o f) (hs : supF f ≠ 0) (ht : 0 ≤ topF f o) : Reach l o (cofAny f (topF f o) b)

/-- A node of these functions. -/
def IsNode (l : List Fn) (o : Nat → Int) (f : Fn) : Prop := Reach l o f ∧ supF f ≠ 0

/-- n is how many nodes there are. -/
def IsSize (l : List Fn) (o : Nat → Int) (n : Nat) : Prop := ∃ out : List Fn, out.Nodup ∧ (∀ f, f ∈ out ↔ IsNode l o f) ∧ out.length = n

theorem nodup_length_le {l k : List Fn} (hl : l.Nodup) (h : ∀ f, f ∈ l → f ∈ k) : l.length ≤ k.length := by
  induction l generalizing k with
  | nil => exact Nat.zero_le _
  | cons a l ih =>
    have hn := List.nodup_cons.1 hl
    have ha : a ∈ k := h a (List.mem_cons_self ..)
    have h2 : ∀ f, f ∈ l → f ∈ k.erase a := fun f hf => (List.mem_erase_of_ne (fun e : f = a => hn.1 (by rw [← e]; exact hf))).2 (h f (List.mem_cons_of_mem _ hf))
    have h3 := ih hn.2 h2
    rw [List.length_erase_of_mem ha] at h3
    have : 0 < k.length := List.length_pos_of_mem ha
    simp only [List.length_cons]
    omega

theorem IsSize.unique {l : List Fn} {o : Nat → Int} {n m : Nat} (h : IsSize l o n) (k : IsSize l o m) : n = m := by
  obtain ⟨a, ha, hma, rfl⟩ := h
  obtain ⟨b, hb, hmb, rfl⟩ := k
  exact Nat.le_antisymm (nodup_length_le ha fun f hf => (hmb f).2 ((hma f).1 hf)) (nodup_length_le hb fun f hf => (hma f).2 ((hmb f).1 hf))

/-- On how many variables f depends. -/
def supN (f : Fn) : Nat := (List.range 8).countP (depF f)

theorem supFrom_zero (f : Fn) (n : Nat) : ∀ j, supFrom f n j = 0 ↔ ∀ i, j ≤ i → i < j + n → depF f i = false := by
  induction n with
  | zero => intro j; simp only [supFrom, true_iff]; intro i h1 h2; omega
  | succ n ih =>
    intro j
    simp only [supFrom]
    constructor
    · intro h i h1 h2
      have hd : depF f j = false := by
        cases hd : depF f j
        · rfl
        · rw [hd] at h; simp at h
      have h0 : supFrom f n (j + 1) = 0 := by rw [hd] at h; simp at h; omega
      rcases Nat.lt_or_ge j i with hlt | hge
      · exact (ih (j + 1)).1 h0 i hlt (by omega)
      · obtain rfl : i = j := by omega
        exact hd
    · intro h
      have h0 := (ih (j + 1)).2 fun i h1 h2 => h i (by omega) (by omega)
      rw [h0, h j (Nat.le_refl _) (by omega)]
      simp

theorem supF_zero (f : Fn) : supF f = 0 ↔ ∀ i, i < 8 → depF f i = false := by
  rw [supF, supFrom_zero]
  constructor
  · intro h i hi; exact h i (Nat.zero_le _) (by omega)
  · intro h i _ hi; exact h i (by omega)

theorem topFrom_dep (f : Fn) (o : Nat → Int) (n : Nat) : ∀ i, 0 ≤ topFrom f o n i → depAny f (topFrom f o n i) = true := by
  induction n with
  | zero => intro i h; simp [topFrom] at h
  | succ n ih =>
    intro i h
    simp only [topFrom] at h ⊢
    split
    · assumption
    · rename_i hd
      rw [if_neg hd] at h
      exact ih (i + 1) h

theorem depAny_range {f : Fn} {v : Int} (h : depAny f v = true) : 0 ≤ v ∧ v < 8 := by
  unfold depAny at h
  split at h
  · assumption
  · cases h

/-- What doesn't depend on a variable doesn't with another one set. -/
theorem dep_cof_other (f : Fn) (m n : Nat) (b : Bool) (hm : m < 8) (hn : n < 8) (h : depF f n = false) : depF (cofF f m b) n = false := by
  by_cases e : m = n
  · subst e; exact dep_cofF f m b hm
  · refine depF_false fun x hx => ?_
    unfold shows
    by_cases h0 : x / 2 ^ n % 2 = 0
    · have hx2 : x + 2 ^ n < 256 := by rcases pow8 hn with e | e | e | e | e | e | e | e <;> rw [e] at h0 ⊢ <;> omega
      rw [cofF_bit _ _ _ _ hx, cofF_bit _ _ _ _ hx2]
      have hbit : x.testBit n = false := by rw [Nat.testBit_eq_decide_div_mod_eq]; simp; omega
      have e1 : x + 2 ^ n = rowF x n true := by unfold rowF; rw [if_neg (by omega), if_pos rfl]
      have e2 : rowF (x + 2 ^ n) m b = rowF x m b + 2 ^ n := by
        rw [e1, rowF_rowF x n m true b hx hn hm (Ne.symm e)]
        have hb2 : (rowF x m b).testBit n = false := by rw [rowF_test _ _ _ _ hx hm hn, if_neg (Ne.symm e)]; exact hbit
        unfold rowF at hb2 ⊢
        rw [Nat.testBit_eq_decide_div_mod_eq] at hb2
        have hb3 := of_decide_eq_false hb2
        rw [if_neg hb3]
        simp
      have hr0 : (rowF x m b) / 2 ^ n % 2 = 0 := by
        have hb2 : (rowF x m b).testBit n = false := by rw [rowF_test _ _ _ _ hx hm hn, if_neg (Ne.symm e)]; exact hbit
        rw [Nat.testBit_eq_decide_div_mod_eq] at hb2
        have := of_decide_eq_false hb2
        omega
      have hs : shows f n (rowF x m b) = false := by
        cases hs : shows f n (rowF x m b)
        · rfl
        · rw [depF_true (rowF_lt _ _ _ hx hm) hs] at h; cases h
      unfold shows at hs
      rw [decide_eq_true hr0, Bool.true_and] at hs
      rw [e2, hs, Bool.and_false]
    · rw [decide_eq_false h0, Bool.false_and]

theorem countP_lt {l : List Nat} {p q : Nat → Bool} (h : ∀ x ∈ l, p x = true → q x = true) {a : Nat} (ha : a ∈ l) (hp : p a = false) (hq : q a = true) : l.countP p < l.countP q := by
  induction l with
  | nil => cases ha
  | cons b l ih =>
    rw [List.countP_cons, List.countP_cons]
    rcases List.mem_cons.1 ha with rfl | ha
    · rw [hp, hq]
      have := List.countP_mono_left (l := l) (p := p) (q := q) fun x hx => h x (List.mem_cons_of_mem _ hx)
      simp
      omega
    · have := ih (fun x hx => h x (List.mem_cons_of_mem _ hx)) ha
      cases hb : p b
      · cases q b <;> simp <;> omega
      · rw [h b (List.mem_cons_self ..) hb]; simp; omega

/-- With its top set a function depends on fewer variables. -/
theorem supN_cof (f : Fn) (o : Nat → Int) (b : Bool) (h : 0 ≤ topF f o) : supN (cofAny f (topF f o) b) < supN f := by
  have hd := topFrom_dep f o 8 0 h
  have hr := depAny_range hd
  change 0 ≤ topF f o ∧ topF f o < 8 at hr
  change depAny f (topF f o) = true at hd
  generalize topF f o = v at *
  have hm : v.toNat < 8 := by omega
  unfold depAny at hd
  rw [if_pos hr] at hd
  unfold cofAny
  rw [if_pos hr]
  refine countP_lt (a := v.toNat) (fun x hx hp => ?_) (List.mem_range.2 hm) (dep_cofF f _ b hm) hd
  cases hx2 : depF f x
  · rw [dep_cof_other f v.toNat x b hm (List.mem_range.1 hx) hx2] at hp; cases hp
  · rfl

end Go.Proofs.YtgccgjeehggagaaDoor
