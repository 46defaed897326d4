/-
  Plain mathematics of layer 3's own law: in an order of all eight one function needs 77 nodes at most.
-/
import Derived.Test.YtgccgjeehggagaaDoorMath3e
namespace Go.Proofs.YtgccgjeehggagaaDoor
open Go Go.RowKit

/-- Each variable stands somewhere in the order. -/
def Full (o : Nat → Int) : Prop := ∀ v : Nat, v < 8 → ∃ i, i < 8 ∧ o i = (v : Int)

/-- The place of the first number of n from place i on, on which f depends. -/
def posFrom (f : Fn) (o : Nat → Int) : Nat → Nat → Nat
  | 0, i => i
  | n + 1, i => if depAny f (o i) then i else posFrom f o n (i + 1)
def posF (f : Fn) (o : Nat → Int) : Nat := posFrom f o 8 0

theorem posFrom_spec (f : Fn) (o : Nat → Int) (n : Nat) : ∀ i, i ≤ posFrom f o n i ∧ posFrom f o n i ≤ i + n ∧ (∀ j, i ≤ j → j < posFrom f o n i → depAny f (o j) = false) ∧ (posFrom f o n i < i + n → depAny f (o (posFrom f o n i)) = true ∧ topFrom f o n i = o (posFrom f o n i)) ∧ (posFrom f o n i = i + n → topFrom f o n i = -1) := by
  induction n with
  | zero => intro i; refine ⟨Nat.le_refl _, Nat.le_refl _, fun j h1 h2 => ?_, fun h => ?_, fun _ => rfl⟩ <;> simp only [posFrom] at * <;> omega
  | succ n ih =>
    intro i
    simp only [posFrom, topFrom]
    by_cases hd : depAny f (o i) = true
    · rw [if_pos hd, if_pos hd]
      exact ⟨Nat.le_refl _, by omega, fun j h1 h2 => by omega, fun _ => ⟨hd, rfl⟩, fun h => by omega⟩
    · rw [if_neg hd, if_neg hd]
      obtain ⟨h1, h2, h3, h4, h5⟩ := ih (i + 1)
      refine ⟨by omega, by omega, fun j hj1 hj2 => ?_, fun h => h4 (by omega), fun h => h5 (by omega)⟩
      rcases Nat.lt_or_ge i j with h | h
      · exact h3 j h hj2
      · obtain rfl : j = i := by omega
        simpa using hd

theorem posF_spec (f : Fn) (o : Nat → Int) : posF f o ≤ 8 ∧ (∀ j, j < posF f o → depAny f (o j) = false) ∧ (posF f o < 8 → depAny f (o (posF f o)) = true ∧ topF f o = o (posF f o)) ∧ (posF f o = 8 → topF f o = -1) := by
  obtain ⟨_, h2, h3, h4, h5⟩ := posFrom_spec f o 8 0
  exact ⟨by unfold posF; omega, fun j hj => h3 j (Nat.zero_le _) hj, fun h => h4 (by unfold posF at h; omega), fun h => h5 (by unfold posF at h; omega)⟩

/-- In a full order what has no top depends on nothing. -/
theorem pos_of_sup {f : Fn} {o : Nat → Int} (ho : Full o) (h : supF f ≠ 0) : posF f o < 8 := by
  obtain ⟨h1, h2, _, _⟩ := posF_spec f o
  rcases Nat.lt_or_ge (posF f o) 8 with h' | h'
  · exact h'
  · refine absurd ((supF_zero f).2 fun v hv => ?_) h
    obtain ⟨i, hi, e⟩ := ho v hv
    have := h2 i (by omega)
    rw [e] at this
    unfold depAny at this
    rw [if_pos (by omega), Int.toNat_natCast] at this
    exact this

theorem top_neg {f : Fn} {o : Nat → Int} (ho : Full o) : topF f o = -1 ↔ supF f = 0 := by
  obtain ⟨h1, h2, h3, h4⟩ := posF_spec f o
  constructor
  · intro ht
    rcases Nat.eq_zero_or_pos (supF f) with h | h
    · exact h
    · have hp := pos_of_sup ho (by omega : supF f ≠ 0)
      obtain ⟨hd, e⟩ := h3 hp
      have := depAny_range hd
      omega
  · intro hs
    refine h4 ?_
    rcases Nat.lt_or_ge (posF f o) 8 with h' | h'
    · exact absurd hs (sup_of_dep (h3 h').1)
    · omega

/-- All that come of f by setting the first j numbers of the order. -/
def cofs (f : Fn) (o : Nat → Int) : Nat → List Fn
  | 0 => [f]
  | j + 1 => (cofs f o j).map (fun g => cofAny g (o j) false) ++ (cofs f o j).map (fun g => cofAny g (o j) true)

theorem cofs_length (f : Fn) (o : Nat → Int) (j : Nat) : (cofs f o j).length = 2 ^ j := by
  induction j with
  | zero => rfl
  | succ j ih => simp only [cofs, List.length_append, List.length_map, ih]; rw [Nat.pow_succ]; omega

theorem cofs_step {f g : Fn} {o : Nat → Int} {j : Nat} (h : g ∈ cofs f o j) (b : Bool) : cofAny g (o j) b ∈ cofs f o (j + 1) := by
  simp only [cofs, List.mem_append, List.mem_map]
  cases b
  · exact .inl ⟨g, h, rfl⟩
  · exact .inr ⟨g, h, rfl⟩

/-- What doesn't depend on a variable is as it was when it is set. -/
theorem cof_indep {g : Fn} {v : Int} {b : Bool} (h : depAny g v = false) : cofAny g v b = g := by
  unfold cofAny
  split
  · rename_i hv
    unfold depAny at h
    rw [if_pos hv] at h
    have hm : v.toNat < 8 := by omega
    refine fn_ext fun x hx => ?_
    rw [cofF_bit _ _ _ _ hx]
    have h1 := indep_row g v.toNat x hm hx h
    have h2 := indep_row g v.toNat (rowF x v.toNat b) hm (rowF_lt _ _ _ hx hm) h
    rw [rowF_twice _ _ _ _ hx hm] at h2
    rw [← h2, h1]
  · rfl

theorem cofs_up {f g : Fn} {o : Nat → Int} {p : Nat} (h : g ∈ cofs f o p) (d : Nat) : (∀ i, p ≤ i → i < p + d → depAny g (o i) = false) → g ∈ cofs f o (p + d) := by
  induction d with
  | zero => intro _; exact h
  | succ d ih =>
    intro hi
    have h1 := cofs_step (ih fun i h1 h2 => hi i h1 (by omega)) false
    rwa [cof_indep (hi (p + d) (by omega) (by omega))] at h1

theorem reach_cofs {f : Fn} {o : Nat → Int} {g : Fn} (h : Reach [f] o g) : ∃ p, (∀ i, i < p → depAny g (o i) = false) ∧ g ∈ cofs f o p := by
  induction h with
  | base h =>
    rw [List.mem_singleton] at h
    subst h
    exact ⟨0, fun i hi => by omega, List.mem_singleton.2 rfl⟩
  | step b hr hs ht ih =>
    rename_i g
    obtain ⟨p, h1, h2⟩ := ih
    obtain ⟨q1, q2, q3, q4⟩ := posF_spec g o
    have hq : posF g o < 8 := by
      rcases Nat.lt_or_ge (posF g o) 8 with h | h
      · exact h
      · have := q4 (by omega); omega
    obtain ⟨hd, e⟩ := q3 hq
    have hpq : p ≤ posF g o := by
      rcases Nat.lt_or_ge (posF g o) p with h | h
      · rw [h1 _ h] at hd; cases hd
      · exact h
    have h3 := cofs_up h2 (posF g o - p) fun i hi1 hi2 => q2 i (by omega)
    rw [show p + (posF g o - p) = posF g o by omega] at h3
    refine ⟨posF g o + 1, fun i hi => ?_, by rw [e]; exact cofs_step h3 b⟩
    rw [e]
    rcases Nat.lt_or_ge i (posF g o) with h | h
    · exact dep_cofAny _ _ _ _ (q2 i h)
    · obtain rfl : i = posF g o := by omega
      exact dep_cof _ _ _

theorem node_level {f : Fn} {o : Nat → Int} {g : Fn} (h : Reach [f] o g) (hp : posF g o < 8) : g ∈ cofs f o (posF g o) := by
  obtain ⟨p, h1, h2⟩ := reach_cofs h
  obtain ⟨q1, q2, q3, q4⟩ := posF_spec g o
  obtain ⟨hd, e⟩ := q3 hp
  have hpq : p ≤ posF g o := by
    rcases Nat.lt_or_ge (posF g o) p with h | h
    · rw [h1 _ h] at hd; cases hd
    · exact h
  have h3 := cofs_up h2 (posF g o - p) fun i hi1 hi2 => q2 i (by omega)
  rwa [show p + (posF g o - p) = posF g o by omega] at h3

theorem nodup_len {α : Type} [DecidableEq α] {l k : List α} (hl : l.Nodup) (h : ∀ f, f ∈ l → f ∈ k) : l.length ≤ k.length := by
  induction l generalizing k with
  | nil => exact Nat.zero_le _
  | cons a l ih =>
    have hn := List.nodup_cons.1 hl
    have ha : a ∈ k := h a (List.mem_cons_self ..)
    have h2 : ∀ f, f ∈ l → f ∈ k.erase a := fun f hf => (List.mem_erase_of_ne (fun e : f = a => hn.1 (by rw [← e]; exact hf))).2 (h f (List.mem_cons_of_mem _ hf))
    have h3 := ih hn.2 h2
    rw [List.length_erase_of_mem ha] at h3
    have : 0 < k.length := List.length_pos_of_mem ha
    simp only [List.length_cons]
    omega

/-- The four values of a function of two variables. -/
def pat (a b : Nat) (g : Fn) : Bool × Bool × Bool × Bool := (g.getLsbD (ptR a b false false), g.getLsbD (ptR a b false true), g.getLsbD (ptR a b true false), g.getLsbD (ptR a b true true))

theorem pat_inj {a b : Nat} (ha : a < 8) (hb : b < 8) {g h : Fn} (hg : ∀ v, v < 8 → v ≠ a → v ≠ b → depF g v = false) (hh : ∀ v, v < 8 → v ≠ a → v ≠ b → depF h v = false) (e : pat a b g = pat a b h) : g = h := by
  simp only [pat, Prod.mk.injEq] at e
  obtain ⟨e1, e2, e3, e4⟩ := e
  refine fn_ext fun x hx => ?_
  rw [bit_at g a b x ha hb hx hg, bit_at h a b x ha hb hx hh]
  cases x.testBit a <;> cases x.testBit b
  · exact e1
  · exact e2
  · exact e3
  · exact e4

/-- A function that is alike on both sides of a doesn't depend on it. -/
theorem pat_dep {a b : Nat} (ha : a < 8) (hb : b < 8) {g : Fn} (hg : ∀ v, v < 8 → v ≠ a → v ≠ b → depF g v = false) (e1 : g.getLsbD (ptR a b false false) = g.getLsbD (ptR a b true false)) (e2 : g.getLsbD (ptR a b false true) = g.getLsbD (ptR a b true true)) (hab : a ≠ b) : depF g a = false :=
  depF_false fun x hx => by
    unfold shows
    by_cases h0 : x / 2 ^ a % 2 = 0
    · have hx2 := up_lt hx ha h0
      have er : x + 2 ^ a = rowF x a true := by unfold rowF; rw [if_neg (by omega), if_pos rfl]
      have t1 : x.testBit a = false := by rw [Nat.testBit_eq_decide_div_mod_eq]; simp; omega
      have t2 : (x + 2 ^ a).testBit a = true := by rw [er, rowF_test _ _ _ _ hx ha ha, if_pos rfl]
      have t3 : (x + 2 ^ a).testBit b = x.testBit b := by rw [er, rowF_test _ _ _ _ hx ha hb, if_neg (Ne.symm hab)]
      rw [bit_at g a b x ha hb hx hg, bit_at g a b _ ha hb hx2 hg, t1, t2, t3]
      cases x.testBit b
      · rw [e1]; simp
      · rw [e2]; simp
    · rw [decide_eq_false h0, Bool.false_and]

theorem pat_one {a : Nat} (ha : a < 8) {g : Fn} (hg : ∀ v, v < 8 → v ≠ a → depF g v = false) (e1 : g.getLsbD (ptR a a false false) = g.getLsbD (ptR a a true true)) : depF g a = false :=
  depF_false fun x hx => by
    unfold shows
    by_cases h0 : x / 2 ^ a % 2 = 0
    · have hx2 := up_lt hx ha h0
      have er : x + 2 ^ a = rowF x a true := by unfold rowF; rw [if_neg (by omega), if_pos rfl]
      have t1 : x.testBit a = false := by rw [Nat.testBit_eq_decide_div_mod_eq]; simp; omega
      have t2 : (x + 2 ^ a).testBit a = true := by rw [er, rowF_test _ _ _ _ hx ha ha, if_pos rfl]
      rw [bit_at g a a x ha ha hx (fun v hv h _ => hg v hv h), bit_at g a a _ ha ha hx2 (fun v hv h _ => hg v hv h), t1, t2, e1]
      simp
    · rw [decide_eq_false h0, Bool.false_and]

end Go.Proofs.YtgccgjeehggagaaDoor
