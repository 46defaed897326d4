/-
  Plain mathematics of layer 3's own law: 77.
-/
import Derived.Test.YtgccgjeehggagaaDoorMath3f
namespace Go.Proofs.YtgccgjeehggagaaDoor
open Go Go.RowKit

theorem by_level (p : Fn → Nat) (l : List Fn) (h : ∀ g, g ∈ l → p g < 8) :
    l.length = (l.filter (fun g => p g == 0)).length + (l.filter (fun g => p g == 1)).length + (l.filter (fun g => p g == 2)).length + (l.filter (fun g => p g == 3)).length + (l.filter (fun g => p g == 4)).length + (l.filter (fun g => p g == 5)).length + (l.filter (fun g => p g == 6)).length + (l.filter (fun g => p g == 7)).length := by
  induction l with
  | nil => rfl
  | cons a l ih =>
    have ih := ih fun g hg => h g (List.mem_cons_of_mem _ hg)
    have ha := h a (List.mem_cons_self ..)
    simp only [List.filter_cons, List.length_cons]
    rcases (by omega : p a = 0 ∨ p a = 1 ∨ p a = 2 ∨ p a = 3 ∨ p a = 4 ∨ p a = 5 ∨ p a = 6 ∨ p a = 7) with e | e | e | e | e | e | e | e <;> rw [e] <;> simp <;> omega

/-- All patterns of two variables that depend on the first. -/
def pats : List (Bool × Bool × Bool × Bool) :=
  [(false, false, false, true), (false, false, true, false), (false, false, true, true), (false, true, false, false), (false, true, true, false), (false, true, true, true),
   (true, false, false, false), (true, false, false, true), (true, false, true, true), (true, true, false, false), (true, true, false, true), (true, true, true, false)]

theorem pats_mem (p q r s : Bool) (h : ¬ (p = r ∧ q = s)) : (p, q, r, s) ∈ pats := by
  cases p <;> cases q <;> cases r <;> cases s <;> first | exact absurd ⟨rfl, rfl⟩ h | decide

theorem level_pat {g : Fn} {a b : Nat} (ha : a < 8) (hb : b < 8) (hg : ∀ v, v < 8 → v ≠ a → v ≠ b → depF g v = false) (hd : depF g a = true) : pat a b g ∈ pats := by
  refine pats_mem _ _ _ _ fun ⟨e1, e2⟩ => ?_
  by_cases hab : a = b
  · subst hab
    have e3 : ptR a a false true = ptR a a false false := by simp [ptR]
    rw [e3] at e2
    rw [pat_one ha (fun v hv h => hg v hv h h) e2] at hd
    cases hd
  · rw [pat_dep ha hb hg e1 e2 hab] at hd
    cases hd

theorem level_six {o : Nat → Int} (ho : Full o) {l : List Fn} (hl : l.Nodup) (h : ∀ g, g ∈ l → posF g o = 6) : l.length ≤ 12 := by
  cases l with
  | nil => exact Nat.zero_le _
  | cons g0 l =>
    have hr : 0 ≤ o 6 ∧ o 6 < 8 := by
      obtain ⟨_, _, h3, _⟩ := posF_spec g0 o
      have e := h g0 (List.mem_cons_self ..)
      rw [e] at h3
      exact depAny_range (h3 (by decide)).1
    generalize g0 :: l = L at *
    obtain ⟨b, hb, hbo⟩ : ∃ b, b < 8 ∧ ∀ v : Nat, v < 8 → o 7 = (v : Int) → v = b := by
      by_cases h7 : 0 ≤ o 7 ∧ o 7 < 8
      · exact ⟨(o 7).toNat, by omega, fun v _ e => by omega⟩
      · exact ⟨0, by decide, fun v _ e => by omega⟩
    have hind : ∀ g, g ∈ L → (∀ v, v < 8 → v ≠ (o 6).toNat → v ≠ b → depF g v = false) ∧ depF g (o 6).toNat = true := fun g hg => by
      obtain ⟨_, h2, h3, _⟩ := posF_spec g o
      rw [h g hg] at h2 h3
      refine ⟨fun v hv h6 h7 => ?_, ?_⟩
      · obtain ⟨i, hi, e⟩ := ho v hv
        rcases (by omega : i < 6 ∨ i = 6 ∨ i = 7) with hi | rfl | rfl
        · have := h2 i hi
          rw [e] at this
          unfold depAny at this
          rwa [if_pos (by omega), Int.toNat_natCast] at this
        · omega
        · exact absurd (hbo v hv e) h7
      · have := (h3 (by decide)).1
        unfold depAny at this
        rwa [if_pos hr] at this
    have ha : (o 6).toNat < 8 := by omega
    have h1 := nodup_len (nodup_map (p := pat (o 6).toNat b) hl fun x hx y hy e => pat_inj ha hb (hind x hx).1 (hind y hy).1 e) (k := pats) fun p hp => by
      obtain ⟨g, hg, rfl⟩ := List.mem_map.1 hp
      exact level_pat ha hb (hind g hg).1 (hind g hg).2
    rw [List.length_map] at h1
    exact h1

theorem level_seven {o : Nat → Int} (ho : Full o) {l : List Fn} (hl : l.Nodup) (h : ∀ g, g ∈ l → posF g o = 7) : l.length ≤ 2 := by
  cases l with
  | nil => exact Nat.zero_le _
  | cons g0 l =>
    have hr : 0 ≤ o 7 ∧ o 7 < 8 := by
      obtain ⟨_, _, h3, _⟩ := posF_spec g0 o
      have e := h g0 (List.mem_cons_self ..)
      rw [e] at h3
      exact depAny_range (h3 (by decide)).1
    generalize g0 :: l = L at *
    have hind : ∀ g, g ∈ L → (∀ v, v < 8 → v ≠ (o 7).toNat → depF g v = false) ∧ depF g (o 7).toNat = true := fun g hg => by
      obtain ⟨_, h2, h3, _⟩ := posF_spec g o
      rw [h g hg] at h2 h3
      refine ⟨fun v hv h7 => ?_, ?_⟩
      · obtain ⟨i, hi, e⟩ := ho v hv
        rcases (by omega : i < 7 ∨ i = 7) with hi | rfl
        · have := h2 i hi
          rw [e] at this
          unfold depAny at this
          rwa [if_pos (by omega), Int.toNat_natCast] at this
        · omega
      · have := (h3 (by decide)).1
        unfold depAny at this
        rwa [if_pos hr] at this
    have ha : (o 7).toNat < 8 := by omega
    have h1 := nodup_len (nodup_map (p := pat (o 7).toNat (o 7).toNat) hl fun x hx y hy e => pat_inj ha ha (fun v hv h _ => (hind x hx).1 v hv h) (fun v hv h _ => (hind y hy).1 v hv h) e) (k := [(false, false, true, true), (true, true, false, false)]) fun p hp => by
      obtain ⟨g, hg, rfl⟩ := List.mem_map.1 hp
      have e3 : ptR (o 7).toNat (o 7).toNat false true = ptR (o 7).toNat (o 7).toNat false false := by simp [ptR]
      have e4 : ptR (o 7).toNat (o 7).toNat true false = ptR (o 7).toNat (o 7).toNat true true := by simp [ptR]
      unfold pat
      rw [e3, e4]
      have hne : ¬ g.getLsbD (ptR (o 7).toNat (o 7).toNat false false) = g.getLsbD (ptR (o 7).toNat (o 7).toNat true true) := fun e => by
        have := pat_one ha (hind g hg).1 e
        rw [(hind g hg).2] at this
        cases this
      revert hne
      cases g.getLsbD (ptR (o 7).toNat (o 7).toNat false false) <;> cases g.getLsbD (ptR (o 7).toNat (o 7).toNat true true) <;> simp
    rw [List.length_map] at h1
    exact h1

/-- In an order of all eight one function needs 77 nodes at most. -/
theorem size_77 (f : Fn) (o : Nat → Int) (ho : Full o) : sizeF [f] o ≤ 77 := by
  obtain ⟨a, ha, hma, hla⟩ := sizeF_is [f] o
  have hp : ∀ g, g ∈ a → posF g o < 8 := fun g hg => pos_of_sup ho ((hma g).1 hg).2
  have hf : ∀ j, ∀ g, g ∈ a.filter (fun g => posF g o == j) → g ∈ a ∧ posF g o = j := fun j g hg => by simpa using List.mem_filter.1 hg
  have hn : ∀ j, (a.filter (fun g => posF g o == j)).Nodup := fun j => ha.sublist List.filter_sublist
  have hlev : ∀ j, j < 8 → (a.filter (fun g => posF g o == j)).length ≤ 2 ^ j := fun j hj => by
    rw [← cofs_length f o j]
    refine nodup_len (hn j) fun g hg => ?_
    obtain ⟨h1, h2⟩ := hf j g hg
    have := node_level ((hma g).1 h1).1 (by omega)
    rwa [h2] at this
  have h0 := hlev 0 (by decide)
  have h1 := hlev 1 (by decide)
  have h2 := hlev 2 (by decide)
  have h3 := hlev 3 (by decide)
  have h4 := hlev 4 (by decide)
  have h5 := hlev 5 (by decide)
  have h6 := level_six ho (hn 6) fun g hg => (hf 6 g hg).2
  have h7 := level_seven ho (hn 7) fun g hg => (hf 7 g hg).2
  have hs := by_level (fun g => posF g o) a hp
  omega

end Go.Proofs.YtgccgjeehggagaaDoor
