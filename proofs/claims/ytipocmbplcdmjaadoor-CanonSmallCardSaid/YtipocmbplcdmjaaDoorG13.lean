/-
  Texts of this proof, one behind the other: Math3g, Math3h, BuildM, Tab, TabIte.
-/
import Derived.Test.YtipocmbplcdmjaaDoorG12
import Derived.Test.YtipocmbplcdmjaaDoorG11
import Derived.Test.YtipocmbplcdmjaaDoorProg
import Derived.WalkKit
import Derived.Outline
import Derived.RegionTactic
import Derived.ChangeAlike
import Derived.Handy
import Derived.StillTailTactics
import Derived.Deep.RegionHeld3
import Derived.KernelRfl
import Derived.Test.YtipocmbplcdmjaaDoorG3
import Derived.Lib.Hide
/-
  Plain mathematics of layer 3's own law: 77.
-/
namespace Go.Proofs.YtipocmbplcdmjaaDoor
open Go Go.RowKit

theorem by_level (p : Fn → Nat) (l : List Fn) (h : ∀ g, g ∈ l → p g < 8) :
    l.length = (l.filter (fun g => p g == 0)).length + (l.filter (fun g => p g == 1)).length + (l.filter (fun g => p g == 2)).length + (l.filter (fun g => p g == 3)).length + (l.filter (fun g => p g == 4)).length + (l.filter (fun g => p g == 5)).length + (l.filter (fun g => p g == 6)).length + (l.filter (fun g => p g == 7)).length := by
  induction l with
  | nil => rfl
  | cons a l ih =>
    have ih := ih fun g hg => h g (List.mem_cons_of_mem _ hg)
    have ha := h a (List.mem_cons_self ..)
    simp only [List.filter_cons, List.length_cons]
    rcases (by omega : p a = 0 ∨ p a = 1 ∨ p a = 2 ∨ p a = 3 ∨ p a = 4 ∨ p a = 5 ∨ p a = 6 ∨ p a = 7) with e | e | e | e | e | e | e | e <;> rw [e] <;> simp <;> omega

/-- All patterns of two variables that depend on the first. -/
def pats : List (Bool × Bool × Bool × Bool) :=
  [(false, false, false, true), (false, false, true, false), (false, false, true, true), (false, true, false, false), (false, true, true, false), (false, true, true, true),
   (true, false, false, false), (true, false, false, true), (true, false, true, true), (true, true, false, false), (true, true, false, true), (true, true, true, false)]

theorem pats_mem (p q r s : Bool) (h : ¬ (p = r ∧ q = s)) : (p, q, r, s) ∈ pats := by
  cases p <;> cases q <;> cases r <;> cases s <;> first | exact absurd ⟨rfl, rfl⟩ h | decide

theorem level_pat {g : Fn} {a b : Nat} (ha : a < 8) (hb : b < 8) (hg : ∀ v, v < 8 → v ≠ a → v ≠ b → depF g v = false) (hd : depF g a = true) : pat a b g ∈ pats := by
  refine pats_mem _ _ _ _ fun ⟨e1, e2⟩ => ?_
  by_cases hab : a = b
  · subst hab
    have e3 : ptR a a false true = ptR a a false false := by simp [ptR]
    rw [e3] at e2
    rw [pat_one ha (fun v hv h => hg v hv h h) e2] at hd
    cases hd
  · rw [pat_dep ha hb hg e1 e2 hab] at hd
    cases hd

theorem level_six {o : Nat → Int} (ho : Full o) {l : List Fn} (hl : l.Nodup) (h : ∀ g, g ∈ l → posF g o = 6) : l.length ≤ 12 := by
  cases l with
  | nil => exact Nat.zero_le _
  | cons g0 l =>
    have hr : 0 ≤ o 6 ∧ o 6 < 8 := by
      obtain ⟨_, _, h3, _⟩ := posF_spec g0 o
      have e := h g0 (List.mem_cons_self ..)
      rw [e] at h3
      exact depAny_range (h3 (by decide)).1
    generalize g0 :: l = L at *
    obtain ⟨b, hb, hbo⟩ : ∃ b, b < 8 ∧ ∀ v : Nat, v < 8 → o 7 = (v : Int) → v = b := by
      by_cases h7 : 0 ≤ o 7 ∧ o 7 < 8
      · exact ⟨(o 7).toNat, by omega, fun v _ e => by omega⟩
      · exact ⟨0, by decide, fun v _ e => by omega⟩
    have hind : ∀ g, g ∈ L → (∀ v, v < 8 → v ≠ (o 6).toNat → v ≠ b → depF g v = false) ∧ depF g (o 6).toNat = true := fun g hg => by
      obtain ⟨_, h2, h3, _⟩ := posF_spec g o
      rw [h g hg] at h2 h3
      refine ⟨fun v hv h6 h7 => ?_, ?_⟩
      · obtain ⟨i, hi, e⟩ := ho v hv
        rcases (by omega : i < 6 ∨ i = 6 ∨ i = 7) with hi | rfl | rfl
        · have := h2 i hi
          rw [e] at this
          unfold depAny at this
          rwa [if_pos (by omega), Int.toNat_natCast] at this
        · omega
        · exact absurd (hbo v hv e) h7
      · have := (h3 (by decide)).1
        unfold depAny at this
        rwa [if_pos hr] at this
    have ha : (o 6).toNat < 8 := by omega
    have h1 := nodup_len (nodup_map (p := pat (o 6).toNat b) hl fun x hx y hy e => pat_inj ha hb (hind x hx).1 (hind y hy).1 e) (k := pats) fun p hp => by
      obtain ⟨g, hg, rfl⟩ := List.mem_map.1 hp
      exact level_pat ha hb (hind g hg).1 (hind g hg).2
    rw [List.length_map] at h1
    exact h1

theorem level_seven {o : Nat → Int} (ho : Full o) {l : List Fn} (hl : l.Nodup) (h : ∀ g, g ∈ l → posF g o = 7) : l.length ≤ 2 := by
  cases l with
  | nil => exact Nat.zero_le _
  | cons g0 l =>
    have hr : 0 ≤ o 7 ∧ o 7 < 8 := by
      obtain ⟨_, _, h3, _⟩ := posF_spec g0 o
      have e := h g0 (List.mem_cons_self ..)
      rw [e] at h3
      exact depAny_range (h3 (by decide)).1
    generalize g0 :: l = L at *
    have hind : ∀ g, g ∈ L → (∀ v, v < 8 → v ≠ (o 7).toNat → depF g v = false) ∧ depF g (o 7).toNat = true := fun g hg => by
      obtain ⟨_, h2, h3, _⟩ := posF_spec g o
      rw [h g hg] at h2 h3
      refine ⟨fun v hv h7 => ?_, ?_⟩
      · obtain ⟨i, hi, e⟩ := ho v hv
        rcases (by omega : i < 7 ∨ i = 7) with hi | rfl
        · have := h2 i hi
          rw [e] at this
          unfold depAny at this
          rwa [if_pos (by omega), Int.toNat_natCast] at this
        · omega
      · have := (h3 (by decide)).1
        unfold depAny at this
        rwa [if_pos hr] at this
    have ha : (o 7).toNat < 8 := by omega
    have h1 := nodup_len (nodup_map (p := pat (o 7).toNat (o 7).toNat) hl fun x hx y hy e => pat_inj ha ha (fun v hv h _ => (hind x hx).1 v hv h) (fun v hv h _ => (hind y hy).1 v hv h) e) (k := [(false, false, true, true), (true, true, false, false)]) fun p hp => by
      obtain ⟨g, hg, rfl⟩ := List.mem_map.1 hp
      have e3 : ptR (o 7).toNat (o 7).toNat false true = ptR (o 7).toNat (o 7).toNat false false := by simp [ptR]
      have e4 : ptR (o 7).toNat (o 7).toNat true false = ptR (o 7).toNat (o 7).toNat true true := by simp [ptR]
      unfold pat
      rw [e3, e4]
      have hne : ¬ g.getLsbD (ptR (o 7).toNat (o 7).toNat false false) = g.getLsbD (ptR (o 7).toNat (o 7).toNat true true) := fun e => by
        have := pat_one ha (hind g hg).1 e
        rw [(hind g hg).2] at this
        cases this
      revert hne
      cases g.getLsbD (ptR (o 7).toNat (o 7).toNat false false) <;> cases g.getLsbD (ptR (o 7).toNat (o 7).toNat true true) <;> simp
    rw [List.length_map] at h1
    exact h1

/-- In an order of all eight one function needs 77 nodes at most. -/
theorem size_77 (f : Fn) (o : Nat → Int) (ho : Full o) : sizeF [f] o ≤ 77 := by
  obtain ⟨a, ha, hma, hla⟩ := sizeF_is [f] o
  have hp : ∀ g, g ∈ a → posF g o < 8 := fun g hg => pos_of_sup ho ((hma g).1 hg).2
  have hf : ∀ j, ∀ g, g ∈ a.filter (fun g => posF g o == j) → g ∈ a ∧ posF g o = j := fun j g hg => by simpa using List.mem_filter.1 hg
  have hn : ∀ j, (a.filter (fun g => posF g o == j)).Nodup := fun j => ha.sublist List.filter_sublist
  have hlev : ∀ j, j < 8 → (a.filter (fun g => posF g o == j)).length ≤ 2 ^ j := fun j hj => by
    rw [← cofs_length f o j]
    refine nodup_len (hn j) fun g hg => ?_
    obtain ⟨h1, h2⟩ := hf j g hg
    have := node_level ((hma g).1 h1).1 (by omega)
    rwa [h2] at this
  have h0 := hlev 0 (by decide)
  have h1 := hlev 1 (by decide)
  have h2 := hlev 2 (by decide)
  have h3 := hlev 3 (by decide)
  have h4 := hlev 4 (by decide)
  have h5 := hlev 5 (by decide)
  have h6 := level_six ho (hn 6) fun g hg => (hf 6 g hg).2
  have h7 := level_seven ho (hn 7) fun g hg => (hf 7 g hg).2
  have hs := by_level (fun g => posF g o) a hp
  omega

end Go.Proofs.YtipocmbplcdmjaaDoor

/-
  Plain mathematics of layer 3: gathering the nodes of functions, one function behind the other, from the top down.
-/
namespace Go.Proofs.YtipocmbplcdmjaaDoor
open Go Go.RowKit

theorem Reach.trans {l : List Fn} {o : Nat → Int} {p g : Fn} (hp : Reach l o p) (h : Reach [p] o g) : Reach l o g := by
  induction h with
  | base h => rw [List.mem_singleton] at h; subst h; exact hp
  | step b _ hs ht ih => exact .step b ih hs ht

end Go.Proofs.YtipocmbplcdmjaaDoor

/-
  Mathematics of layer 8: a function built from below. Nothing of the program is read here.
-/
namespace Go.Proofs.YtipocmbplcdmjaaDoor
open Go Go.RowKit

/-- What stood in s stands in t as it did. -/
structure MS.Ext (s t : MS) : Prop where
  o : t.o = s.o
  most : t.ar.most = s.ar.most
  has : ∀ n, s.has n = true → t.has n = true
  nd : ∀ n, s.has n = true → t.nd n = s.nd n
theorem MS.Ext.refl (s : MS) : MS.Ext s s := ⟨rfl, rfl, fun _ h => h, fun _ _ => rfl⟩
theorem MS.Ext.trans {s t u : MS} (h : MS.Ext s t) (k : MS.Ext t u) : MS.Ext s u := ⟨k.o.trans h.o, k.most.trans h.most, fun n hn => k.has n (h.has n hn), fun n hn => (k.nd n (h.has n hn)).trans (h.nd n hn)⟩

section
variable {s t : MS}
theorem MS.Ext.there (h : MS.Ext s t) {n : Int} (hn : s.there n = true) : t.there n = true := by
  simp only [MS.there, Bool.or_eq_true] at *
  rcases hn with hn | hn
  · exact .inl hn
  · exact .inr (h.has n hn)
theorem MS.Ext.val (e : MS.Ext s t) (hs : s.Ok) (ht : t.Ok) (b : Int → Bool) : ∀ k n, s.dep n ≤ k → s.there n = true → t.val b n = s.val b n := by
  intro k
  induction k with
  | zero =>
    intro n hd hn
    rcases MS.there_cases hn with ⟨hc, hh⟩ | hh
    · have h2 : t.has n = false := by rcases hc with rfl | rfl <;> rfl
      rw [MS.val_const b hh, MS.val_const b h2]
    · have := hs.dep_pos hh; omega
  | succ k ih =>
    intro n hd hn
    rcases MS.there_cases hn with ⟨hc, hh⟩ | hh
    · have h2 : t.has n = false := by rcases hc with rfl | rfl <;> rfl
      rw [MS.val_const b hh, MS.val_const b h2]
    · have h1 := hs.dep_behind hh (hs.lo n hh)
      have h2 := hs.dep_behind hh (hs.hi n hh)
      rw [ht.val_node b (e.has n hh), hs.val_node b hh, e.nd n hh]
      split
      · exact ih _ (by omega) (MS.behind_there (hs.hi n hh))
      · exact ih _ (by omega) (MS.behind_there (hs.lo n hh))
theorem MS.Ext.tab (e : MS.Ext s t) (hs : s.Ok) (ht : t.Ok) {n : Int} (hn : s.there n = true) : t.tab n = s.tab n := fn_ext fun k hk => by
  rw [MS.tab_bit _ _ hk, MS.tab_bit _ _ hk]
  exact e.val hs ht _ _ n (Nat.le_refl _) hn

/-- As many numbers are taken as there are nodes. -/
theorem MS.Base.count (h : s.Base) : s.all.length = s.ar.T.length := by
  have h1 : ∀ n, n ∈ s.all → n - 2 ∈ s.ar.T := fun n hn => (h.range (h.mem_all.1 hn)).2.2
  refine Nat.le_antisymm ?_ ?_
  · have hnd : (s.all.map fun n => n - 2).Nodup := by
      rw [List.Nodup, List.pairwise_map]
      exact List.Pairwise.imp (fun h e => h (by omega)) s.all_nodup
    have := nodup_len hnd (k := s.ar.T) (fun f hf => by obtain ⟨n, hn, rfl⟩ := List.mem_map.1 hf; exact h1 n hn)
    simpa using this
  · have hnd : (s.ar.T.map fun n => n + 2).Nodup := by
      rw [List.Nodup, List.pairwise_map]
      exact List.Pairwise.imp (fun h e => h (by omega)) h.ar.nodT
    have := nodup_len hnd (k := s.all) (fun f hf => by
      obtain ⟨n, hn, rfl⟩ := List.mem_map.1 hf
      refine h.mem_all.2 ?_
      have := (h.ar.all n).1 (.inl hn)
      simp only [MS.has, Bool.and_eq_true, decide_eq_true_eq]
      exact ⟨by omega, by rw [show n + 2 - 2 = n by omega]; exact hn⟩)
    simpa using this

/-- Mk of what may be. -/
theorem MS.Ok.mk_made (h : s.Ok) {v lo hi : Int} (v0 : 0 ≤ v) (v7 : v ≤ 7) (b1 : s.behind lo v = true) (b2 : s.behind hi v = true) :
    ((s.mk v lo hi []).2.1 = 0 ∧ (s.mk v lo hi []).2.2.there (s.mk v lo hi []).1 = true ∧ MS.Ext s (s.mk v lo hi []).2.2 ∧
      (s.mk v lo hi []).2.2.tab (s.mk v lo hi []).1 = (varAny v &&& s.tab hi ||| ~~~(varAny v) &&& s.tab lo) ∧ ∀ n, (s.mk v lo hi []).2.2.has n = true → s.has n = true ∨ n = (s.mk v lo hi []).1) ∨
    (s.mk v lo hi [] = (0, 2, s) ∧ s.ar.T.length = s.ar.most ∧ lo ≠ hi ∧ ∀ n, s.has n = true → s.nd n ≠ ⟨v, lo, hi⟩) := by
  have hok := h.made v lo hi
  have h1 : ¬ (v < 0 ∨ 7 < v ∨ s.behind lo v = false ∨ s.behind hi v = false) := by rw [b1, b2]; simp; omega
  unfold MS.mk at hok ⊢
  rw [if_neg h1] at hok ⊢
  by_cases h2 : lo = hi
  · subst h2
    rw [if_pos rfl]
    exact .inl ⟨rfl, MS.behind_there b1, MS.Ext.refl s, (ite_same' _ _).symm, fun n hn => .inl hn⟩
  · rw [if_neg h2] at hok ⊢
    cases h3 : s.find ⟨v, lo, hi⟩ [] with
    | some n =>
      obtain ⟨f1, f2, _⟩ := MS.find_some h3
      refine .inl ⟨rfl, by simp [MS.there, f1], MS.Ext.refl s, ?_, fun n hn => .inl hn⟩
      have := h.tab_node f1
      rw [f2] at this
      exact this
    | none =>
      rw [h3] at hok
      by_cases h4 : s.ar.T.length = s.ar.most
      · have h5 := (AS.Ok.take_full h4).2.1
        rw [h5]
        exact .inr ⟨rfl, h4, h2, fun n hn => MS.find_none h.toBase h3 hn (by simp)⟩
      · have h5 : s.ar.takeE = 0 := by simp [AS.takeE, h4]
        simp only [h5, ne_eq, not_true_eq_false, if_false] at hok ⊢
        have hB := h.toBase
        have hn1 := (hB.takeS_has h4 ⟨v, lo, hi⟩ (s.ar.takeN + 2)).2 (.inr rfl)
        have hn2 := hB.takeS_new h4 ⟨v, lo, hi⟩
        have hE : MS.Ext s (s.takeS ⟨v, lo, hi⟩) := ⟨rfl, by
          show s.ar.take.most = _
          rcases last_or_nil s.ar.B with hb | ⟨k, n, hb⟩
          · rw [(AS.Ok.take_new h4 hb).2.2]
          · rw [(AS.Ok.take_again h4 hb).2.2], fun n hn => (hB.takeS_has h4 _ n).2 (.inl hn), fun n hn => hB.takeS_old h4 _ hn⟩
        refine .inl ⟨trivial, by simp [MS.there, hn1], hE, ?_, fun n hn => (hB.takeS_has h4 _ n).1 hn⟩
        have := hok.tab_node hn1
        rw [hn2] at this
        dsimp only at this
        rw [this, hE.tab h hok (MS.behind_there b1), hE.tab h hok (MS.behind_there b2)]

/-- The constant that f is. -/
def constN (f : Fn) : Int := if atF f 0 then 1 else 0
/-- What Build comes to. -/
def MS.bld : Nat → MS → Fn → Int × Int × MS
  | 0, s, f => (constN f, 0, s)
  | k + 1, s, f =>
    if topF f s.o < 0 then (constN f, 0, s)
    else
      let a := MS.bld k s (cofAny f (topF f s.o) false)
      if a.2.1 ≠ 0 then (0, a.2.1, a.2.2)
      else
        let b := MS.bld k a.2.2 (cofAny f (topF f s.o) true)
        if b.2.1 ≠ 0 then (0, b.2.1, b.2.2) else b.2.2.mk (topF f s.o) a.1 b.1 []

theorem full_of {o : Nat → Int} (h : mayO o = true) : Full o := mayO_iff.1 h
theorem const_of {o : Nat → Int} (h : mayO o = true) {f : Fn} (ht : topF f o < 0) : supF f = 0 := by
  obtain ⟨p1, _, p3, p4⟩ := posF_spec f o
  refine (top_neg (full_of h)).1 ?_
  rcases Nat.lt_or_ge (posF f o) 8 with hp | hp
  · have hr := mayO_range h (i := posF f o) hp
    rw [(p3 hp).2] at ht
    omega
  · exact p4 (by omega)
theorem const_tab {f : Fn} (h : supF f = 0) (s : MS) : s.tab (constN f) = f ∧ s.there (constN f) = true ∧ s.has (constN f) = false := by
  rcases const_of_sup f h with rfl | rfl
  · have : constN (BitVec.allOnes 256) = 1 := by decide
    rw [this]
    exact ⟨MS.tab_const rfl, rfl, rfl⟩
  · have : constN (0#256) = 0 := by decide
    rw [this]
    exact ⟨MS.tab_const rfl, rfl, rfl⟩
theorem supN_zero {f : Fn} (h : supN f = 0) : supF f = 0 := by
  refine (supF_zero f).2 fun i hi => ?_
  have := List.countP_eq_zero.1 h i (List.mem_range.2 hi)
  simpa using this
/-- A side of a top stands behind it. -/
theorem MS.Ok.behind_cof (h : s.Ok) {f : Fn} (ht : 0 ≤ topF f s.o) (b : Bool) {n : Int} (hn : s.there n = true) (e : s.tab n = cofAny f (topF f s.o) b) : s.behind n (topF f s.o) = true := by
  rcases MS.there_cases hn with ⟨hc, _⟩ | hh
  · exact MS.behind_const hc
  · rw [MS.behind_node hh]
    refine decide_eq_true ?_
    obtain ⟨p1, p2, p3, p4⟩ := posF_spec f s.o
    have hp : posF f s.o < 8 := by
      rcases Nat.lt_or_ge (posF f s.o) 8 with hp | hp
      · exact hp
      · have := p4 (by omega); omega
    have hT := (p3 hp).2
    have hl : levO s.o (topF f s.o) = (posF f s.o : Int) := levO_at h.order hp hT.symm
    have hd := h.dep_var hh
    rw [hl]
    obtain ⟨l0, l7⟩ := h.lev hh
    obtain ⟨i, hi⟩ := Int.eq_ofNat_of_zero_le l0
    have hpl := lev_place (o := s.o) hi
    rw [hi]
    rcases Nat.lt_trichotomy i (posF f s.o) with h1 | h1 | h1
    · have := dep_cofAny f (topF f s.o) (s.o i) b (p2 i h1)
      rw [← e, hpl, hd] at this
      cases this
    · have := dep_cof f (topF f s.o) b
      rw [← e, hT, ← h1, hpl, hd] at this
      cases this
    · omega

/-- BUILT FROM BELOW: what holds of it. -/
theorem MS.bld_spec : ∀ (k : Nat) (s : MS) (f : Fn), s.Ok → supN f ≤ k →
    (MS.bld k s f).2.2.Ok ∧ MS.Ext s (MS.bld k s f).2.2 ∧ ((MS.bld k s f).2.1 = 0 ∨ (MS.bld k s f).2.1 = 2) ∧
      ((MS.bld k s f).2.1 = 0 → (MS.bld k s f).2.2.there (MS.bld k s f).1 = true ∧ (MS.bld k s f).2.2.tab (MS.bld k s f).1 = f) ∧
      ∀ n, (MS.bld k s f).2.2.has n = true → s.has n = true ∨ IsNode [f] s.o ((MS.bld k s f).2.2.tab n) := by
  intro k
  induction k with
  | zero =>
    intro s f h hk
    have hc := const_tab (f := f) (supN_zero (by omega)) s
    exact ⟨h, MS.Ext.refl s, .inl rfl, fun _ => ⟨hc.2.1, hc.1⟩, fun n hn => .inl hn⟩
  | succ k ih =>
    intro s f h hk
    unfold MS.bld
    by_cases ht : topF f s.o < 0
    · rw [if_pos ht]
      have hc := const_tab (const_of h.order ht) s
      exact ⟨h, MS.Ext.refl s, .inl rfl, fun _ => ⟨hc.2.1, hc.1⟩, fun n hn => .inl hn⟩
    · rw [if_neg ht]
      have ht0 : 0 ≤ topF f s.o := by omega
      have hdep : depAny f (topF f s.o) = true := topFrom_dep f s.o 8 0 ht0
      have hsup : supF f ≠ 0 := sup_of_dep hdep
      have hvr := depAny_range hdep
      have k0 := supN_cof f s.o false ht0
      have k1 := supN_cof f s.o true ht0
      have ra := ih s (cofAny f (topF f s.o) false) h (by omega)
      generalize hA : MS.bld k s (cofAny f (topF f s.o) false) = A at *
      obtain ⟨oka, ea, erra, resa, newa⟩ := ra
      have reach : ∀ b g, IsNode [cofAny f (topF f s.o) b] s.o g → IsNode [f] s.o g := fun b g hg => ⟨Reach.trans (Reach.step b (Reach.base (by simp)) hsup ht0) hg.1, hg.2⟩
      have newA : ∀ n, A.2.2.has n = true → s.has n = true ∨ IsNode [f] s.o (A.2.2.tab n) := fun n hn => (newa n hn).imp id (reach false _)
      dsimp only
      by_cases hea : A.2.1 = 0
      · rw [if_neg (by simpa using hea)]
        obtain ⟨ta, tba⟩ := resa hea
        have rb := ih A.2.2 (cofAny f (topF f s.o) true) oka (by omega)
        generalize hB : MS.bld k A.2.2 (cofAny f (topF f s.o) true) = B at *
        obtain ⟨okb, eb, errb, resb, newb⟩ := rb
        rw [ea.o] at newb
        have newB : ∀ n, B.2.2.has n = true → s.has n = true ∨ IsNode [f] s.o (B.2.2.tab n) := fun n hn => by
          rcases newb n hn with h1 | h1
          · rcases newA n h1 with h2 | h2
            · exact .inl h2
            · right
              rw [eb.tab oka okb (by simp [MS.there, h1])]
              exact h2
          · exact .inr (reach true _ h1)
        have eab := ea.trans eb
        by_cases heb : B.2.1 = 0
        · rw [if_neg (by simpa using heb)]
          obtain ⟨tb, tbb⟩ := resb heb
          have hob : B.2.2.o = s.o := eab.o
          have tA := eb.there ta
          have tabA : B.2.2.tab A.1 = cofAny f (topF f s.o) false := (eb.tab oka okb ta).trans tba
          have b1 : B.2.2.behind A.1 (topF f s.o) = true := by
            have := okb.behind_cof (f := f) (by rw [hob]; exact ht0) false tA (by rw [hob]; exact tabA)
            rwa [hob] at this
          have b2 : B.2.2.behind B.1 (topF f s.o) = true := by
            have := okb.behind_cof (f := f) (by rw [hob]; exact ht0) true tb (by rw [hob]; exact tbb)
            rwa [hob] at this
          have okm := okb.made (topF f s.o) A.1 B.1
          rcases okb.mk_made hvr.1 (by omega) b1 b2 with ⟨m1, m2, m3, m4, m5⟩ | ⟨m1, m2, m3, m4⟩
          · rw [tabA, tbb, ite_cof f _ hvr] at m4
            refine ⟨okm, eab.trans m3, .inl m1, fun _ => ⟨m2, m4⟩, fun n hn => ?_⟩
            rcases m5 n hn with h1 | h1
            · rcases newB n h1 with h2 | h2
              · exact .inl h2
              · right
                rw [m3.tab okb okm (by simp [MS.there, h1])]
                exact h2
            · right
              rw [h1, m4]
              exact ⟨Reach.base (by simp), hsup⟩
          · rw [m1]
            exact ⟨okb, eab, .inr rfl, (fun e => by cases e), newB⟩
        · rw [if_pos (by simpa using heb)]
          exact ⟨okb, eab, errb, fun e => absurd e heb, newB⟩
      · rw [if_pos (by simpa using hea)]
        exact ⟨oka, ea, erra, fun e => absurd e hea, newA⟩

/-- What is reached of a node is there. -/
theorem MS.Ok.reach_there (h : s.Ok) {n : Int} (hn : s.there n = true) {g : Fn} (hg : Reach [s.tab n] s.o g) : ∃ m, s.there m = true ∧ s.tab m = g := by
  induction hg with
  | base hf => exact ⟨n, hn, by simpa using (List.mem_singleton.1 hf).symm⟩
  | step b _ hs ht ih =>
    obtain ⟨m, hm, e⟩ := ih
    rcases MS.there_cases hm with ⟨_, hh⟩ | hh
    · exfalso
      rw [MS.tab_const hh] at e
      apply hs
      rw [← e]
      split
      · exact sup_const.1
      · exact sup_const.2
    · have hT := h.top_node hh
      rw [e] at hT
      have hC := h.cof_node hh b
      rw [e, ← hT] at hC
      refine ⟨_, ?_, hC.symm⟩
      split
      · exact MS.behind_there (h.hi m hh)
      · exact MS.behind_there (h.lo m hh)

/-- All nodes are these functions', and all of these are there: so many they are. -/
theorem MS.Ok.size_is (h : s.Ok) {L : List Fn} (h1 : ∀ n, s.has n = true → IsNode L s.o (s.tab n)) (h2 : ∀ g, IsNode L s.o g → ∃ n, s.has n = true ∧ s.tab n = g) : sizeF L s.o = s.all.length := by
  refine sizeF_eq ⟨s.all.map s.tab, ?_, fun g => ?_, by simp⟩
  · refine nodup_map s.all_nodup fun a ha b hb e => ?_
    have ha' := h.toBase.mem_all.1 ha
    have hb' := h.toBase.mem_all.1 hb
    exact h.tab_inj (by simp [MS.there, ha']) (by simp [MS.there, hb']) e
  · rw [List.mem_map]
    constructor
    · rintro ⟨n, hn, rfl⟩
      exact h1 n (h.toBase.mem_all.1 hn)
    · intro hg
      obtain ⟨n, hn, e⟩ := h2 g hg
      exact ⟨n, h.toBase.mem_all.2 hn, e⟩
theorem MS.Ok.size_le (h : s.Ok) {L : List Fn} (h1 : ∀ n, s.has n = true → IsNode L s.o (s.tab n)) {g : Fn} (hg : IsNode L s.o g) (hno : ∀ n, s.has n = true → s.tab n ≠ g) : s.all.length + 1 ≤ sizeF L s.o := by
  obtain ⟨out, hnd, hmem, hlen⟩ := sizeF_is L s.o
  have hl : (g :: s.all.map s.tab).Nodup := List.nodup_cons.2 ⟨fun hc => by
    obtain ⟨n, hn, e⟩ := List.mem_map.1 hc
    exact hno n (h.toBase.mem_all.1 hn) e, nodup_map s.all_nodup fun a ha b hb e => by
      have ha' := h.toBase.mem_all.1 ha
      have hb' := h.toBase.mem_all.1 hb
      exact h.tab_inj (by simp [MS.there, ha']) (by simp [MS.there, hb']) e⟩
  have := nodup_length_le hl (k := out) (fun f hf => by
    rcases List.mem_cons.1 hf with rfl | hf
    · exact (hmem _).2 hg
    · obtain ⟨n, hn, rfl⟩ := List.mem_map.1 hf
      exact (hmem _).2 (h1 n (h.toBase.mem_all.1 hn)))
  simp at this
  omega

/-- Where there is room for all nodes of these functions, each of them is built. -/
theorem MS.bld_room : ∀ (k : Nat) (s : MS) (f : Fn) (L : List Fn), s.Ok → supN f ≤ k → (∀ n, s.has n = true → IsNode L s.o (s.tab n)) → Reach L s.o f → sizeF L s.o ≤ s.ar.most → (MS.bld k s f).2.1 = 0 := by
  intro k
  induction k with
  | zero => intro s f L _ _ _ _ _; rfl
  | succ k ih =>
    intro s f L h hk hL hf hm
    unfold MS.bld
    by_cases ht : topF f s.o < 0
    · rw [if_pos ht]
    · rw [if_neg ht]
      have ht0 : 0 ≤ topF f s.o := by omega
      have hdep : depAny f (topF f s.o) = true := topFrom_dep f s.o 8 0 ht0
      have hsup : supF f ≠ 0 := sup_of_dep hdep
      have hvr := depAny_range hdep
      have k0 := supN_cof f s.o false ht0
      have k1 := supN_cof f s.o true ht0
      have hall : ∀ (b : Bool) (t : MS), MS.Ext s t → ∀ g, IsNode [cofAny f (topF f s.o) b] s.o g → IsNode L s.o g := fun b t _ g hg => ⟨Reach.trans (Reach.step b hf hsup ht0) hg.1, hg.2⟩
      have ea := ih s (cofAny f (topF f s.o) false) L h (by omega) hL (Reach.step false hf hsup ht0) hm
      have ra := MS.bld_spec k s (cofAny f (topF f s.o) false) h (by omega)
      generalize hA : MS.bld k s (cofAny f (topF f s.o) false) = A at *
      obtain ⟨oka, xa, _, resa, newa⟩ := ra
      have hLa : ∀ n, A.2.2.has n = true → IsNode L A.2.2.o (A.2.2.tab n) := fun n hn => by
        rw [xa.o]
        rcases newa n hn with h1 | h1
        · rw [xa.tab h oka (by simp [MS.there, h1])]; exact hL n h1
        · exact hall false A.2.2 xa _ h1
      have eb := ih A.2.2 (cofAny f (topF f s.o) true) L oka (by omega) hLa (by rw [xa.o]; exact Reach.step true hf hsup ht0) (by rw [xa.o, xa.most]; exact hm)
      have rb := MS.bld_spec k A.2.2 (cofAny f (topF f s.o) true) oka (by omega)
      dsimp only
      rw [if_neg (by simpa using ea)]
      generalize hB : MS.bld k A.2.2 (cofAny f (topF f s.o) true) = B at *
      obtain ⟨okb, xb, _, resb, newb⟩ := rb
      rw [if_neg (by simpa using eb)]
      have xab := xa.trans xb
      have hob : B.2.2.o = s.o := xab.o
      have hLb : ∀ n, B.2.2.has n = true → IsNode L B.2.2.o (B.2.2.tab n) := fun n hn => by
        rw [hob]
        rcases newb n hn with h1 | h1
        · rw [xb.tab oka okb (by simp [MS.there, h1])]
          have := hLa n h1
          rwa [xa.o] at this
        · rw [xa.o] at h1
          exact hall true B.2.2 xab _ h1
      obtain ⟨ta, tba⟩ := resa ea
      obtain ⟨tb, tbb⟩ := resb eb
      have tA := xb.there ta
      have tabA : B.2.2.tab A.1 = cofAny f (topF f s.o) false := (xb.tab oka okb ta).trans tba
      have b1 : B.2.2.behind A.1 (topF f s.o) = true := by
        have := okb.behind_cof (f := f) (by rw [hob]; exact ht0) false tA (by rw [hob]; exact tabA)
        rwa [hob] at this
      have b2 : B.2.2.behind B.1 (topF f s.o) = true := by
        have := okb.behind_cof (f := f) (by rw [hob]; exact ht0) true tb (by rw [hob]; exact tbb)
        rwa [hob] at this
      rcases okb.mk_made hvr.1 (by omega) b1 b2 with ⟨m1, _⟩ | ⟨_, m2, m3, m4⟩
      · exact m1
      · exfalso
        have hlt := okb.size_le hLb (g := f) (by rw [hob]; exact ⟨hf, hsup⟩) (fun n hn e => by
          have hT := okb.top_node hn
          rw [e, hob] at hT
          have c0 := okb.cof_node hn false
          have c1 := okb.cof_node hn true
          simp only [Bool.false_eq_true, if_false, if_true] at c0 c1
          rw [e, ← hT] at c0 c1
          have q0 := okb.tab_inj tA (MS.behind_there (okb.lo n hn)) (tabA.trans c0)
          have q1 := okb.tab_inj tb (MS.behind_there (okb.hi n hn)) (tbb.trans c1)
          refine m4 n hn ?_
          rw [hT, q0, q1])
        rw [okb.toBase.count, m2, hob, xab.most] at hlt
        omega
end

end Go.Proofs.YtipocmbplcdmjaaDoor

/-
  Walks of package tab: Not, And, Or, Xor, Ite on four words.
-/
namespace Go.Proofs.YtipocmbplcdmjaaDoor
open Go Go.RowKit

set_option maxHeartbeats 400000 in
theorem tabAnd (f g : Fn) (w : World) :
    Calls Tryd.prog 62 #[fv f, fv g] w fun e w' => e = .returned (fv (f &&& g)) ∧ Below w.heap.size w w' := by
  simp only [fv, ← wd_and]
  go_enter Tryd.func62, Tryd.ntmps62
  go_wp2
  refine wp_loop_rounds 5 ?_
  iterate 4 (rw [rounds_succ]; go_wp2; go_region; go_wp2)
  rw [rounds_succ]
  go_wp2
  exact bodyPost_ret (v := .agg #[.int .u64 (bits .and .u64 (wd f 0) (wd g 0)), .int .u64 (bits .and .u64 (wd f 1) (wd g 1)), .int .u64 (bits .and .u64 (wd f 2) (wd g 2)), .int .u64 (bits .and .u64 (wd f 3) (wd g 3))])
    (by simp [results, Tryd.results62, go_sem]) rfl ⟨rfl, by go_grown⟩

set_option maxHeartbeats 400000 in
theorem tabNot (f : Fn) (w : World) :
    Calls Tryd.prog 55 #[fv f] w fun e w' => e = .returned (fv (~~~f)) ∧ Below w.heap.size w w' := by
  simp only [fv]
  go_enter Tryd.func55, Tryd.ntmps55
  go_wp2
  refine wp_loop_rounds 5 ?_
  iterate 4 (rw [rounds_succ]; go_wp2)
  rw [rounds_succ]
  go_wp2
  exact bodyPost_ret (v := .agg #[.int .u64 (bits .xor .u64 IntKind.u64.max (wd f 0)), .int .u64 (bits .xor .u64 IntKind.u64.max (wd f 1)), .int .u64 (bits .xor .u64 IntKind.u64.max (wd f 2)), .int .u64 (bits .xor .u64 IntKind.u64.max (wd f 3))])
    (by simp [results, Tryd.results55, go_sem]) rfl ⟨by rw [wd_not f 0, wd_not f 1, wd_not f 2, wd_not f 3], by go_grown⟩

end Go.Proofs.YtipocmbplcdmjaaDoor

/-
  Walk of tab.Ite.
-/
namespace Go.Proofs.YtipocmbplcdmjaaDoor
open Go Go.RowKit

attribute [local go_sem] setCell_drewN alloc_drewN

theorem bcell {W w1 : World} (hb : Below W.heap.size W w1) :
    (∀ b o, b < W.heap.size → w1.cell? ⟨b, o, none⟩ = W.cell? ⟨b, o, none⟩) ∧ (∀ b o, b < W.heap.size → w1.frozen? ⟨b, o, none⟩ = W.frozen? ⟨b, o, none⟩) :=
  ⟨fun b o h => hb.cell (p := ⟨b, o, none⟩) h, fun b o h => hb.frozen (p := ⟨b, o, none⟩) h⟩

theorem below_from {w W w1 : World} (hb : Below W.heap.size W w1) (hW : Below w.heap.size w W) : Below w.heap.size w w1 := hW.trans (hb.mono hW.size)

theorem below_set4 {B b : Nat} {a w : World} {x0 x1 x2 x3 : Value} (h : Below B a w) (hb : B ≤ b) :
    Below B a ((((w.setCell ⟨b, 0, none⟩ x0).setCell ⟨b, 1, none⟩ x1).setCell ⟨b, 2, none⟩ x2).setCell ⟨b, 3, none⟩ x3) :=
  (((h.setCell hb _).setCell hb _).setCell hb _).setCell hb _

set_option maxHeartbeats 400000 in
theorem tabIte (f g k : Fn) (w : World) :
    Calls Tryd.prog 33 #[fv f, fv g, fv k] w fun e w' => e = .returned (fv (f &&& g ||| ~~~f &&& k)) ∧ Below w.heap.size w w' := by
  simp only [fv]
  go_enter Tryd.func33, Tryd.ntmps33
  go_wp2
  refine wp_loop_rounds 5 ?_
  iterate 4 (
    rw [rounds_succ]
    go_wp2
    refine wp_region_draws_tail 18 (by kernel_rfl) (by kernel_rfl) ?_
    simp only [List.take_succ_cons, List.take_zero, List.drop_succ_cons, List.drop_zero]
    iterate 18 (go_big_quiet_step (fail))
    refine wpQuiet_nil ?_
    intro w' hw'
    obtain ⟨nq, hw''⟩ := hw'
    subst hw''
    go_wp2)
  rw [rounds_succ]
  go_wp2
  exact bodyPost_ret (v := .agg #[.int .u64 (bits .or .u64 (bits .and .u64 (wd f 0) (wd g 0)) (bits .and .u64 (bits .xor .u64 IntKind.u64.max (wd f 0)) (wd k 0))),
      .int .u64 (bits .or .u64 (bits .and .u64 (wd f 1) (wd g 1)) (bits .and .u64 (bits .xor .u64 IntKind.u64.max (wd f 1)) (wd k 1))),
      .int .u64 (bits .or .u64 (bits .and .u64 (wd f 2) (wd g 2)) (bits .and .u64 (bits .xor .u64 IntKind.u64.max (wd f 2)) (wd k 2))),
      .int .u64 (bits .or .u64 (bits .and .u64 (wd f 3) (wd g 3)) (bits .and .u64 (bits .xor .u64 IntKind.u64.max (wd f 3)) (wd k 3)))])
    (by simp [results, Tryd.results33, go_sem]) rfl
    ⟨by rw [wd_not f 0, wd_not f 1, wd_not f 2, wd_not f 3]; simp only [wd_and, wd_or], below_drewN (by go_grown)⟩

theorem fv_zero : fv 0#256 = .agg #[.int .u64 0, .int .u64 0, .int .u64 0, .int .u64 0] := by
  simp [fv, wd]

set_option maxHeartbeats 400000 in
theorem tabConst (b : Bool) (w : World) :
    Calls Tryd.prog 32 #[.bool b] w fun e w' => e = .returned (fv (if b then BitVec.allOnes 256 else 0#256)) ∧ Below w.heap.size w w' := by
  cases b with
  | false =>
    simp only [Bool.false_eq_true, if_false, fv_zero]
    go_enter Tryd.func32, Tryd.ntmps32
    go_wp2
    exact bodyPost_ret (v := .agg #[.int .u64 0, .int .u64 0, .int .u64 0, .int .u64 0]) (by simp [results, Tryd.results32, go_sem]) rfl ⟨rfl, by go_grown⟩
  | true =>
    have hone : ~~~(0#256) = BitVec.allOnes 256 := by decide
    simp only [if_true, ← hone]
    clear hone
    go_enter Tryd.func32, Tryd.ntmps32
    go_wp2_with fail
    rw [← fv_zero]
    refine (tabNot 0#256 _).mono ?_
    generalize hg : ~~~(0#256) = g
    have Hg := Lib.hid hg
    clear hg
    rintro e w1 ⟨rfl, hb⟩
    obtain ⟨hc, hf⟩ := bcell hb
    simp only [fv]
    go_wp2
    clear hf
    refine bodyPost_ret (v := .agg #[.int .u64 (wd g 0), .int .u64 (wd g 1), .int .u64 (wd g 2), .int .u64 (wd g 3)]) ?_ rfl ⟨by rw [Hg.out, fv], ?_⟩
    · simp [results, Tryd.results32, go_sem, hc]
    · exact below_set4 (below_from hb (by go_grown)) (Nat.le_refl _)

end Go.Proofs.YtipocmbplcdmjaaDoor
