/-
  Texts of this proof, one behind the other: Math3f, ReadM, Math3g, Math3h, BuildM.
-/
import Derived.Test.YtipocmbplcdmjaaGreatDoorG12
import Derived.Test.YtipocmbplcdmjaaGreatDoorG1
/-
  Plain mathematics of layer 3's own law: in an order of all eight one function needs 77 nodes at most.
-/
namespace Go.Proofs.YtipocmbplcdmjaaGreatDoor
open Go Go.RowKit

/-- Each variable stands somewhere in the order. -/
def Full (o : Nat → Int) : Prop := ∀ v : Nat, v < 8 → ∃ i, i < 8 ∧ o i = (v : Int)

/-- The place of the first number of n from place i on, on which f depends. -/
def posFrom (f : Fn) (o : Nat → Int) : Nat → Nat → Nat
  | 0, i => i
  | n + 1, i => if depAny f (o i) then i else posFrom f o n (i + 1)
def posF (f : Fn) (o : Nat → Int) : Nat := posFrom f o 8 0

theorem posFrom_spec (f : Fn) (o : Nat → Int) (n : Nat) : ∀ i, i ≤ posFrom f o n i ∧ posFrom f o n i ≤ i + n ∧ (∀ j, i ≤ j → j < posFrom f o n i → depAny f (o j) = false) ∧ (posFrom f o n i < i + n → depAny f (o (posFrom f o n i)) = true ∧ topFrom f o n i = o (posFrom f o n i)) ∧ (posFrom f o n i = i + n → topFrom f o n i = -1) := by
  induction n with
  | zero => intro i; refine ⟨Nat.le_refl _, Nat.le_refl _, fun j h1 h2 => ?_, fun h => ?_, fun _ => rfl⟩ <;> simp only [posFrom] at * <;> omega
  | succ n ih =>
    intro i
    simp only [posFrom, topFrom]
    by_cases hd : depAny f (o i) = true
    · rw [if_pos hd, if_pos hd]
      exact ⟨Nat.le_refl _, by omega, fun j h1 h2 => by omega, fun _ => ⟨hd, rfl⟩, fun h => by omega⟩
    · rw [if_neg hd, if_neg hd]
      obtain ⟨h1, h2, h3, h4, h5⟩ := ih (i + 1)
      refine ⟨by omega, by omega, fun j hj1 hj2 => ?_, fun h => h4 (by omega), fun h => h5 (by omega)⟩
      rcases Nat.lt_or_ge i j with h | h
      · exact h3 j h hj2
      · obtain rfl : j = i := by omega
        simpa using hd

theorem posF_spec (f : Fn) (o : Nat → Int) : posF f o ≤ 8 ∧ (∀ j, j < posF f o → depAny f (o j) = false) ∧ (posF f o < 8 → depAny f (o (posF f o)) = true ∧ topF f o = o (posF f o)) ∧ (posF f o = 8 → topF f o = -1) := by
  obtain ⟨_, h2, h3, h4, h5⟩ := posFrom_spec f o 8 0
  exact ⟨by unfold posF; omega, fun j hj => h3 j (Nat.zero_le _) hj, fun h => h4 (by unfold posF at h; omega), fun h => h5 (by unfold posF at h; omega)⟩

/-- In a full order what has no top depends on nothing. -/
theorem pos_of_sup {f : Fn} {o : Nat → Int} (ho : Full o) (h : supF f ≠ 0) : posF f o < 8 := by
  obtain ⟨h1, h2, _, _⟩ := posF_spec f o
  rcases Nat.lt_or_ge (posF f o) 8 with h' | h'
  · exact h'
  · refine absurd ((supF_zero f).2 fun v hv => ?_) h
    obtain ⟨i, hi, e⟩ := ho v hv
    have := h2 i (by omega)
    rw [e] at this
    unfold depAny at this
    rw [if_pos (by omega), Int.toNat_natCast] at this
    exact this

theorem top_neg {f : Fn} {o : Nat → Int} (ho : Full o) : topF f o = -1 ↔ supF f = 0 := by
  obtain ⟨h1, h2, h3, h4⟩ := posF_spec f o
  constructor
  · intro ht
    rcases Nat.eq_zero_or_pos (supF f) with h | h
    · exact h
    · have hp := pos_of_sup ho (by omega : supF f ≠ 0)
      obtain ⟨hd, e⟩ := h3 hp
      have := depAny_range hd
      omega
  · intro hs
    refine h4 ?_
    rcases Nat.lt_or_ge (posF f o) 8 with h' | h'
    · exact absurd hs (sup_of_dep (h3 h').1)
    · omega

/-- What doesn't depend on a variable is as it was when it is set. -/
theorem cof_indep {g : Fn} {v : Int} {b : Bool} (h : depAny g v = false) : cofAny g v b = g := by
  unfold cofAny
  split
  · rename_i hv
    unfold depAny at h
    rw [if_pos hv] at h
    have hm : v.toNat < 8 := by omega
    refine fn_ext fun x hx => ?_
    rw [cofF_bit _ _ _ _ hx]
    have h1 := indep_row g v.toNat x hm hx h
    have h2 := indep_row g v.toNat (rowF x v.toNat b) hm (rowF_lt _ _ _ hx hm) h
    rw [rowF_twice _ _ _ _ hx hm] at h2
    rw [← h2, h1]
  · rfl

end Go.Proofs.YtipocmbplcdmjaaGreatDoor

/-
  Mathematics of layer 8: what a node is as a table; no two nodes are one function. Nothing of the program is read here.
-/
namespace Go.Proofs.YtipocmbplcdmjaaGreatDoor
open Go Go.RowKit

/-- A bit of a row. -/
def bitO (x : Nat) (v : Int) : Bool := x.testBit v.toNat
/-- A number's table. -/
def MS.tab (s : MS) (n : Int) : Fn := ofRow fun x => s.val (bitO x) n

section
variable {s : MS}
theorem MS.tab_bit (s : MS) (n : Int) {k : Nat} (hk : k < 256) : (s.tab n).getLsbD k = s.val (bitO k) n := ofRow_bit _ _ hk
theorem MS.tab_const {n : Int} (h : s.has n = false) : s.tab n = if n = 1 then BitVec.allOnes 256 else 0#256 := fn_ext fun k hk => by
  rw [MS.tab_bit _ _ hk, MS.val_const _ h]
  by_cases h1 : n = 1
  · rw [if_pos h1, h1, BitVec.getLsbD_allOnes, decide_eq_true hk]; rfl
  · rw [if_neg h1, beq_eq_false_iff_ne.2 h1]; simp
theorem MS.Ok.var_nat (h : s.Ok) {n : Int} (hn : s.has n = true) : ∃ m : Nat, (s.nd n).var = (m : Int) ∧ m < 8 := by
  have := h.var n hn
  exact ⟨(s.nd n).var.toNat, by omega, by omega⟩
theorem varAny_nat {m : Nat} (h : m < 8) : varAny (m : Int) = varF m := by
  unfold varAny
  rw [if_pos (by omega)]
  rfl
theorem MS.Ok.tab_node (h : s.Ok) {n : Int} (hn : s.has n = true) : s.tab n = (varAny (s.nd n).var &&& s.tab (s.nd n).hi ||| ~~~(varAny (s.nd n).var) &&& s.tab (s.nd n).lo) := fn_ext fun k hk => by
  obtain ⟨m, e, hm⟩ := h.var_nat hn
  rw [MS.tab_bit _ _ hk, h.val_node _ hn, e, varAny_nat hm]
  simp only [BitVec.getLsbD_or, BitVec.getLsbD_and, BitVec.getLsbD_not, hk, decide_true, Bool.true_and, var_bit m k hk, MS.tab_bit _ _ hk]
  have hb : bitO k (m : Int) = k.testBit m := rfl
  rw [hb]
  cases k.testBit m <;> simp

/-- Rows that agree from a level on. -/
theorem MS.Ok.val_agree (h : s.Ok) {b b' : Int → Bool} {L : Int} (hb : ∀ v : Int, 0 ≤ v → v ≤ 7 → L ≤ levO s.o v → b v = b' v) :
    ∀ k n, s.dep n ≤ k → (s.has n = true → L ≤ levO s.o (s.nd n).var) → s.val b n = s.val b' n := by
  intro k
  induction k with
  | zero =>
    intro n hd _
    cases hn : s.has n
    · rw [MS.val_const _ hn, MS.val_const _ hn]
    · have := h.dep_pos hn; omega
  | succ k ih =>
    intro n hd hL
    cases hn : s.has n
    · rw [MS.val_const _ hn, MS.val_const _ hn]
    · have hv := h.var n hn
      rw [h.val_node b hn, h.val_node b' hn, hb _ hv.1 hv.2 (hL hn)]
      have d1 := h.dep_behind hn (h.lo n hn)
      have d2 := h.dep_behind hn (h.hi n hn)
      have key : ∀ m, s.behind m (s.nd n).var = true → s.dep m ≤ k → s.val b m = s.val b' m := fun m hm hd => ih m hd fun hh => by
        rw [MS.behind_node hh] at hm
        have := of_decide_eq_true hm
        have := hL hn
        omega
      split
      · exact key _ (h.hi n hn) (by omega)
      · exact key _ (h.lo n hn) (by omega)

/-- n stands from level L on. -/
def MS.from (s : MS) (L : Int) (n : Int) : Prop := s.has n = true → L ≤ levO s.o (s.nd n).var
theorem MS.from_const {L n : Int} (h : s.has n = false) : s.from L n := fun e => by rw [h] at e; cases e
theorem MS.from_behind {n v : Int} (h : s.behind n v = true) : s.from (levO s.o v + 1) n := fun hh => by
  rw [MS.behind_node hh] at h
  have := of_decide_eq_true h
  omega

theorem rowF_other {k m j : Nat} {b : Bool} (hk : k < 256) (hm : m < 8) (hj : j < 8) (h : j ≠ m) : (rowF k m b).testBit j = k.testBit j := by rw [rowF_test k m b j hk hm hj, if_neg h]
/-- A variable ahead set: nothing changes. -/
theorem MS.Ok.tab_ahead (h : s.Ok) {n : Int} {m : Nat} (hm : m < 8) (hf : s.from (levO s.o (m : Int) + 1) n) (b : Bool) {k : Nat} (hk : k < 256) : s.val (bitO (rowF k m b)) n = s.val (bitO k) n := by
  refine h.val_agree (L := levO s.o (m : Int) + 1) (fun v v0 v7 hv => ?_) _ n (Nat.le_refl _) hf
  obtain ⟨j, rfl⟩ := Int.eq_ofNat_of_zero_le v0
  have hne : j ≠ m := fun e => by subst e; omega
  exact rowF_other hk hm (by omega) hne
theorem MS.Ok.cof_ahead (h : s.Ok) {n : Int} {v : Int} (hf : s.from (levO s.o v + 1) n) (b : Bool) : cofAny (s.tab n) v b = s.tab n := by
  unfold cofAny
  split
  · rename_i hv
    refine fn_ext fun k hk => ?_
    rw [cofF_bit _ _ _ _ hk, MS.tab_bit _ _ (rowF_lt k v.toNat b hk (by omega)), MS.tab_bit _ _ hk]
    exact h.tab_ahead (by omega) (by rw [Int.toNat_of_nonneg hv.1]; exact hf) b hk
  · rfl
theorem cof_indep' {g : Fn} {v : Int} (h : ∀ b, cofAny g v b = g) : depAny g v = false := by
  have := dep_cof g v true
  rwa [h true] at this
theorem MS.Ok.dep_ahead (h : s.Ok) {n v : Int} (hf : s.from (levO s.o v + 1) n) : depAny (s.tab n) v = false := cof_indep' fun b => h.cof_ahead hf b
/-- Its variable set: a side. -/
theorem MS.Ok.cof_node (h : s.Ok) {n : Int} (hn : s.has n = true) (b : Bool) : cofAny (s.tab n) (s.nd n).var b = s.tab (if b then (s.nd n).hi else (s.nd n).lo) := by
  obtain ⟨m, e, hm⟩ := h.var_nat hn
  have fl := MS.from_behind (h.lo n hn)
  have fh := MS.from_behind (h.hi n hn)
  rw [e] at fl fh ⊢
  unfold cofAny
  rw [if_pos (by omega), Int.toNat_natCast]
  refine fn_ext fun k hk => ?_
  rw [cofF_bit _ _ _ _ hk, MS.tab_bit _ _ (rowF_lt k m b hk hm), h.val_node _ hn, e]
  have hb : bitO (rowF k m b) (m : Int) = b := by
    show (rowF k m b).testBit m = b
    rw [rowF_test k m b m hk hm hm, if_pos rfl]
  rw [hb, MS.tab_bit _ _ hk]
  cases b
  · simp only [Bool.false_eq_true, if_false]; exact h.tab_ahead hm fl false hk
  · simp only [if_true]; exact h.tab_ahead hm fh true hk

/-- NO TWO ARE ONE FUNCTION. -/
theorem MS.Ok.canon (h : s.Ok) : ∀ k n m, s.dep n ≤ k → s.dep m ≤ k → s.there n = true → s.there m = true → s.tab n = s.tab m → n = m := by
  have hconst : ∀ n m : Int, (n = 0 ∨ n = 1) → (m = 0 ∨ m = 1) → s.tab n = s.tab m → n = m := fun n m hn hm e => by
    have h0 : s.has n = false := by rcases hn with rfl | rfl <;> rfl
    have h1 : s.has m = false := by rcases hm with rfl | rfl <;> rfl
    rw [MS.tab_const h0, MS.tab_const h1] at e
    rcases hn with rfl | rfl <;> rcases hm with rfl | rfl
    · rfl
    · exact absurd e (by decide)
    · exact absurd e (by decide)
    · rfl
  intro k
  induction k with
  | zero =>
    intro n m hn hm tn tm e
    have c : ∀ n, s.dep n ≤ 0 → s.there n = true → n = 0 ∨ n = 1 := fun n hn tn => by
      rcases MS.there_cases tn with ⟨h1, _⟩ | h1
      · exact h1
      · have := h.dep_pos h1; omega
    exact hconst n m (c n hn tn) (c m hm tm) e
  | succ k ih =>
    -- a node hangs on its variable
    have hdep : ∀ n, s.dep n ≤ k + 1 → s.has n = true → depAny (s.tab n) (s.nd n).var = true := fun n hd hn => by
      cases hx : depAny (s.tab n) (s.nd n).var
      · exfalso
        have c0 := cof_indep (b := false) hx
        have c1 := cof_indep (b := true) hx
        rw [h.cof_node hn] at c0 c1
        have d1 := h.dep_behind hn (h.lo n hn)
        have d2 := h.dep_behind hn (h.hi n hn)
        exact h.unlike n hn (ih _ _ (by omega) (by omega) (MS.behind_there (h.lo n hn)) (MS.behind_there (h.hi n hn)) (c0.trans c1.symm))
      · rfl
    intro n m hn hm tn tm e
    have mixed : ∀ n m, s.dep n ≤ k + 1 → s.has n = true → s.from (levO s.o (s.nd n).var + 1) m → s.tab n = s.tab m → False := fun n m hd hh hf e => by
      have h1 := hdep n hd hh
      rw [e, h.dep_ahead hf] at h1
      cases h1
    rcases MS.there_cases tn with ⟨cn, hn0⟩ | hn1
    · rcases MS.there_cases tm with ⟨cm, _⟩ | hm1
      · exact hconst n m cn cm e
      · exact (mixed m n hm hm1 (MS.from_const hn0) e.symm).elim
    · rcases MS.there_cases tm with ⟨cm, hm0⟩ | hm1
      · exact (mixed n m hn hn1 (MS.from_const hm0) e).elim
      · have l1 := h.lev hn1
        have l2 := h.lev hm1
        rcases Int.lt_trichotomy (levO s.o (s.nd n).var) (levO s.o (s.nd m).var) with hl | hl | hl
        · exact (mixed n m hn hn1 (fun _ => by omega) e).elim
        · have ev : (s.nd n).var = (s.nd m).var := by
            obtain ⟨i, hi⟩ := Int.eq_ofNat_of_zero_le l1.1
            have p1 := lev_place (o := s.o) (v := (s.nd n).var) (l := i) hi
            have p2 := lev_place (o := s.o) (v := (s.nd m).var) (l := i) (hl.symm.trans hi)
            exact p1.symm.trans p2
          have d1 := h.dep_behind hn1 (h.lo n hn1)
          have d2 := h.dep_behind hn1 (h.hi n hn1)
          have d3 := h.dep_behind hm1 (h.lo m hm1)
          have d4 := h.dep_behind hm1 (h.hi m hm1)
          have e0 : s.tab (s.nd n).lo = s.tab (s.nd m).lo := by
            have a := h.cof_node hn1 false
            have b := h.cof_node hm1 false
            rw [e, ev] at a
            exact a.symm.trans b
          have e1 : s.tab (s.nd n).hi = s.tab (s.nd m).hi := by
            have a := h.cof_node hn1 true
            have b := h.cof_node hm1 true
            rw [e, ev] at a
            exact a.symm.trans b
          have q0 := ih _ _ (by omega) (by omega) (MS.behind_there (h.lo n hn1)) (MS.behind_there (h.lo m hm1)) e0
          have q1 := ih _ _ (by omega) (by omega) (MS.behind_there (h.hi n hn1)) (MS.behind_there (h.hi m hm1)) e1
          refine h.one n m hn1 hm1 ?_
          revert ev q0 q1
          generalize s.nd n = a
          generalize s.nd m = b
          cases a; cases b
          intro r0 r1 r2
          simp_all
        · exact (mixed m n hm hm1 (fun _ => by omega) e.symm).elim
theorem MS.Ok.tab_inj (h : s.Ok) {n m : Int} (tn : s.there n = true) (tm : s.there m = true) (e : s.tab n = s.tab m) : n = m := h.canon _ n m (Nat.le_max_left _ (s.dep m)) (Nat.le_max_right _ _) tn tm e
theorem MS.Ok.dep_var (h : s.Ok) {n : Int} (hn : s.has n = true) : depAny (s.tab n) (s.nd n).var = true := by
  cases hx : depAny (s.tab n) (s.nd n).var
  · exfalso
    have c0 := cof_indep (b := false) hx
    have c1 := cof_indep (b := true) hx
    rw [h.cof_node hn] at c0 c1
    exact h.unlike n hn (h.tab_inj (MS.behind_there (h.lo n hn)) (MS.behind_there (h.hi n hn)) (c0.trans c1.symm))
  · rfl
end

end Go.Proofs.YtipocmbplcdmjaaGreatDoor

/-
  Plain mathematics of layer 3's own law: 77.
-/
namespace Go.Proofs.YtipocmbplcdmjaaGreatDoor
open Go Go.RowKit

end Go.Proofs.YtipocmbplcdmjaaGreatDoor

/-
  Plain mathematics of layer 3: gathering the nodes of functions, one function behind the other, from the top down.
-/
namespace Go.Proofs.YtipocmbplcdmjaaGreatDoor
open Go Go.RowKit

theorem Reach.trans {l : List Fn} {o : Nat → Int} {p g : Fn} (hp : Reach l o p) (h : Reach [p] o g) : Reach l o g := by
  induction h with
  | base h => rw [List.mem_singleton] at h; subst h; exact hp
  | step b _ hs ht ih => exact .step b ih hs ht

end Go.Proofs.YtipocmbplcdmjaaGreatDoor

/-
  Mathematics of layer 8: a function built from below. Nothing of the program is read here.
-/
namespace Go.Proofs.YtipocmbplcdmjaaGreatDoor
open Go Go.RowKit

/-- What stood in s stands in t as it did. -/
structure MS.Ext (s t : MS) : Prop where
  o : t.o = s.o
  most : t.ar.most = s.ar.most
  has : ∀ n, s.has n = true → t.has n = true
  nd : ∀ n, s.has n = true → t.nd n = s.nd n
theorem MS.Ext.refl (s : MS) : MS.Ext s s := ⟨rfl, rfl, fun _ h => h, fun _ _ => rfl⟩
theorem MS.Ext.trans {s t u : MS} (h : MS.Ext s t) (k : MS.Ext t u) : MS.Ext s u := ⟨k.o.trans h.o, k.most.trans h.most, fun n hn => k.has n (h.has n hn), fun n hn => (k.nd n (h.has n hn)).trans (h.nd n hn)⟩

section
variable {s t : MS}
theorem MS.Ext.there (h : MS.Ext s t) {n : Int} (hn : s.there n = true) : t.there n = true := by
  simp only [MS.there, Bool.or_eq_true] at *
  rcases hn with hn | hn
  · exact .inl hn
  · exact .inr (h.has n hn)
theorem MS.Ext.val (e : MS.Ext s t) (hs : s.Ok) (ht : t.Ok) (b : Int → Bool) : ∀ k n, s.dep n ≤ k → s.there n = true → t.val b n = s.val b n := by
  intro k
  induction k with
  | zero =>
    intro n hd hn
    rcases MS.there_cases hn with ⟨hc, hh⟩ | hh
    · have h2 : t.has n = false := by rcases hc with rfl | rfl <;> rfl
      rw [MS.val_const b hh, MS.val_const b h2]
    · have := hs.dep_pos hh; omega
  | succ k ih =>
    intro n hd hn
    rcases MS.there_cases hn with ⟨hc, hh⟩ | hh
    · have h2 : t.has n = false := by rcases hc with rfl | rfl <;> rfl
      rw [MS.val_const b hh, MS.val_const b h2]
    · have h1 := hs.dep_behind hh (hs.lo n hh)
      have h2 := hs.dep_behind hh (hs.hi n hh)
      rw [ht.val_node b (e.has n hh), hs.val_node b hh, e.nd n hh]
      split
      · exact ih _ (by omega) (MS.behind_there (hs.hi n hh))
      · exact ih _ (by omega) (MS.behind_there (hs.lo n hh))
theorem MS.Ext.tab (e : MS.Ext s t) (hs : s.Ok) (ht : t.Ok) {n : Int} (hn : s.there n = true) : t.tab n = s.tab n := fn_ext fun k hk => by
  rw [MS.tab_bit _ _ hk, MS.tab_bit _ _ hk]
  exact e.val hs ht _ _ n (Nat.le_refl _) hn

/-- Mk of what may be. -/
theorem MS.Ok.mk_made (h : s.Ok) {v lo hi : Int} (v0 : 0 ≤ v) (v7 : v ≤ 7) (b1 : s.behind lo v = true) (b2 : s.behind hi v = true) :
    ((s.mk v lo hi []).2.1 = 0 ∧ (s.mk v lo hi []).2.2.there (s.mk v lo hi []).1 = true ∧ MS.Ext s (s.mk v lo hi []).2.2 ∧
      (s.mk v lo hi []).2.2.tab (s.mk v lo hi []).1 = (varAny v &&& s.tab hi ||| ~~~(varAny v) &&& s.tab lo) ∧ ∀ n, (s.mk v lo hi []).2.2.has n = true → s.has n = true ∨ n = (s.mk v lo hi []).1) ∨
    (s.mk v lo hi [] = (0, 2, s) ∧ s.ar.T.length = s.ar.most ∧ lo ≠ hi ∧ ∀ n, s.has n = true → s.nd n ≠ ⟨v, lo, hi⟩) := by
  have hok := h.made v lo hi
  have h1 : ¬ (v < 0 ∨ 7 < v ∨ s.behind lo v = false ∨ s.behind hi v = false) := by rw [b1, b2]; simp; omega
  unfold MS.mk at hok ⊢
  rw [if_neg h1] at hok ⊢
  by_cases h2 : lo = hi
  · subst h2
    rw [if_pos rfl]
    exact .inl ⟨rfl, MS.behind_there b1, MS.Ext.refl s, (ite_same' _ _).symm, fun n hn => .inl hn⟩
  · rw [if_neg h2] at hok ⊢
    cases h3 : s.find ⟨v, lo, hi⟩ [] with
    | some n =>
      obtain ⟨f1, f2, _⟩ := MS.find_some h3
      refine .inl ⟨rfl, by simp [MS.there, f1], MS.Ext.refl s, ?_, fun n hn => .inl hn⟩
      have := h.tab_node f1
      rw [f2] at this
      exact this
    | none =>
      rw [h3] at hok
      by_cases h4 : s.ar.T.length = s.ar.most
      · have h5 := (AS.Ok.take_full h4).2.1
        rw [h5]
        exact .inr ⟨rfl, h4, h2, fun n hn => MS.find_none h.toBase h3 hn (by simp)⟩
      · have h5 : s.ar.takeE = 0 := by simp [AS.takeE, h4]
        simp only [h5, ne_eq, not_true_eq_false, if_false] at hok ⊢
        have hB := h.toBase
        have hn1 := (hB.takeS_has h4 ⟨v, lo, hi⟩ (s.ar.takeN + 2)).2 (.inr rfl)
        have hn2 := hB.takeS_new h4 ⟨v, lo, hi⟩
        have hE : MS.Ext s (s.takeS ⟨v, lo, hi⟩) := ⟨rfl, by
          show s.ar.take.most = _
          rcases last_or_nil s.ar.B with hb | ⟨k, n, hb⟩
          · rw [(AS.Ok.take_new h4 hb).2.2]
          · rw [(AS.Ok.take_again h4 hb).2.2], fun n hn => (hB.takeS_has h4 _ n).2 (.inl hn), fun n hn => hB.takeS_old h4 _ hn⟩
        refine .inl ⟨trivial, by simp [MS.there, hn1], hE, ?_, fun n hn => (hB.takeS_has h4 _ n).1 hn⟩
        have := hok.tab_node hn1
        rw [hn2] at this
        dsimp only at this
        rw [this, hE.tab h hok (MS.behind_there b1), hE.tab h hok (MS.behind_there b2)]

/-- The constant that f is. -/
def constN (f : Fn) : Int := if atF f 0 then 1 else 0
/-- What Build comes to. -/
def MS.bld : Nat → MS → Fn → Int × Int × MS
  | 0, s, f => (constN f, 0, s)
  | k + 1, s, f =>
    if topF f s.o < 0 then (constN f, 0, s)
    else
      let a := MS.bld k s (cofAny f (topF f s.o) false)
      if a.2.1 ≠ 0 then (0, a.2.1, a.2.2)
      else
        let b := MS.bld k a.2.2 (cofAny f (topF f s.o) true)
        if b.2.1 ≠ 0 then (0, b.2.1, b.2.2) else b.2.2.mk (topF f s.o) a.1 b.1 []

theorem full_of {o : Nat → Int} (h : mayO o = true) : Full o := mayO_iff.1 h
theorem const_of {o : Nat → Int} (h : mayO o = true) {f : Fn} (ht : topF f o < 0) : supF f = 0 := by
  obtain ⟨p1, _, p3, p4⟩ := posF_spec f o
  refine (top_neg (full_of h)).1 ?_
  rcases Nat.lt_or_ge (posF f o) 8 with hp | hp
  · have hr := mayO_range h (i := posF f o) hp
    rw [(p3 hp).2] at ht
    omega
  · exact p4 (by omega)
theorem const_tab {f : Fn} (h : supF f = 0) (s : MS) : s.tab (constN f) = f ∧ s.there (constN f) = true ∧ s.has (constN f) = false := by
  rcases const_of_sup f h with rfl | rfl
  · have : constN (BitVec.allOnes 256) = 1 := by decide
    rw [this]
    exact ⟨MS.tab_const rfl, rfl, rfl⟩
  · have : constN (0#256) = 0 := by decide
    rw [this]
    exact ⟨MS.tab_const rfl, rfl, rfl⟩
theorem supN_zero {f : Fn} (h : supN f = 0) : supF f = 0 := by
  refine (supF_zero f).2 fun i hi => ?_
  have := List.countP_eq_zero.1 h i (List.mem_range.2 hi)
  simpa using this
/-- A side of a top stands behind it. -/
theorem MS.Ok.behind_cof (h : s.Ok) {f : Fn} (ht : 0 ≤ topF f s.o) (b : Bool) {n : Int} (hn : s.there n = true) (e : s.tab n = cofAny f (topF f s.o) b) : s.behind n (topF f s.o) = true := by
  rcases MS.there_cases hn with ⟨hc, _⟩ | hh
  · exact MS.behind_const hc
  · rw [MS.behind_node hh]
    refine decide_eq_true ?_
    obtain ⟨p1, p2, p3, p4⟩ := posF_spec f s.o
    have hp : posF f s.o < 8 := by
      rcases Nat.lt_or_ge (posF f s.o) 8 with hp | hp
      · exact hp
      · have := p4 (by omega); omega
    have hT := (p3 hp).2
    have hl : levO s.o (topF f s.o) = (posF f s.o : Int) := levO_at h.order hp hT.symm
    have hd := h.dep_var hh
    rw [hl]
    obtain ⟨l0, l7⟩ := h.lev hh
    obtain ⟨i, hi⟩ := Int.eq_ofNat_of_zero_le l0
    have hpl := lev_place (o := s.o) hi
    rw [hi]
    rcases Nat.lt_trichotomy i (posF f s.o) with h1 | h1 | h1
    · have := dep_cofAny f (topF f s.o) (s.o i) b (p2 i h1)
      rw [← e, hpl, hd] at this
      cases this
    · have := dep_cof f (topF f s.o) b
      rw [← e, hT, ← h1, hpl, hd] at this
      cases this
    · omega

/-- BUILT FROM BELOW: what holds of it. -/
theorem MS.bld_spec : ∀ (k : Nat) (s : MS) (f : Fn), s.Ok → supN f ≤ k →
    (MS.bld k s f).2.2.Ok ∧ MS.Ext s (MS.bld k s f).2.2 ∧ ((MS.bld k s f).2.1 = 0 ∨ (MS.bld k s f).2.1 = 2) ∧
      ((MS.bld k s f).2.1 = 0 → (MS.bld k s f).2.2.there (MS.bld k s f).1 = true ∧ (MS.bld k s f).2.2.tab (MS.bld k s f).1 = f) ∧
      ∀ n, (MS.bld k s f).2.2.has n = true → s.has n = true ∨ IsNode [f] s.o ((MS.bld k s f).2.2.tab n) := by
  intro k
  induction k with
  | zero =>
    intro s f h hk
    have hc := const_tab (f := f) (supN_zero (by omega)) s
    exact ⟨h, MS.Ext.refl s, .inl rfl, fun _ => ⟨hc.2.1, hc.1⟩, fun n hn => .inl hn⟩
  | succ k ih =>
    intro s f h hk
    unfold MS.bld
    by_cases ht : topF f s.o < 0
    · rw [if_pos ht]
      have hc := const_tab (const_of h.order ht) s
      exact ⟨h, MS.Ext.refl s, .inl rfl, fun _ => ⟨hc.2.1, hc.1⟩, fun n hn => .inl hn⟩
    · rw [if_neg ht]
      have ht0 : 0 ≤ topF f s.o := by omega
      have hdep : depAny f (topF f s.o) = true := topFrom_dep f s.o 8 0 ht0
      have hsup : supF f ≠ 0 := sup_of_dep hdep
      have hvr := depAny_range hdep
      have k0 := supN_cof f s.o false ht0
      have k1 := supN_cof f s.o true ht0
      have ra := ih s (cofAny f (topF f s.o) false) h (by omega)
      generalize hA : MS.bld k s (cofAny f (topF f s.o) false) = A at *
      obtain ⟨oka, ea, erra, resa, newa⟩ := ra
      have reach : ∀ b g, IsNode [cofAny f (topF f s.o) b] s.o g → IsNode [f] s.o g := fun b g hg => ⟨Reach.trans (Reach.step b (Reach.base (by simp)) hsup ht0) hg.1, hg.2⟩
      have newA : ∀ n, A.2.2.has n = true → s.has n = true ∨ IsNode [f] s.o (A.2.2.tab n) := fun n hn => (newa n hn).imp id (reach false _)
      dsimp only
      by_cases hea : A.2.1 = 0
      · rw [if_neg (by simpa using hea)]
        obtain ⟨ta, tba⟩ := resa hea
        have rb := ih A.2.2 (cofAny f (topF f s.o) true) oka (by omega)
        generalize hB : MS.bld k A.2.2 (cofAny f (topF f s.o) true) = B at *
        obtain ⟨okb, eb, errb, resb, newb⟩ := rb
        rw [ea.o] at newb
        have newB : ∀ n, B.2.2.has n = true → s.has n = true ∨ IsNode [f] s.o (B.2.2.tab n) := fun n hn => by
          rcases newb n hn with h1 | h1
          · rcases newA n h1 with h2 | h2
            · exact .inl h2
            · right
              rw [eb.tab oka okb (by simp [MS.there, h1])]
              exact h2
          · exact .inr (reach true _ h1)
        have eab := ea.trans eb
        by_cases heb : B.2.1 = 0
        · rw [if_neg (by simpa using heb)]
          obtain ⟨tb, tbb⟩ := resb heb
          have hob : B.2.2.o = s.o := eab.o
          have tA := eb.there ta
          have tabA : B.2.2.tab A.1 = cofAny f (topF f s.o) false := (eb.tab oka okb ta).trans tba
          have b1 : B.2.2.behind A.1 (topF f s.o) = true := by
            have := okb.behind_cof (f := f) (by rw [hob]; exact ht0) false tA (by rw [hob]; exact tabA)
            rwa [hob] at this
          have b2 : B.2.2.behind B.1 (topF f s.o) = true := by
            have := okb.behind_cof (f := f) (by rw [hob]; exact ht0) true tb (by rw [hob]; exact tbb)
            rwa [hob] at this
          have okm := okb.made (topF f s.o) A.1 B.1
          rcases okb.mk_made hvr.1 (by omega) b1 b2 with ⟨m1, m2, m3, m4, m5⟩ | ⟨m1, m2, m3, m4⟩
          · rw [tabA, tbb, ite_cof f _ hvr] at m4
            refine ⟨okm, eab.trans m3, .inl m1, fun _ => ⟨m2, m4⟩, fun n hn => ?_⟩
            rcases m5 n hn with h1 | h1
            · rcases newB n h1 with h2 | h2
              · exact .inl h2
              · right
                rw [m3.tab okb okm (by simp [MS.there, h1])]
                exact h2
            · right
              rw [h1, m4]
              exact ⟨Reach.base (by simp), hsup⟩
          · rw [m1]
            exact ⟨okb, eab, .inr rfl, (fun e => by cases e), newB⟩
        · rw [if_pos (by simpa using heb)]
          exact ⟨okb, eab, errb, fun e => absurd e heb, newB⟩
      · rw [if_pos (by simpa using hea)]
        exact ⟨oka, ea, erra, fun e => absurd e hea, newA⟩

end

end Go.Proofs.YtipocmbplcdmjaaGreatDoor
