/-
  Texts of this proof, one behind the other: StoreV, StoreW.
-/
import Derived.Test.YtipocmbplcdmjaaDoorG1
/-
  Mathematics of a store of nodes: how deep a node stands, what it is in a row. Nothing of the program is read here.
-/
namespace Go.Proofs.YtipocmbplcdmjaaDoor

section
variable {s : MS}

/-- A constant, or a node that is there. -/
def MS.there (s : MS) (n : Int) : Bool := n == 0 || n == 1 || s.has n
theorem MS.behind_there {n v : Int} (h : s.behind n v = true) : s.there n = true := by
  rcases MS.behind_cases h with (rfl | rfl) | ⟨h, _⟩ <;> simp [MS.there, *]
theorem MS.there_cases {n : Int} (h : s.there n = true) : ((n = 0 ∨ n = 1) ∧ s.has n = false) ∨ s.has n = true := by
  simp only [MS.there, Bool.or_eq_true, beq_iff_eq] at h
  rcases h with (rfl | rfl) | h
  · exact .inl ⟨.inl rfl, rfl⟩
  · exact .inl ⟨.inr rfl, rfl⟩
  · exact .inr h
theorem MS.node_has {n : Int} (h : s.has n = true) : s.node n = some (s.nd n) := by simp [MS.node, h]
theorem MS.node_not {n : Int} (h : s.has n = false) : s.node n = none := by simp [MS.node, h]

/-- How many levels there are from a node's on. -/
def MS.dep (s : MS) (n : Int) : Nat := if s.has n then (8 - levO s.o (s.nd n).var).toNat else 0
/-- What a number is where b tells each variable, told by so many steps. -/
def MS.valF (s : MS) (b : Int → Bool) : Nat → Int → Bool
  | 0, n => n == 1
  | k + 1, n => match s.node n with
    | none => n == 1
    | some x => s.valF b k (if b x.var then x.hi else x.lo)
/-- What a number is where b tells each variable. -/
def MS.val (s : MS) (b : Int → Bool) (n : Int) : Bool := s.valF b 8 n

theorem MS.Ok.lev (h : s.Ok) {n : Int} (hn : s.has n = true) : 0 ≤ levO s.o (s.nd n).var ∧ levO s.o (s.nd n).var ≤ 7 := by
  have hv := h.var n hn
  have hr := levO_range s.o (s.nd n).var
  obtain ⟨v, hv'⟩ := Int.eq_ofNat_of_zero_le hv.1
  have := levO_nonneg.2 (mayO_iff.1 h.order v (by omega))
  rw [hv'] at hr ⊢
  exact ⟨this, hr.2⟩
theorem MS.Ok.dep_le (h : s.Ok) (n : Int) : s.dep n ≤ 8 := by
  unfold MS.dep
  split
  · rename_i hn; have := h.lev hn; omega
  · omega
theorem MS.Ok.dep_pos (h : s.Ok) {n : Int} (hn : s.has n = true) : 0 < s.dep n := by
  have := h.lev hn
  simp only [MS.dep, hn, if_true]; omega
theorem MS.Ok.dep_behind (h : s.Ok) {n m : Int} (hn : s.has n = true) (hb : s.behind m (s.nd n).var = true) : s.dep m < s.dep n := by
  have h1 := h.lev hn
  rcases MS.behind_cases hb with hc | ⟨hm, hl⟩
  · have : s.has m = false := by rcases hc with rfl | rfl <;> rfl
    simp only [MS.dep, hn, this, if_true]; simp; omega
  · have h2 := h.lev hm
    simp only [MS.dep, hn, hm, if_true]; omega
theorem MS.Ok.valF_more (h : s.Ok) (b : Int → Bool) : ∀ k n, s.dep n ≤ k → s.valF b (k + 1) n = s.valF b k n := by
  intro k
  induction k with
  | zero =>
    intro n hd
    cases hn : s.has n
    · simp [MS.valF, MS.node_not hn]
    · have := h.dep_pos hn; omega
  | succ k ih =>
    intro n hd
    cases hn : s.has n
    · simp [MS.valF, MS.node_not hn]
    · have h1 := h.dep_behind hn (h.lo n hn)
      have h2 := h.dep_behind hn (h.hi n hn)
      rw [MS.valF, MS.valF, MS.node_has hn]
      dsimp only
      split
      · exact ih _ (by omega)
      · exact ih _ (by omega)
theorem MS.Ok.valF_enough (h : s.Ok) (b : Int → Bool) {n : Int} {k : Nat} (hk : s.dep n ≤ k) : ∀ d, s.valF b (k + d) n = s.valF b k n := by
  intro d
  induction d with
  | zero => rfl
  | succ d ih => rw [← ih, ← Nat.add_assoc]; exact h.valF_more b _ _ (by omega)
theorem MS.Ok.valF_val (h : s.Ok) (b : Int → Bool) {n : Int} {k : Nat} (hk : s.dep n ≤ k) : s.valF b k n = s.val b n := by
  unfold MS.val
  have h8 := h.dep_le n
  rcases Nat.le_total k 8 with hle | hle
  · have := h.valF_enough b hk (8 - k)
    rw [show k + (8 - k) = 8 by omega] at this
    exact this.symm
  · have := h.valF_enough b h8 (k - 8)
    rw [show 8 + (k - 8) = k by omega] at this
    exact this
/-- Of a node: its Hi's, or its Lo's. -/
theorem MS.Ok.val_node (h : s.Ok) (b : Int → Bool) {n : Int} (hn : s.has n = true) : s.val b n = s.val b (if b (s.nd n).var then (s.nd n).hi else (s.nd n).lo) := by
  have h1 := h.dep_behind hn (h.lo n hn)
  have h2 := h.dep_behind hn (h.hi n hn)
  have h8 := h.dep_le n
  have : s.val b n = s.valF b 7 (if b (s.nd n).var then (s.nd n).hi else (s.nd n).lo) := by
    unfold MS.val
    rw [MS.valF, MS.node_has hn]
  rw [this]
  exact h.valF_val b (by split <;> omega)
theorem MS.val_const (b : Int → Bool) {n : Int} (hn : s.has n = false) : s.val b n = (n == 1) := by
  unfold MS.val
  rw [MS.valF, MS.node_not hn]
end

end Go.Proofs.YtipocmbplcdmjaaDoor

/-
  Mathematics of a store of nodes: levels that are exchanged. Nothing of the program is read here.
-/
namespace Go.Proofs.YtipocmbplcdmjaaDoor

theorem mayO_range {o : Nat → Int} (h : mayO o = true) {i : Nat} (hi : i < 8) : 0 ≤ o i ∧ o i ≤ 7 := by
  obtain ⟨v, hv, e, _⟩ := mayO_all h i hi
  omega
theorem lev_place {o : Nat → Int} {v : Int} {l : Nat} (h : levO o v = (l : Int)) : o l = v := by
  rcases levO_cases o v with ⟨h1, _⟩ | ⟨j, h1, _, h3, _⟩
  · omega
  · obtain rfl : j = l := by omega
    exact h3
theorem lev_swap {o : Nat → Int} (h : mayO o = true) {l : Nat} (hl : l ≤ 6) {v : Int} (h0 : 0 ≤ v) (h7 : v ≤ 7) :
    levO (swapO o l) v = if levO o v = (l : Int) then (l : Int) + 1 else if levO o v = (l : Int) + 1 then (l : Int) else levO o v := by
  obtain ⟨n, rfl⟩ := Int.eq_ofNat_of_zero_le h0
  have := swapO_lev h (l := l) (by omega) (by omega) (v := n) (by omega)
  split
  · exact this.2.1 (by assumption)
  · split
    · exact this.2.2 (by assumption)
    · exact this.1 (by assumption) (by assumption)

section
variable {s t : MS} {l : Nat} {C R : List Int}

theorem MS.Base.mem_all (h : s.Base) {n : Int} : n ∈ s.all ↔ s.has n = true := by
  unfold MS.all
  rw [List.mem_filter]
  exact ⟨fun h => h.2, fun hn => ⟨MS.has_in h hn, hn⟩⟩
theorem MS.isOf_iff {n v : Int} : s.isOf n v = true ↔ s.has n = true ∧ (s.nd n).var = v := by
  unfold MS.isOf
  cases hn : s.has n
  · simp [MS.node, hn]
  · simp [MS.node, hn]
theorem MS.Base.mem_changes (h : s.Base) {n x y : Int} : n ∈ s.changes x y ↔ s.has n = true ∧ (s.nd n).var = x ∧ (s.isOf (s.nd n).lo y = true ∨ s.isOf (s.nd n).hi y = true) := by
  unfold MS.changes
  rw [List.mem_filter, h.mem_all]
  simp

/-- A constant, or a node behind both levels. -/
def MS.deep (s : MS) (l : Nat) (p : Int) : Prop := (p = 0 ∨ p = 1) ∨ (s.has p = true ∧ (l : Int) + 1 < levO s.o (s.nd p).var)
/-- Such a one, or a node of the second level. -/
def MS.deep1 (s : MS) (l : Nat) (p : Int) : Prop := s.deep l p ∨ s.isOf p (s.o (l + 1)) = true

theorem MS.Ok.lev_l (h : s.Ok) (hl : l ≤ 7) : levO s.o (s.o l) = (l : Int) := levO_at h.order (by omega) rfl
/-- Sides of a node of the first level. -/
theorem MS.Ok.deep1_x (h : s.Ok) (hl : l ≤ 6) {p : Int} (hb : s.behind p (s.o l) = true) : s.deep1 l p := by
  rcases MS.behind_cases hb with hc | ⟨hp, hlev⟩
  · exact .inl (.inl hc)
  · rw [h.lev_l (by omega)] at hlev
    by_cases e : levO s.o (s.nd p).var = (l : Int) + 1
    · exact .inr (MS.isOf_iff.2 ⟨hp, (lev_place (l := l + 1) (by rw [e]; rfl)).symm⟩)
    · exact .inl (.inr ⟨hp, by omega⟩)
theorem MS.Ok.deep_y (h : s.Ok) (hl : l ≤ 6) {p : Int} (hb : s.behind p (s.o (l + 1)) = true) : s.deep l p := by
  rcases MS.behind_cases hb with hc | ⟨hp, hlev⟩
  · exact .inl hc
  · rw [h.lev_l (by omega)] at hlev
    exact .inr ⟨hp, by omega⟩
theorem MS.Ok.deep_not (h : s.Ok) (hl : l ≤ 6) {p v : Int} (hd : s.deep l p) (hp : s.has p = true) (hv : v = s.o l ∨ v = s.o (l + 1)) : (s.nd p).var ≠ v := by
  intro e
  have h1 := h.lev_l (l := l) (by omega)
  have h2 := h.lev_l (l := l + 1) (by omega)
  rcases hd with (rfl | rfl) | ⟨_, hd⟩
  · cases hp
  · cases hp
  · rcases hv with rfl | rfl <;> rw [e] at hd <;> omega
/-- A side is behind both. -/
theorem MS.Ok.deep_side (h : s.Ok) (hl : l ≤ 6) {p : Int} (hp : s.deep1 l p) (b : Bool) : s.deep l (s.side p (s.o (l + 1)) b) := by
  unfold MS.side
  split
  · rename_i ho
    obtain ⟨h1, h2⟩ := MS.isOf_iff.1 ho
    split
    · exact h.deep_y hl (h2 ▸ h.hi p h1)
    · exact h.deep_y hl (h2 ▸ h.lo p h1)
  · rename_i ho
    exact hp.resolve_right ho
/-- What both sides are tells the number. -/
theorem MS.Ok.side_inj (h : s.Ok) {y p q : Int} (h0 : s.side p y false = s.side q y false) (h1 : s.side p y true = s.side q y true) : p = q := by
  unfold MS.side at h0 h1
  by_cases hp : s.isOf p y = true
  · obtain ⟨p1, p2⟩ := MS.isOf_iff.1 hp
    have hu := h.unlike p p1
    by_cases hq : s.isOf q y = true
    · obtain ⟨q1, q2⟩ := MS.isOf_iff.1 hq
      simp only [hp, hq, if_true] at h0 h1
      simp only [Bool.false_eq_true, if_false] at h0
      refine h.one p q p1 q1 ?_
      revert h0 h1 p2 q2
      generalize s.nd p = a
      generalize s.nd q = b
      cases a; cases b
      simp only [Nd.mk.injEq]
      intro e0 e1 e2 e3
      simp_all
    · simp only [hp, hq, if_true, if_false, Bool.false_eq_true] at h0 h1
      exact absurd (h0.trans h1.symm) hu
  · by_cases hq : s.isOf q y = true
    · have hu := h.unlike q (MS.isOf_iff.1 hq).1
      simp only [hp, hq, if_true, if_false, Bool.false_eq_true] at h0 h1
      exact absurd (h0.symm.trans h1) hu
    · simpa only [hp, hq, if_false, Bool.false_eq_true] using h0
theorem MS.Ok.side_same (h : s.Ok) {y p : Int} (h0 : s.side p y false = s.side p y true) : s.isOf p y = false := by
  cases hp : s.isOf p y
  · rfl
  · have hu := h.unlike p (MS.isOf_iff.1 hp).1
    simp only [MS.side, hp, if_true, Bool.false_eq_true, if_false] at h0
    exact absurd h0 hu

/-- What Mk tells of a node of the first level. -/
def MS.Made (s : MS) (l : Nat) (C : List Int) (t : MS) (a p q : Int) : Prop := (p = q ∧ a = p) ∨ (p ≠ q ∧ t.has a = true ∧ a ∉ C ∧ t.nd a = ⟨s.o l, p, q⟩)

/-- What holds while one after the other becomes one of the second variable: R are still to come. -/
structure MS.J (s : MS) (l : Nat) (C R : List Int) (t : MS) : Prop where
  okb : t.Okb R
  o : t.o = swapO s.o l
  has : ∀ n, s.has n = true → t.has n = true
  old : ∀ n, s.has n = true → (n ∉ C ∨ n ∈ R) → t.nd n = s.nd n
  made : ∀ n ∈ C, n ∉ R → ∃ a b, t.nd n = ⟨s.o (l + 1), a, b⟩ ∧ MS.Made s l C t a (s.side (s.nd n).lo (s.o (l + 1)) false) (s.side (s.nd n).hi (s.o (l + 1)) false) ∧ MS.Made s l C t b (s.side (s.nd n).lo (s.o (l + 1)) true) (s.side (s.nd n).hi (s.o (l + 1)) true)
  new : ∀ n, t.has n = true → s.has n = false → (t.nd n).var = s.o l ∧ s.deep l (t.nd n).lo ∧ s.deep l (t.nd n).hi

/-- What is exchanged. -/
structure MS.Sw (s : MS) (l : Nat) (C : List Int) : Prop where
  ok : s.Ok
  l6 : l ≤ 6
  mem : ∀ n, n ∈ C ↔ s.has n = true ∧ (s.nd n).var = s.o l ∧ (s.isOf (s.nd n).lo (s.o (l + 1)) = true ∨ s.isOf (s.nd n).hi (s.o (l + 1)) = true)

theorem MS.Sw.not_deep (w : s.Sw l C) {p : Int} (hp : s.deep l p) : p ∉ C := fun hc => by
  obtain ⟨h1, h2, _⟩ := (w.mem p).1 hc
  exact w.ok.deep_not w.l6 hp h1 (.inl rfl) h2
theorem MS.Sw.not_y (w : s.Sw l C) {p : Int} (hp : s.isOf p (s.o (l + 1)) = true) : p ∉ C := fun hc => by
  obtain ⟨h1, h2, _⟩ := (w.mem p).1 hc
  have h3 := (MS.isOf_iff.1 hp).2
  have h4 := w.ok.lev_l (l := l) (by have := w.l6; omega)
  have h5 := w.ok.lev_l (l := l + 1) (by have := w.l6; omega)
  rw [← h2, h3] at h4
  omega
theorem MS.Sw.xy (w : s.Sw l C) : s.o l ≠ s.o (l + 1) := fun e => by
  have h4 := w.ok.lev_l (l := l) (by have := w.l6; omega)
  have h5 := w.ok.lev_l (l := l + 1) (by have := w.l6; omega)
  rw [e] at h4
  omega

/-- In what came of it a deep one is behind the first variable. -/
theorem MS.J.deep_lev (w : s.Sw l C) (j : MS.J s l C R t) {p : Int} (hp : s.deep l p) (hh : s.has p = true) : t.has p = true ∧ t.nd p = s.nd p ∧ (l : Int) + 1 < levO t.o (t.nd p).var := by
  have h1 := j.has p hh
  have h2 := j.old p hh (.inl (w.not_deep hp))
  refine ⟨h1, h2, ?_⟩
  have hv := w.ok.var p hh
  rcases hp with (rfl | rfl) | ⟨_, hp⟩
  · cases hh
  · cases hh
  · rw [h2, j.o, lev_swap w.ok.order w.l6 hv.1 hv.2, if_neg (by omega), if_neg (by omega)]
    exact hp
theorem MS.J.lev_x (w : s.Sw l C) (j : MS.J s l C R t) : levO t.o (s.o l) = (l : Int) + 1 := by
  have := mayO_range w.ok.order (i := l) (by have := w.l6; omega)
  rw [j.o, lev_swap w.ok.order w.l6 this.1 this.2, if_pos (w.ok.lev_l (by have := w.l6; omega))]
theorem MS.J.lev_y (w : s.Sw l C) (j : MS.J s l C R t) : levO t.o (s.o (l + 1)) = (l : Int) := by
  have := mayO_range w.ok.order (i := l + 1) (by have := w.l6; omega)
  have e := w.ok.lev_l (l := l + 1) (by have := w.l6; omega)
  rw [j.o, lev_swap w.ok.order w.l6 this.1 this.2, if_neg (by rw [e]; omega), if_pos (by rw [e]; rfl)]
theorem MS.J.deep_behind (w : s.Sw l C) (j : MS.J s l C R t) {p : Int} (hp : s.deep l p) : t.behind p (s.o l) = true := by
  rcases hp with hc | ⟨hh, hp⟩
  · exact MS.behind_const hc
  · obtain ⟨h1, h2, h3⟩ := j.deep_lev w (.inr ⟨hh, hp⟩) hh
    rw [MS.behind_node h1, j.lev_x w]
    exact decide_eq_true h3

/-- A node of the first variable made, or met. -/
theorem MS.J.mkd (w : s.Sw l C) (j : MS.J s l C R t) {p q : Int} (hp : s.deep l p) (hq : s.deep l q) (hroom : 0 < t.room) :
    ∃ a t', t.mk (s.o l) p q R = (a, 0, t') ∧ MS.J s l C R t' ∧ MS.Made s l C t' a p q ∧ t.room ≤ t'.room + 1 ∧ (∀ n, t.has n = true → t'.has n = true ∧ t'.nd n = t.nd n) := by
  have hx := mayO_range w.ok.order (i := l) (by have := w.l6; omega)
  have b1 := j.deep_behind w hp
  have b2 := j.deep_behind w hq
  have h1 : ¬ (s.o l < 0 ∨ 7 < s.o l ∨ t.behind p (s.o l) = false ∨ t.behind q (s.o l) = false) := by rw [b1, b2]; simp; omega
  unfold MS.mk
  rw [if_neg h1]
  by_cases h2 : p = q
  · rw [if_pos h2]
    exact ⟨_, _, rfl, j, .inl ⟨h2, rfl⟩, by omega, fun n hn => ⟨hn, rfl⟩⟩
  · rw [if_neg h2]
    cases h3 : t.find ⟨s.o l, p, q⟩ R with
    | some n =>
      obtain ⟨f1, f2, f3⟩ := MS.find_some h3
      refine ⟨_, _, rfl, j, .inr ⟨h2, f1, fun hc => ?_, f2⟩, by omega, fun n hn => ⟨hn, rfl⟩⟩
      obtain ⟨a, b, e, _⟩ := j.made n hc f3
      rw [f2] at e
      exact w.xy (by injection e)
    | none =>
      have hf : t.ar.T.length ≠ t.ar.most := fun e => by simp only [MS.room] at hroom; omega
      have h5 : t.ar.takeE = 0 := by simp [AS.takeE, hf]
      simp only [h5, ne_eq, not_true_eq_false, if_false]
      have hB := j.okb.toBase
      have hnew : t.has (t.ar.takeN + 2) = false := Bool.eq_false_iff.2 fun e => by
        obtain ⟨_, h1, _, _⟩ := hB.took hf
        have := (hB.range e).2.2
        rw [show t.ar.takeN + 2 - 2 = t.ar.takeN by omega] at this
        exact h1 this
      have hs0 : s.has (t.ar.takeN + 2) = false := Bool.eq_false_iff.2 fun e => by rw [j.has _ e] at hnew; cases hnew
      have hold : ∀ n, t.has n = true → (t.takeS ⟨s.o l, p, q⟩).has n = true ∧ (t.takeS ⟨s.o l, p, q⟩).nd n = t.nd n := fun n hn => ⟨(hB.takeS_has hf _ n).2 (.inl hn), hB.takeS_old hf _ hn⟩
      have hn1 := hB.takeS_new hf ⟨s.o l, p, q⟩
      have hn2 := (hB.takeS_has hf ⟨s.o l, p, q⟩ (t.ar.takeN + 2)).2 (.inr rfl)
      have hmk : ∀ a p' q', MS.Made s l C t a p' q' → MS.Made s l C (t.takeS ⟨s.o l, p, q⟩) a p' q' := fun a p' q' h => by
        rcases h with h | ⟨a1, a2, a3, a4⟩
        · exact .inl h
        · exact .inr ⟨a1, (hold a a2).1, a3, by rw [(hold a a2).2]; exact a4⟩
      refine ⟨_, _, rfl, ⟨j.okb.takeS hf hx h2 b1 b2 fun n hn hnR => MS.find_none hB h3 hn hnR, j.o, fun n hn => (hold n (j.has n hn)).1, fun n hn hc => by rw [(hold n (j.has n hn)).2]; exact j.old n hn hc, fun n hn hnR => ?_, fun n hn hsn => ?_⟩, .inr ⟨h2, hn2, fun hc => ?_, hn1⟩, ?_, hold⟩
      · obtain ⟨a, b, e, m1, m2⟩ := j.made n hn hnR
        have := hold n (j.has n ((w.mem n).1 hn).1)
        exact ⟨a, b, by rw [this.2]; exact e, hmk _ _ _ m1, hmk _ _ _ m2⟩
      · rcases (hB.takeS_has hf _ n).1 hn with hc | rfl
        · rw [(hold n hc).2]; exact j.new n hc hsn
        · rw [hn1]; exact ⟨rfl, hp, hq⟩
      · rw [((w.mem _).1 hc).1] at hs0; cases hs0
      · have : (t.takeS ⟨s.o l, p, q⟩).ar.T.length = t.ar.T.length + 1 ∧ (t.takeS ⟨s.o l, p, q⟩).ar.most = t.ar.most := by
          show t.ar.take.T.length = _ ∧ t.ar.take.most = _
          rcases last_or_nil t.ar.B with hb | ⟨k, n, hb⟩
          · rw [(AS.Ok.take_new hf hb).2.2]; simp
          · rw [(AS.Ok.take_again hf hb).2.2]; simp
        simp only [MS.room]
        rw [this.1, this.2]
        omega

/-- What is behind both levels has the sides that it had. -/
theorem MS.J.side_as (w : s.Sw l C) (j : MS.J s l C R t) {p : Int} (hp : s.deep1 l p) (b : Bool) : t.side p (s.o (l + 1)) b = s.side p (s.o (l + 1)) b := by
  cases hh : s.has p
  · have hc : p = 0 ∨ p = 1 := by
      rcases hp with (hc | ⟨h1, _⟩) | h1
      · exact hc
      · rw [hh] at h1; cases h1
      · rw [(MS.isOf_iff.1 h1).1] at hh; cases hh
    have h1 : t.has p = false := by rcases hc with rfl | rfl <;> rfl
    simp [MS.side, MS.isOf, MS.node, hh, h1]
  · have h1 := j.has p hh
    have h2 := j.old p hh (.inl (hp.elim w.not_deep w.not_y))
    simp [MS.side, MS.isOf, MS.node, hh, h1, h2]
theorem MS.J.made_deep (w : s.Sw l C) (j : MS.J s l C R t) {a p q : Int} (ha : s.deep l a) (h : MS.Made s l C t a p q) : p = q ∧ a = p := by
  rcases h with h | ⟨_, h1, _, h2⟩
  · exact h
  · exfalso
    cases hh : s.has a
    · rcases ha with hc | ⟨h3, _⟩
      · have : t.has a = false := by rcases hc with rfl | rfl <;> rfl
        rw [this] at h1; cases h1
      · rw [hh] at h3; cases h3
    · have h3 := (j.deep_lev w ha hh).2.1
      rw [h3] at h2
      exact w.ok.deep_not w.l6 ha hh (.inl rfl) (by rw [h2])
theorem MS.J.made_inj (w : s.Sw l C) (j : MS.J s l C R t) {a p q p' q' : Int} (hp : s.deep l p) (hp' : s.deep l p') (h : MS.Made s l C t a p q) (h' : MS.Made s l C t a p' q') : p = p' ∧ q = q' := by
  rcases h with ⟨h1, rfl⟩ | ⟨h1, h2, h3, h4⟩
  · obtain ⟨e1, e2⟩ := j.made_deep w hp h'
    exact ⟨e2, by omega⟩
  · rcases h' with ⟨k1, rfl⟩ | ⟨k1, k2, k3, k4⟩
    · obtain ⟨e1, e2⟩ := j.made_deep w hp' (.inr ⟨h1, h2, h3, h4⟩)
      exact ⟨e2.symm, by omega⟩
    · rw [h4] at k4
      simpa using k4
theorem MS.Made.not_in (w : s.Sw l C) {a p q : Int} (hp : s.deep l p) (h : MS.Made s l C t a p q) : a ∉ C := by
  rcases h with ⟨_, rfl⟩ | ⟨_, _, h, _⟩
  · exact w.not_deep hp
  · exact h
theorem MS.Made.behind (w : s.Sw l C) (j : MS.J s l C R t) {a p q : Int} (hp : s.deep l p) (h : MS.Made s l C t a p q) : t.behind a (s.o (l + 1)) = true := by
  rcases h with ⟨_, rfl⟩ | ⟨_, h1, _, h2⟩
  · rcases hp with hc | hp
    · exact MS.behind_const hc
    · obtain ⟨e1, _, e3⟩ := j.deep_lev w (.inr hp) hp.1
      rw [MS.behind_node e1, j.lev_y w]
      exact decide_eq_true (by omega)
  · rw [MS.behind_node h1, j.lev_y w, h2, j.lev_x w]
    exact decide_eq_true (by omega)
/-- The four sides of what changes. -/
theorem MS.Sw.sides (w : s.Sw l C) {n : Int} (hn : n ∈ C) : s.deep1 l (s.nd n).lo ∧ s.deep1 l (s.nd n).hi := by
  obtain ⟨h1, h2, _⟩ := (w.mem n).1 hn
  exact ⟨w.ok.deep1_x w.l6 (h2 ▸ w.ok.lo n h1), w.ok.deep1_x w.l6 (h2 ▸ w.ok.hi n h1)⟩
/-- What isn't still to come, and is of the second variable, has no sides that change. -/
theorem MS.J.side_y (w : s.Sw l C) (j : MS.J s l C R t) {m : Int} (hm : t.has m = true) (hR : m ∉ R) (hv : (t.nd m).var = s.o (l + 1)) : (t.nd m).lo ∉ C ∧ (t.nd m).hi ∉ C := by
  cases hh : s.has m
  · exact absurd ((j.new m hm hh).1.symm.trans hv) w.xy
  · by_cases hc : m ∈ C
    · obtain ⟨a, b, e, m1, m2⟩ := j.made m hc hR
      obtain ⟨d1, d2⟩ := w.sides hc
      rw [e]
      exact ⟨MS.Made.not_in w (w.ok.deep_side w.l6 d1 _) m1, MS.Made.not_in w (w.ok.deep_side w.l6 d1 _) m2⟩
    · have e := j.old m hh (.inl hc)
      rw [e] at hv ⊢
      exact ⟨w.not_deep (w.ok.deep_y w.l6 (hv ▸ w.ok.lo m hh)), w.not_deep (w.ok.deep_y w.l6 (hv ▸ w.ok.hi m hh))⟩

theorem MS.setNd_has {n m : Int} {x : Nd} : (t.setNd n x).has m = t.has m := rfl
theorem MS.Base.setNd_at (h : t.Base) {n : Int} (hn : t.has n = true) (x : Nd) : (t.setNd n x).nd n = x := by
  have := (h.range hn).2.1
  simp [MS.nd, MS.setNd, List.getD, this]
theorem MS.Base.setNd_ne (h : t.Base) {n m : Int} (hn : t.has n = true) (hm : t.has m = true) (hne : m ≠ n) (x : Nd) : (t.setNd n x).nd m = t.nd m := by
  have h1 := (h.range hn).1
  have h2 := (h.range hm).1
  have : (n - 2).toNat ≠ (m - 2).toNat := by omega
  simp [MS.nd, MS.setNd, List.getD, List.getElem?_set_ne this]

/-- One of them becomes one of the second variable. -/
theorem MS.J.put (w : s.Sw l C) {n : Int} (hn : n ∈ C) (hnR : n ∉ R) (j : MS.J s l C (n :: R) t) {a b : Int}
    (ma : MS.Made s l C t a (s.side (s.nd n).lo (s.o (l + 1)) false) (s.side (s.nd n).hi (s.o (l + 1)) false))
    (mb : MS.Made s l C t b (s.side (s.nd n).lo (s.o (l + 1)) true) (s.side (s.nd n).hi (s.o (l + 1)) true)) : MS.J s l C R (t.setNd n ⟨s.o (l + 1), a, b⟩) := by
  have hB := j.okb.toBase
  obtain ⟨n1, n2, n3⟩ := (w.mem n).1 hn
  have t1 := j.has n n1
  obtain ⟨d1, d2⟩ := w.sides hn
  have p00 := w.ok.deep_side w.l6 d1 false
  have p10 := w.ok.deep_side w.l6 d2 false
  have p01 := w.ok.deep_side w.l6 d1 true
  have p11 := w.ok.deep_side w.l6 d2 true
  have e1 := hB.setNd_at t1 ⟨s.o (l + 1), a, b⟩
  have e2 : ∀ m, t.has m = true → m ≠ n → (t.setNd n ⟨s.o (l + 1), a, b⟩).nd m = t.nd m := fun m hm hne => hB.setNd_ne t1 hm hne _
  have aC := MS.Made.not_in w p00 ma
  have bC := MS.Made.not_in w p01 mb
  have hbeh : ∀ p v, t.behind p v = true → (p = n → levO t.o v < (l : Int)) → (t.setNd n ⟨s.o (l + 1), a, b⟩).behind p v = true := fun p v hb hne => by
    rcases MS.behind_cases hb with hc | ⟨hp, hl⟩
    · exact MS.behind_const hc
    · rw [MS.behind_node (by rw [MS.setNd_has]; exact hp)]
      by_cases e : p = n
      · subst e
        rw [e1]
        show decide (levO t.o v < levO t.o (s.o (l + 1))) = true
        rw [j.lev_y w]
        exact decide_eq_true (hne rfl)
      · rw [e2 p hp e]; exact decide_eq_true hl
  have hab : a ≠ b := fun e => by
    subst e
    obtain ⟨f1, f2⟩ := j.made_inj w p00 p01 ma mb
    rw [w.ok.side_same f1, w.ok.side_same f2] at n3
    simp at n3
  -- a side of what stays isn't what changes, if it is of the second variable
  have hstay : ∀ m p, t.has m = true → m ∉ R → m ≠ n → (p = (t.nd m).lo ∨ p = (t.nd m).hi) → t.behind p (t.nd m).var = true → (p = n → levO t.o (t.nd m).var < (l : Int)) := fun m p hm hmR hne hp hb e => by
    subst e
    rw [MS.behind_node t1, j.old p n1 (.inr (List.mem_cons_self)), n2, j.lev_x w] at hb
    have hb' := of_decide_eq_true hb
    refine Classical.byContradiction fun hno => ?_
    have h1 : levO t.o (t.nd m).var = (l : Int) := by omega
    have h2 := lev_place h1
    have h3 := lev_place (j.lev_y w)
    have h4 := j.side_y w hm (by simp [hne, hmR]) (h2.symm.trans h3)
    rcases hp with e | e
    · exact h4.1 (e ▸ hn)
    · exact h4.2 (e ▸ hn)
  -- what is made is unlike what there is
  have hnew : ∀ m, t.has m = true → m ∉ R → m ≠ n → t.nd m ≠ ⟨s.o (l + 1), a, b⟩ := fun m hm hmR hne e => by
    cases hh : s.has m
    · have := (j.new m hm hh).1
      rw [e] at this
      exact w.xy this.symm
    · by_cases hc : m ∈ C
      · obtain ⟨a', b', e', m1, m2⟩ := j.made m hc (by simp [hne, hmR])
        rw [e] at e'
        have ea : a = a' := by injection e'
        have eb : b = b' := by injection e'
        subst ea; subst eb
        obtain ⟨c1, c2⟩ := w.sides hc
        obtain ⟨f1, f2⟩ := j.made_inj w p00 (w.ok.deep_side w.l6 c1 false) ma m1
        obtain ⟨g1, g2⟩ := j.made_inj w p01 (w.ok.deep_side w.l6 c1 true) mb m2
        have q1 := w.ok.side_inj f1 g1
        have q2 := w.ok.side_inj f2 g2
        have q3 := ((w.mem m).1 hc).2.1
        refine hne (w.ok.one m n hh n1 ?_)
        revert q1 q2 q3 n2
        generalize s.nd m = u
        generalize s.nd n = v
        cases u; cases v
        intro r1 r2 r3 r4
        simp_all
      · have h1 := j.old m hh (.inl hc)
        rw [e] at h1
        have hv : (s.nd m).var = s.o (l + 1) := by rw [← h1]
        have da : s.deep l a := by have := w.ok.deep_y w.l6 (hv ▸ w.ok.lo m hh); rw [← h1] at this; exact this
        have db : s.deep l b := by have := w.ok.deep_y w.l6 (hv ▸ w.ok.hi m hh); rw [← h1] at this; exact this
        exact w.ok.unlike n n1 (w.ok.side_inj (j.made_deep w da ma).1 (j.made_deep w db mb).1)
  refine ⟨⟨⟨hB.ar, ?_⟩, j.okb.order, fun m hm hR => ?_, fun m hm hR => ?_, fun m hm hR => ?_, fun m hm hR => ?_, fun m k hm hk hmR hkR he => ?_⟩, j.o, j.has, fun m hm hc => ?_, fun m hm hR => ?_, fun m hm hsm => ?_⟩
  · show (t.N.set _ _).length = _
    rw [List.length_set]; exact hB.len
  · by_cases e : m = n
    · subst e; rw [e1]; exact mayO_range w.ok.order (i := l + 1) (by have := w.l6; omega)
    · rw [e2 m hm e]; exact j.okb.var m hm (by simp [e, hR])
  · by_cases e : m = n
    · subst e; rw [e1]; exact hab
    · rw [e2 m hm e]; exact j.okb.unlike m hm (by simp [e, hR])
  · by_cases e : m = n
    · subst e; rw [e1]; exact hbeh _ _ (MS.Made.behind w j p00 ma) (fun e => by have e' : a = m := e; rw [← e'] at hn; exact absurd hn aC)
    · rw [e2 m hm e]
      have hb := j.okb.lo m hm (by simp [e, hR])
      exact hbeh _ _ hb (hstay m _ hm hR e (.inl rfl) hb)
  · by_cases e : m = n
    · subst e; rw [e1]; exact hbeh _ _ (MS.Made.behind w j p01 mb) (fun e => by have e' : b = m := e; rw [← e'] at hn; exact absurd hn bC)
    · rw [e2 m hm e]
      have hb := j.okb.hi m hm (by simp [e, hR])
      exact hbeh _ _ hb (hstay m _ hm hR e (.inr rfl) hb)
  · by_cases e : m = n
    · by_cases f : k = n
      · rw [e, f]
      · rw [e, e1, e2 k hk f] at he
        exact absurd he.symm (hnew k hk hkR f)
    · by_cases f : k = n
      · rw [f, e1, e2 m hm e] at he
        exact absurd he (hnew m hm hmR e)
      · rw [e2 m hm e, e2 k hk f] at he
        exact j.okb.one m k hm hk (by simp [e, hmR]) (by simp [f, hkR]) he
  · have hne : m ≠ n := fun e => by
      subst e
      rcases hc with hc | hc
      · exact hc hn
      · exact hnR hc
    rw [e2 m (j.has m hm) hne]
    exact j.old m hm (hc.imp id (List.mem_cons_of_mem _))
  · have hmk : ∀ c p q, MS.Made s l C t c p q → MS.Made s l C (t.setNd n ⟨s.o (l + 1), a, b⟩) c p q := fun c p q h => by
      rcases h with h | ⟨h1, h2, h3, h4⟩
      · exact .inl h
      · exact .inr ⟨h1, h2, h3, by rw [e2 c h2 (fun e => h3 (e ▸ hn))]; exact h4⟩
    by_cases e : m = n
    · subst e; rw [e1]; exact ⟨a, b, rfl, hmk _ _ _ ma, hmk _ _ _ mb⟩
    · obtain ⟨a', b', e', m1, m2⟩ := j.made m hm (by simp [e, hR])
      rw [e2 m (j.has m ((w.mem m).1 hm).1) e]
      exact ⟨a', b', e', hmk _ _ _ m1, hmk _ _ _ m2⟩
  · have hne : m ≠ n := fun e => by subst e; rw [n1] at hsm; cases hsm
    rw [e2 m hm hne]
    exact j.new m hm hsm

/-- One round of an exchange: both nodes are made, or met; then it is one of the second variable. -/
theorem MS.J.round (w : s.Sw l C) {n : Int} (hn : n ∈ C) (hnR : n ∉ R) (j : MS.J s l C (n :: R) t) (hroom : 2 * ((n :: R).length : Int) ≤ t.room) :
    ∃ a b t1 t2, t.nd n = s.nd n ∧ t.mk (s.o l) (t.side (t.nd n).lo (s.o (l + 1)) false) (t.side (t.nd n).hi (s.o (l + 1)) false) (n :: R) = (a, 0, t1) ∧
      t1.mk (s.o l) (t1.side (t.nd n).lo (s.o (l + 1)) true) (t1.side (t.nd n).hi (s.o (l + 1)) true) (n :: R) = (b, 0, t2) ∧
      MS.J s l C (n :: R) t1 ∧ MS.J s l C (n :: R) t2 ∧ t2.has n = true ∧ MS.J s l C R (t2.setNd n ⟨s.o (l + 1), a, b⟩) ∧ 2 * (R.length : Int) ≤ (t2.setNd n ⟨s.o (l + 1), a, b⟩).room := by
  obtain ⟨n1, n2, n3⟩ := (w.mem n).1 hn
  obtain ⟨d1, d2⟩ := w.sides hn
  have e0 := j.old n n1 (.inr (List.mem_cons_self))
  simp only [List.length_cons, Int.natCast_add, Int.natCast_one] at hroom
  obtain ⟨a, t1, h1, j1, m1, r1, k1⟩ := j.mkd w (w.ok.deep_side w.l6 d1 false) (w.ok.deep_side w.l6 d2 false) (by omega)
  obtain ⟨b, t2, h2, j2, m2, r2, k2⟩ := j1.mkd w (w.ok.deep_side w.l6 d1 true) (w.ok.deep_side w.l6 d2 true) (by omega)
  have m1' : MS.Made s l C t2 a (s.side (s.nd n).lo (s.o (l + 1)) false) (s.side (s.nd n).hi (s.o (l + 1)) false) := by
    rcases m1 with h | ⟨g1, g2, g3, g4⟩
    · exact .inl h
    · exact .inr ⟨g1, (k2 a g2).1, g3, by rw [(k2 a g2).2]; exact g4⟩
  refine ⟨a, b, t1, t2, e0, ?_, ?_, j1, j2, j2.has n n1, j2.put w hn hnR m1' m2, ?_⟩
  · rw [e0, j.side_as w d1, j.side_as w d2]; exact h1
  · rw [e0, j1.side_as w d1, j1.side_as w d2]; exact h2
  · show 2 * (R.length : Int) ≤ t2.room
    omega

/-- Ahead of the first one. -/
theorem MS.J.start (w : s.Sw l C) : MS.J s l C C { s with o := swapO s.o l } := by
  have h := w.ok
  have hb : ∀ n p, s.has n = true → n ∉ C → (p = (s.nd n).lo ∨ p = (s.nd n).hi) → s.behind p (s.nd n).var = true → MS.behind { s with o := swapO s.o l } p (s.nd n).var = true := fun n p hn hc hp hb => by
    rcases MS.behind_cases hb with hc | ⟨hh, hl⟩
    · exact MS.behind_const hc
    · rw [MS.behind_node (s := { s with o := swapO s.o l }) hh]
      have v1 := h.var n hn
      have v2 := h.var p hh
      refine decide_eq_true ?_
      show levO (swapO s.o l) (s.nd n).var < levO (swapO s.o l) (s.nd p).var
      rw [lev_swap h.order w.l6 v1.1 v1.2, lev_swap h.order w.l6 v2.1 v2.2]
      have hno : ¬ (levO s.o (s.nd n).var = (l : Int) ∧ levO s.o (s.nd p).var = (l : Int) + 1) := fun ⟨q1, q2⟩ => by
        refine hc ((w.mem n).2 ⟨hn, (lev_place q1).symm, ?_⟩)
        have hy : s.isOf p (s.o (l + 1)) = true := MS.isOf_iff.2 ⟨hh, (lev_place (l := l + 1) (by rw [q2]; rfl)).symm⟩
        rcases hp with rfl | rfl
        · exact .inl hy
        · exact .inr hy
      repeat' split
      all_goals omega
  exact ⟨⟨⟨h.ar, h.len⟩, by show mayO (swapO s.o l) = true; rw [swapO_may]; exact h.order, fun n hn _ => h.var n hn, fun n hn _ => h.unlike n hn, fun n hn hc => hb n _ hn hc (.inl rfl) (h.lo n hn), fun n hn hc => hb n _ hn hc (.inr rfl) (h.hi n hn), fun n m hn hm _ _ => h.one n m hn hm⟩, rfl, fun n hn => hn, fun n _ _ => rfl, fun n hn hnot => absurd hn hnot, fun n hn hs => by
    have : s.has n = true := hn
    rw [hs] at this; cases this⟩

theorem MS.all_nodup (s : MS) : s.all.Nodup := by
  unfold MS.all
  refine List.Pairwise.filter _ ?_
  rw [List.pairwise_map]
  exact List.Pairwise.imp (fun h e => h (by omega)) List.nodup_range
theorem MS.Ok.sw (h : s.Ok) (hl : l ≤ 6) : s.Sw l (s.changes (s.o l) (s.o (l + 1))) := ⟨h, hl, fun _ => h.toBase.mem_changes⟩

end

theorem MS.Base.few {s : MS} (ok : s.Base) : s.N.length ≤ 20000 := by
  have := ok.len; have := ok.ar.nextLe; have := ok.ar.mostLe; omega
theorem MS.Base.has_le {s : MS} (ok : s.Base) {n : Int} (h : s.has n = true) : 2 ≤ n ∧ n ≤ 20001 := by
  have := ok.few
  obtain ⟨r1, r2, _⟩ := ok.range h
  omega
theorem MS.Base.behind_le {s : MS} (ok : s.Base) {n v : Int} (h : s.behind n v = true) : 0 ≤ n ∧ n ≤ 20001 := by
  rcases MS.behind_cases h with h | ⟨h, _⟩
  · omega
  · have := ok.has_le h; omega

theorem MS.Base.there_i64 {s : MS} (ok : s.Base) {n : Int} (h : s.there n = true) : n ≤ 9223372036854775807 ∧ -9223372036854775808 ≤ n := by
  rcases MS.there_cases h with ⟨h, _⟩ | h
  · omega
  · have := ok.has_le h; omega

/-- The first numbers. -/
def numsTo (k : Nat) : List Int := (List.range k).map fun i : Nat => (i : Int) + 2
theorem numsTo_filter_length (p : Int → Bool) (k : Nat) : ((numsTo k).filter p).length ≤ k := Nat.le_trans (List.length_filter_le _ _) (by simp [numsTo])

/-- The plain order. -/
def plainO : Nat → Int := fun i => (i : Int)
theorem plainO_may : mayO plainO = true := by decide +kernel

/-- A store of none. -/
def MS.none (most : Nat) : MS := ⟨⟨most, 0, [], []⟩, [], plainO⟩
theorem MS.none_ok (most : Nat) (h : most ≤ 20000) : (MS.none most).Ok := MS.Ok.new most h plainO plainO_may
theorem numsTo_succ (k : Nat) : numsTo (k + 1) = numsTo k ++ [(k : Int) + 2] := by simp [numsTo, List.range_succ]
theorem numsTo_filter (p : Int → Bool) (k : Nat) : (numsTo (k + 1)).filter p = (numsTo k).filter p ++ if p ((k : Int) + 2) then [(k : Int) + 2] else [] := by
  rw [numsTo_succ, List.filter_append]
  congr 1
  cases h : p ((k : Int) + 2) <;> simp [h]

end Go.Proofs.YtipocmbplcdmjaaDoor
