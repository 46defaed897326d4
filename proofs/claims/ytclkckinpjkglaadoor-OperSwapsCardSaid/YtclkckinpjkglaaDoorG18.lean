/-
  Texts of this proof, one behind the other: AnsM, IMap, IteC, AskK, IteW.
-/
import Derived.Test.YtclkckinpjkglaaDoorG17
import Derived.Maps.Own
import Derived.Maps.OwnOps
import Derived.Maps.Views
import Derived.WalkKit
import Derived.Test.YtclkckinpjkglaaDoorG8
import Derived.DeepKeys4
import Derived.Maps.OwnSet
import Derived.Test.YtclkckinpjkglaaDoorG7
/-
  Mathematics of layer 9, as the code goes: three nodes, a variable that stands first, its two sides. Nothing of the program is read here.
-/
namespace Go.Proofs.YtclkckinpjkglaaDoor

/-- Two parts, one behind the other, and a node of them. -/
def MS.twoB (v : Int) (A b : Int × Int × MS) : Int × Int × MS := if A.2.1 ≠ 0 then (0, A.2.1, A.2.2) else if b.2.1 ≠ 0 then (0, b.2.1, b.2.2) else b.2.2.mk v A.1 b.1 []
def MS.two (v : Int) (A : Int × Int × MS) (B : MS → Int × Int × MS) : Int × Int × MS := MS.twoB v A (B A.2.2)
theorem MS.two_congr {v : Int} {A A' : Int × Int × MS} {B B' : MS → Int × Int × MS} (h : A = A') (k : B A.2.2 = B' A.2.2) : MS.two v A B = MS.two v A' B' := by
  subst h
  unfold MS.two
  rw [k]

theorem MS.bld_succ (k : Nat) (s : MS) (f : Fn) : MS.bld (k + 1) s f = if topF f s.o < 0 then (constN f, 0, s) else MS.two (topF f s.o) (MS.bld k s (cofAny f (topF f s.o) false)) fun t => MS.bld k t (cofAny f (topF f s.o) true) := rfl

theorem MS.bld_more : ∀ (k : Nat) (s : MS) (f : Fn), s.Ok → supN f ≤ k → MS.bld (k + 1) s f = MS.bld k s f := by
  intro k
  induction k with
  | zero =>
    intro s f h hk
    have ht : topF f s.o < 0 := by
      have := (top_neg (full_of h.order)).2 (supN_zero (f := f) (by omega))
      omega
    rw [MS.bld_succ, if_pos ht]
    rfl
  | succ k ih =>
    intro s f h hk
    rw [MS.bld_succ (k + 1) s f, MS.bld_succ k s f]
    by_cases ht : topF f s.o < 0
    · rw [if_pos ht, if_pos ht]
    · rw [if_neg ht, if_neg ht]
      have ht0 : 0 ≤ topF f s.o := by omega
      have k0 := supN_cof f s.o false ht0
      have k1 := supN_cof f s.o true ht0
      have ra := (MS.bld_spec k s (cofAny f (topF f s.o) false) h (by omega)).1
      have e1 := ih s (cofAny f (topF f s.o) false) h (by omega)
      exact MS.two_congr e1 (by rw [e1]; exact ih _ _ ra (by omega))

theorem MS.mk_err0 {s : MS} {v lo hi : Int} {but : List Int} (h : (s.mk v lo hi but).2.1 ≠ 0) : (s.mk v lo hi but).1 = 0 := by
  revert h
  unfold MS.mk
  split
  · intro; rfl
  · split
    · intro h; exact absurd rfl h
    · split
      · intro h; exact absurd rfl h
      · split
        · intro; rfl
        · intro h; exact absurd rfl h
theorem MS.two_err0 {v : Int} {A : Int × Int × MS} {B : MS → Int × Int × MS} (h : (MS.two v A B).2.1 ≠ 0) : (MS.two v A B).1 = 0 := by
  revert h
  unfold MS.two MS.twoB
  split
  · intro; rfl
  · split
    · intro; rfl
    · exact MS.mk_err0
theorem MS.bld_err0 (k : Nat) (s : MS) (f : Fn) (h : (MS.bld k s f).2.1 ≠ 0) : (MS.bld k s f).1 = 0 := by
  cases k with
  | zero => exact absurd rfl h
  | succ k =>
    rw [MS.bld_succ] at h ⊢
    split
    · rw [if_pos (by assumption)] at h; exact absurd rfl h
    · rw [if_neg (by assumption)] at h; exact MS.two_err0 h

section
variable {s t : MS}

theorem MS.mk_same {v n : Int} (v0 : 0 ≤ v) (v7 : v ≤ 7) (b : s.behind n v = true) : s.mk v n n [] = (n, 0, s) := by
  unfold MS.mk
  rw [if_neg (by rw [b]; simp; omega), if_pos rfl]

/-- A node whose function hangs on no variable up to level l stands behind it. -/
theorem MS.Ok.behind_free (h : s.Ok) {l : Nat} (hl : l < 8) {n : Int} (hn : s.there n = true) (hf : ∀ j, j ≤ l → depAny (s.tab n) (s.o j) = false) : s.behind n (s.o l) = true := by
  rcases MS.there_cases hn with ⟨hc, _⟩ | hh
  · exact MS.behind_const hc
  · rw [MS.behind_node hh, levO_at h.order hl rfl]
    refine decide_eq_true ?_
    obtain ⟨l0, _⟩ := h.lev hh
    obtain ⟨i, hi⟩ := Int.eq_ofNat_of_zero_le l0
    have hp := lev_place (o := s.o) hi
    rw [hi]
    rcases Nat.lt_or_ge l i with h1 | h1
    · omega
    · have := hf i h1
      rw [hp, h.dep_var hh] at this
      cases this

/-- Built at a level ahead of which the function hangs on nothing. -/
theorem MS.Ok.bld_at (h : s.Ok) (F : Fn) {l : Nat} (hl : l < 8) (hind : ∀ j, j < l → depAny F (s.o j) = false) :
    MS.bld 8 s F = MS.two (s.o l) (MS.bld 8 s (cofAny F (s.o l) false)) fun t => MS.bld 8 t (cofAny F (s.o l) true) := by
  have hr := mayO_range h.order hl
  by_cases hd : depAny F (s.o l) = true
  · have ht : topF F s.o = s.o l := by
      obtain ⟨_, p2, p3, p4⟩ := posF_spec F s.o
      have hpi : posF F s.o = l := by
        rcases Nat.lt_trichotomy (posF F s.o) l with h1 | h1 | h1
        · have h2 := (p3 (by omega)).1
          rw [hind _ h1] at h2
          cases h2
        · exact h1
        · have h2 := p2 l h1
          rw [hd] at h2
          cases h2
      rw [(p3 (by omega)).2, hpi]
    have ht0 : 0 ≤ topF F s.o := by rw [ht]; exact hr.1
    have k0 := supN_cof F s.o false ht0
    have k1 := supN_cof F s.o true ht0
    have k8 := supN_8 F
    rw [ht] at k0 k1
    have ra := (MS.bld_spec 7 s (cofAny F (s.o l) false) h (by omega)).1
    rw [show MS.bld 8 s F = _ from MS.bld_succ 7 s F, if_neg (by omega), ht]
    have e1 := MS.bld_more 7 s (cofAny F (s.o l) false) h (by omega)
    have e2 := MS.bld_more 7 _ (cofAny F (s.o l) true) ra (by omega)
    exact MS.two_congr e1.symm e2.symm
  · have hc : ∀ b, cofAny F (s.o l) b = F := fun b => cof_indep (b := b) (by simpa using hd)
    rw [hc, hc]
    obtain ⟨oka, ea, _, resa, _⟩ := MS.bld_spec 8 s F h (supN_8 F)
    have h0 := MS.bld_err0 8 s F
    generalize MS.bld 8 s F = A at *
    obtain ⟨a, e, u⟩ := A
    dsimp only at oka ea resa h0
    unfold MS.two MS.twoB
    dsimp only
    by_cases he : e = 0
    · subst he
      obtain ⟨t1, t2⟩ := resa rfl
      simp only [MS.bld_same 8 u F a oka (supN_8 F) t1 t2, ne_eq, not_true_eq_false, if_false]
      rw [MS.mk_same hr.1 hr.2]
      rw [← ea.o]
      refine oka.behind_free hl t1 fun j hj => ?_
      rw [t2, ea.o]
      rcases Nat.lt_or_ge j l with h1 | h1
      · exact hind j h1
      · obtain rfl : j = l := by omega
        simpa using hd
    · rw [if_pos he, h0 he]

/-- If, then, else with a variable set. -/
theorem iteF_cof (f g h : Fn) (v : Int) (b : Bool) : cofAny (iteF f g h) v b = iteF (cofAny f v b) (cofAny g v b) (cofAny h v b) := by
  unfold cofAny
  split
  · rename_i hv
    refine fn_ext fun k hk => ?_
    have hr := rowF_lt k v.toNat b hk (by omega)
    rw [cofF_bit _ _ _ _ hk]
    unfold iteF
    simp only [BitVec.getLsbD_or, BitVec.getLsbD_and, BitVec.getLsbD_not, hk, hr, decide_true, Bool.true_and, cofF_bit _ _ _ _ hk]
  · rfl
theorem iteF_dep {f g h : Fn} {v : Int} (hf : depAny f v = false) (hg : depAny g v = false) (hh : depAny h v = false) : depAny (iteF f g h) v = false := cof_indep' fun b => by
  rw [iteF_cof, cof_indep hf, cof_indep hg, cof_indep hh]
theorem iteF_both (f g : Fn) : iteF f g g = g := by
  refine fn_ext fun k hk => ?_
  unfold iteF
  simp only [BitVec.getLsbD_or, BitVec.getLsbD_and, BitVec.getLsbD_not, hk, decide_true, Bool.true_and]
  cases f.getLsbD k <;> simp
theorem iteF_t (g h : Fn) : iteF (BitVec.allOnes 256) g h = g := by
  refine fn_ext fun k hk => ?_
  unfold iteF
  simp only [BitVec.getLsbD_or, BitVec.getLsbD_and, BitVec.getLsbD_not, BitVec.getLsbD_allOnes, hk, decide_true, Bool.true_and, Bool.not_true, Bool.false_and, Bool.or_false]
theorem iteF_f (g h : Fn) : iteF (0#256) g h = h := by
  refine fn_ext fun k hk => ?_
  unfold iteF
  simp only [BitVec.getLsbD_or, BitVec.getLsbD_and, BitVec.getLsbD_not, BitVec.getLsbD_zero, hk, decide_true, Bool.true_and, Bool.false_and, Bool.not_false, Bool.false_or]
theorem iteF_id (f : Fn) : iteF f (BitVec.allOnes 256) (0#256) = f := by
  refine fn_ext fun k hk => ?_
  unfold iteF
  simp only [BitVec.getLsbD_or, BitVec.getLsbD_and, BitVec.getLsbD_not, BitVec.getLsbD_allOnes, BitVec.getLsbD_zero, hk, decide_true, Bool.true_and, Bool.and_true, Bool.and_false, Bool.or_false]

theorem MS.isOf_false {n v : Int} : s.isOf n v = false ↔ (s.has n = true → (s.nd n).var ≠ v) := by
  unfold MS.isOf MS.node
  cases hh : s.has n
  · simp
  · simp [beq_eq_false_iff_ne]
theorem MS.isOf_true {n v : Int} : s.isOf n v = true ↔ s.has n = true ∧ (s.nd n).var = v := by
  unfold MS.isOf MS.node
  cases hh : s.has n
  · simp
  · simp

/-- Of no variable ahead of level l. -/
theorem MS.Ok.from_of (h : s.Ok) {l : Nat} {n : Int} (hf : ∀ j, j < l → s.isOf n (s.o j) = false) : s.from (l : Int) n := fun hh => by
  obtain ⟨l0, _⟩ := h.lev hh
  obtain ⟨i, hi⟩ := Int.eq_ofNat_of_zero_le l0
  have hp := lev_place (o := s.o) hi
  rw [hi]
  rcases Nat.lt_or_ge i l with h1 | h1
  · exact absurd hp.symm (MS.isOf_false.1 (hf i h1) hh)
  · omega
theorem MS.Ok.from_dep (h : s.Ok) {l : Nat} (hl : l ≤ 8) {n : Int} (hf : s.from (l : Int) n) {j : Nat} (hj : j < l) : depAny (s.tab n) (s.o j) = false := by
  refine h.dep_ahead fun hh => ?_
  have := hf hh
  rw [levO_at h.order (by omega) rfl]
  omega
/-- A side. -/
theorem MS.Ok.side_tab (h : s.Ok) {l : Nat} (hl : l < 8) {n : Int} (hf : s.from (l : Int) n) (b : Bool) : s.tab (s.side n (s.o l) b) = cofAny (s.tab n) (s.o l) b := by
  unfold MS.side
  cases hi : s.isOf n (s.o l)
  · rw [if_neg (by simp), h.cof_ahead]
    intro hh
    have h1 := hf hh
    have h2 := MS.isOf_false.1 hi hh
    rw [levO_at h.order hl rfl]
    obtain ⟨l0, _⟩ := h.lev hh
    obtain ⟨i, he⟩ := Int.eq_ofNat_of_zero_le l0
    have hp := lev_place (o := s.o) he
    rw [he] at h1 ⊢
    have : i ≠ l := fun e => h2 (by rw [← hp, e])
    omega
  · obtain ⟨hh, hv⟩ := MS.isOf_true.1 hi
    rw [if_pos rfl, ← hv, h.cof_node hh]
theorem MS.Ok.side_there (h : s.Ok) {n v : Int} (hn : s.there n = true) (b : Bool) : s.there (s.side n v b) = true := by
  unfold MS.side
  cases hi : s.isOf n v
  · rw [if_neg (by simp)]; exact hn
  · obtain ⟨hh, _⟩ := MS.isOf_true.1 hi
    rw [if_pos rfl]
    cases b
    · exact MS.behind_there (h.lo n hh)
    · exact MS.behind_there (h.hi n hh)
theorem MS.Ok.side_from (h : s.Ok) {l : Nat} (hl : l < 8) {n : Int} (hf : s.from (l : Int) n) (b : Bool) : s.from ((l + 1 : Nat) : Int) (s.side n (s.o l) b) := by
  unfold MS.side
  cases hi : s.isOf n (s.o l)
  · rw [if_neg (by simp)]
    intro hh
    have h1 := hf hh
    have h2 := MS.isOf_false.1 hi hh
    obtain ⟨l0, _⟩ := h.lev hh
    obtain ⟨i, he⟩ := Int.eq_ofNat_of_zero_le l0
    have hp := lev_place (o := s.o) he
    rw [he] at h1 ⊢
    have : i ≠ l := fun e => h2 (by rw [← hp, e])
    omega
  · obtain ⟨hh, hv⟩ := MS.isOf_true.1 hi
    rw [if_pos rfl]
    have e := levO_at h.order hl rfl
    cases b
    · have := MS.from_behind (h.lo n hh)
      rw [hv, e] at this
      exact this
    · have := MS.from_behind (h.hi n hh)
      rw [hv, e] at this
      exact this
theorem MS.from_8 (h : s.Ok) {n : Int} (hf : s.from ((8 : Nat) : Int) n) : s.has n = false := by
  cases hh : s.has n
  · rfl
  · have := hf hh
    have := h.lev hh
    omega
theorem MS.Ext.from (e : MS.Ext s t) {L n : Int} (hn : s.there n = true) (hf : s.from L n) : t.from L n := fun hh => by
  rcases MS.there_cases hn with ⟨hc, _⟩ | h1
  · exfalso
    rcases hc with rfl | rfl <;> cases hh
  · rw [e.o, e.nd n h1]; exact hf h1

/-- Three nodes that are there, none of them ahead of a level. -/
structure MS.Three (s : MS) (l : Nat) (f g k : Int) : Prop where
  tf : s.there f = true
  tg : s.there g = true
  tk : s.there k = true
  ff : s.from (l : Int) f
  fg : s.from (l : Int) g
  fk : s.from (l : Int) k
variable {l : Nat} {f g k : Int}
/-- What is built of three. -/
def MS.ans (s : MS) (f g k : Int) : Int × Int × MS := MS.bld 8 s (iteF (s.tab f) (s.tab g) (s.tab k))
theorem MS.Three.ext (h : MS.Three s l f g k) (e : MS.Ext s t) : MS.Three t l f g k := ⟨e.there h.tf, e.there h.tg, e.there h.tk, e.from h.tf h.ff, e.from h.tg h.fg, e.from h.tk h.fk⟩
theorem MS.Three.side (h : MS.Three s l f g k) (ok : s.Ok) (hl : l < 8) (b : Bool) : MS.Three s (l + 1) (s.side f (s.o l) b) (s.side g (s.o l) b) (s.side k (s.o l) b) :=
  ⟨ok.side_there h.tf b, ok.side_there h.tg b, ok.side_there h.tk b, ok.side_from hl h.ff b, ok.side_from hl h.fg b, ok.side_from hl h.fk b⟩
/-- What is built of three, whatever they are. -/
theorem MS.Ok.ans_spec (ok : s.Ok) (f g k : Int) : (s.ans f g k).2.2.Ok ∧ MS.Ext s (s.ans f g k).2.2 ∧ (0 ≤ (s.ans f g k).2.1 ∧ (s.ans f g k).2.1 ≤ 8) ∧
    ((s.ans f g k).2.1 = 0 → (s.ans f g k).2.2.there (s.ans f g k).1 = true ∧ (s.ans f g k).2.2.tab (s.ans f g k).1 = iteF (s.tab f) (s.tab g) (s.tab k)) := by
  unfold MS.ans
  have := MS.bld_spec 8 s (iteF (s.tab f) (s.tab g) (s.tab k)) ok (supN_8 _)
  exact ⟨this.1, this.2.1, ok.bld_err _, this.2.2.2.1⟩
/-- The answer, by its two sides. -/
theorem MS.Three.ans (h : MS.Three s l f g k) (ok : s.Ok) (hl : l < 8) {A : Int × Int × MS} (hA : s.ans (s.side f (s.o l) false) (s.side g (s.o l) false) (s.side k (s.o l) false) = A) :
    s.ans f g k = MS.twoB (s.o l) A (A.2.2.ans (A.2.2.side f (s.o l) true) (A.2.2.side g (s.o l) true) (A.2.2.side k (s.o l) true)) := by
  obtain ⟨okt, e, _, _⟩ := ok.ans_spec (s.side f (s.o l) false) (s.side g (s.o l) false) (s.side k (s.o l) false)
  rw [hA] at okt e
  have h' := h.ext e
  have e0 := e.o
  have q1 := okt.side_tab hl h'.ff true
  have q2 := okt.side_tab hl h'.fg true
  have q3 := okt.side_tab hl h'.fk true
  rw [e0] at q1 q2 q3
  unfold MS.ans at hA ⊢
  rw [ok.side_tab hl h.ff, ok.side_tab hl h.fg, ok.side_tab hl h.fk, ← iteF_cof] at hA
  rw [ok.bld_at (iteF (s.tab f) (s.tab g) (s.tab k)) hl fun j hj => iteF_dep (ok.from_dep (by omega) h.ff hj) (ok.from_dep (by omega) h.fg hj) (ok.from_dep (by omega) h.fk hj)]
  rw [q1, q2, q3, ← iteF_cof, e.tab ok okt h.tf, e.tab ok okt h.tg, e.tab ok okt h.tk, hA]
  rfl
/-- Known: it is that node. -/
theorem MS.Ok.ans_known (ok : s.Ok) {f g k n : Int} (hn : s.there n = true) (e : s.tab n = iteF (s.tab f) (s.tab g) (s.tab k)) : s.ans f g k = (n, 0, s) := MS.bld_same 8 s _ n ok (supN_8 _) hn e
theorem MS.tab_n1 (s : MS) : s.tab 1 = BitVec.allOnes 256 := MS.tab_const rfl
theorem MS.tab_n0 (s : MS) : s.tab 0 = 0#256 := MS.tab_const rfl
theorem MS.Three.one (h : MS.Three s l 1 g k) (ok : s.Ok) : s.ans 1 g k = (g, 0, s) := ok.ans_known h.tg (by rw [MS.tab_n1, iteF_t])
theorem MS.Three.zero (h : MS.Three s l 0 g k) (ok : s.Ok) : s.ans 0 g k = (k, 0, s) := ok.ans_known h.tk (by rw [MS.tab_n0, iteF_f])
theorem MS.Three.same (h : MS.Three s l f g g) (ok : s.Ok) : s.ans f g g = (g, 0, s) := ok.ans_known h.tg (by rw [iteF_both])
theorem MS.Three.self (h : MS.Three s l f 1 0) (ok : s.Ok) : s.ans f 1 0 = (f, 0, s) := ok.ans_known h.tf (by rw [MS.tab_n0, MS.tab_n1, iteF_id])
end

end Go.Proofs.YtclkckinpjkglaaDoor

/-
  A map of the call's own whose elements are numbers, as a function from its keys; nothing of the program is read here.
-/
namespace Go.Proofs.YtclkckinpjkglaaDoor
open Go Go.RowKit Go.Maps

/-- How values of α stand as keys of type K. -/
structure KeyEnc (P : Program) (K : TypeId) (α : Type) where
  val : α → Value
  lit : α → Lit
  key : ∀ a, keyOf P K (val a) = some (lit a)
  inj : ∀ a b, val a = val b → a = b
  law : Keyed P K

section
variable {P : Program} {K e : TypeId} {α : Type} {E : KeyEnc P K α}

theorem KeyEnc.lit_inj (E : KeyEnc P K α) {a b : α} (h : E.lit a = E.lit b) : a = b := by
  have ha := E.key a
  have hb := E.key b
  rw [h] at ha
  exact E.inj a b (E.law.inj ha hb)

/-- Block b is a map of at most n entries; at key a it has m a, and 0 where there is none. -/
def IMap (E : KeyEnc P K α) (e : TypeId) (w : World) (b n : Nat) (m : α → Int) : Prop :=
  ∃ D : DataW Unit, w.ownsMap P K (plainElem P e) b n D ∧ IsMap D ∧ ∀ a, D.atKey (E.lit a) (.lit (.int .i64 0)) = .lit (.int .i64 (m a))

theorem IMap.made (E : KeyEnc P K α) (e : TypeId) (w : World) : IMap E e (w.alloc (.map #[] 0)) w.heap.size 0 (fun _ => 0) :=
  ⟨.map [], World.ownsMap_made _ _ _ _, isMap_empty, fun _ => rfl⟩

theorem IMap.block {w w' : World} {b n : Nat} {m : α → Int} (h : IMap E e w b n m) (hb : w'.heap[b]? = w.heap[b]?) : IMap E e w' b n m := by
  obtain ⟨D, ⟨es, clock, h1, h2, h3, h4⟩, hm, ha⟩ := h
  exact ⟨D, ⟨es, clock, hb.trans h1, h2, h3, h4⟩, hm, ha⟩

theorem IMap.lt {w : World} {b n : Nat} {m : α → Int} (h : IMap E e w b n m) : b < w.heap.size := by
  obtain ⟨D, ho, _⟩ := h; exact ho.lt

theorem IMap.keep {w w' : World} {b n B : Nat} {m : α → Int} (h : IMap E e w b n m) (hb : Below B w w') (hB : b < B) : IMap E e w' b n m := h.block (hb.block b hB)
theorem IMap.alloc {w : World} {b n : Nat} {m : α → Int} (h : IMap E e w b n m) (o : Obj) : IMap E e (w.alloc o) b n m := h.block (heap_alloc_old _ _ h.lt)
theorem IMap.grown {w w' : World} {b n : Nat} {m : α → Int} {row : Option Nat} (h : IMap E e w b n m) (hg : w.grownBy w' row) (hne : some b ≠ row) : IMap E e w' b n m := by
  obtain ⟨D, ho, hm, ha⟩ := h; exact ⟨D, ho.kept hg hne, hm, ha⟩

theorem IMap.le {w : World} {b n : Nat} {m : α → Int} (h : IMap E e w b n m) : IMap E e w b (n + 1) m := by
  obtain ⟨D, ho, hm, ha⟩ := h; exact ⟨D, ho.mono (Nat.le_succ _), hm, ha⟩

/-- m[a], read. -/
theorem IMap.look {w : World} {b n : Nat} {m : α → Int} {t : TypeId} (h : IMap E e w b n m) (ht : P.underlying t = some (.map K e)) (he : P.underlying e = some (.int .i64)) (hz : (zeroValue e).run P w = .ok (.int .i64 0) w) (a : α) :
    (Instr.lookup t (.map (some b)) (E.val a) false).run P w = .ok (.int .i64 (m a)) w := by
  obtain ⟨D, ho, _, ha⟩ := h
  obtain ⟨c, hr, hc, _⟩ := ho.lookup_int E.law ht he hz (E.key a)
  rw [ha a] at hc
  injection hc with hc
  injection hc with _ hc
  rw [hr, hc]

/-- m[a] = x, stored. -/
theorem IMap.put [DecidableEq α] {ops : Array Oper} {rest : List Oper} {o : Oper} {A : Act} {Q : Exit → Act → World → Prop} {w : World} {b n : Nat} {m : α → Int} {t : TypeId}
    (h : IMap E e w b n m) (ht : P.underlying t = some (.map K e)) (he : P.underlying e = some (.int .i64)) (hn : n < maxLen) (hg : o.guard = none) (x y v : Operand) (hop : o.op = Op.mapUpdate t x y v)
    (a : α) (c : Int) (hc : (Lit.int .i64 c).wf = true) (hx : A.eval x = .map (some b)) (hy : A.eval y = E.val a) (hv : A.eval v = .int .i64 c)
    (hK : ∀ w', IMap E e w' b (n + 1) (fun z => if z = a then c else m z) → w.grownBy w' (some b) → wpList P ops Q rest (A.put o.dst undef) w') : wpList P ops Q (o :: rest) A w := by
  obtain ⟨D, ho, hm, ha⟩ := h
  refine wpList_mapUpdate_own w hg x y v t hop K e E.law ht _ b n D hx ho hn _ _ _ hy hv (E.key a) _ [] (plainElem_int he hc) ?_
  intro w' ho' hgr
  refine hK w' ⟨_, ho', hm.put _ _, fun z => ?_⟩ hgr
  by_cases hz : z = a
  · subst hz
    rw [atKey_put_same hm (E.law.key (E.key z))]
    dsimp only
    rw [if_pos rfl]
  · rw [atKey_put_other (fun h => hz (E.lit_inj h)), ha z]
    dsimp only
    rw [if_neg hz]
end

end Go.Proofs.YtclkckinpjkglaaDoor

/-
  What is asked of the code's packages ite, oper, quant, whatever they are; both stores and a cache side by side.
-/
namespace Go.Proofs.YtclkckinpjkglaaDoor
open Go Go.RowKit

/-- What a call that makes nodes by a cache comes to: the number, the error, the store; store and cache stay apart. -/
def CallPost (StAt CAt : World → Nat → (Nat → Prop) → MS → Prop) (w : World) (b c : Nat) (F G : Nat → Prop) (r : Int × Int × MS) (e : Ending) (w' : World) : Prop :=
  e = .returned (.tuple #[.int .i64 r.1, errV r.2.1]) ∧ ∃ F' G', StAt w' b F' r.2.2 ∧ CAt w' c G' r.2.2 ∧ (∀ k, F' k → ¬ G' k) ∧ Keeps (fun k => F k ∨ G k) w w' ∧ Within w (fun k => F k ∨ G k) F' ∧ Within w (fun k => F k ∨ G k) G'

/-- A number of the language. -/
def I64 (n : Int) : Prop := n ≤ 9223372036854775807 ∧ -9223372036854775808 ≤ n

/-- Each call of package ite. -/
structure IteC (StAt CAt : World → Nat → (Nat → Prop) → MS → Prop) : Prop where ofAll ::
  lt : ∀ {w c F s}, CAt w c F s → ∀ k, F k → k < w.heap.size
  keep : ∀ {w w' c F s} {G : Nat → Prop}, CAt w c F s → Keeps G w w' → (∀ k, F k → ¬ G k) → CAt w' c F s
  grows : ∀ {w c F s t}, CAt w c F s → s.Ok → t.Ok → MS.Grows s t → CAt w c F t
  new : ∀ (w : World), Calls Tryd.prog 6 #[] w fun e w' => ∃ c, e = .returned (.pointer (some ⟨c, 0, none⟩)) ∧ (∃ F, (∀ s : MS, s.Ok → CAt w' c F s) ∧ ∀ k, F k → w.heap.size ≤ k) ∧ Below w.heap.size w w'
  ite : ∀ {w b c F G s}, StAt w b F s → CAt w c G s → s.Ok → (∀ k, F k → ¬ G k) → ∀ f g h : Int, I64 f → I64 g → I64 h → Calls Tryd.prog 24 #[.pointer (some ⟨c, 0, none⟩), .pointer (some ⟨b, 0, none⟩), .int .i64 f, .int .i64 g, .int .i64 h] w (CallPost StAt CAt w b c F G (s.ite f g h))


end Go.Proofs.YtclkckinpjkglaaDoor

/-
  A cache's map: its keys are three numbers, its elements numbers; what it holds, as a function.
-/
namespace Go.Proofs.YtclkckinpjkglaaDoor
open Go Go.RowKit Go.Maps Go.MapKept Go.ChangeMaps

theorem Tryd.laidK : laidOutB Tryd.prog = true := by kernel_rfl
theorem Tryd.rowK : 81 < Tryd.prog.types.size := of_decide_eq_true (by kernel_rfl)
theorem Tryd.keyK : Keyed Tryd.prog 81 :=
  Keyed.of_law (deep_law_laid Tryd.laidK (m := 4) (by decide) Tryd.rowK (by kernel_rfl) (by kernel_rfl))
theorem Tryd.keyTypeK : Tryd.prog.keyType 81 = true := by kernel_rfl
theorem Tryd.cellsOfK : Tryd.prog.cellsOf 81 = 3 := by kernel_rfl
theorem Tryd.cellsOfI : Tryd.prog.cellsOf 3 = 1 := by kernel_rfl

/-- Three numbers, as the program holds them. -/
def askV (f g h : Int) : Value := .agg #[.int .i64 f, .int .i64 g, .int .i64 h]
theorem I64.wf {n : Int} (h : I64 n) : (Lit.int .i64 n).wf = true := by
  obtain ⟨h1, h2⟩ := h
  simp [Lit.wf, IntKind.min, IntKind.max, IntKind.signed, IntKind.bits]
  omega
/-- Three numbers of the language. -/
abbrev Ask := { a : Int × Int × Int // I64 a.1 ∧ I64 a.2.1 ∧ I64 a.2.2 }
def Ask.of {f g h : Int} (hf : I64 f) (hg : I64 g) (hh : I64 h) : Ask := ⟨(f, g, h), hf, hg, hh⟩

theorem key_ask (a : Ask) : ∃ l, keyOf Tryd.prog 81 (askV a.1.1 a.1.2.1 a.1.2.2) = some l := by
  obtain ⟨d, hd⟩ : ∃ d, Tryd.prog.types.size + 1 = d + 1 + 1 := ⟨Tryd.prog.types.size - 1, by have := Tryd.rowK; omega⟩
  obtain ⟨⟨f, g, h⟩, hf, hg, hh⟩ := a
  unfold keyOf
  rw [Tryd.underlying81]
  have hfo : (askV f g h).formed Tryd.prog 81 = true := by
    unfold askV Value.formed
    simp only [Tryd.underlying81, Tryd.cellsOfK]
    rfl
  dsimp only at hf hg hh ⊢
  simp only [Tryd.keyTypeK, hfo, Bool.and_self, if_true]
  rw [hd]
  unfold askV
  simp [Program.keyLits, Value.cells, Tryd.underlying81, Tryd.underlying3, Tryd.cellsOfK, Tryd.cellsOfI, hf.wf, hg.wf, hh.wf]

/-- Three numbers as keys. -/
noncomputable def encA : KeyEnc Tryd.prog 81 Ask where
  val a := askV a.1.1 a.1.2.1 a.1.2.2
  lit a := (key_ask a).choose
  key a := (key_ask a).choose_spec
  inj a b h := by
    obtain ⟨⟨f, g, k⟩, _⟩ := a
    obtain ⟨⟨f', g', k'⟩, _⟩ := b
    unfold askV at h
    simp only [Value.agg.injEq, Array.mk.injEq, List.cons.injEq, Value.int.injEq, true_and, and_true] at h
    obtain ⟨rfl, rfl, rfl⟩ := h
    rfl
  law := Tryd.keyK

theorem zeroIK (w : World) : (zeroValue 3).run Tryd.prog w = .ok (.int .i64 0) w := by kernel_rfl

/-- Block b is a map of n entries that holds m. -/
def KMap (w : World) (b n : Nat) (m : Ask → Option Int) : Prop :=
  ∃ D : DataW Unit, w.ownsMap Tryd.prog 81 (plainElem Tryd.prog 3) b n D ∧ Maps.size D = n ∧ (∀ a, has D (encA.lit a) = (m a).isSome) ∧ ∀ a x, m a = some x → D.atKey (encA.lit a) (.lit (.int .i64 0)) = .lit (.int .i64 x)

theorem ownsMap_exact {H : Type} {P : Program} {k : TypeId} {R : Value → Option (DataW H × List MemPlace)} {w : World} {b n : Nat} {D : DataW H} (h : w.ownsMap P k R b n D) : w.ownsMap P k R b (Maps.size D) D := by
  obtain ⟨es, clock, hb, F, _, rfl⟩ := h
  exact ⟨es, clock, hb, F, by simp [Maps.size, length_sorted], rfl⟩

section
variable {w w' : World} {b n : Nat} {m : Ask → Option Int}
theorem KMap.made (w : World) : KMap (w.alloc (.map #[] 0)) w.heap.size 0 (fun _ => none) :=
  ⟨.map [], World.ownsMap_made _ _ _ _, rfl, fun _ => rfl, fun _ _ h => by cases h⟩
theorem KMap.block (h : KMap w b n m) (hb : w'.heap[b]? = w.heap[b]?) : KMap w' b n m := by
  obtain ⟨D, ⟨es, clock, h1, h2, h3, h4⟩, r⟩ := h
  exact ⟨D, ⟨es, clock, hb.trans h1, h2, h3, h4⟩, r⟩
theorem KMap.lt (h : KMap w b n m) : b < w.heap.size := by obtain ⟨D, ho, _⟩ := h; exact ho.lt
/-- len(m). -/
theorem KMap.len (h : KMap w b n m) (ty : TypeId) : (Builtin.len_ #[50] ty #[.map (some b)]).run Tryd.prog w = .ok (.int .i64 n) w := by
  obtain ⟨D, ho, hs, _⟩ := h
  rw [ho.len Tryd.underlying50 ty, hs]
/-- x, ok := m[a]. -/
theorem KMap.look (h : KMap w b n m) {f g k : Int} (hf : I64 f) (hg : I64 g) (hk : I64 k) :
    (Instr.lookup 50 (.map (some b)) (askV f g k) true).run Tryd.prog w = .ok (.tuple #[.int .i64 ((m (Ask.of hf hg hk)).getD 0), .bool (m (Ask.of hf hg hk)).isSome]) w := by
  obtain ⟨D, ⟨es, clock, hb, F, _, rfl⟩, _, hh, ha⟩ := h
  have hkey := encA.key (Ask.of hf hg hk)
  have h1 := hh (Ask.of hf hg hk)
  have h2 := ha (Ask.of hf hg hk)
  generalize m (Ask.of hf hg hk) = o at *
  rcases Maps.fit_look true Tryd.keyK Tryd.underlying50 (zeroIK w) hb F hkey with ⟨hrun, _, hat⟩ | ⟨e0, y, _, _, hrun, hR, hat, _⟩
  · rw [has_false_of_atKey hat] at h1
    cases o with
    | some x => cases h1
    | none => exact hrun
  · rw [has_true_of_atKey hat] at h1
    cases o with
    | none => cases h1
    | some x =>
      have h3 := h2 x rfl
      rw [hat] at h3
      obtain ⟨c, hc, hy, _⟩ := plainElem_int_inv Tryd.underlying3 hR
      rw [hy] at h3
      simp only [DataW.lit.injEq, Lit.int.injEq, true_and] at h3
      subst h3
      rw [hc] at hrun
      exact hrun
/-- m[a] = x. -/
theorem KMap.put {ops : Array Oper} {rest : List Oper} {o : Oper} {A : Act} {Q : Exit → Act → World → Prop}
    (h : KMap w b n m) (hn : n < maxLen) (hg0 : o.guard = none) (x y v : Operand) (hop : o.op = Op.mapUpdate 50 x y v)
    {f g k c : Int} (hf : I64 f) (hg : I64 g) (hk : I64 k) (hc : I64 c) (hx : A.eval x = .map (some b)) (hy : A.eval y = askV f g k) (hv : A.eval v = .int .i64 c)
    (hK : ∀ w' n', n' ≤ n + 1 → KMap w' b n' (fun z => if z = Ask.of hf hg hk then some c else m z) → w.grownBy w' (some b) → wpList Tryd.prog ops Q rest (A.put o.dst undef) w') : wpList Tryd.prog ops Q (o :: rest) A w := by
  obtain ⟨D, ho, hs, hh, ha⟩ := h
  have hm := ho.isMap
  have htd := ho.tidy Tryd.keyK
  refine wpList_mapUpdate_own w hg0 x y v _ hop _ _ Tryd.keyK Tryd.underlying50 _ b _ D hx ho hn _ _ _ hy hv (encA.key (Ask.of hf hg hk)) _ [] (plainElem_int Tryd.underlying3 hc.wf) ?_
  intro w' ho' hgr
  have hsz := size_put htd (k := encA.lit (Ask.of hf hg hk)) (.lit (.int .i64 c))
  refine hK w' (Maps.size (D.put (encA.lit (Ask.of hf hg hk)) (.lit (.int .i64 c)))) (by rw [hsz]; split <;> omega) ⟨_, ownsMap_exact ho', rfl, fun z => ?_, fun z x => ?_⟩ hgr
  · by_cases hz : z = Ask.of hf hg hk
    · subst hz
      rw [has_put_same hm (Tryd.keyK.key (encA.key _))]
      simp
    · rw [has_put_other (fun h => hz (encA.lit_inj h)), hh z]
      simp [hz]
  · by_cases hz : z = Ask.of hf hg hk
    · subst hz
      rw [atKey_put_same hm (Tryd.keyK.key (encA.key _))]
      simp
    · rw [atKey_put_other (fun h => hz (encA.lit_inj h))]
      simp only [hz, if_false]
      exact ha z x
/-- clear(m). -/
theorem KMap.clear (h : KMap w b n m) : ∃ w', (∀ ty, (Builtin.clear_ #[50] ty #[.map (some b)]).run Tryd.prog w = .ok (.tuple #[]) w') ∧ KMap w' b 0 (fun _ => none) ∧ w.grownBy w' (some b) := by
  obtain ⟨D, ⟨es, clock, hb, F, _, rfl⟩, _⟩ := h
  refine ⟨setBlock w b (.map #[] clock), fun ty => ?_, ⟨.map [], ⟨#[], clock, heap_setBlock_same hb _, ⟨by simp, stamped_empty clock, by simp⟩, Nat.le_refl _, rfl⟩, rfl, fun _ => rfl, fun _ _ h => by cases h⟩, ⟨rfl, rfl, rfl, by simp [setBlock], fun i _ hi => heap_setBlock_other hb _ (fun e => hi (by rw [e]))⟩⟩
  simp [Builtin.clear_, run_underlying Tryd.underlying50, MapKept.run_getObj_map hb, run_setObj_map _ hb, Result.andThen, setBlock]
end

end Go.Proofs.YtclkckinpjkglaaDoor

/-
  Walks of package ite over the store's contracts: isThere, isOf, set, has, top, where, atOnce.
-/
namespace Go.Proofs.YtclkckinpjkglaaDoor
open Go Go.RowKit

/-- Block b is a variable that holds three numbers. -/
def HoldsK (w : World) (b : Nat) (f g h : Int) : Prop := w.heap[b]? = some (.cells #[.int .i64 f, .int .i64 g, .int .i64 h] 81 (0, 0))
section
variable {w w' : World} {b : Nat} {f g h : Int}
theorem HoldsK.lt (H : HoldsK w b f g h) : b < w.heap.size := (Array.getElem?_eq_some_iff.1 H).1
theorem HoldsK.keep {F : Nat → Prop} (H : HoldsK w b f g h) (hb : Keeps F w w') (hF : ¬ F b) : HoldsK w' b f g h := (hb.block b H.lt hF).trans H
theorem HoldsK.below (H : HoldsK w b f g h) (hb : Below w.heap.size w w') : HoldsK w' b f g h := (hb.block b H.lt).trans H
theorem HoldsK.sub (H : HoldsK w b f g h) (u : Sub w) : HoldsK u.1 b f g h := H.below u.2
theorem HoldsK.cells (H : HoldsK w b f g h) : w.cell? ⟨b, 0, none⟩ = some (.int .i64 f) ∧ w.cell? ⟨b, 1, none⟩ = some (.int .i64 g) ∧ w.cell? ⟨b, 2, none⟩ = some (.int .i64 h) :=
  ⟨by rw [cell_of_row _ _ _ _ _ _ H]; rfl, by rw [cell_of_row _ _ _ _ _ _ H]; rfl, by rw [cell_of_row _ _ _ _ _ _ H]; rfl⟩
theorem HoldsK.free (H : HoldsK w b f g h) : w.frozen? ⟨b, 0, none⟩ = false ∧ w.frozen? ⟨b, 1, none⟩ = false ∧ w.frozen? ⟨b, 2, none⟩ = false :=
  ⟨frozen_of_row _ _ _ _ _ H, frozen_of_row _ _ _ _ _ H, frozen_of_row _ _ _ _ _ H⟩
theorem HoldsK.set3 (H : HoldsK w b f g h) (x y z : Int) : HoldsK (((w.setCell ⟨b, 0, none⟩ (.int .i64 x)).setCell ⟨b, 1, none⟩ (.int .i64 y)).setCell ⟨b, 2, none⟩ (.int .i64 z)) b x y z :=
  heap_setCell_same _ _ _ _ _ _ (heap_setCell_same _ _ _ _ _ _ (heap_setCell_same _ _ _ _ _ _ H))
theorem below_set3 {B c : Nat} {a w : World} {x0 x1 x2 : Value} (h : Below B a w) (hb : B ≤ c) : Below B a (((w.setCell ⟨c, 0, none⟩ x0).setCell ⟨c, 1, none⟩ x1).setCell ⟨c, 2, none⟩ x2) :=
  ((h.setCell hb _).setCell hb _).setCell hb _
theorem ret_holdsK {fn : Func} {p : Tmp} {tmps : Array Value} (h0 : fn.results = #[.cell p 81]) (hp : tmps.getD p undef = .pointer (some ⟨b, 0, none⟩)) (hh : HoldsK w b f g h) :
    (results fn tmps).run Tryd.prog w = .ok (askV f g h) w :=
  results_cell_row h0 tmps w b _ _ _ _ hp hh Tryd.underlying81 rfl (by kernel_rfl)
theorem HoldsK.new (w : World) (f g h : Int) : HoldsK (w.alloc (.cells #[.int .i64 f, .int .i64 g, .int .i64 h] 81)) w.heap.size f g h := heap_alloc_new _ _
end

section
variable {StAt : World → Nat → (Nat → Prop) → MS → Prop} {w : World} {b : Nat} {F : Nat → Prop} {s : MS}

set_option maxRecDepth 100000 in
set_option maxHeartbeats 2000000 in
theorem iteIsThere (H : StoreC StAt) (h : StAt w b F s) (ok : s.Ok) (n : Int) (hn : I64 n) :
    Calls Tryd.prog 39 #[.pointer (some ⟨b, 0, none⟩), .int .i64 n] w fun e w' => e = .returned (.bool (s.there n)) ∧ Below w.heap.size w w' := by
  have HN := H.node h ok n hn
  simp only [nodeV, nv] at HN
  clear h
  cases hh : s.has n
  · simp only [hh, Bool.false_eq_true, if_false] at HN
    by_cases h0 : n = 0
    · subst h0
      rw [show s.there 0 = true from rfl]
      go_enter Tryd.func39, Tryd.ntmps39
      go_wp2_with fail
      refine HN.mono ?_
      rintro e w1 ⟨rfl, hb1⟩
      replace hb1 := hb1.alloc hb1.size (.cells #[.int .i64 0, .int .i64 0, .int .i64 0] 61)
      clear HN
      go_wp2
      go_ret
      exact ⟨rfl, hb1⟩
    · by_cases h1 : n = 1
      · subst h1
        rw [show s.there 1 = true from rfl]
        go_enter Tryd.func39, Tryd.ntmps39
        go_wp2_with fail
        refine HN.mono ?_
        rintro e w1 ⟨rfl, hb1⟩
        replace hb1 := hb1.alloc hb1.size (.cells #[.int .i64 0, .int .i64 0, .int .i64 0] 61)
        clear HN
        go_wp2
        go_ret
        exact ⟨rfl, hb1⟩
      · have e0 : (n == 0) = false := by rw [beq_eq_false_iff_ne]; exact h0
        have e1 : (n == 1) = false := by rw [beq_eq_false_iff_ne]; exact h1
        rw [show s.there n = false by simp [MS.there, e0, e1, hh]]
        go_enter Tryd.func39, Tryd.ntmps39
        go_wp2_with fail
        refine HN.mono ?_
        rintro e w1 ⟨rfl, hb1⟩
        replace hb1 := hb1.alloc hb1.size (.cells #[.int .i64 0, .int .i64 0, .int .i64 0] 61)
        clear HN
        go_wp2
        go_ret
        exact ⟨rfl, hb1⟩
  · simp only [hh, if_true] at HN
    rw [show s.there n = true by simp [MS.there, hh]]
    generalize s.nd n = x at *
    obtain ⟨x0, x1, x2⟩ := x
    dsimp only at *
    go_enter Tryd.func39, Tryd.ntmps39
    go_wp2_with fail
    refine HN.mono ?_
    rintro e w1 ⟨rfl, hb1⟩
    replace hb1 := hb1.alloc hb1.size (.cells #[.int .i64 x0, .int .i64 x1, .int .i64 x2] 61)
    clear HN
    go_wp2
    go_ret
    exact ⟨rfl, hb1⟩

set_option maxRecDepth 100000 in
set_option maxHeartbeats 2000000 in
theorem iteIsOf (H : StoreC StAt) (h : StAt w b F s) (ok : s.Ok) (n v : Int) (hn : I64 n) :
    Calls Tryd.prog 68 #[.pointer (some ⟨b, 0, none⟩), .int .i64 n, .int .i64 v] w fun e w' => e = .returned (.bool (s.isOf n v)) ∧ Below w.heap.size w w' := by
  have HN := H.node h ok n hn
  simp only [nodeV, nv] at HN
  unfold MS.isOf MS.node
  clear h
  cases hh : s.has n
  · simp only [hh, Bool.false_eq_true, if_false] at HN ⊢
    go_enter Tryd.func68, Tryd.ntmps68
    go_wp2_with fail
    refine HN.mono ?_
    rintro e w1 ⟨rfl, hb1⟩
    replace hb1 := hb1.alloc hb1.size (.cells #[.int .i64 0, .int .i64 0, .int .i64 0] 61)
    clear HN
    go_wp2
    go_ret
    exact ⟨rfl, hb1⟩
  · simp only [hh, if_true] at HN ⊢
    generalize s.nd n = x at *
    obtain ⟨x0, x1, x2⟩ := x
    dsimp only at *
    go_enter Tryd.func68, Tryd.ntmps68
    go_wp2_with fail
    refine HN.mono ?_
    rintro e w1 ⟨rfl, hb1⟩
    have hX := (HoldsN.new w1 ⟨x0, x1, x2⟩).cells.1
    replace hb1 := hb1.alloc hb1.size (.cells #[.int .i64 x0, .int .i64 x1, .int .i64 x2] 61)
    dsimp only at hX
    clear HN
    go_wp2
    go_ret
    exact ⟨rfl, hb1⟩

set_option maxRecDepth 100000 in
set_option maxHeartbeats 2000000 in
theorem iteSet (H : StoreC StAt) (h : StAt w b F s) (ok : s.Ok) (n v : Int) (z : Bool) (hn : I64 n) :
    Calls Tryd.prog 64 #[.pointer (some ⟨b, 0, none⟩), .int .i64 n, .int .i64 v, .bool z] w fun e w' => e = .returned (.int .i64 (s.side n v z)) ∧ Below w.heap.size w w' := by
  have HN := H.node h ok n hn
  simp only [nodeV, nv] at HN
  unfold MS.side MS.isOf MS.node
  clear h
  cases hh : s.has n
  · simp only [hh, Bool.false_eq_true, if_false] at HN ⊢
    go_enter Tryd.func64, Tryd.ntmps64
    go_wp2_with fail
    refine HN.mono ?_
    rintro e w1 ⟨rfl, hb1⟩
    replace hb1 := hb1.alloc hb1.size (.cells #[.int .i64 0, .int .i64 0, .int .i64 0] 61)
    clear HN
    go_wp2
    go_ret
    exact ⟨rfl, hb1⟩
  · simp only [hh, if_true] at HN ⊢
    generalize s.nd n = x at *
    obtain ⟨x0, x1, x2⟩ := x
    dsimp only at *
    by_cases hv : x0 = v
    · subst hv
      have eb : (x0 != x0) = false := by simp
      rw [beq_self_eq_true, if_pos rfl]
      cases z
      · go_enter Tryd.func64, Tryd.ntmps64
        go_wp2_with fail
        refine HN.mono ?_
        rintro e w1 ⟨rfl, hb1⟩
        obtain ⟨y0, y1, y2⟩ := (HoldsN.new w1 ⟨x0, x1, x2⟩).cells
        replace hb1 := hb1.alloc hb1.size (.cells #[.int .i64 x0, .int .i64 x1, .int .i64 x2] 61)
        dsimp only at y0 y1 y2
        clear HN
        go_wp2
        go_ret
        exact ⟨rfl, hb1⟩
      · go_enter Tryd.func64, Tryd.ntmps64
        go_wp2_with fail
        refine HN.mono ?_
        rintro e w1 ⟨rfl, hb1⟩
        obtain ⟨y0, y1, y2⟩ := (HoldsN.new w1 ⟨x0, x1, x2⟩).cells
        replace hb1 := hb1.alloc hb1.size (.cells #[.int .i64 x0, .int .i64 x1, .int .i64 x2] 61)
        dsimp only at y0 y1 y2
        clear HN
        go_wp2
        go_ret
        exact ⟨rfl, hb1⟩
    · have eb : (x0 == v) = false := by rw [beq_eq_false_iff_ne]; exact hv
      rw [eb, if_neg (by simp)]
      go_enter Tryd.func64, Tryd.ntmps64
      go_wp2_with fail
      refine HN.mono ?_
      rintro e w1 ⟨rfl, hb1⟩
      obtain ⟨y0, y1, y2⟩ := (HoldsN.new w1 ⟨x0, x1, x2⟩).cells
      replace hb1 := hb1.alloc hb1.size (.cells #[.int .i64 x0, .int .i64 x1, .int .i64 x2] 61)
      dsimp only at y0 y1 y2
      clear HN
      go_wp2
      go_ret
      exact ⟨rfl, hb1⟩
set_option maxRecDepth 100000 in
set_option maxHeartbeats 2000000 in
theorem iteHas (H : StoreC StAt) (h : StAt w b F s) (ok : s.Ok) (f g k v : Int) (hf : I64 f) (hg : I64 g) (hk : I64 k) :
    Calls Tryd.prog 63 #[askV f g k, .pointer (some ⟨b, 0, none⟩), .int .i64 v] w fun e w' => e = .returned (.bool (s.isOf f v || s.isOf g v || s.isOf k v)) ∧ Below w.heap.size w w' := by
  have A1 := fun W (hb : Below w.heap.size w W) => iteIsOf H (H.below h hb) ok f v hf
  have A2 := fun W (hb : Below w.heap.size w W) => iteIsOf H (H.below h hb) ok g v hg
  have A3 := fun W (hb : Below w.heap.size w W) => iteIsOf H (H.below h hb) ok k v hk
  clear h
  unfold askV
  generalize s.isOf f v = r1 at *
  generalize s.isOf g v = r2 at *
  generalize s.isOf k v = r3 at *
  have hX := HoldsK.new w f g k
  have hb := (Below.refl w.heap.size w).alloc (Nat.le_refl _) (.cells #[.int .i64 f, .int .i64 g, .int .i64 k] 81)
  obtain ⟨y0, y1, y2⟩ := hX.cells
  cases r1
  · cases r2
    · go_enter Tryd.func63, Tryd.ntmps63
      go_wp2_with fail
      generalize w.alloc (.cells #[.int .i64 f, .int .i64 g, .int .i64 k] 81) = W at *
      refine (A1 _ hb).mono ?_
      rintro e w1 ⟨rfl, hb1⟩
      replace hX := hX.below hb1
      replace hb := hb.trans (hb1.mono hb.size)
      clear A1 y0 y1 y2 hb1
      obtain ⟨y0, y1, y2⟩ := hX.cells
      go_wp2_with fail
      refine (A2 _ hb).mono ?_
      rintro e w2 ⟨rfl, hb1⟩
      replace hX := hX.below hb1
      replace hb := hb.trans (hb1.mono hb.size)
      clear A2 y0 y1 y2 hb1
      obtain ⟨y0, y1, y2⟩ := hX.cells
      go_wp2_with fail
      refine (A3 _ hb).mono ?_
      rintro e w3 ⟨rfl, hb1⟩
      replace hb := hb.trans (hb1.mono hb.size)
      clear A3 y0 y1 y2 hb1
      go_wp2
      go_ret
      exact ⟨rfl, hb⟩
    · go_enter Tryd.func63, Tryd.ntmps63
      go_wp2_with fail
      generalize w.alloc (.cells #[.int .i64 f, .int .i64 g, .int .i64 k] 81) = W at *
      refine (A1 _ hb).mono ?_
      rintro e w1 ⟨rfl, hb1⟩
      replace hX := hX.below hb1
      replace hb := hb.trans (hb1.mono hb.size)
      clear A1 y0 y1 y2 hb1
      obtain ⟨y0, y1, y2⟩ := hX.cells
      go_wp2_with fail
      refine (A2 _ hb).mono ?_
      rintro e w2 ⟨rfl, hb1⟩
      replace hb := hb.trans (hb1.mono hb.size)
      clear A2 A3 y0 y1 y2 hb1
      go_wp2
      go_ret
      exact ⟨rfl, hb⟩
  · go_enter Tryd.func63, Tryd.ntmps63
    go_wp2_with fail
    generalize w.alloc (.cells #[.int .i64 f, .int .i64 g, .int .i64 k] 81) = W at *
    refine (A1 _ hb).mono ?_
    rintro e w1 ⟨rfl, hb1⟩
    replace hb := hb.trans (hb1.mono hb.size)
    clear A1 A2 A3 y0 y1 y2 hb1
    go_wp2
    go_ret
    exact ⟨rfl, hb⟩

set_option maxRecDepth 100000 in
set_option maxHeartbeats 4000000 in
theorem iteWhere (H : StoreC StAt) (h : StAt w b F s) (ok : s.Ok) (f g k v : Int) (z : Bool) (hf : I64 f) (hg : I64 g) (hk : I64 k) :
    Calls Tryd.prog 54 #[askV f g k, .pointer (some ⟨b, 0, none⟩), .int .i64 v, .bool z] w fun e w' => e = .returned (askV (s.side f v z) (s.side g v z) (s.side k v z)) ∧ Below w.heap.size w w' := by
  have A1 := fun W (hb : Below w.heap.size w W) => iteSet H (H.below h hb) ok f v z hf
  have A2 := fun W (hb : Below w.heap.size w W) => iteSet H (H.below h hb) ok g v z hg
  have A3 := fun W (hb : Below w.heap.size w W) => iteSet H (H.below h hb) ok k v z hk
  clear h
  unfold askV
  generalize s.side f v z = r1 at *
  generalize s.side g v z = r2 at *
  generalize s.side k v z = r3 at *
  go_enter Tryd.func54, Tryd.ntmps54
  go_wp2_with fail
  have hX0 := HoldsK.new w f g k
  have hb0 := (Below.refl w.heap.size w).alloc (Nat.le_refl _) (.cells #[.int .i64 f, .int .i64 g, .int .i64 k] 81)
  have eS : (w.alloc (.cells #[.int .i64 f, .int .i64 g, .int .i64 k] 81)).heap.size = w.heap.size + 1 := by simp only [World.alloc, Array.size_push]
  generalize w.alloc (.cells #[.int .i64 f, .int .i64 g, .int .i64 k] 81) = W0 at *
  have hR := HoldsK.new W0 0 0 0
  rw [eS] at hR
  have hX := hX0.below ((Below.refl W0.heap.size W0).alloc (Nat.le_refl _) (.cells #[.int .i64 0, .int .i64 0, .int .i64 0] 81))
  have hb := hb0.alloc hb0.size (.cells #[.int .i64 0, .int .i64 0, .int .i64 0] 81)
  generalize W0.alloc (.cells #[.int .i64 0, .int .i64 0, .int .i64 0] 81) = W at *
  have y0 := fun u : Sub W => (hX.sub u).cells.1
  have y1 := fun u : Sub W => (hX.sub u).cells.2.1
  have y2 := fun u : Sub W => (hX.sub u).cells.2.2
  have J1 := fun u : Sub W => A1 _ (hb.trans (u.2.mono hb.size))
  have J2 := fun u : Sub W => A2 _ (hb.trans (u.2.mono hb.size))
  have J3 := fun u : Sub W => A3 _ (hb.trans (u.2.mono hb.size))
  clear hX0 A1 A2 A3
  refine wp_region_quiet_tail (C := fun w' => ∃ u : Sub W, w' = u.1) 19 (by kernel_rfl) (by kernel_rfl) (InSub.drew W) ?_
  simp only [List.take_succ_cons, List.take_zero]
  iterate 5 (go_big_quiet_step (fail))
  go_big_quiet_step (exact subBelow (J1 _))
  iterate 5 (go_big_quiet_step (fail))
  go_big_quiet_step (exact subBelow (J2 _))
  iterate 5 (go_big_quiet_step (fail))
  go_big_quiet_step (exact subBelow (J3 _))
  go_big_quiet_step (fail)
  refine wpQuiet_nil ?_
  clear y0 y1 y2 J1 J2 J3
  intro w' hw'
  obtain ⟨u, rfl⟩ := hw'
  replace hR := hR.below u.2
  replace hb := hb.trans (u.2.mono hb.size)
  generalize u.1 = W3 at *
  obtain ⟨z0, z1, z2⟩ := hR.free
  obtain ⟨c0, c1, c2⟩ := hR.cells
  have hR3 := Lib.hid (hR.set3 r1 r2 r3)
  clear hR hX
  simp only [List.drop_succ_cons, List.drop_zero]
  go_wp2
  refine bodyPost_ret (v := askV r1 r2 r3) (ret_holdsK Tryd.results54 rfl hR3.out) rfl ?_
  exact ⟨rfl, below_set3 hb (Nat.le_succ _)⟩
/-- None of three is a node of v. -/
def MS.noneOf (s : MS) (f g k v : Int) : Bool := !(s.isOf f v || s.isOf g v || s.isOf k v)

set_option maxRecDepth 100000 in
set_option maxHeartbeats 4000000 in
theorem iteTop (H : StoreC StAt) (h : StAt w b F s) (ok : s.Ok) (f g k : Int) (hf : I64 f) (hg : I64 g) (hk : I64 k) :
    Calls Tryd.prog 53 #[askV f g k, .pointer (some ⟨b, 0, none⟩)] w fun e w' => (∃ l : Nat, l < 8 ∧ e = .returned (.int .i64 (s.o l)) ∧ (∀ j, j < l → s.noneOf f g k (s.o j) = true) ∧ (l = 7 ∨ s.noneOf f g k (s.o l) = false)) ∧ Below w.heap.size w w' := by
  have HO := fun W (hb : Below w.heap.size w W) => H.order (H.below h hb) ok
  have HH := fun (v : Int) W (hb : Below w.heap.size w W) => iteHas H (H.below h hb) ok f g k v hf hg hk
  replace HH := Lib.hid HH
  generalize ho : s.o = o at *
  replace ho := Lib.hid ho
  clear h
  unfold askV
  simp only [ov] at HO
  go_enter Tryd.func53, Tryd.ntmps53
  go_wp2_with fail
  have hX := HoldsK.new w f g k
  have hb := (Below.refl w.heap.size w).alloc (Nat.le_refl _) (.cells #[.int .i64 f, .int .i64 g, .int .i64 k] 81)
  generalize w.alloc (.cells #[.int .i64 f, .int .i64 g, .int .i64 k] 81) = W at *
  refine (HO _ hb).mono ?_
  rintro e w1 ⟨rfl, hb1⟩
  clear HO
  replace hX := (hX.below hb1).below ((Below.refl w1.heap.size w1).alloc (Nat.le_refl _) (.cells #[.int .i64 (o 0), .int .i64 (o 1), .int .i64 (o 2), .int .i64 (o 3), .int .i64 (o 4), .int .i64 (o 5), .int .i64 (o 6), .int .i64 (o 7)] 43))
  replace hb := (hb.trans (hb1.mono hb.size)).alloc (hb.trans (hb1.mono hb.size)).size (.cells #[.int .i64 (o 0), .int .i64 (o 1), .int .i64 (o 2), .int .i64 (o 3), .int .i64 (o 4), .int .i64 (o 5), .int .i64 (o 6), .int .i64 (o 7)] 43)
  have hO := HoldsO.new w1 o w1.heap.size rfl
  clear hb1
  go_wp2
  go_loopw [6] (fun i wr => ∃ n : Nat, n ≤ 7 ∧ i = .int .i64 n ∧ (∀ j, j < n → s.noneOf f g k (o j) = true) ∧ HoldsK wr w.heap.size f g k ∧ HoldsO wr w1.heap.size o ∧ Below w.heap.size w wr) (fun i _ => 7 - (intOf i).toNat)
  case atStart => exact ⟨0, Nat.zero_le _, rfl, fun j hj => absurd hj (Nat.not_lt_zero _), hX, hO, hb⟩
  case round =>
    clear hX hO hb
    obtain ⟨n, hn, rfl, hno, hX, hO, hb⟩ := hrel
    replace hno := Lib.hid hno
    by_cases hlt : n < 7
    · have hn0 : (0 : Int) ≤ (n : Int) := by omega
      have hn7 : (n : Int) < 7 := by omega
      have hn8 : (n : Int) < 8 := by omega
      have y0 := fun u : Sub wr => (hX.sub u).cells.1
      have y1 := fun u : Sub wr => (hX.sub u).cells.2.1
      have y2 := fun u : Sub wr => (hX.sub u).cells.2.2
      have q0 := fun u : Sub wr => (hO.sub u).cell n (by omega)
      have J := fun u : Sub wr => HH.out (o n) _ (hb.trans (u.2.mono hb.size))
      have e0 := hO.cell n (by omega)
      have hnx : s.noneOf f g k (o n) = !(s.isOf f (o n) || s.isOf g (o n) || s.isOf k (o n)) := rfl
      unfold askV at J
      generalize (s.isOf f (o n) || s.isOf g (o n) || s.isOf k (o n)) = r at *
      generalize hv : o n = v at *
      replace hv := Lib.hid hv
      go_wp2
      refine wp_region_quiet_all (C := fun w' => ∃ u : Sub wr, w' = u.1) (by kernel_rfl) (by kernel_rfl) (InSub.drew wr) ?_
      iterate 8 (go_big_quiet_step (fail))
      go_big_quiet_step (exact subBelow (J _))
      iterate 2 (go_big_quiet_step (fail))
      refine wpQuiet_nil ?_
      clear y0 y1 y2 q0 J
      intro w' hw'
      obtain ⟨u, rfl⟩ := hw'
      cases r
      · have hno' : Hid (∀ j, j < n + 1 → s.noneOf f g k (o j) = true) := fun j hj => by
          rcases Nat.lt_or_ge j n with h1 | h1
          · exact hno.out j h1
          · obtain rfl : j = n := by omega
            rw [hv.out]; exact hnx
        clear hno hnx
        go_wp2
        exact ⟨⟨n + 1, by omega, by go_num, hno'.out, hX.sub u, hO.sub u, hb.trans (u.2.mono hb.size)⟩, by simp [intOf]; omega⟩
      · replace hnx := Lib.hid hnx
        have e1 := (hO.sub u).cell n (by omega)
        rw [hv.out] at e1
        go_wp2
        go_ret
        exact ⟨⟨n, by omega, by rw [hv.out]; rfl, hno.out, .inr (by rw [hv.out]; exact hnx.out)⟩, hb.trans (u.2.mono hb.size)⟩
    · obtain rfl : n = 7 := by omega
      have e1 := fun u : Sub wr => (hO.sub u).cell 7 (by omega)
      generalize hv : o 7 = v at *
      replace hv := Lib.hid hv
      go_wp2
      refine wp_region_quiet_all (C := fun w' => ∃ u : Sub wr, w' = u.1) (by kernel_rfl) (by kernel_rfl) (InSub.drew wr) ?_
      iterate 3 (go_big_quiet_step (fail))
      iterate 7 go_big_quiet_skip
      go_big_quiet_step (fail)
      refine wpQuiet_nil ?_
      intro w' hw'
      obtain ⟨u, rfl⟩ := hw'
      replace e1 := e1 u
      go_wp2
      go_ret
      exact ⟨⟨7, by omega, by rw [hv.out]; rfl, hno.out, .inl rfl⟩, hb.trans (u.2.mono hb.size)⟩
/-- What is told at once. -/
def onceN (f g k : Int) : Int := if f = 1 ∨ g = k then g else if f = 0 then k else if g = 1 ∧ k = 0 then f else 0
def onceB (f g k : Int) : Bool := decide (f = 1 ∨ g = k ∨ f = 0 ∨ (g = 1 ∧ k = 0))
set_option maxRecDepth 100000 in
set_option maxHeartbeats 4000000 in
theorem iteOnce (f g k : Int) (w : World) : Calls Tryd.prog 52 #[askV f g k] w fun e w' => e = .returned (.tuple #[.int .i64 (onceN f g k), .bool (onceB f g k)]) ∧ Below w.heap.size w w' := by
  have hX := HoldsK.new w f g k
  have hb := (Below.refl w.heap.size w).alloc (Nat.le_refl _) (.cells #[.int .i64 f, .int .i64 g, .int .i64 k] 81)
  obtain ⟨y0, y1, y2⟩ := hX.cells
  clear hX
  unfold askV
  by_cases h1 : f = 1
  · subst h1
    rw [show onceN 1 g k = g by simp [onceN], show onceB 1 g k = true by simp [onceB]]
    go_enter Tryd.func52, Tryd.ntmps52
    go_wp2
    go_ret2
    exact ⟨rfl, hb⟩
  · have e1 : (f == 1) = false := by rw [beq_eq_false_iff_ne]; exact h1
    by_cases h2 : g = k
    · subst h2
      rw [show onceN f g g = g by simp [onceN], show onceB f g g = true by simp [onceB]]
      go_enter Tryd.func52, Tryd.ntmps52
      go_wp2
      go_ret2
      exact ⟨rfl, hb⟩
    · have e2 : (g == k) = false := by rw [beq_eq_false_iff_ne]; exact h2
      by_cases h3 : f = 0
      · subst h3
        rw [show onceN 0 g k = k by simp [onceN, h2], show onceB 0 g k = true by simp [onceB]]
        go_enter Tryd.func52, Tryd.ntmps52
        go_wp2
        go_ret2
        exact ⟨rfl, hb⟩
      · have e3 : (f == 0) = false := by rw [beq_eq_false_iff_ne]; exact h3
        by_cases h4 : g = 1
        · subst h4
          by_cases h5 : k = 0
          · subst h5
            rw [show onceN f 1 0 = f by simp [onceN, h1, h3], show onceB f 1 0 = true by simp [onceB]]
            go_enter Tryd.func52, Tryd.ntmps52
            go_wp2
            go_ret2
            exact ⟨rfl, hb⟩
          · have e5 : (k == 0) = false := by rw [beq_eq_false_iff_ne]; exact h5
            rw [show onceN f 1 k = 0 by simp [onceN, h1, h2, h3, h5], show onceB f 1 k = false by simp [onceB, h1, h2, h3, h5]]
            go_enter Tryd.func52, Tryd.ntmps52
            go_wp2
            go_ret2
            exact ⟨rfl, hb⟩
        · have e4 : (g == 1) = false := by rw [beq_eq_false_iff_ne]; exact h4
          rw [show onceN f g k = 0 by simp [onceN, h1, h2, h3, h4], show onceB f g k = false by simp [onceB, h1, h2, h3, h4]]
          go_enter Tryd.func52, Tryd.ntmps52
          go_wp2
          go_ret2
          exact ⟨rfl, hb⟩
end

end Go.Proofs.YtclkckinpjkglaaDoor
