/-
  Texts of this proof, one behind the other: ReadC, ReadI, IteM, AnsM, IMap, IteC, AskK.
-/
import Derived.Test.YtbackhbcbbkhfaaDoorG9
import Derived.Test.YtbackhbcbbkhfaaDoorG17
import Derived.Test.YtbackhbcbbkhfaaDoorG15
import Derived.Maps.Own
import Derived.Maps.OwnOps
import Derived.Maps.Views
import Derived.WalkKit
import Derived.DeepKeys4
import Derived.Maps.OwnSet
/-
  What is asked of the code's package read, whatever it is. ReadBuilds.
-/
namespace Go.Proofs.YtbackhbcbbkhfaaDoor
open Go Go.RowKit

/-- Each call of package read. -/
structure ReadC (StAt : World → Nat → (Nat → Prop) → MS → Prop) : Prop where ofAll ::
  table : ∀ {w b F s}, LowW w → StAt w b F s → s.Ok → ∀ n : Int, (n ≤ 9223372036854775807 ∧ -9223372036854775808 ≤ n) → Calls Tryd.prog 15 #[.pointer (some ⟨b, 0, none⟩), .int .i64 n] w fun e w' => e = .returned (fv (s.tab n)) ∧ Below w.heap.size w w'
  build : ∀ {w b F s}, LowW w → (∀ k, F k → 0 < k) → StAt w b F s → s.Ok → ∀ f : Fn, Calls Tryd.prog 7 #[.pointer (some ⟨b, 0, none⟩), fv f] w fun e w' => e = .returned (.tuple #[.int .i64 (MS.bld 8 s f).1, errV (MS.bld 8 s f).2.1]) ∧ ∃ F', StAt w' b F' (MS.bld 8 s f).2.2 ∧ Keeps F w w' ∧ Within w F F'

theorem MS.bld_err (s : MS) (f : Fn) (ok : s.Ok) : 0 ≤ (MS.bld 8 s f).2.1 ∧ (MS.bld 8 s f).2.1 ≤ 8 := by
  rcases (MS.bld_spec 8 s f ok (supN_8 f)).2.2.1 with h | h <;> rw [h] <;> decide


end Go.Proofs.YtbackhbcbbkhfaaDoor

/-
  The code's package read keeps its contracts.
-/
namespace Go.Proofs.YtbackhbcbbkhfaaDoor
open Go Go.RowKit

theorem readC {StAt : World → Nat → (Nat → Prop) → MS → Prop} (H : StoreC StAt) : ReadC StAt where
  table hL h ok n hn := readTable H ok 8 n _ hL h (ok.dep_le n) hn
  build hL hlow h ok f := readBuild H 8 _ f _ _ hL hlow h ok (supN_8 f)

end Go.Proofs.YtbackhbcbbkhfaaDoor

/-
  Mathematics of layers 9 to 11: if, then, else of nodes; what grows. Nothing of the program is read here.
-/
namespace Go.Proofs.YtbackhbcbbkhfaaDoor

/-- If, then, else of functions. -/
def iteF (f g h : Fn) : Fn := f &&& g ||| ~~~f &&& h
/-- What Ite comes to. -/
def MS.ite (s : MS) (f g h : Int) : Int × Int × MS := if s.there f = true ∧ s.there g = true ∧ s.there h = true then MS.bld 8 s (iteF (s.tab f) (s.tab g) (s.tab h)) else (0, 1, s)
/-- What Xor comes to. -/
def MS.xor (s : MS) (f g : Int) : Int × Int × MS :=
  if s.there f = true ∧ s.there g = true then
    let n := s.ite g 0 1
    if n.2.1 ≠ 0 then (0, n.2.1, n.2.2) else n.2.2.ite f n.1 g
  else (0, 1, s)
/-- What Restrict comes to. -/
def MS.restr (s : MS) (f v : Int) (b : Bool) : Int × Int × MS := if s.there f = true ∧ 0 ≤ v ∧ v ≤ 7 then MS.bld 8 s (cofAny (s.tab f) v b) else (0, 1, s)
/-- What Compose (0), Exists (1), Forall (2) come to. -/
def MS.three (s : MS) (what : Int) (f v g : Int) : Int × Int × MS :=
  if what = 0 ∧ s.there g = false then (0, 1, s)
  else
    let a := s.restr f v false
    if a.2.1 ≠ 0 then (0, a.2.1, a.2.2)
    else
      let b := a.2.2.restr f v true
      if b.2.1 ≠ 0 then (0, b.2.1, b.2.2)
      else if what = 0 then b.2.2.ite g b.1 a.1
      else if what = 1 then b.2.2.ite a.1 1 b.1
      else b.2.2.ite a.1 b.1 0

/-- No number's function is another one. -/
structure MS.Grows (s t : MS) : Prop where
  there : ∀ n, s.there n = true → t.there n = true
  val : ∀ (b : Int → Bool) n, s.there n = true → t.val b n = s.val b n

section
variable {s t u : MS}
theorem MS.there_mono' (h : ∀ n, s.has n = true → t.has n = true) {n : Int} (hn : s.there n = true) : t.there n = true := by
  rcases MS.there_cases hn with ⟨rfl | rfl, _⟩ | hn
  · rfl
  · rfl
  · simp [MS.there, h n hn]
theorem MS.Grows.refl (s : MS) : MS.Grows s s := ⟨fun _ h => h, fun _ _ _ => rfl⟩
theorem MS.Grows.trans (h : MS.Grows s t) (k : MS.Grows t u) : MS.Grows s u := ⟨fun n hn => k.there n (h.there n hn), fun b n hn => (k.val b n (h.there n hn)).trans (h.val b n hn)⟩
theorem MS.Grows.of_ext (e : MS.Ext s t) (hs : s.Ok) (ht : t.Ok) : MS.Grows s t := ⟨fun _ hn => e.there hn, fun b n hn => e.val hs ht b _ n (Nat.le_refl _) hn⟩
theorem MS.Grows.of_swap (hs : s.Ok) (l : Int) : MS.Grows s (s.swap l).2 := ⟨fun _ hn => MS.there_mono' (fun _ hm => hs.swap_has l hm) hn, fun b _ hn => hs.swap_val l b hn⟩
theorem MS.Grows.tab (h : MS.Grows s t) {n : Int} (hn : s.there n = true) : t.tab n = s.tab n := fn_ext fun k hk => by
  rw [MS.tab_bit _ _ hk, MS.tab_bit _ _ hk, h.val _ n hn]

theorem MS.Ok.bld_ok (h : s.Ok) (f : Fn) : (MS.bld 8 s f).2.2.Ok := (MS.bld_spec 8 s f h (supN_8 f)).1
theorem MS.Ok.bld_err (h : s.Ok) (f : Fn) : 0 ≤ (MS.bld 8 s f).2.1 ∧ (MS.bld 8 s f).2.1 ≤ 8 := by
  rcases (MS.bld_spec 8 s f h (supN_8 f)).2.2.1 with h | h <;> rw [h] <;> decide
theorem MS.Ok.ite_spec (h : s.Ok) (f g k : Int) : (s.ite f g k).2.2.Ok ∧ MS.Ext s (s.ite f g k).2.2 ∧ (0 ≤ (s.ite f g k).2.1 ∧ (s.ite f g k).2.1 ≤ 8) ∧
    ((s.ite f g k).2.1 = 0 → (s.ite f g k).2.2.there (s.ite f g k).1 = true ∧ (s.ite f g k).2.2.tab (s.ite f g k).1 = iteF (s.tab f) (s.tab g) (s.tab k)) := by
  unfold MS.ite
  split
  · have := MS.bld_spec 8 s (iteF (s.tab f) (s.tab g) (s.tab k)) h (supN_8 _)
    exact ⟨this.1, this.2.1, h.bld_err _, this.2.2.2.1⟩
  · exact ⟨h, MS.Ext.refl s, by dsimp only; omega, fun e => by dsimp only at e; omega⟩
theorem MS.Ok.xor_spec (h : s.Ok) (f g : Int) : (s.xor f g).2.2.Ok ∧ MS.Ext s (s.xor f g).2.2 ∧ (0 ≤ (s.xor f g).2.1 ∧ (s.xor f g).2.1 ≤ 8) := by
  unfold MS.xor
  split
  · obtain ⟨h1, h2, h3, _⟩ := h.ite_spec g 0 1
    dsimp only
    split
    · exact ⟨h1, h2, h3⟩
    · obtain ⟨k1, k2, k3, _⟩ := h1.ite_spec f (s.ite g 0 1).1 g
      exact ⟨k1, h2.trans k2, k3⟩
  · exact ⟨h, MS.Ext.refl s, by dsimp only; omega⟩
theorem MS.Ok.restr_spec (h : s.Ok) (f v : Int) (b : Bool) : (s.restr f v b).2.2.Ok ∧ MS.Ext s (s.restr f v b).2.2 ∧ (0 ≤ (s.restr f v b).2.1 ∧ (s.restr f v b).2.1 ≤ 8) ∧
    ((s.restr f v b).2.1 = 0 → (s.restr f v b).2.2.there (s.restr f v b).1 = true ∧ (s.restr f v b).2.2.tab (s.restr f v b).1 = cofAny (s.tab f) v b) := by
  unfold MS.restr
  split
  · have := MS.bld_spec 8 s (cofAny (s.tab f) v b) h (supN_8 _)
    exact ⟨this.1, this.2.1, h.bld_err _, this.2.2.2.1⟩
  · exact ⟨h, MS.Ext.refl s, by dsimp only; omega, fun e => by dsimp only at e; omega⟩
theorem MS.Ok.three_spec (h : s.Ok) (what f v g : Int) : (s.three what f v g).2.2.Ok ∧ MS.Ext s (s.three what f v g).2.2 ∧ (0 ≤ (s.three what f v g).2.1 ∧ (s.three what f v g).2.1 ≤ 8) := by
  unfold MS.three
  split
  · exact ⟨h, MS.Ext.refl s, by dsimp only; omega⟩
  · obtain ⟨h1, h2, h3, _⟩ := h.restr_spec f v false
    dsimp only
    split
    · exact ⟨h1, h2, h3⟩
    · obtain ⟨k1, k2, k3, _⟩ := h1.restr_spec f v true
      split
      · exact ⟨k1, h2.trans k2, k3⟩
      · split
        · obtain ⟨j1, j2, j3, _⟩ := k1.ite_spec g ((s.restr f v false).2.2.restr f v true).1 (s.restr f v false).1
          exact ⟨j1, (h2.trans k2).trans j2, j3⟩
        · split
          · obtain ⟨j1, j2, j3, _⟩ := k1.ite_spec (s.restr f v false).1 1 ((s.restr f v false).2.2.restr f v true).1
            exact ⟨j1, (h2.trans k2).trans j2, j3⟩
          · obtain ⟨j1, j2, j3, _⟩ := k1.ite_spec (s.restr f v false).1 ((s.restr f v false).2.2.restr f v true).1 0
            exact ⟨j1, (h2.trans k2).trans j2, j3⟩
end

end Go.Proofs.YtbackhbcbbkhfaaDoor

/-
  Mathematics of layer 9, as the code goes: three nodes, a variable that stands first, its two sides. Nothing of the program is read here.
-/
namespace Go.Proofs.YtbackhbcbbkhfaaDoor

/-- Two parts, one behind the other, and a node of them. -/
def MS.twoB (v : Int) (A b : Int × Int × MS) : Int × Int × MS := if A.2.1 ≠ 0 then (0, A.2.1, A.2.2) else if b.2.1 ≠ 0 then (0, b.2.1, b.2.2) else b.2.2.mk v A.1 b.1 []
def MS.two (v : Int) (A : Int × Int × MS) (B : MS → Int × Int × MS) : Int × Int × MS := MS.twoB v A (B A.2.2)
theorem MS.two_congr {v : Int} {A A' : Int × Int × MS} {B B' : MS → Int × Int × MS} (h : A = A') (k : B A.2.2 = B' A.2.2) : MS.two v A B = MS.two v A' B' := by
  subst h
  unfold MS.two
  rw [k]

theorem MS.bld_succ (k : Nat) (s : MS) (f : Fn) : MS.bld (k + 1) s f = if topF f s.o < 0 then (constN f, 0, s) else MS.two (topF f s.o) (MS.bld k s (cofAny f (topF f s.o) false)) fun t => MS.bld k t (cofAny f (topF f s.o) true) := rfl

theorem MS.bld_more : ∀ (k : Nat) (s : MS) (f : Fn), s.Ok → supN f ≤ k → MS.bld (k + 1) s f = MS.bld k s f := by
  intro k
  induction k with
  | zero =>
    intro s f h hk
    have ht : topF f s.o < 0 := by
      have := (top_neg (full_of h.order)).2 (supN_zero (f := f) (by omega))
      omega
    rw [MS.bld_succ, if_pos ht]
    rfl
  | succ k ih =>
    intro s f h hk
    rw [MS.bld_succ (k + 1) s f, MS.bld_succ k s f]
    by_cases ht : topF f s.o < 0
    · rw [if_pos ht, if_pos ht]
    · rw [if_neg ht, if_neg ht]
      have ht0 : 0 ≤ topF f s.o := by omega
      have k0 := supN_cof f s.o false ht0
      have k1 := supN_cof f s.o true ht0
      have ra := (MS.bld_spec k s (cofAny f (topF f s.o) false) h (by omega)).1
      have e1 := ih s (cofAny f (topF f s.o) false) h (by omega)
      exact MS.two_congr e1 (by rw [e1]; exact ih _ _ ra (by omega))

theorem MS.mk_err0 {s : MS} {v lo hi : Int} {but : List Int} (h : (s.mk v lo hi but).2.1 ≠ 0) : (s.mk v lo hi but).1 = 0 := by
  revert h
  unfold MS.mk
  split
  · intro; rfl
  · split
    · intro h; exact absurd rfl h
    · split
      · intro h; exact absurd rfl h
      · split
        · intro; rfl
        · intro h; exact absurd rfl h
theorem MS.two_err0 {v : Int} {A : Int × Int × MS} {B : MS → Int × Int × MS} (h : (MS.two v A B).2.1 ≠ 0) : (MS.two v A B).1 = 0 := by
  revert h
  unfold MS.two MS.twoB
  split
  · intro; rfl
  · split
    · intro; rfl
    · exact MS.mk_err0
theorem MS.bld_err0 (k : Nat) (s : MS) (f : Fn) (h : (MS.bld k s f).2.1 ≠ 0) : (MS.bld k s f).1 = 0 := by
  cases k with
  | zero => exact absurd rfl h
  | succ k =>
    rw [MS.bld_succ] at h ⊢
    split
    · rw [if_pos (by assumption)] at h; exact absurd rfl h
    · rw [if_neg (by assumption)] at h; exact MS.two_err0 h

section
variable {s t : MS}

theorem MS.mk_same {v n : Int} (v0 : 0 ≤ v) (v7 : v ≤ 7) (b : s.behind n v = true) : s.mk v n n [] = (n, 0, s) := by
  unfold MS.mk
  rw [if_neg (by rw [b]; simp; omega), if_pos rfl]

/-- A node whose function hangs on no variable up to level l stands behind it. -/
theorem MS.Ok.behind_free (h : s.Ok) {l : Nat} (hl : l < 8) {n : Int} (hn : s.there n = true) (hf : ∀ j, j ≤ l → depAny (s.tab n) (s.o j) = false) : s.behind n (s.o l) = true := by
  rcases MS.there_cases hn with ⟨hc, _⟩ | hh
  · exact MS.behind_const hc
  · rw [MS.behind_node hh, levO_at h.order hl rfl]
    refine decide_eq_true ?_
    obtain ⟨l0, _⟩ := h.lev hh
    obtain ⟨i, hi⟩ := Int.eq_ofNat_of_zero_le l0
    have hp := lev_place (o := s.o) hi
    rw [hi]
    rcases Nat.lt_or_ge l i with h1 | h1
    · omega
    · have := hf i h1
      rw [hp, h.dep_var hh] at this
      cases this

/-- Built at a level ahead of which the function hangs on nothing. -/
theorem MS.Ok.bld_at (h : s.Ok) (F : Fn) {l : Nat} (hl : l < 8) (hind : ∀ j, j < l → depAny F (s.o j) = false) :
    MS.bld 8 s F = MS.two (s.o l) (MS.bld 8 s (cofAny F (s.o l) false)) fun t => MS.bld 8 t (cofAny F (s.o l) true) := by
  have hr := mayO_range h.order hl
  by_cases hd : depAny F (s.o l) = true
  · have ht : topF F s.o = s.o l := by
      obtain ⟨_, p2, p3, p4⟩ := posF_spec F s.o
      have hpi : posF F s.o = l := by
        rcases Nat.lt_trichotomy (posF F s.o) l with h1 | h1 | h1
        · have h2 := (p3 (by omega)).1
          rw [hind _ h1] at h2
          cases h2
        · exact h1
        · have h2 := p2 l h1
          rw [hd] at h2
          cases h2
      rw [(p3 (by omega)).2, hpi]
    have ht0 : 0 ≤ topF F s.o := by rw [ht]; exact hr.1
    have k0 := supN_cof F s.o false ht0
    have k1 := supN_cof F s.o true ht0
    have k8 := supN_8 F
    rw [ht] at k0 k1
    have ra := (MS.bld_spec 7 s (cofAny F (s.o l) false) h (by omega)).1
    rw [show MS.bld 8 s F = _ from MS.bld_succ 7 s F, if_neg (by omega), ht]
    have e1 := MS.bld_more 7 s (cofAny F (s.o l) false) h (by omega)
    have e2 := MS.bld_more 7 _ (cofAny F (s.o l) true) ra (by omega)
    exact MS.two_congr e1.symm e2.symm
  · have hc : ∀ b, cofAny F (s.o l) b = F := fun b => cof_indep (b := b) (by simpa using hd)
    rw [hc, hc]
    obtain ⟨oka, ea, _, resa, _⟩ := MS.bld_spec 8 s F h (supN_8 F)
    have h0 := MS.bld_err0 8 s F
    generalize MS.bld 8 s F = A at *
    obtain ⟨a, e, u⟩ := A
    dsimp only at oka ea resa h0
    unfold MS.two MS.twoB
    dsimp only
    by_cases he : e = 0
    · subst he
      obtain ⟨t1, t2⟩ := resa rfl
      simp only [MS.bld_same 8 u F a oka (supN_8 F) t1 t2, ne_eq, not_true_eq_false, if_false]
      rw [MS.mk_same hr.1 hr.2]
      rw [← ea.o]
      refine oka.behind_free hl t1 fun j hj => ?_
      rw [t2, ea.o]
      rcases Nat.lt_or_ge j l with h1 | h1
      · exact hind j h1
      · obtain rfl : j = l := by omega
        simpa using hd
    · rw [if_pos he, h0 he]

/-- If, then, else with a variable set. -/
theorem iteF_cof (f g h : Fn) (v : Int) (b : Bool) : cofAny (iteF f g h) v b = iteF (cofAny f v b) (cofAny g v b) (cofAny h v b) := by
  unfold cofAny
  split
  · rename_i hv
    refine fn_ext fun k hk => ?_
    have hr := rowF_lt k v.toNat b hk (by omega)
    rw [cofF_bit _ _ _ _ hk]
    unfold iteF
    simp only [BitVec.getLsbD_or, BitVec.getLsbD_and, BitVec.getLsbD_not, hk, hr, decide_true, Bool.true_and, cofF_bit _ _ _ _ hk]
  · rfl
theorem iteF_dep {f g h : Fn} {v : Int} (hf : depAny f v = false) (hg : depAny g v = false) (hh : depAny h v = false) : depAny (iteF f g h) v = false := cof_indep' fun b => by
  rw [iteF_cof, cof_indep hf, cof_indep hg, cof_indep hh]
theorem iteF_both (f g : Fn) : iteF f g g = g := by
  refine fn_ext fun k hk => ?_
  unfold iteF
  simp only [BitVec.getLsbD_or, BitVec.getLsbD_and, BitVec.getLsbD_not, hk, decide_true, Bool.true_and]
  cases f.getLsbD k <;> simp
theorem iteF_t (g h : Fn) : iteF (BitVec.allOnes 256) g h = g := by
  refine fn_ext fun k hk => ?_
  unfold iteF
  simp only [BitVec.getLsbD_or, BitVec.getLsbD_and, BitVec.getLsbD_not, BitVec.getLsbD_allOnes, hk, decide_true, Bool.true_and, Bool.not_true, Bool.false_and, Bool.or_false]
theorem iteF_f (g h : Fn) : iteF (0#256) g h = h := by
  refine fn_ext fun k hk => ?_
  unfold iteF
  simp only [BitVec.getLsbD_or, BitVec.getLsbD_and, BitVec.getLsbD_not, BitVec.getLsbD_zero, hk, decide_true, Bool.true_and, Bool.false_and, Bool.not_false, Bool.false_or]
theorem iteF_id (f : Fn) : iteF f (BitVec.allOnes 256) (0#256) = f := by
  refine fn_ext fun k hk => ?_
  unfold iteF
  simp only [BitVec.getLsbD_or, BitVec.getLsbD_and, BitVec.getLsbD_not, BitVec.getLsbD_allOnes, BitVec.getLsbD_zero, hk, decide_true, Bool.true_and, Bool.and_true, Bool.and_false, Bool.or_false]

theorem MS.isOf_false {n v : Int} : s.isOf n v = false ↔ (s.has n = true → (s.nd n).var ≠ v) := by
  unfold MS.isOf MS.node
  cases hh : s.has n
  · simp
  · simp [beq_eq_false_iff_ne]
theorem MS.isOf_true {n v : Int} : s.isOf n v = true ↔ s.has n = true ∧ (s.nd n).var = v := by
  unfold MS.isOf MS.node
  cases hh : s.has n
  · simp
  · simp

/-- Of no variable ahead of level l. -/
theorem MS.Ok.from_of (h : s.Ok) {l : Nat} {n : Int} (hf : ∀ j, j < l → s.isOf n (s.o j) = false) : s.from (l : Int) n := fun hh => by
  obtain ⟨l0, _⟩ := h.lev hh
  obtain ⟨i, hi⟩ := Int.eq_ofNat_of_zero_le l0
  have hp := lev_place (o := s.o) hi
  rw [hi]
  rcases Nat.lt_or_ge i l with h1 | h1
  · exact absurd hp.symm (MS.isOf_false.1 (hf i h1) hh)
  · omega
theorem MS.Ok.from_dep (h : s.Ok) {l : Nat} (hl : l ≤ 8) {n : Int} (hf : s.from (l : Int) n) {j : Nat} (hj : j < l) : depAny (s.tab n) (s.o j) = false := by
  refine h.dep_ahead fun hh => ?_
  have := hf hh
  rw [levO_at h.order (by omega) rfl]
  omega
/-- A side. -/
theorem MS.Ok.side_tab (h : s.Ok) {l : Nat} (hl : l < 8) {n : Int} (hf : s.from (l : Int) n) (b : Bool) : s.tab (s.side n (s.o l) b) = cofAny (s.tab n) (s.o l) b := by
  unfold MS.side
  cases hi : s.isOf n (s.o l)
  · rw [if_neg (by simp), h.cof_ahead]
    intro hh
    have h1 := hf hh
    have h2 := MS.isOf_false.1 hi hh
    rw [levO_at h.order hl rfl]
    obtain ⟨l0, _⟩ := h.lev hh
    obtain ⟨i, he⟩ := Int.eq_ofNat_of_zero_le l0
    have hp := lev_place (o := s.o) he
    rw [he] at h1 ⊢
    have : i ≠ l := fun e => h2 (by rw [← hp, e])
    omega
  · obtain ⟨hh, hv⟩ := MS.isOf_true.1 hi
    rw [if_pos rfl, ← hv, h.cof_node hh]
theorem MS.Ok.side_there (h : s.Ok) {n v : Int} (hn : s.there n = true) (b : Bool) : s.there (s.side n v b) = true := by
  unfold MS.side
  cases hi : s.isOf n v
  · rw [if_neg (by simp)]; exact hn
  · obtain ⟨hh, _⟩ := MS.isOf_true.1 hi
    rw [if_pos rfl]
    cases b
    · exact MS.behind_there (h.lo n hh)
    · exact MS.behind_there (h.hi n hh)
theorem MS.Ok.side_from (h : s.Ok) {l : Nat} (hl : l < 8) {n : Int} (hf : s.from (l : Int) n) (b : Bool) : s.from ((l + 1 : Nat) : Int) (s.side n (s.o l) b) := by
  unfold MS.side
  cases hi : s.isOf n (s.o l)
  · rw [if_neg (by simp)]
    intro hh
    have h1 := hf hh
    have h2 := MS.isOf_false.1 hi hh
    obtain ⟨l0, _⟩ := h.lev hh
    obtain ⟨i, he⟩ := Int.eq_ofNat_of_zero_le l0
    have hp := lev_place (o := s.o) he
    rw [he] at h1 ⊢
    have : i ≠ l := fun e => h2 (by rw [← hp, e])
    omega
  · obtain ⟨hh, hv⟩ := MS.isOf_true.1 hi
    rw [if_pos rfl]
    have e := levO_at h.order hl rfl
    cases b
    · have := MS.from_behind (h.lo n hh)
      rw [hv, e] at this
      exact this
    · have := MS.from_behind (h.hi n hh)
      rw [hv, e] at this
      exact this
theorem MS.from_8 (h : s.Ok) {n : Int} (hf : s.from ((8 : Nat) : Int) n) : s.has n = false := by
  cases hh : s.has n
  · rfl
  · have := hf hh
    have := h.lev hh
    omega
theorem MS.Ext.from (e : MS.Ext s t) {L n : Int} (hn : s.there n = true) (hf : s.from L n) : t.from L n := fun hh => by
  rcases MS.there_cases hn with ⟨hc, _⟩ | h1
  · exfalso
    rcases hc with rfl | rfl <;> cases hh
  · rw [e.o, e.nd n h1]; exact hf h1

/-- Three nodes that are there, none of them ahead of a level. -/
structure MS.Three (s : MS) (l : Nat) (f g k : Int) : Prop where
  tf : s.there f = true
  tg : s.there g = true
  tk : s.there k = true
  ff : s.from (l : Int) f
  fg : s.from (l : Int) g
  fk : s.from (l : Int) k
variable {l : Nat} {f g k : Int}
/-- What is built of three. -/
def MS.ans (s : MS) (f g k : Int) : Int × Int × MS := MS.bld 8 s (iteF (s.tab f) (s.tab g) (s.tab k))
theorem MS.Three.ext (h : MS.Three s l f g k) (e : MS.Ext s t) : MS.Three t l f g k := ⟨e.there h.tf, e.there h.tg, e.there h.tk, e.from h.tf h.ff, e.from h.tg h.fg, e.from h.tk h.fk⟩
theorem MS.Three.side (h : MS.Three s l f g k) (ok : s.Ok) (hl : l < 8) (b : Bool) : MS.Three s (l + 1) (s.side f (s.o l) b) (s.side g (s.o l) b) (s.side k (s.o l) b) :=
  ⟨ok.side_there h.tf b, ok.side_there h.tg b, ok.side_there h.tk b, ok.side_from hl h.ff b, ok.side_from hl h.fg b, ok.side_from hl h.fk b⟩
/-- What is built of three, whatever they are. -/
theorem MS.Ok.ans_spec (ok : s.Ok) (f g k : Int) : (s.ans f g k).2.2.Ok ∧ MS.Ext s (s.ans f g k).2.2 ∧ (0 ≤ (s.ans f g k).2.1 ∧ (s.ans f g k).2.1 ≤ 8) ∧
    ((s.ans f g k).2.1 = 0 → (s.ans f g k).2.2.there (s.ans f g k).1 = true ∧ (s.ans f g k).2.2.tab (s.ans f g k).1 = iteF (s.tab f) (s.tab g) (s.tab k)) := by
  unfold MS.ans
  have := MS.bld_spec 8 s (iteF (s.tab f) (s.tab g) (s.tab k)) ok (supN_8 _)
  exact ⟨this.1, this.2.1, ok.bld_err _, this.2.2.2.1⟩
/-- The answer, by its two sides. -/
theorem MS.Three.ans (h : MS.Three s l f g k) (ok : s.Ok) (hl : l < 8) {A : Int × Int × MS} (hA : s.ans (s.side f (s.o l) false) (s.side g (s.o l) false) (s.side k (s.o l) false) = A) :
    s.ans f g k = MS.twoB (s.o l) A (A.2.2.ans (A.2.2.side f (s.o l) true) (A.2.2.side g (s.o l) true) (A.2.2.side k (s.o l) true)) := by
  obtain ⟨okt, e, _, _⟩ := ok.ans_spec (s.side f (s.o l) false) (s.side g (s.o l) false) (s.side k (s.o l) false)
  rw [hA] at okt e
  have h' := h.ext e
  have e0 := e.o
  have q1 := okt.side_tab hl h'.ff true
  have q2 := okt.side_tab hl h'.fg true
  have q3 := okt.side_tab hl h'.fk true
  rw [e0] at q1 q2 q3
  unfold MS.ans at hA ⊢
  rw [ok.side_tab hl h.ff, ok.side_tab hl h.fg, ok.side_tab hl h.fk, ← iteF_cof] at hA
  rw [ok.bld_at (iteF (s.tab f) (s.tab g) (s.tab k)) hl fun j hj => iteF_dep (ok.from_dep (by omega) h.ff hj) (ok.from_dep (by omega) h.fg hj) (ok.from_dep (by omega) h.fk hj)]
  rw [q1, q2, q3, ← iteF_cof, e.tab ok okt h.tf, e.tab ok okt h.tg, e.tab ok okt h.tk, hA]
  rfl
/-- Known: it is that node. -/
theorem MS.Ok.ans_known (ok : s.Ok) {f g k n : Int} (hn : s.there n = true) (e : s.tab n = iteF (s.tab f) (s.tab g) (s.tab k)) : s.ans f g k = (n, 0, s) := MS.bld_same 8 s _ n ok (supN_8 _) hn e
theorem MS.tab_n1 (s : MS) : s.tab 1 = BitVec.allOnes 256 := MS.tab_const rfl
theorem MS.tab_n0 (s : MS) : s.tab 0 = 0#256 := MS.tab_const rfl
theorem MS.Three.one (h : MS.Three s l 1 g k) (ok : s.Ok) : s.ans 1 g k = (g, 0, s) := ok.ans_known h.tg (by rw [MS.tab_n1, iteF_t])
theorem MS.Three.zero (h : MS.Three s l 0 g k) (ok : s.Ok) : s.ans 0 g k = (k, 0, s) := ok.ans_known h.tk (by rw [MS.tab_n0, iteF_f])
theorem MS.Three.same (h : MS.Three s l f g g) (ok : s.Ok) : s.ans f g g = (g, 0, s) := ok.ans_known h.tg (by rw [iteF_both])
theorem MS.Three.self (h : MS.Three s l f 1 0) (ok : s.Ok) : s.ans f 1 0 = (f, 0, s) := ok.ans_known h.tf (by rw [MS.tab_n0, MS.tab_n1, iteF_id])
end

end Go.Proofs.YtbackhbcbbkhfaaDoor

/-
  A map of the call's own whose elements are numbers, as a function from its keys; nothing of the program is read here.
-/
namespace Go.Proofs.YtbackhbcbbkhfaaDoor
open Go Go.RowKit Go.Maps

/-- How values of α stand as keys of type K. -/
structure KeyEnc (P : Program) (K : TypeId) (α : Type) where
  val : α → Value
  lit : α → Lit
  key : ∀ a, keyOf P K (val a) = some (lit a)
  inj : ∀ a b, val a = val b → a = b
  law : Keyed P K

section
variable {P : Program} {K e : TypeId} {α : Type} {E : KeyEnc P K α}

theorem KeyEnc.lit_inj (E : KeyEnc P K α) {a b : α} (h : E.lit a = E.lit b) : a = b := by
  have ha := E.key a
  have hb := E.key b
  rw [h] at ha
  exact E.inj a b (E.law.inj ha hb)

/-- Block b is a map of at most n entries; at key a it has m a, and 0 where there is none. -/
def IMap (E : KeyEnc P K α) (e : TypeId) (w : World) (b n : Nat) (m : α → Int) : Prop :=
  ∃ D : DataW Unit, w.ownsMap P K (plainElem P e) b n D ∧ IsMap D ∧ ∀ a, D.atKey (E.lit a) (.lit (.int .i64 0)) = .lit (.int .i64 (m a))

theorem IMap.made (E : KeyEnc P K α) (e : TypeId) (w : World) : IMap E e (w.alloc (.map #[] 0)) w.heap.size 0 (fun _ => 0) :=
  ⟨.map [], World.ownsMap_made _ _ _ _, isMap_empty, fun _ => rfl⟩

theorem IMap.block {w w' : World} {b n : Nat} {m : α → Int} (h : IMap E e w b n m) (hb : w'.heap[b]? = w.heap[b]?) : IMap E e w' b n m := by
  obtain ⟨D, ⟨es, clock, h1, h2, h3, h4⟩, hm, ha⟩ := h
  exact ⟨D, ⟨es, clock, hb.trans h1, h2, h3, h4⟩, hm, ha⟩

theorem IMap.lt {w : World} {b n : Nat} {m : α → Int} (h : IMap E e w b n m) : b < w.heap.size := by
  obtain ⟨D, ho, _⟩ := h; exact ho.lt

theorem IMap.keep {w w' : World} {b n B : Nat} {m : α → Int} (h : IMap E e w b n m) (hb : Below B w w') (hB : b < B) : IMap E e w' b n m := h.block (hb.block b hB)
theorem IMap.alloc {w : World} {b n : Nat} {m : α → Int} (h : IMap E e w b n m) (o : Obj) : IMap E e (w.alloc o) b n m := h.block (heap_alloc_old _ _ h.lt)
theorem IMap.grown {w w' : World} {b n : Nat} {m : α → Int} {row : Option Nat} (h : IMap E e w b n m) (hg : w.grownBy w' row) (hne : some b ≠ row) : IMap E e w' b n m := by
  obtain ⟨D, ho, hm, ha⟩ := h; exact ⟨D, ho.kept hg hne, hm, ha⟩

theorem IMap.le {w : World} {b n : Nat} {m : α → Int} (h : IMap E e w b n m) : IMap E e w b (n + 1) m := by
  obtain ⟨D, ho, hm, ha⟩ := h; exact ⟨D, ho.mono (Nat.le_succ _), hm, ha⟩

/-- m[a], read. -/
theorem IMap.look {w : World} {b n : Nat} {m : α → Int} {t : TypeId} (h : IMap E e w b n m) (ht : P.underlying t = some (.map K e)) (he : P.underlying e = some (.int .i64)) (hz : (zeroValue e).run P w = .ok (.int .i64 0) w) (a : α) :
    (Instr.lookup t (.map (some b)) (E.val a) false).run P w = .ok (.int .i64 (m a)) w := by
  obtain ⟨D, ho, _, ha⟩ := h
  obtain ⟨c, hr, hc, _⟩ := ho.lookup_int E.law ht he hz (E.key a)
  rw [ha a] at hc
  injection hc with hc
  injection hc with _ hc
  rw [hr, hc]

/-- m[a] = x, stored. -/
theorem IMap.put [DecidableEq α] {ops : Array Oper} {rest : List Oper} {o : Oper} {A : Act} {Q : Exit → Act → World → Prop} {w : World} {b n : Nat} {m : α → Int} {t : TypeId}
    (h : IMap E e w b n m) (ht : P.underlying t = some (.map K e)) (he : P.underlying e = some (.int .i64)) (hn : n < maxLen) (hg : o.guard = none) (x y v : Operand) (hop : o.op = Op.mapUpdate t x y v)
    (a : α) (c : Int) (hc : (Lit.int .i64 c).wf = true) (hx : A.eval x = .map (some b)) (hy : A.eval y = E.val a) (hv : A.eval v = .int .i64 c)
    (hK : ∀ w', IMap E e w' b (n + 1) (fun z => if z = a then c else m z) → w.grownBy w' (some b) → wpList P ops Q rest (A.put o.dst undef) w') : wpList P ops Q (o :: rest) A w := by
  obtain ⟨D, ho, hm, ha⟩ := h
  refine wpList_mapUpdate_own w hg x y v t hop K e E.law ht _ b n D hx ho hn _ _ _ hy hv (E.key a) _ [] (plainElem_int he hc) ?_
  intro w' ho' hgr
  refine hK w' ⟨_, ho', hm.put _ _, fun z => ?_⟩ hgr
  by_cases hz : z = a
  · subst hz
    rw [atKey_put_same hm (E.law.key (E.key z))]
    dsimp only
    rw [if_pos rfl]
  · rw [atKey_put_other (fun h => hz (E.lit_inj h)), ha z]
    dsimp only
    rw [if_neg hz]
end

end Go.Proofs.YtbackhbcbbkhfaaDoor

/-
  What is asked of the code's packages ite, oper, quant, whatever they are; both stores and a cache side by side.
-/
namespace Go.Proofs.YtbackhbcbbkhfaaDoor
open Go Go.RowKit

/-- What a call that makes nodes by a cache comes to: the number, the error, the store; store and cache stay apart. -/
def CallPost (StAt CAt : World → Nat → (Nat → Prop) → MS → Prop) (w : World) (b c : Nat) (F G : Nat → Prop) (r : Int × Int × MS) (e : Ending) (w' : World) : Prop :=
  e = .returned (.tuple #[.int .i64 r.1, errV r.2.1]) ∧ ∃ F' G', StAt w' b F' r.2.2 ∧ CAt w' c G' r.2.2 ∧ (∀ k, F' k → ¬ G' k) ∧ Keeps (fun k => F k ∨ G k) w w' ∧ Within w (fun k => F k ∨ G k) F' ∧ Within w (fun k => F k ∨ G k) G'

/-- A number of the language. -/
def I64 (n : Int) : Prop := n ≤ 9223372036854775807 ∧ -9223372036854775808 ≤ n

/-- Each call of package ite. -/
structure IteC (StAt CAt : World → Nat → (Nat → Prop) → MS → Prop) : Prop where ofAll ::
  lt : ∀ {w c F s}, CAt w c F s → ∀ k, F k → k < w.heap.size
  keep : ∀ {w w' c F s} {G : Nat → Prop}, CAt w c F s → Keeps G w w' → (∀ k, F k → ¬ G k) → CAt w' c F s
  grows : ∀ {w c F s t}, CAt w c F s → s.Ok → t.Ok → MS.Grows s t → CAt w c F t
  new : ∀ (w : World), Calls Tryd.prog 6 #[] w fun e w' => ∃ c, e = .returned (.pointer (some ⟨c, 0, none⟩)) ∧ (∃ F, (∀ s : MS, s.Ok → CAt w' c F s) ∧ ∀ k, F k → w.heap.size ≤ k) ∧ Below w.heap.size w w'
  flush : ∀ {w c F s}, CAt w c F s → s.Ok → Calls Tryd.prog 12 #[.pointer (some ⟨c, 0, none⟩)] w fun e w' => e = .returned (.tuple #[]) ∧ ∃ F', (∀ t : MS, t.Ok → CAt w' c F' t) ∧ Keeps F w w' ∧ Within w F F'
  ite : ∀ {w b c F G s}, StAt w b F s → CAt w c G s → s.Ok → (∀ k, F k → ¬ G k) → ∀ f g h : Int, I64 f → I64 g → I64 h → Calls Tryd.prog 8 #[.pointer (some ⟨c, 0, none⟩), .pointer (some ⟨b, 0, none⟩), .int .i64 f, .int .i64 g, .int .i64 h] w (CallPost StAt CAt w b c F G (s.ite f g h))


end Go.Proofs.YtbackhbcbbkhfaaDoor

/-
  A cache's map: its keys are three numbers, its elements numbers; what it holds, as a function.
-/
namespace Go.Proofs.YtbackhbcbbkhfaaDoor
open Go Go.RowKit Go.Maps Go.MapKept Go.ChangeMaps

theorem Tryd.laidK : laidOutB Tryd.prog = true := by kernel_rfl
theorem Tryd.rowK : 67 < Tryd.prog.types.size := of_decide_eq_true (by kernel_rfl)
theorem Tryd.keyK : Keyed Tryd.prog 67 :=
  Keyed.of_law (deep_law_laid Tryd.laidK (m := 4) (by decide) Tryd.rowK (by kernel_rfl) (by kernel_rfl))
theorem Tryd.keyTypeK : Tryd.prog.keyType 67 = true := by kernel_rfl
theorem Tryd.cellsOfK : Tryd.prog.cellsOf 67 = 3 := by kernel_rfl
theorem Tryd.cellsOfI : Tryd.prog.cellsOf 3 = 1 := by kernel_rfl

/-- Three numbers, as the program holds them. -/
def askV (f g h : Int) : Value := .agg #[.int .i64 f, .int .i64 g, .int .i64 h]
theorem I64.wf {n : Int} (h : I64 n) : (Lit.int .i64 n).wf = true := by
  obtain ⟨h1, h2⟩ := h
  simp [Lit.wf, IntKind.min, IntKind.max, IntKind.signed, IntKind.bits]
  omega
/-- Three numbers of the language. -/
abbrev Ask := { a : Int × Int × Int // I64 a.1 ∧ I64 a.2.1 ∧ I64 a.2.2 }
def Ask.of {f g h : Int} (hf : I64 f) (hg : I64 g) (hh : I64 h) : Ask := ⟨(f, g, h), hf, hg, hh⟩

theorem key_ask (a : Ask) : ∃ l, keyOf Tryd.prog 67 (askV a.1.1 a.1.2.1 a.1.2.2) = some l := by
  obtain ⟨d, hd⟩ : ∃ d, Tryd.prog.types.size + 1 = d + 1 + 1 := ⟨Tryd.prog.types.size - 1, by have := Tryd.rowK; omega⟩
  obtain ⟨⟨f, g, h⟩, hf, hg, hh⟩ := a
  unfold keyOf
  rw [Tryd.underlying67]
  have hfo : (askV f g h).formed Tryd.prog 67 = true := by
    unfold askV Value.formed
    simp only [Tryd.underlying67, Tryd.cellsOfK]
    rfl
  dsimp only at hf hg hh ⊢
  simp only [Tryd.keyTypeK, hfo, Bool.and_self, if_true]
  rw [hd]
  unfold askV
  simp [Program.keyLits, Value.cells, Tryd.underlying67, Tryd.underlying3, Tryd.cellsOfK, Tryd.cellsOfI, hf.wf, hg.wf, hh.wf]

/-- Three numbers as keys. -/
noncomputable def encA : KeyEnc Tryd.prog 67 Ask where
  val a := askV a.1.1 a.1.2.1 a.1.2.2
  lit a := (key_ask a).choose
  key a := (key_ask a).choose_spec
  inj a b h := by
    obtain ⟨⟨f, g, k⟩, _⟩ := a
    obtain ⟨⟨f', g', k'⟩, _⟩ := b
    unfold askV at h
    simp only [Value.agg.injEq, Array.mk.injEq, List.cons.injEq, Value.int.injEq, true_and, and_true] at h
    obtain ⟨rfl, rfl, rfl⟩ := h
    rfl
  law := Tryd.keyK

theorem zeroIK (w : World) : (zeroValue 3).run Tryd.prog w = .ok (.int .i64 0) w := by kernel_rfl

/-- Block b is a map of n entries that holds m. -/
def KMap (w : World) (b n : Nat) (m : Ask → Option Int) : Prop :=
  ∃ D : DataW Unit, w.ownsMap Tryd.prog 67 (plainElem Tryd.prog 3) b n D ∧ Maps.size D = n ∧ (∀ a, has D (encA.lit a) = (m a).isSome) ∧ ∀ a x, m a = some x → D.atKey (encA.lit a) (.lit (.int .i64 0)) = .lit (.int .i64 x)

theorem ownsMap_exact {H : Type} {P : Program} {k : TypeId} {R : Value → Option (DataW H × List MemPlace)} {w : World} {b n : Nat} {D : DataW H} (h : w.ownsMap P k R b n D) : w.ownsMap P k R b (Maps.size D) D := by
  obtain ⟨es, clock, hb, F, _, rfl⟩ := h
  exact ⟨es, clock, hb, F, by simp [Maps.size, length_sorted], rfl⟩

section
variable {w w' : World} {b n : Nat} {m : Ask → Option Int}
theorem KMap.made (w : World) : KMap (w.alloc (.map #[] 0)) w.heap.size 0 (fun _ => none) :=
  ⟨.map [], World.ownsMap_made _ _ _ _, rfl, fun _ => rfl, fun _ _ h => by cases h⟩
theorem KMap.block (h : KMap w b n m) (hb : w'.heap[b]? = w.heap[b]?) : KMap w' b n m := by
  obtain ⟨D, ⟨es, clock, h1, h2, h3, h4⟩, r⟩ := h
  exact ⟨D, ⟨es, clock, hb.trans h1, h2, h3, h4⟩, r⟩
theorem KMap.lt (h : KMap w b n m) : b < w.heap.size := by obtain ⟨D, ho, _⟩ := h; exact ho.lt
/-- len(m). -/
theorem KMap.len (h : KMap w b n m) (ty : TypeId) : (Builtin.len_ #[55] ty #[.map (some b)]).run Tryd.prog w = .ok (.int .i64 n) w := by
  obtain ⟨D, ho, hs, _⟩ := h
  rw [ho.len Tryd.underlying55 ty, hs]
/-- x, ok := m[a]. -/
theorem KMap.look (h : KMap w b n m) {f g k : Int} (hf : I64 f) (hg : I64 g) (hk : I64 k) :
    (Instr.lookup 55 (.map (some b)) (askV f g k) true).run Tryd.prog w = .ok (.tuple #[.int .i64 ((m (Ask.of hf hg hk)).getD 0), .bool (m (Ask.of hf hg hk)).isSome]) w := by
  obtain ⟨D, ⟨es, clock, hb, F, _, rfl⟩, _, hh, ha⟩ := h
  have hkey := encA.key (Ask.of hf hg hk)
  have h1 := hh (Ask.of hf hg hk)
  have h2 := ha (Ask.of hf hg hk)
  generalize m (Ask.of hf hg hk) = o at *
  rcases Maps.fit_look true Tryd.keyK Tryd.underlying55 (zeroIK w) hb F hkey with ⟨hrun, _, hat⟩ | ⟨e0, y, _, _, hrun, hR, hat, _⟩
  · rw [has_false_of_atKey hat] at h1
    cases o with
    | some x => cases h1
    | none => exact hrun
  · rw [has_true_of_atKey hat] at h1
    cases o with
    | none => cases h1
    | some x =>
      have h3 := h2 x rfl
      rw [hat] at h3
      obtain ⟨c, hc, hy, _⟩ := plainElem_int_inv Tryd.underlying3 hR
      rw [hy] at h3
      simp only [DataW.lit.injEq, Lit.int.injEq, true_and] at h3
      subst h3
      rw [hc] at hrun
      exact hrun
/-- m[a] = x. -/
theorem KMap.put {ops : Array Oper} {rest : List Oper} {o : Oper} {A : Act} {Q : Exit → Act → World → Prop}
    (h : KMap w b n m) (hn : n < maxLen) (hg0 : o.guard = none) (x y v : Operand) (hop : o.op = Op.mapUpdate 55 x y v)
    {f g k c : Int} (hf : I64 f) (hg : I64 g) (hk : I64 k) (hc : I64 c) (hx : A.eval x = .map (some b)) (hy : A.eval y = askV f g k) (hv : A.eval v = .int .i64 c)
    (hK : ∀ w' n', n' ≤ n + 1 → KMap w' b n' (fun z => if z = Ask.of hf hg hk then some c else m z) → w.grownBy w' (some b) → wpList Tryd.prog ops Q rest (A.put o.dst undef) w') : wpList Tryd.prog ops Q (o :: rest) A w := by
  obtain ⟨D, ho, hs, hh, ha⟩ := h
  have hm := ho.isMap
  have htd := ho.tidy Tryd.keyK
  refine wpList_mapUpdate_own w hg0 x y v _ hop _ _ Tryd.keyK Tryd.underlying55 _ b _ D hx ho hn _ _ _ hy hv (encA.key (Ask.of hf hg hk)) _ [] (plainElem_int Tryd.underlying3 hc.wf) ?_
  intro w' ho' hgr
  have hsz := size_put htd (k := encA.lit (Ask.of hf hg hk)) (.lit (.int .i64 c))
  refine hK w' (Maps.size (D.put (encA.lit (Ask.of hf hg hk)) (.lit (.int .i64 c)))) (by rw [hsz]; split <;> omega) ⟨_, ownsMap_exact ho', rfl, fun z => ?_, fun z x => ?_⟩ hgr
  · by_cases hz : z = Ask.of hf hg hk
    · subst hz
      rw [has_put_same hm (Tryd.keyK.key (encA.key _))]
      simp
    · rw [has_put_other (fun h => hz (encA.lit_inj h)), hh z]
      simp [hz]
  · by_cases hz : z = Ask.of hf hg hk
    · subst hz
      rw [atKey_put_same hm (Tryd.keyK.key (encA.key _))]
      simp
    · rw [atKey_put_other (fun h => hz (encA.lit_inj h))]
      simp only [hz, if_false]
      exact ha z x
/-- clear(m). -/
theorem KMap.clear (h : KMap w b n m) : ∃ w', (∀ ty, (Builtin.clear_ #[55] ty #[.map (some b)]).run Tryd.prog w = .ok (.tuple #[]) w') ∧ KMap w' b 0 (fun _ => none) ∧ w.grownBy w' (some b) := by
  obtain ⟨D, ⟨es, clock, hb, F, _, rfl⟩, _⟩ := h
  refine ⟨setBlock w b (.map #[] clock), fun ty => ?_, ⟨.map [], ⟨#[], clock, heap_setBlock_same hb _, ⟨by simp, stamped_empty clock, by simp⟩, Nat.le_refl _, rfl⟩, rfl, fun _ => rfl, fun _ _ h => by cases h⟩, ⟨rfl, rfl, rfl, by simp [setBlock], fun i _ hi => heap_setBlock_other hb _ (fun e => hi (by rw [e]))⟩⟩
  simp [Builtin.clear_, run_underlying Tryd.underlying55, MapKept.run_getObj_map hb, run_setObj_map _ hb, Result.andThen, setBlock]
end

end Go.Proofs.YtbackhbcbbkhfaaDoor
