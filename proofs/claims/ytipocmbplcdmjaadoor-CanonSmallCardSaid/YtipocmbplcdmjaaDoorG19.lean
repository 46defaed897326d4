/-
  Texts of this proof, one behind the other: SameM, SiftM, SweepN, Ref2.
-/
import Derived.Test.YtipocmbplcdmjaaDoorG18
import Derived.Test.YtipocmbplcdmjaaDoorG17
import Derived.Test.YtipocmbplcdmjaaDoorG16
import Derived.Test.YtipocmbplcdmjaaDoorG2
import Derived.Test.YtipocmbplcdmjaaDoorG11
import Derived.Test.YtipocmbplcdmjaaDoorG15
/-
  Mathematics of the own laws of layers 9 to 11: where there is room enough, each call makes its number. Nothing of the program is read here.
-/
namespace Go.Proofs.YtipocmbplcdmjaaDoor

/-- All nodes are those of the functions L by order; for each of these there is room for 77. -/
structure MS.Fits (s : MS) (L : List Fn) (o : Nat → Int) (most : Nat) : Prop where
  ok : s.Ok
  may : mayO o = true
  ord : s.o = o
  cap : s.ar.most = most
  nodes : ∀ n, s.has n = true → IsNode L o (s.tab n)

section
variable {s : MS} {L : List Fn} {o : Nat → Int} {most : Nat}

theorem size_77s (o : Nat → Int) (ho : mayO o = true) : ∀ L : List Fn, sizeF L o ≤ 77 * L.length
  | [] => by
    obtain ⟨a, _, hma, hla⟩ := sizeF_is [] o
    rw [← hla]
    have : a = [] := by
      cases a with
      | nil => rfl
      | cons x t =>
        have h := ((hma x).1 (by simp)).1
        exact absurd h (fun h => by
          have key : ∀ g, Reach [] o g → False := fun g hg => by induction hg <;> simp_all
          exact key _ h)
    rw [this]; simp
  | f :: L => by
    have h := size_add [f] L o
    have h1 := size_77 f o (full_of ho)
    have h2 := size_77s o ho L
    have e : ([f] ++ L : List Fn) = f :: L := rfl
    rw [e] at h
    simp only [List.length_cons]
    omega

theorem MS.Fits.none (most : Nat) (h : most ≤ 20000) : (MS.none most).Fits [] plainO most :=
  ⟨MS.none_ok most h, plainO_may, rfl, rfl, fun n h => by simp [MS.has, MS.none] at h⟩

theorem MS.Fits.empty {most : Nat} (h : most ≤ 20000) {o : Nat → Int} (ho : mayO o = true) : (MS.empty most o).Fits [] o most := ⟨MS.empty_ok most h ho, ho, rfl, rfl, fun n h => by rw [MS.empty_has] at h; cases h⟩

/-- One more. -/
theorem MS.Fits.bld (h : s.Fits L o most) (f : Fn) (hs : 77 * (L.length + 1) ≤ most) : ∃ n t, MS.bld 8 s f = (n, 0, t) ∧ t.Fits (f :: L) o most ∧ MS.Ext s t ∧ t.there n = true ∧ t.tab n = f := by
  have mono : ∀ k, IsNode L o k → IsNode (f :: L) o k := fun k hk => ⟨hk.1.mono (fun x hx => by simp [hx]), hk.2⟩
  have mono2 : ∀ k, IsNode [f] o k → IsNode (f :: L) o k := fun k hk => ⟨hk.1.mono (fun x hx => by simp only [List.mem_singleton] at hx; simp [hx]), hk.2⟩
  obtain ⟨h1, h2, h3, h4, h5⟩ := MS.bld_spec 8 s f h.ok (supN_8 f)
  have h0 := MS.bld_room 8 s f (f :: L) h.ok (supN_8 f) (fun n hn => by rw [h.ord]; exact mono _ (h.nodes n hn)) (Reach.base (by simp)) (by
    rw [h.ord, h.cap]; exact Nat.le_trans (size_77s o h.may _) (by simpa using hs))
  obtain ⟨t, e⟩ := h4 h0
  refine ⟨(MS.bld 8 s f).1, (MS.bld 8 s f).2.2, ?_, ⟨h1, h.may, h2.o.trans h.ord, h2.most.trans h.cap, fun n hn => ?_⟩, h2, t, e⟩
  · rw [← h0]
  · rcases h5 n hn with hm | hm
    · rw [h2.tab h.ok h1 (by simp [MS.there, hm])]; exact mono _ (h.nodes n hm)
    · rw [h.ord] at hm; exact mono2 _ hm
/-- If, then, else of numbers that are there. -/
theorem MS.Fits.ite (h : s.Fits L o most) {f g k : Int} (hf : s.there f = true) (hg : s.there g = true) (hk : s.there k = true) (hs : 77 * (L.length + 1) ≤ most) :
    ∃ n t, s.ite f g k = (n, 0, t) ∧ t.Fits (iteF (s.tab f) (s.tab g) (s.tab k) :: L) o most ∧ MS.Ext s t ∧ t.there n = true ∧ t.tab n = iteF (s.tab f) (s.tab g) (s.tab k) := by
  obtain ⟨n, t, e, q⟩ := h.bld (iteF (s.tab f) (s.tab g) (s.tab k)) hs
  exact ⟨n, t, by unfold MS.ite; rw [if_pos ⟨hf, hg, hk⟩]; exact e, q⟩
/-- A number is asked for that is there. -/
theorem MS.Ok.ite_same (h : s.Ok) {f g k n : Int} (hf : s.there f = true) (hg : s.there g = true) (hk : s.there k = true) (hn : s.there n = true) (e : s.tab n = iteF (s.tab f) (s.tab g) (s.tab k)) : s.ite f g k = (n, 0, s) := by
  unfold MS.ite
  rw [if_pos ⟨hf, hg, hk⟩]
  exact MS.bld_same 8 s _ n h (supN_8 _) hn e
theorem MS.tab_zero (s : MS) : s.there 0 = true ∧ s.tab 0 = 0 := by
  have h := const_tab (f := 0) (by decide +kernel) s
  rw [show constN 0 = 0 by decide +kernel] at h
  exact ⟨h.2.1, h.1⟩
theorem MS.tab_one (s : MS) : s.there 1 = true ∧ s.tab 1 = BitVec.allOnes 256 := by
  have h := const_tab (f := BitVec.allOnes 256) (by decide +kernel) s
  rw [show constN (BitVec.allOnes 256) = 1 by decide +kernel] at h
  exact ⟨h.2.1, h.1⟩
theorem iteF_10 (f : Fn) : iteF f (BitVec.allOnes 256) 0 = f := by
  unfold iteF
  show f &&& BitVec.allOnes 256 ||| ~~~f &&& 0#256 = f
  rw [BitVec.and_allOnes, BitVec.and_zero, BitVec.or_zero]
theorem iteF_same (f g : Fn) : iteF f g g = g := by
  unfold iteF
  apply BitVec.eq_of_getElem_eq
  intro i hi
  simp only [BitVec.getElem_or, BitVec.getElem_and, BitVec.getElem_not]
  cases f[i] <;> simp
/-- A number is there, and is this function. -/
def MS.At (s : MS) (n : Int) (f : Fn) : Prop := s.there n = true ∧ s.tab n = f
theorem MS.At.ext {t : MS} {n : Int} {f : Fn} (h : s.At n f) (e : MS.Ext s t) (ok : s.Ok) (ok' : t.Ok) : t.At n f := ⟨e.there h.1, (e.tab ok ok' h.1).trans h.2⟩
theorem MS.At.i64 {n : Int} {f : Fn} (h : s.At n f) (ok : s.Ok) : n ≤ 9223372036854775807 ∧ -9223372036854775808 ≤ n := ok.toBase.there_i64 h.1
theorem MS.at0 (s : MS) : s.At 0 0#256 := s.tab_zero
theorem MS.at1 (s : MS) : s.At 1 (BitVec.allOnes 256) := s.tab_one
theorem MS.Fits.bldAt (h : s.Fits L o most) (f : Fn) (hs : 77 * (L.length + 1) ≤ most) : ∃ n t, MS.bld 8 s f = (n, 0, t) ∧ t.Fits (f :: L) o most ∧ MS.Ext s t ∧ t.At n f := by
  obtain ⟨n, t, e, q1, q2, q3⟩ := h.bld f hs
  exact ⟨n, t, e, q1, q2, q3⟩
theorem MS.Fits.iteAt (h : s.Fits L o most) {f g k : Int} {x y z : Fn} (hf : s.At f x) (hg : s.At g y) (hk : s.At k z) (hs : 77 * (L.length + 1) ≤ most) (v : Fn) (hv : iteF x y z = v) :
    ∃ n t, s.ite f g k = (n, 0, t) ∧ t.Fits (v :: L) o most ∧ MS.Ext s t ∧ t.At n v := by
  obtain ⟨n, t, e, q1, q2, q3, q4⟩ := h.ite hf.1 hg.1 hk.1 hs
  rw [hf.2, hg.2, hk.2, hv] at q1 q4
  exact ⟨n, t, e, q1, q2, q3, q4⟩
theorem MS.At.same {f g k n : Int} {x y z v : Fn} (hn : s.At n v) (ok : s.Ok) (hf : s.At f x) (hg : s.At g y) (hk : s.At k z) (hv : iteF x y z = v) : s.ite f g k = (n, 0, s) :=
  ok.ite_same hf.1 hg.1 hk.1 hn.1 (by rw [hn.2, hf.2, hg.2, hk.2, hv])
theorem MS.At.xor {t : MS} {f g m n : Int} {x y : Fn} (hf : s.At f x) (hg : s.At g y) (ok : s.Ok) (hm : s.At m (~~~y)) (hv : iteF y 0#256 (BitVec.allOnes 256) = ~~~y) (hn : s.ite f m g = (n, 0, t)) : s.xor f g = (n, 0, t) := by
  unfold MS.xor
  rw [if_pos ⟨hf.1, hg.1⟩, hm.same ok hg s.at0 s.at1 hv]
  exact hn

theorem iteF_not (f : Fn) : iteF f 0#256 (BitVec.allOnes 256) = ~~~f := by
  apply BitVec.eq_of_getElem_eq
  intro i hi
  simp only [iteF, BitVec.getElem_or, BitVec.getElem_and, BitVec.getElem_not, BitVec.getElem_zero, BitVec.getElem_allOnes]
  cases f[i] <;> rfl
theorem iteF_not2 (f : Fn) : iteF (~~~f) 0#256 (BitVec.allOnes 256) = f := by
  apply BitVec.eq_of_getElem_eq
  intro i hi
  simp only [iteF, BitVec.getElem_or, BitVec.getElem_and, BitVec.getElem_not, BitVec.getElem_zero, BitVec.getElem_allOnes]
  cases f[i] <;> rfl
theorem iteF_and (f g : Fn) : iteF f g 0#256 = f &&& g := by
  apply BitVec.eq_of_getElem_eq
  intro i hi
  simp only [iteF, BitVec.getElem_or, BitVec.getElem_and, BitVec.getElem_not, BitVec.getElem_zero]
  cases f[i] <;> cases g[i] <;> rfl
theorem iteF_or (f g : Fn) : iteF f (BitVec.allOnes 256) g = f ||| g := by
  apply BitVec.eq_of_getElem_eq
  intro i hi
  simp only [iteF, BitVec.getElem_or, BitVec.getElem_and, BitVec.getElem_not, BitVec.getElem_allOnes]
  cases f[i] <;> cases g[i] <;> rfl
theorem iteF_xor (f g : Fn) : iteF f (~~~g) g = f ^^^ g := by
  apply BitVec.eq_of_getElem_eq
  intro i hi
  simp only [iteF, BitVec.getElem_or, BitVec.getElem_and, BitVec.getElem_not, BitVec.getElem_xor]
  cases f[i] <;> cases g[i] <;> rfl
theorem iteF_and2 (f g : Fn) : iteF g f 0#256 = f &&& g := by rw [iteF_and, BitVec.and_comm]
theorem iteF_or2 (f g : Fn) : iteF g (BitVec.allOnes 256) f = f ||| g := by rw [iteF_or, BitVec.or_comm]
theorem iteF_xor2 (f g : Fn) : iteF g (~~~f) f = f ^^^ g := by rw [iteF_xor, BitVec.xor_comm]
theorem iteF_nand (f g : Fn) : iteF (~~~f) (BitVec.allOnes 256) (~~~g) = ~~~(f &&& g) := by
  apply BitVec.eq_of_getElem_eq
  intro i hi
  simp only [iteF, BitVec.getElem_or, BitVec.getElem_and, BitVec.getElem_not, BitVec.getElem_allOnes]
  cases f[i] <;> cases g[i] <;> rfl
theorem iteF_self (f : Fn) : iteF f (~~~f) f = 0#256 := by
  apply BitVec.eq_of_getElem_eq
  intro i hi
  simp only [iteF, BitVec.getElem_or, BitVec.getElem_and, BitVec.getElem_not, BitVec.getElem_zero]
  cases f[i] <;> rfl
theorem iteF_in (f g : Fn) : iteF f (f ||| g) 0#256 = f := by
  apply BitVec.eq_of_getElem_eq
  intro i hi
  simp only [iteF, BitVec.getElem_or, BitVec.getElem_and, BitVec.getElem_not, BitVec.getElem_zero]
  cases f[i] <;> cases g[i] <;> rfl
end

/-- A store's exchange of a level that is one: no error, or no room. -/
theorem MS.swap_in (s : MS) {l : Int} (h0 : 0 ≤ l) (h6 : l ≤ 6) : (s.swap l).1 = 0 ∨ (s.swap l).1 = 2 := by
  unfold MS.swap
  split
  · omega
  · dsimp only
    split <;> simp

end Go.Proofs.YtipocmbplcdmjaaDoor

/-
  Mathematics of layer 13: a variable moved to where the fewest nodes are. Nothing of the program is read here.
-/
namespace Go.Proofs.YtipocmbplcdmjaaDoor

/-- A step down, or up: whether there is one, the state. -/
noncomputable def MS.step (s : MS) (roots : List Int) (v : Int) (down : Bool) : Bool × MS :=
  let r := s.swap (levO s.o v - if down then 0 else 1)
  if r.1 ≠ 0 then (false, r.2) else (true, (r.2.sweep roots).2)

/-- On the way: the state, how few there were, at which level. -/
structure Sft where
  s : MS
  few : Int
  best : Int

/-- At the end of a way. -/
def MS.last (s : MS) (v : Int) (down : Bool) : Bool := if down then decide (levO s.o v = 7) else decide (levO s.o v = 0)
/-- Behind a step. -/
def Sft.met (x : Sft) (t : MS) (v : Int) : Sft := ⟨t, if (t.all.length : Int) < x.few then t.all.length else x.few, if (t.all.length : Int) < x.few then levO t.o v else x.best⟩
/-- A way. -/
noncomputable def siftGo (roots : List Int) (v grow : Int) (down : Bool) : Nat → Sft → Sft
  | 0, x => x
  | k + 1, x =>
    if x.s.last v down = true then x
    else if (x.s.step roots v down).1 = false then ⟨(x.s.step roots v down).2, x.few, x.best⟩
    else if grow < ((x.s.step roots v down).2.all.length : Int) then x.met (x.s.step roots v down).2 v
    else siftGo roots v grow down k (x.met (x.s.step roots v down).2 v)
/-- To the best level. -/
noncomputable def siftEnd (roots : List Int) (v best : Int) : Nat → MS → MS
  | 0, s => s
  | k + 1, s =>
    if levO s.o v = best then s
    else if (s.step roots v (decide (levO s.o v < best))).1 = false then (s.step roots v (decide (levO s.o v < best))).2
    else siftEnd roots v best k (s.step roots v (decide (levO s.o v < best))).2
noncomputable def MS.sift (s : MS) (roots : List Int) (v grow : Int) : Int × MS :=
  if v < 0 ∨ 7 < v ∨ grow < 0 then (1, s)
  else
    let s0 := (s.sweep roots).2
    let x := siftGo roots v grow false 8 (siftGo roots v grow true 8 ⟨s0, s0.all.length, levO s0.o v⟩)
    (0, siftEnd roots v x.best 8 x.s)
/-- The first variables. -/
noncomputable def MS.siftTo (s : MS) (roots : List Int) (grow : Int) : Nat → MS
  | 0 => s
  | v + 1 => ((s.siftTo roots grow v).sift roots (v : Int) grow).2
noncomputable def MS.siftAll (s : MS) (roots : List Int) (grow : Int) : Int × MS := if grow < 0 then (1, s) else (0, s.siftTo roots grow 8)

section
variable {s : MS} {roots : List Int} {v grow : Int}
theorem MS.Ok.step (h : s.Ok) (roots : List Int) (v : Int) (down : Bool) : (s.step roots v down).2.Ok := by
  unfold MS.step
  dsimp only
  generalize levO s.o v - (if down = true then (0 : Int) else 1) = l
  split
  · exact h.swapped l
  · exact ((h.swapped l).swept roots).1.ok
theorem MS.Ok.siftGo (down : Bool) : ∀ (k : Nat) (x : Sft), x.s.Ok → (siftGo roots v grow down k x).s.Ok
  | 0, _, h => h
  | k + 1, x, h => by
    unfold Go.Proofs.YtipocmbplcdmjaaDoor.siftGo
    split
    · exact h
    · split
      · exact h.step _ _ _
      · split
        · exact h.step _ _ _
        · exact MS.Ok.siftGo down k _ (h.step _ _ _)
theorem MS.Ok.siftEnd (best : Int) : ∀ (k : Nat) (s : MS), s.Ok → (siftEnd roots v best k s).Ok
  | 0, _, h => h
  | k + 1, s, h => by
    unfold Go.Proofs.YtipocmbplcdmjaaDoor.siftEnd
    split
    · exact h
    · split
      · exact h.step _ _ _
      · exact MS.Ok.siftEnd best k _ (h.step _ _ _)
theorem MS.Ok.sift (h : s.Ok) (roots : List Int) (v grow : Int) : (s.sift roots v grow).2.Ok := by
  unfold MS.sift
  split
  · exact h
  · exact MS.Ok.siftEnd _ _ _ (MS.Ok.siftGo _ _ _ (MS.Ok.siftGo _ _ _ (h.swept roots).1.ok))
theorem MS.Ok.siftTo (h : s.Ok) (roots : List Int) (grow : Int) : ∀ v, (s.siftTo roots grow v).Ok
  | 0 => h
  | v + 1 => (MS.Ok.siftTo h roots grow v).sift roots _ grow
theorem MS.Ok.siftAll (h : s.Ok) (roots : List Int) (grow : Int) : (s.siftAll roots grow).2.Ok := by
  unfold MS.siftAll
  split
  · exact h
  · exact h.siftTo roots grow 8

/-- Where a variable stands. -/
theorem MS.Ok.lev07 (h : s.Ok) {v : Int} (v0 : 0 ≤ v) (v7 : v ≤ 7) : 0 ≤ levO s.o v ∧ levO s.o v ≤ 7 := by
  obtain ⟨n, rfl⟩ := Int.eq_ofNat_of_zero_le v0
  exact ⟨levO_nonneg.2 (mayO_iff.1 h.order n (by omega)), (levO_range s.o _).2⟩
/-- What a step that is does. -/
theorem MS.step_yes {v : Int} {down : Bool} (hs : (s.step roots v down).1 = true) :
    (s.swap (levO s.o v - if down then 0 else 1)).1 = 0 ∧ (s.step roots v down).2 = ((s.swap (levO s.o v - if down then 0 else 1)).2.sweep roots).2 := by
  unfold MS.step at *
  dsimp only at *
  by_cases e : (s.swap (levO s.o v - if down then 0 else 1)).1 ≠ 0
  · rw [if_pos e] at hs; cases hs
  · rw [if_neg e]
    exact ⟨Classical.not_not.1 e, rfl⟩
theorem swap1_order (x y : Int) : ∀ (l : List Int) (s : MS), (MS.swap1 s x y l).o = s.o
  | [], _ => rfl
  | n :: rest, s => by
    unfold MS.swap1
    dsimp only
    rw [swap1_order x y rest]
    have hmk : ∀ (s : MS) (v lo hi : Int) (but : List Int), (s.mk v lo hi but).2.2.o = s.o := fun s v lo hi but => by
      rcases s.mk_cases v lo hi but with ⟨r, e, h⟩ | ⟨_, _, _, _, _, _, _, h⟩ <;> rw [h]
      rfl
    unfold MS.setNd
    dsimp only
    rw [hmk, hmk]
theorem MS.swap_order (s : MS) {l : Int} (h : (s.swap l).1 = 0) : (s.swap l).2.o = swapO s.o l ∧ 0 ≤ l ∧ l ≤ 6 := by
  unfold MS.swap at h ⊢
  by_cases h1 : l < 0 ∨ 6 < l
  · rw [if_pos h1] at h; cases h
  · rw [if_neg h1] at h ⊢
    dsimp only at h ⊢
    split at h
    · cases h
    · rename_i h2
      rw [if_neg h2]
      refine ⟨?_, by omega, by omega⟩
      exact swap1_order _ _ _ _
theorem MS.Ok.step_lev (h : s.Ok) {v : Int} (v0 : 0 ≤ v) (v7 : v ≤ 7) {down : Bool} (hs : (s.step roots v down).1 = true) :
    levO (s.step roots v down).2.o v = levO s.o v + (if down then 1 else -1) := by
  obtain ⟨h1, h2⟩ := MS.step_yes hs
  obtain ⟨ho, l0, l6⟩ := s.swap_order h1
  rw [h2, ((h.swapped _).swept roots).1.o, ho]
  obtain ⟨n, rfl⟩ := Int.eq_ofNat_of_zero_le v0
  obtain ⟨_, a, b⟩ := swapO_lev h.order l0 l6 (v := n) (by omega)
  cases down
  · simp only [Bool.false_eq_true, if_false] at *
    rw [b (by omega)]; omega
  · simp only [if_true] at *
    rw [a (by omega)]; omega
end

end Go.Proofs.YtipocmbplcdmjaaDoor

/-
  Mathematics of layers 12 and 13: how many nodes are left; where a variable comes to. Nothing of the program is read here.
-/
namespace Go.Proofs.YtipocmbplcdmjaaDoor


section
variable {s t : MS} {roots : List Int}
/-- Where all that is there is reached, there are as many nodes as the roots' functions need. -/
theorem MS.Ok.size_reach (h : s.Ok) (hth : ∀ r ∈ roots, s.there r = true) (hall : ∀ n, s.has n = true → s.Rch roots n) : sizeF (roots.map s.tab) s.o = s.all.length := by
  have key : ∀ n, s.Rch roots n → Reach (roots.map s.tab) s.o (s.tab n) := fun n hr => by
    induction hr with
    | root hm hh => exact .base (List.mem_map.2 ⟨_, hm, rfl⟩)
    | lo hr hh ih =>
      have hn := hr.has
      have := Reach.step false ih (h.sup_node hn) (by rw [h.top_node hn]; exact (h.var _ hn).1)
      rw [h.top_node hn, h.cof_node hn] at this
      exact this
    | hi hr hh ih =>
      have hn := hr.has
      have := Reach.step true ih (h.sup_node hn) (by rw [h.top_node hn]; exact (h.var _ hn).1)
      rw [h.top_node hn, h.cof_node hn] at this
      exact this
  refine h.size_is (fun n hn => ⟨key n (hall n hn), h.sup_node hn⟩) fun g hg => ?_
  obtain ⟨f, hf, hr⟩ := reach_one hg.1
  obtain ⟨r, hm, rfl⟩ := List.mem_map.1 hf
  obtain ⟨m, tm, e, _⟩ := h.reach_rch (hth r hm) hr
  exact ⟨m, sup_has h tm (by rw [e]; exact hg.2), e⟩

theorem Swept.rch (h : Swept s roots t) {n : Int} (hr : s.Rch roots n) : t.Rch roots n := by
  induction hr with
  | root hm hh => exact .root hm ((h.has _).2 (.root hm hh))
  | lo hr hh ih =>
    have := (h.has _).2 (.lo hr hh)
    rw [← h.nd] at this ⊢
    exact .lo ih this
  | hi hr hh ih =>
    have := (h.has _).2 (.hi hr hh)
    rw [← h.nd] at this ⊢
    exact .hi ih this
theorem Swept.there (h : Swept s roots t) {r : Int} (hm : r ∈ roots) (hr : s.there r = true) : t.there r = true := by
  rcases MS.there_cases hr with ⟨h1, _⟩ | h1
  · rcases h1 with rfl | rfl <;> simp [MS.there]
  · simp [MS.there, (h.has r).2 (.root hm h1)]
theorem Swept.size (h : Swept s roots t) (ok : s.Ok) (hth : ∀ r ∈ roots, s.there r = true) : sizeF (roots.map s.tab) s.o = t.all.length := by
  have e : roots.map s.tab = roots.map t.tab := List.map_congr_left fun r hr => (h.tab ok (fun hh => .root hr hh)).symm
  rw [e, ← h.o]
  exact h.ok.size_reach (fun r hr => h.there hr (hth r hr)) (fun n hn => h.rch ((h.has n).1 hn))
end

/-- The orders that one comes to, one behind the other. -/
theorem path_of (l : Nat) : ∀ (o : Nat → Int), l ≤ 7 → ∃ P : Nat → Nat → Int, P l = o ∧ ∀ k : Nat, P (k + 1) = swapO (P k) (k : Int) := by
  induction l with
  | zero => intro o _; exact ⟨fun k => Nat.rec o (fun k p => swapO p (k : Int)) k, rfl, fun k => rfl⟩
  | succ l ih =>
    intro o hl
    obtain ⟨P, h1, h2⟩ := ih (swapO o (l : Int)) (by omega)
    exact ⟨P, by rw [h2, h1, swapO_swapO], h2⟩

/-- In what order the others stand. -/
def Others (v : Int) (o p : Nat → Int) : Prop := ∀ a b : Nat, a < 8 → b < 8 → (a : Int) ≠ v → (b : Int) ≠ v → (levO o (a : Int) < levO o (b : Int) ↔ levO p (a : Int) < levO p (b : Int))
theorem Others.refl (v : Int) (o : Nat → Int) : Others v o o := fun _ _ _ _ _ _ => Iff.rfl
theorem lev_inj {o : Nat → Int} (h : mayO o = true) {a b : Nat} (ha : a < 8) (hb : b < 8) (e : levO o (a : Int) = levO o (b : Int)) : a = b := by
  rcases levO_cases o (a : Int) with ⟨h1, _⟩ | ⟨j, h1, _, h2, _⟩
  · have := levO_nonneg.2 (mayO_iff.1 h a ha); omega
  · rcases levO_cases o (b : Int) with ⟨h3, _⟩ | ⟨k, h3, _, h4, _⟩
    · have := levO_nonneg.2 (mayO_iff.1 h b hb); omega
    · have : j = k := by omega
      subst this
      rw [h2] at h4
      omega
theorem Others.swap {v : Nat} (hv : v < 8) {o p : Nat → Int} (h : Others (v : Int) o p) (hm : mayO p = true) {l : Int} (l0 : 0 ≤ l) (l6 : l ≤ 6) (hl : levO p (v : Int) = l ∨ levO p (v : Int) = l + 1) : Others (v : Int) o (swapO p l) := by
  intro a b ha hb hav hbv
  rw [h a b ha hb hav hbv]
  obtain ⟨a1, a2, a3⟩ := swapO_lev hm l0 l6 ha
  obtain ⟨b1, b2, b3⟩ := swapO_lev hm l0 l6 hb
  have nav : levO p (a : Int) ≠ levO p (v : Int) := fun e => hav (by rw [lev_inj hm ha hv e])
  have nbv : levO p (b : Int) ≠ levO p (v : Int) := fun e => hbv (by rw [lev_inj hm hb hv e])
  by_cases x1 : levO p (a : Int) = l
  · by_cases y2 : levO p (b : Int) = l + 1
    · omega
    · by_cases y1 : levO p (b : Int) = l
      · rw [a2 x1, b2 y1]; omega
      · rw [a2 x1, b1 y1 y2]; omega
  · by_cases x2 : levO p (a : Int) = l + 1
    · by_cases y1 : levO p (b : Int) = l
      · omega
      · by_cases y2 : levO p (b : Int) = l + 1
        · rw [a3 x2, b3 y2]; omega
        · rw [a3 x2, b1 y1 y2]; omega
    · by_cases y1 : levO p (b : Int) = l
      · rw [a1 x1 x2, b2 y1]; omega
      · by_cases y2 : levO p (b : Int) = l + 1
        · rw [a1 x1 x2, b3 y2]; omega
        · rw [a1 x1 x2, b1 y1 y2]

/-- On the way: what stays. -/
structure SfI (s : MS) (roots : List Int) (v : Nat) (P : Nat → Nat → Int) (t : MS) : Prop where
  ok : t.Ok
  most : t.ar.most = s.ar.most
  th : ∀ r ∈ roots, t.there r = true
  tab : ∀ r ∈ roots, t.tab r = s.tab r
  all : ∀ n, t.has n = true → t.Rch roots n
  ord : ∃ k : Nat, k ≤ 7 ∧ levO t.o (v : Int) = (k : Int) ∧ t.o = P k
  oth : Others (v : Int) s.o t.o

section
variable {s t : MS} {roots : List Int} {v : Nat} {P : Nat → Nat → Int}
theorem SfI.size (h : SfI s roots v P t) : sizeF (roots.map s.tab) t.o = t.all.length := by
  have e : roots.map s.tab = roots.map t.tab := List.map_congr_left fun r hr => (h.tab r hr).symm
  rw [e]
  exact h.ok.size_reach h.th h.all
theorem MS.swap_most (s : MS) (l : Int) : (s.swap l).2.ar.most = s.ar.most := by
  have hmk : ∀ (s : MS) (v lo hi : Int) (but : List Int), (s.mk v lo hi but).2.2.ar.most = s.ar.most := fun s v lo hi but => by
    rcases s.mk_cases v lo hi but with ⟨r, e, h⟩ | ⟨hf, _, _, _, _, _, _, h⟩ <;> rw [h]
    show s.ar.take.most = _
    rcases last_or_nil s.ar.B with hb | ⟨k, n, hb⟩
    · rw [(AS.Ok.take_new hf hb).2.2]
    · rw [(AS.Ok.take_again hf hb).2.2]
  have h1 : ∀ (R : List Int) (x y : Int) (s : MS), (MS.swap1 s x y R).ar.most = s.ar.most := fun R => by
    induction R with
    | nil => intro x y s; rfl
    | cons n R ih =>
      intro x y s
      unfold MS.swap1
      dsimp only
      rw [ih]
      unfold MS.setNd
      dsimp only
      rw [hmk, hmk]
  unfold MS.swap
  split
  · rfl
  · dsimp only
    split
    · rfl
    · exact h1 _ _ _ _
/-- Where there is room a level is exchanged. -/
theorem MS.Ok.swap_room (h : s.Ok) {l : Int} (l0 : 0 ≤ l) (l6 : l ≤ 6) (hroom : 3 * (s.all.length : Int) ≤ s.ar.most) : (s.swap l).1 = 0 := by
  unfold MS.swap
  rw [if_neg (by omega)]
  dsimp only
  have h1 : (s.changes (s.o l.toNat) (s.o (l.toNat + 1))).length ≤ s.all.length := by unfold MS.changes; exact List.length_filter_le _ _
  have h2 := h.toBase.count
  rw [if_neg (by unfold MS.room; omega)]
theorem SfI.step (h : SfI s roots v P t) (hv : v < 8) (hP : ∀ k : Nat, P (k + 1) = swapO (P k) (k : Int)) (hroom : 3 * (sizeF (roots.map s.tab) t.o : Int) ≤ s.ar.most) {down : Bool} (hl : t.last (v : Int) down = false) :
    (t.step roots (v : Int) down).1 = true ∧ SfI s roots v P (t.step roots (v : Int) down).2 := by
  obtain ⟨k, k7, hk, hPk⟩ := h.ord
  have hlev : 0 ≤ levO t.o (v : Int) - (if down then 0 else 1) ∧ levO t.o (v : Int) - (if down then 0 else 1) ≤ 6 := by
    unfold MS.last at hl
    cases down
    · simp only [Bool.false_eq_true, if_false, decide_eq_false_iff_not] at hl ⊢; omega
    · simp only [if_true, decide_eq_false_iff_not] at hl ⊢; omega
  have hsz := h.size
  have hs := h.ok.swap_room hlev.1 hlev.2 (by rw [h.most]; omega)
  have hst : (t.step roots (v : Int) down).1 = true := by
    unfold MS.step
    dsimp only
    rw [if_neg (by rw [hs]; decide)]
  refine ⟨hst, ?_⟩
  obtain ⟨_, e2⟩ := MS.step_yes hst
  have hnl := h.ok.step_lev (roots := roots) (v := (v : Int)) (by omega) (by omega) hst
  obtain ⟨ho, _, _⟩ := t.swap_order hs
  have okS := h.ok.swapped (levO t.o (v : Int) - (if down then 0 else 1))
  have hsw := (okS.swept roots).1
  have thS : ∀ r ∈ roots, (t.swap (levO t.o (v : Int) - (if down then 0 else 1))).2.there r = true := fun r hr => by
    rcases MS.there_cases (h.th r hr) with ⟨h1, _⟩ | h1
    · rcases h1 with rfl | rfl <;> simp [MS.there]
    · simp [MS.there, h.ok.swap_has _ h1]
  have tbS : ∀ r ∈ roots, (t.swap (levO t.o (v : Int) - (if down then 0 else 1))).2.tab r = t.tab r := fun r hr => fn_ext fun k hk => by
    rw [MS.tab_bit _ _ hk, MS.tab_bit _ _ hk]
    exact h.ok.swap_val _ _ (h.th r hr)
  have hord : (t.step roots (v : Int) down).2.o = swapO t.o (levO t.o (v : Int) - (if down then 0 else 1)) := by rw [e2, hsw.o, ho]
  refine ⟨h.ok.step _ _ _, ?_, fun r hr => ?_, fun r hr => ?_, fun n hn => ?_, ?_, ?_⟩
  · rw [e2, hsw.most, MS.swap_most, h.most]
  · rw [e2]; exact hsw.there hr (thS r hr)
  · rw [e2, hsw.tab okS (fun hh => .root hr hh), tbS r hr, h.tab r hr]
  · rw [e2] at hn ⊢; exact hsw.rch ((hsw.has n).1 hn)
  · cases down
    · simp only [Bool.false_eq_true, if_false] at *
      obtain ⟨j, rfl⟩ : ∃ j, k = j + 1 := ⟨k - 1, by omega⟩
      refine ⟨j, by omega, by rw [hnl, hk]; omega, ?_⟩
      rw [hord, hk, hPk, hP, show ((j + 1 : Nat) : Int) - 1 = (j : Int) by omega, swapO_swapO]
    · simp only [if_true] at *
      refine ⟨k + 1, by omega, by rw [hnl, hk]; rfl, ?_⟩
      rw [hord, hk, hPk, hP, Int.sub_zero]
  · rw [hord]
    refine h.oth.swap hv h.ok.order hlev.1 hlev.2 ?_
    cases down
    · simp only [Bool.false_eq_true, if_false]; omega
    · simp only [if_true]; omega

/-- A way, with room: so many nodes there are at the best level. -/
def SfBest (s : MS) (roots : List Int) (P : Nat → Nat → Int) (x : Sft) : Prop := ∃ k : Nat, k ≤ 7 ∧ x.best = (k : Int) ∧ x.few = (sizeF (roots.map s.tab) (P k) : Int)
theorem SfI.go (hv : v < 8) (hP : ∀ k : Nat, P (k + 1) = swapO (P k) (k : Int)) (hroom : ∀ o, mayO o = true → 3 * (sizeF (roots.map s.tab) o : Int) ≤ s.ar.most) (grow : Int) (down : Bool) :
    ∀ (n : Nat) (x : Sft), SfI s roots v P x.s → SfBest s roots P x →
      SfI s roots v P (siftGo roots (v : Int) grow down n x).s ∧ SfBest s roots P (siftGo roots (v : Int) grow down n x) ∧ (siftGo roots (v : Int) grow down n x).few ≤ x.few
  | 0, x, h, hb => ⟨h, hb, Int.le_refl _⟩
  | n + 1, x, h, hb => by
    obtain ⟨g0, g1, g2, g3⟩ := (show _ ∧ _ ∧ _ ∧ _ from ⟨fun (hl : x.s.last (v : Int) down = true) => (show siftGo roots (v : Int) grow down (n + 1) x = x by rw [siftGo, if_pos hl]), fun (hl : x.s.last (v : Int) down = false) (hs : (x.s.step roots (v : Int) down).1 = true) (hf : grow < ((x.s.step roots (v : Int) down).2.all.length : Int)) => (show siftGo roots (v : Int) grow down (n + 1) x = x.met (x.s.step roots (v : Int) down).2 (v : Int) by rw [siftGo, if_neg (by rw [hl]; decide), if_neg (by rw [hs]; decide), if_pos hf]), fun (hl : x.s.last (v : Int) down = false) (hs : (x.s.step roots (v : Int) down).1 = true) (hf : ¬ grow < ((x.s.step roots (v : Int) down).2.all.length : Int)) => (show siftGo roots (v : Int) grow down (n + 1) x = siftGo roots (v : Int) grow down n (x.met (x.s.step roots (v : Int) down).2 (v : Int)) by rw [siftGo, if_neg (by rw [hl]; decide), if_neg (by rw [hs]; decide), if_neg hf]), trivial⟩)
    cases hl : x.s.last (v : Int) down
    · obtain ⟨hs, hI⟩ := h.step hv hP (hroom _ h.ok.order) hl
      have hmet : SfI s roots v P (x.met (x.s.step roots (v : Int) down).2 (v : Int)).s ∧ SfBest s roots P (x.met (x.s.step roots (v : Int) down).2 (v : Int)) ∧ (x.met (x.s.step roots (v : Int) down).2 (v : Int)).few ≤ x.few := by
        refine ⟨hI, ?_, ?_⟩
        · unfold Sft.met
          split
          · obtain ⟨k, k7, hk, hPk⟩ := hI.ord
            exact ⟨k, k7, hk, by dsimp only; rw [← hPk, hI.size]⟩
          · exact hb
        · unfold Sft.met
          dsimp only
          split <;> omega
      by_cases hf : grow < ((x.s.step roots (v : Int) down).2.all.length : Int)
      · rw [g1 hl hs hf]; exact hmet
      · rw [g2 hl hs hf]
        obtain ⟨a, b, c⟩ := SfI.go hv hP hroom grow down n _ hmet.1 hmet.2.1
        exact ⟨a, b, Int.le_trans c hmet.2.2⟩
    · rw [g0 hl]; exact ⟨h, hb, Int.le_refl _⟩
theorem SfI.end (hv : v < 8) (hP : ∀ k : Nat, P (k + 1) = swapO (P k) (k : Int)) (hroom : ∀ o, mayO o = true → 3 * (sizeF (roots.map s.tab) o : Int) ≤ s.ar.most) (best : Nat) (hbest : best ≤ 7) :
    ∀ (n : Nat) (t : MS), SfI s roots v P t → (best - levO t.o (v : Int) ≤ (n : Int) ∧ levO t.o (v : Int) - best ≤ (n : Int)) → SfI s roots v P (siftEnd roots (v : Int) best n t) ∧ levO (siftEnd roots (v : Int) best n t).o (v : Int) = best
  | 0, t, h, hn => ⟨h, by show levO t.o (v : Int) = _; omega⟩
  | n + 1, t, h, hn => by
    by_cases he : levO t.o (v : Int) = best
    · rw [siftEnd, if_pos he]; exact ⟨h, he⟩
    · obtain ⟨k, k7, hk, _⟩ := h.ord
      have hl : t.last (v : Int) (decide (levO t.o (v : Int) < best)) = false := by
        unfold MS.last
        by_cases h3 : levO t.o (v : Int) < best
        · rw [decide_eq_true h3, if_pos rfl, decide_eq_false_iff_not]; omega
        · rw [decide_eq_false h3, if_neg (by decide), decide_eq_false_iff_not]; omega
      obtain ⟨hs, hI⟩ := h.step hv hP (hroom _ h.ok.order) hl
      have hnl := h.ok.step_lev (roots := roots) (v := (v : Int)) (by omega) (by omega) hs
      rw [siftEnd, if_neg he, if_neg (by rw [hs]; decide)]
      refine SfI.end hv hP hroom best hbest n _ hI ?_
      by_cases h3 : levO t.o (v : Int) < best
      · rw [decide_eq_true h3, if_pos rfl] at hnl
        rw [decide_eq_true h3]
        omega
      · rw [decide_eq_false h3, if_neg (by decide)] at hnl
        rw [decide_eq_false h3]
        omega

/-- What Sift comes to, with room. -/
theorem MS.Ok.sift_keeps (h : s.Ok) (hth : ∀ r ∈ roots, s.there r = true) (hv : v < 8) {grow : Int} (hg : 0 ≤ grow) (hroom : ∀ o, mayO o = true → 3 * (sizeF (roots.map s.tab) o : Int) ≤ s.ar.most) :
    (s.sift roots (v : Int) grow).1 = 0 ∧ (∃ P, SfI s roots v P (s.sift roots (v : Int) grow).2) ∧ (s.sift roots (v : Int) grow).2.all.length ≤ sizeF (roots.map s.tab) s.o := by
  have hsw := (h.swept roots).1
  obtain ⟨l0, l7⟩ := hsw.ok.lev07 (v := (v : Int)) (by omega) (by omega)
  obtain ⟨k, hk⟩ := Int.eq_ofNat_of_zero_le l0
  obtain ⟨P, hPk, hP⟩ := path_of k (s.sweep roots).2.o (by omega)
  have I0 : SfI s roots v P (s.sweep roots).2 := ⟨hsw.ok, hsw.most, fun r hr => hsw.there hr (hth r hr), fun r hr => hsw.tab h (fun hh => .root hr hh), fun n hn => hsw.rch ((hsw.has n).1 hn), ⟨k, by omega, hk, hPk.symm⟩, by rw [hsw.o]; exact Others.refl _ _⟩
  have hsz := I0.size
  have B0 : SfBest s roots P ⟨(s.sweep roots).2, (s.sweep roots).2.all.length, levO (s.sweep roots).2.o (v : Int)⟩ := ⟨k, by omega, hk, by dsimp only; rw [hPk, hsz]⟩
  obtain ⟨I1, B1, C1⟩ := SfI.go hv hP hroom grow true 8 _ I0 B0
  obtain ⟨I2, B2, C2⟩ := SfI.go hv hP hroom grow false 8 _ I1 B1
  obtain ⟨bk, b7, hb, hf⟩ := B2
  have hlv := I2.ok.lev07 (v := (v : Int)) (by omega) (by omega)
  obtain ⟨I3, L3⟩ := SfI.end hv hP hroom bk b7 8 _ I2 (by omega)
  have e : s.sift roots (v : Int) grow = (0, Go.Proofs.YtipocmbplcdmjaaDoor.siftEnd roots (v : Int) bk 8 (Go.Proofs.YtipocmbplcdmjaaDoor.siftGo roots (v : Int) grow false 8 (Go.Proofs.YtipocmbplcdmjaaDoor.siftGo roots (v : Int) grow true 8 ⟨(s.sweep roots).2, (s.sweep roots).2.all.length, levO (s.sweep roots).2.o (v : Int)⟩)).s) := by
    unfold MS.sift
    rw [if_neg (by omega)]
    dsimp only
    rw [hb]
  rw [e]
  refine ⟨rfl, ⟨P, I3⟩, ?_⟩
  obtain ⟨j, j7, hj, hPj⟩ := I3.ord
  have hjb : j = bk := by omega
  have hsz3 := I3.size
  rw [hPj, hjb] at hsz3
  rw [hsw.o] at hsz
  dsimp only at C1 C2 hf ⊢
  omega
end

end Go.Proofs.YtipocmbplcdmjaaDoor

/-
  Walks of the document's row, Cof, Depends, Support, Count.
-/
namespace Go.Proofs.YtipocmbplcdmjaaDoor
open Go Go.RowKit

theorem ret_int {k : IntKind} {a b : Int} (h : a = b) : Ending.returned (.int k a) = .returned (.int k b) := by rw [h]

set_option maxRecDepth 100000 in
set_option maxHeartbeats 400000 in
theorem refRow (x m : Nat) (b : Bool) (w : World) (hx : x < 256) (hm : m < 8) :
    Calls Tryd.prog 68 #[.int .i64 x, .int .i64 m, .bool b] w fun e w' => e = .returned (.int .i64 (rowF x m b)) ∧ w = w' := by
  go_enter Tryd.func68, Tryd.ntmps68
  go_wp2
  go_loop [7, 8] (fun p i => ∃ j : Nat, j ≤ m ∧ i = .int .i64 j ∧ p = .int .i64 ((2 ^ j : Nat) : Int)) (fun _ i => m - (intOf i).toNat)
  case atStart => exact ⟨0, Nat.zero_le _, rfl, rfl⟩
  case round =>
    obtain ⟨j, hj, rfl, rfl⟩ := hrel
    have hp := pow8 (show j < 8 by omega)
    have Hn : Hid (2 ^ (j + 1) = 2 * 2 ^ j) := by show _ = _; rw [Nat.pow_succ, Nat.mul_comm]
    by_cases hlt : j < m
    · generalize 2 ^ j = y at *
      have hy : 1 ≤ y ∧ y ≤ 128 := by omega
      clear hp
      go_wp2
      go_round
      case rel => exact ⟨j + 1, by omega, by go_num, by rw [Hn.out]; go_num⟩
      case measure => simp [intOf]; omega
    · obtain rfl : j = m := by omega
      have Hr := Lib.hid (show rowF x j b = (if x / 2 ^ j % 2 = 1 then x - 2 ^ j else x) + (if b then 2 ^ j else 0) from rfl)
      clear Hn
      generalize 2 ^ j = y at *
      rcases hp with rfl | rfl | rfl | rfl | rfl | rfl | rfl | rfl
      all_goals
        cases b <;> go_wp2 <;> go_ret <;> (rename_i hbit _; (first | rw [beq_iff_eq] at hbit | rw [beq_eq_false_iff_ne] at hbit); refine ⟨ret_int ?_, rfl⟩; rw [Hr.out]; simp only [if_true, if_false, Bool.false_eq_true]; split <;> omega)

/-- At the loop's head of Cof: what came in, the result's variable, the one that is filled. -/
def Coffing (w : World) (f o : Fn) (wr : World) : Prop :=
  Holds wr w.heap.size f ∧ Holds wr (w.heap.size + 1) 0#256 ∧ Holds wr (w.heap.size + 1 + 1) o ∧ Below w.heap.size w wr

set_option maxRecDepth 100000 in
set_option maxHeartbeats 1000000 in
theorem refCof (f : Fn) (v : Int) (b : Bool) (w : World) :
    Calls Tryd.prog 53 #[fv f, .int .i64 v, .bool b] w fun e w' => e = .returned (fv (cofAny f v b)) ∧ Below w.heap.size w w' := by
  by_cases hv : 0 ≤ v ∧ v < 8
  · obtain ⟨m, rfl⟩ := Int.eq_ofNat_of_zero_le hv.1
    have hm : m < 8 := by omega
    have hm0 : (0 : Int) ≤ (m : Int) := by omega
    have hm7 : (m : Int) ≤ 7 := by omega
    have e : cofAny f (m : Int) b = ofRow (fun x => f.getLsbD (rowF x m b)) := by rw [cofAny, if_pos hv, Int.toNat_natCast]; rfl
    rw [e]
    clear e
    simp only [fv]
    go_enter Tryd.func53, Tryd.ntmps53
    go_wp2
    go_loopw [8] (fun i wr => ∃ n : Nat, n ≤ 256 ∧ i = .int .i64 n ∧ Coffing w f (upTo (fun x => f.getLsbD (rowF x m b)) n) wr) (fun i _ => 256 - (intOf i).toNat)
    case atStart => exact ⟨0, Nat.zero_le _, rfl, by rw [upTo_zero]; exact ⟨((Holds.new _ _ _).alloc _).alloc _, (Holds.new0 _ _).alloc _, Holds.new0 _ _, by go_grown⟩⟩
    case round =>
      obtain ⟨n, hn, rfl, h0, h1, h2, hb⟩ := hrel
      by_cases hlt : n < 256
      · have hr := rowF_lt n m b hlt hm
        have Hf := Lib.hid (upTo_put (fun x => f.getLsbD (rowF x m b)) n (atF f (rowF n m b)) (atF_nat f _ hr))
        generalize upTo (fun x => f.getLsbD (rowF x m b)) n = g at *
        have c0 : ∀ u : Sub wr, u.1.cell? ⟨w.heap.size, 0, none⟩ = some (.int .u64 (wd f 0)) := fun u => (h0.sub u).cells.1
        have c1 : ∀ u : Sub wr, u.1.cell? ⟨w.heap.size, 1, none⟩ = some (.int .u64 (wd f 1)) := fun u => (h0.sub u).cells.2.1
        have c2 : ∀ u : Sub wr, u.1.cell? ⟨w.heap.size, 2, none⟩ = some (.int .u64 (wd f 2)) := fun u => (h0.sub u).cells.2.2.1
        have c3 : ∀ u : Sub wr, u.1.cell? ⟨w.heap.size, 3, none⟩ = some (.int .u64 (wd f 3)) := fun u => (h0.sub u).cells.2.2.2
        have d0 : ∀ u : Sub wr, u.1.cell? ⟨w.heap.size + 1 + 1, 0, none⟩ = some (.int .u64 (wd g 0)) := fun u => (h2.sub u).cells.1
        have d1 : ∀ u : Sub wr, u.1.cell? ⟨w.heap.size + 1 + 1, 1, none⟩ = some (.int .u64 (wd g 1)) := fun u => (h2.sub u).cells.2.1
        have d2 : ∀ u : Sub wr, u.1.cell? ⟨w.heap.size + 1 + 1, 2, none⟩ = some (.int .u64 (wd g 2)) := fun u => (h2.sub u).cells.2.2.1
        have d3 : ∀ u : Sub wr, u.1.cell? ⟨w.heap.size + 1 + 1, 3, none⟩ = some (.int .u64 (wd g 3)) := fun u => (h2.sub u).cells.2.2.2
        go_wp2
        refine wp_region_quiet_tail (C := fun w' => ∃ u : Sub wr, w' = u.1) 9 (by kernel_rfl) (by kernel_rfl) (InSub.drew wr) ?_
        simp only [List.take_succ_cons, List.take_zero, List.drop_succ_cons, List.drop_zero]
        iterate 6 (go_big_quiet_step (fail))
        go_big_quiet_step (exact sub_same (refRow n m b _ hlt hm))
        go_big_quiet_step (exact sub_below (refAt f _ _))
        go_big_quiet_step (exact sub_below (refPut g n _ _ hlt))
        refine wpQuiet_nil ?_
        rw [Hf.out]
        clear c0 c1 c2 c3 d0 d1 d2 d3
        intro w' hw'
        obtain ⟨u, rfl⟩ := hw'
        have k0 := h0.sub u
        have k1 := h1.sub u
        have k2 := h2.sub u
        have hb1 := u.2
        generalize u.1 = w1 at *
        obtain ⟨c0, c1, c2, c3⟩ := k2.cells
        obtain ⟨z0, z1, z2, z3⟩ := k2.free
        simp only [fv]
        go_wp2
        exact ⟨⟨n + 1, by omega, by go_num, k0.other4 (by omega), k1.other4 (by omega), k2.set4 _, below_set4 (hb.trans (hb1.mono hb.size)) (by omega)⟩, by simp [intOf]; omega⟩
      · obtain rfl : n = 256 := by omega
        rw [upTo_all] at h2
        generalize hg : ofRow (fun x => f.getLsbD (rowF x m b)) = g at *
        have Hg := Lib.hid hg
        clear hg
        obtain ⟨c0, c1, c2, c3⟩ := h2.cells
        obtain ⟨d0, d1, d2, d3⟩ := h1.cells
        obtain ⟨z0, z1, z2, z3⟩ := h1.free
        go_wp2
        exact bodyPost_ret (ret_holds Tryd.results53 rfl (h1.set4 g)) rfl ⟨by rw [Hg.out]; rfl, below_set4 hb (by omega)⟩
  · have e : cofAny f v b = f := by rw [cofAny, if_neg hv]
    rw [e]
    clear e
    simp only [fv]
    go_enter Tryd.func53, Tryd.ntmps53
    go_wp2
    all_goals exact bodyPost_ret (v := .agg #[.int .u64 (wd f 0), .int .u64 (wd f 1), .int .u64 (wd f 2), .int .u64 (wd f 3)]) (by simp [results, Tryd.results53, go_sem]) rfl ⟨rfl, by go_grown⟩

end Go.Proofs.YtipocmbplcdmjaaDoor
