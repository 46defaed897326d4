/-
  Texts of this proof, one behind the other: OneS, Up12, SiftM, BackM, SweepN, IteM.
-/
import Derived.Test.YtmbonbicokbihaaGreatDoorG8
import Derived.Test.YtmbonbicokbihaaGreatDoorG14
import Derived.Test.YtmbonbicokbihaaGreatDoorG13
import Derived.Test.YtmbonbicokbihaaGreatDoorG11
import Derived.Test.YtmbonbicokbihaaGreatDoorG2
/-
  A store of one node.
-/
namespace Go.Proofs.YtmbonbicokbihaaGreatDoor
open Go Go.RowKit

/-- One node. -/
def oneS : MS := ⟨⟨3, 1, [0], []⟩, [⟨0, 0, 1⟩], plainO⟩
theorem up7_a : (MS.none 3).mk 0 0 1 [] = (2, 0, oneS) := rfl
theorem up7_b : oneS.mk 0 0 1 [] = (2, 0, oneS) := rfl
theorem up7_c : oneS.mk 1 1 1 [] = (1, 0, oneS) := rfl
theorem up7_n : nodeV oneS 2 = .tuple #[.agg #[.int .i64 0, .int .i64 0, .int .i64 1], .bool true] := rfl
theorem up7_l : oneS.all.length = 1 := rfl
theorem up7_r : oneS.room = 2 := rfl
theorem oneS_ok : oneS.Ok := by
  have := (MS.none_ok 3 (by decide)).made 0 0 1
  rwa [up7_a] at this

end Go.Proofs.YtmbonbicokbihaaGreatDoor

/-
  The document's example of layer 12, over contracts.
-/
namespace Go.Proofs.YtmbonbicokbihaaGreatDoor
open Go Go.RowKit

theorem oneS_has : ∀ n, oneS.has n = true → n ∈ [(2 : Int)] := fun n hn => by
  have : n ∈ oneS.all := oneS_ok.toBase.mem_all.2 hn
  rwa [show oneS.all = [2] from rfl] at this

set_option maxRecDepth 100000 in
set_option maxHeartbeats 4000000 in
theorem up12 {StAt : World → Nat → (Nat → Prop) → MS → Prop} (H : StoreC StAt) (C : SweepC StAt) (w : World) : Calls Tryz.prog 4 #[] w fun e w' => e = .returned (.bool true) ∧ Below w.heap.size w w' := by
  go_enter Tryz.func4, Tryz.ntmps4
  go_wp2_with fail
  refine (H.new 3 w (by decide) (by decide)).mono ?_
  rintro e w1 ⟨b, rfl, ⟨F, hA, hF⟩, hb⟩
  have M := H.make hA (MS.none_ok 3 (by decide)) 0 0 1 (by decide) (by decide)
  rw [show (3 : Int).toNat = 3 from rfl, up7_a] at M
  dsimp only at M
  rw [errV0] at M
  go_wp2_with fail
  refine M.mono ?_
  rintro e w2 ⟨rfl, F2, hA2, hK, hW⟩
  have R := UpS.step hb hF hA2 hK hW
  clear hA hF hb hA2 hK hW M
  obtain ⟨⟨F, hA, hF⟩, hb⟩ := R
  obtain ⟨e1, e2⟩ := oneS_ok.sweep_all oneS_has
  have okS := (oneS_ok.swept [2]).1.ok
  obtain ⟨e3, e4⟩ := okS.sweep_none
  have hO := ownsOne w2 2
  have hba : Below w2.heap.size w2 (w2.alloc (.cells #[.int .i64 2] 3)) := (Below.refl _ _).alloc (Nat.le_refl _) _
  have hA3 := H.below hA hba
  have hR : RootsAt (w2.alloc (.cells #[.int .i64 2] 3)) F (.slice (some ⟨w2.heap.size, 0, none⟩) 1 1) [2] := RootsAt.of_owns hO (fun g hg hf => by have := H.lt hA g hf; have e : w2.heap.size = g := Option.some.inj hg; omega)
  have M := C.sweep hA3 oneS_ok [2] _ hR (by decide) (by decide)
  rw [e1] at M
  have hb3 := hb.trans (hba.mono hb.size)
  have e5 : (oneS.sweep [2]).2.all.length = 1 := by rw [e2]; rfl
  rw [e2] at e3
  clear hA hA3 hR hO hb hba
  generalize (oneS.sweep [2]).2 = S at *
  go_wp2_with fail
  generalize w2.alloc (.cells #[.int .i64 2] 3) = w3 at *
  refine M.mono ?_
  rintro e w4 ⟨rfl, F4, hA4, hK, hW⟩
  have R := UpS.step hb3 hF hA4 hK hW
  clear hF hb3 hA4 hK hW M
  obtain ⟨⟨F, hA, hF⟩, hb⟩ := R
  have M := H.live hA okS
  rw [e5] at M
  go_wp2_with fail
  refine M.mono ?_
  rintro e w5 ⟨rfl, hb5⟩
  have hA5 := H.below hA hb5
  replace hb := hb.trans (hb5.mono hb.size)
  have M := C.sweep hA5 okS [] _ (RootsAt.none _ _) (by decide) (fun r h => by cases h)
  rw [e3, show ((oneS.all.length : Nat) : Int) = 1 from rfl] at M
  have okT := (okS.swept []).1.ok
  generalize (S.sweep []).2 = T at *
  clear hA hb5
  go_wp2_with fail
  refine M.mono ?_
  rintro e w6 ⟨rfl, F6, hA6, hK, hW⟩
  have R := UpS.step hb hF hA6 hK hW
  clear hF hb hA6 hK hW M hA5
  obtain ⟨⟨F, hA, hF⟩, hb⟩ := R
  have M := H.live hA okT
  rw [e4] at M
  go_wp2_with fail
  refine M.mono ?_
  rintro e w7 ⟨rfl, hb7⟩
  replace hb := hb.trans (hb7.mono hb.size)
  clear hA hF M hb7
  go_wp2
  go_ret
  exact ⟨rfl, hb⟩

end Go.Proofs.YtmbonbicokbihaaGreatDoor

/-
  Mathematics of layer 13: a variable moved to where the fewest nodes are. Nothing of the program is read here.
-/
namespace Go.Proofs.YtmbonbicokbihaaGreatDoor

/-- A step down, or up: whether there is one, the state. -/
noncomputable def MS.step (s : MS) (roots : List Int) (v : Int) (down : Bool) : Bool × MS :=
  let r := s.swap (levO s.o v - if down then 0 else 1)
  if r.1 ≠ 0 then (false, r.2) else (true, (r.2.sweep roots).2)

/-- On the way: the state, how few there were, at which level. -/
structure Sft where
  s : MS
  few : Int
  best : Int

/-- At the end of a way. -/
def MS.last (s : MS) (v : Int) (down : Bool) : Bool := if down then decide (levO s.o v = 7) else decide (levO s.o v = 0)
/-- Behind a step. -/
def Sft.met (x : Sft) (t : MS) (v : Int) : Sft := ⟨t, if (t.all.length : Int) < x.few then t.all.length else x.few, if (t.all.length : Int) < x.few then levO t.o v else x.best⟩
/-- A way. -/
noncomputable def siftGo (roots : List Int) (v grow : Int) (down : Bool) : Nat → Sft → Sft
  | 0, x => x
  | k + 1, x =>
    if x.s.last v down = true then x
    else if (x.s.step roots v down).1 = false then ⟨(x.s.step roots v down).2, x.few, x.best⟩
    else if grow < ((x.s.step roots v down).2.all.length : Int) then x.met (x.s.step roots v down).2 v
    else siftGo roots v grow down k (x.met (x.s.step roots v down).2 v)
/-- To the best level. -/
noncomputable def siftEnd (roots : List Int) (v best : Int) : Nat → MS → MS
  | 0, s => s
  | k + 1, s =>
    if levO s.o v = best then s
    else if (s.step roots v (decide (levO s.o v < best))).1 = false then (s.step roots v (decide (levO s.o v < best))).2
    else siftEnd roots v best k (s.step roots v (decide (levO s.o v < best))).2
noncomputable def MS.sift (s : MS) (roots : List Int) (v grow : Int) : Int × MS :=
  if v < 0 ∨ 7 < v ∨ grow < 0 then (1, s)
  else
    let s0 := (s.sweep roots).2
    let x := siftGo roots v grow false 8 (siftGo roots v grow true 8 ⟨s0, s0.all.length, levO s0.o v⟩)
    (0, siftEnd roots v x.best 8 x.s)
/-- The first variables. -/
noncomputable def MS.siftTo (s : MS) (roots : List Int) (grow : Int) : Nat → MS
  | 0 => s
  | v + 1 => ((s.siftTo roots grow v).sift roots (v : Int) grow).2
noncomputable def MS.siftAll (s : MS) (roots : List Int) (grow : Int) : Int × MS := if grow < 0 then (1, s) else (0, s.siftTo roots grow 8)

section
variable {s : MS} {roots : List Int} {v grow : Int}
theorem MS.Ok.step (h : s.Ok) (roots : List Int) (v : Int) (down : Bool) : (s.step roots v down).2.Ok := by
  unfold MS.step
  dsimp only
  generalize levO s.o v - (if down = true then (0 : Int) else 1) = l
  split
  · exact h.swapped l
  · exact ((h.swapped l).swept roots).1.ok
theorem MS.Ok.siftGo (down : Bool) : ∀ (k : Nat) (x : Sft), x.s.Ok → (siftGo roots v grow down k x).s.Ok
  | 0, _, h => h
  | k + 1, x, h => by
    unfold Go.Proofs.YtmbonbicokbihaaGreatDoor.siftGo
    split
    · exact h
    · split
      · exact h.step _ _ _
      · split
        · exact h.step _ _ _
        · exact MS.Ok.siftGo down k _ (h.step _ _ _)
theorem MS.Ok.siftEnd (best : Int) : ∀ (k : Nat) (s : MS), s.Ok → (siftEnd roots v best k s).Ok
  | 0, _, h => h
  | k + 1, s, h => by
    unfold Go.Proofs.YtmbonbicokbihaaGreatDoor.siftEnd
    split
    · exact h
    · split
      · exact h.step _ _ _
      · exact MS.Ok.siftEnd best k _ (h.step _ _ _)
theorem MS.Ok.sift (h : s.Ok) (roots : List Int) (v grow : Int) : (s.sift roots v grow).2.Ok := by
  unfold MS.sift
  split
  · exact h
  · exact MS.Ok.siftEnd _ _ _ (MS.Ok.siftGo _ _ _ (MS.Ok.siftGo _ _ _ (h.swept roots).1.ok))
theorem MS.Ok.siftTo (h : s.Ok) (roots : List Int) (grow : Int) : ∀ v, (s.siftTo roots grow v).Ok
  | 0 => h
  | v + 1 => (MS.Ok.siftTo h roots grow v).sift roots _ grow
theorem MS.Ok.siftAll (h : s.Ok) (roots : List Int) (grow : Int) : (s.siftAll roots grow).2.Ok := by
  unfold MS.siftAll
  split
  · exact h
  · exact h.siftTo roots grow 8

/-- Where a variable stands. -/
theorem MS.Ok.lev07 (h : s.Ok) {v : Int} (v0 : 0 ≤ v) (v7 : v ≤ 7) : 0 ≤ levO s.o v ∧ levO s.o v ≤ 7 := by
  obtain ⟨n, rfl⟩ := Int.eq_ofNat_of_zero_le v0
  exact ⟨levO_nonneg.2 (mayO_iff.1 h.order n (by omega)), (levO_range s.o _).2⟩
/-- What a step that is does. -/
theorem MS.step_yes {v : Int} {down : Bool} (hs : (s.step roots v down).1 = true) :
    (s.swap (levO s.o v - if down then 0 else 1)).1 = 0 ∧ (s.step roots v down).2 = ((s.swap (levO s.o v - if down then 0 else 1)).2.sweep roots).2 := by
  unfold MS.step at *
  dsimp only at *
  by_cases e : (s.swap (levO s.o v - if down then 0 else 1)).1 ≠ 0
  · rw [if_pos e] at hs; cases hs
  · rw [if_neg e]
    exact ⟨Classical.not_not.1 e, rfl⟩
theorem swap1_order (x y : Int) : ∀ (l : List Int) (s : MS), (MS.swap1 s x y l).o = s.o
  | [], _ => rfl
  | n :: rest, s => by
    unfold MS.swap1
    dsimp only
    rw [swap1_order x y rest]
    have hmk : ∀ (s : MS) (v lo hi : Int) (but : List Int), (s.mk v lo hi but).2.2.o = s.o := fun s v lo hi but => by
      rcases s.mk_cases v lo hi but with ⟨r, e, h⟩ | ⟨_, _, _, _, _, _, _, h⟩ <;> rw [h]
      rfl
    unfold MS.setNd
    dsimp only
    rw [hmk, hmk]
theorem MS.swap_order (s : MS) {l : Int} (h : (s.swap l).1 = 0) : (s.swap l).2.o = swapO s.o l ∧ 0 ≤ l ∧ l ≤ 6 := by
  unfold MS.swap at h ⊢
  by_cases h1 : l < 0 ∨ 6 < l
  · rw [if_pos h1] at h; cases h
  · rw [if_neg h1] at h ⊢
    dsimp only at h ⊢
    split at h
    · cases h
    · rename_i h2
      rw [if_neg h2]
      refine ⟨?_, by omega, by omega⟩
      exact swap1_order _ _ _ _
theorem MS.Ok.step_lev (h : s.Ok) {v : Int} (v0 : 0 ≤ v) (v7 : v ≤ 7) {down : Bool} (hs : (s.step roots v down).1 = true) :
    levO (s.step roots v down).2.o v = levO s.o v + (if down then 1 else -1) := by
  obtain ⟨h1, h2⟩ := MS.step_yes hs
  obtain ⟨ho, l0, l6⟩ := s.swap_order h1
  rw [h2, ((h.swapped _).swept roots).1.o, ho]
  obtain ⟨n, rfl⟩ := Int.eq_ofNat_of_zero_le v0
  obtain ⟨_, a, b⟩ := swapO_lev h.order l0 l6 (v := n) (by omega)
  cases down
  · simp only [Bool.false_eq_true, if_false] at *
    rw [b (by omega)]; omega
  · simp only [if_true] at *
    rw [a (by omega)]; omega
end

end Go.Proofs.YtmbonbicokbihaaGreatDoor

/-
  Mathematics of layer 8's own law: functions built in a store of none. Nothing of the program is read here.
-/
namespace Go.Proofs.YtmbonbicokbihaaGreatDoor
open Go Go.RowKit

/-- A store of none, in any order. -/
def MS.empty (most : Nat) (o : Nat → Int) : MS := ⟨⟨most, 0, [], []⟩, [], o⟩
theorem MS.empty_ok (most : Nat) (h : most ≤ 20000) {o : Nat → Int} (ho : mayO o = true) : (MS.empty most o).Ok := MS.Ok.new most h o ho
theorem MS.empty_has (most : Nat) (o : Nat → Int) (n : Int) : (MS.empty most o).has n = false := by simp [MS.has, MS.empty]
theorem MS.empty_swap (most : Nat) (o : Nat → Int) {l : Int} (h0 : 0 ≤ l) (h6 : l ≤ 6) : (MS.empty most o).swap l = (0, MS.empty most (swapO o l)) := by
  unfold MS.swap
  rw [if_neg (by omega)]
  have hc : ∀ x y, (MS.empty most o).changes x y = [] := fun x y => rfl
  simp only [hc]
  have hr : ¬ (MS.empty most o).room < 2 * (([] : List Int).length : Int) := by
    simp [MS.room, MS.empty]
  rw [if_neg hr]
  rfl

section
variable {s : MS}
/-- What is reached of a node, as numbers. -/
theorem MS.Ok.reach_rch (h : s.Ok) {n : Int} (hn : s.there n = true) {g : Fn} (hg : Reach [s.tab n] s.o g) : ∃ m, s.there m = true ∧ s.tab m = g ∧ (s.has m = true → s.Rch [n] m) := by
  induction hg with
  | base hf => exact ⟨n, hn, by simpa using (List.mem_singleton.1 hf).symm, fun hh => .root (by simp) hh⟩
  | step b _ hs ht ih =>
    obtain ⟨m, hm, e, hr⟩ := ih
    rcases MS.there_cases hm with ⟨_, hh⟩ | hh
    · exfalso
      rw [MS.tab_const hh] at e
      apply hs
      rw [← e]
      split
      · exact sup_const.1
      · exact sup_const.2
    · have hT := h.top_node hh
      rw [e] at hT
      have hC := h.cof_node hh b
      rw [e, ← hT] at hC
      cases b
      · exact ⟨_, MS.behind_there (h.lo m hh), by simpa using hC.symm, fun hq => .lo (hr hh) hq⟩
      · exact ⟨_, MS.behind_there (h.hi m hh), by simpa using hC.symm, fun hq => .hi (hr hh) hq⟩
theorem MS.Ok.reach_all (h : s.Ok) {n : Int} (hn : s.there n = true) (h1 : ∀ m, s.has m = true → IsNode [s.tab n] s.o (s.tab m)) : s.reach [n] = s.all := by
  unfold MS.reach
  refine List.filter_eq_self.2 fun m hm => ?_
  have hh := h.toBase.mem_all.1 hm
  obtain ⟨m', t', e', r'⟩ := h.reach_rch hn (h1 m hh).1
  have : m' = m := h.tab_inj t' (by simp [MS.there, hh]) e'
  subst this
  have hp := r' hh
  simp [hp]

theorem supN_8 (f : Fn) : supN f ≤ 8 := supN_le f
/-- A function built in a store of none. -/
theorem MS.bld_empty {most : Nat} (hm : most ≤ 20000) {o : Nat → Int} (ho : mayO o = true) (f : Fn) (hs : sizeF [f] o ≤ most) :
    (MS.bld 8 (MS.empty most o) f).2.1 = 0 ∧ (MS.bld 8 (MS.empty most o) f).2.2.Ok ∧ (MS.bld 8 (MS.empty most o) f).2.2.o = o ∧ (MS.bld 8 (MS.empty most o) f).2.2.ar.most = most ∧
      (MS.bld 8 (MS.empty most o) f).2.2.there (MS.bld 8 (MS.empty most o) f).1 = true ∧ (MS.bld 8 (MS.empty most o) f).2.2.tab (MS.bld 8 (MS.empty most o) f).1 = f ∧
      (∀ n, (MS.bld 8 (MS.empty most o) f).2.2.has n = true → IsNode [f] o ((MS.bld 8 (MS.empty most o) f).2.2.tab n)) ∧
      (MS.bld 8 (MS.empty most o) f).2.2.all.length = sizeF [f] o := by
  have ok := MS.empty_ok most hm ho
  obtain ⟨h1, h2, h3, h4, h5⟩ := MS.bld_spec 8 (MS.empty most o) f ok (supN_8 f)
  have h0 := MS.bld_room 8 (MS.empty most o) f [f] ok (supN_8 f) (fun n hn => by rw [MS.empty_has] at hn; cases hn) (Reach.base (by simp)) hs
  have hno : ∀ n, (MS.bld 8 (MS.empty most o) f).2.2.has n = true → IsNode [f] o ((MS.bld 8 (MS.empty most o) f).2.2.tab n) := fun n hn => by
    rcases h5 n hn with h | h
    · rw [MS.empty_has] at h; cases h
    · exact h
  obtain ⟨t, e⟩ := h4 h0
  refine ⟨h0, h1, h2.o, h2.most, t, e, hno, ?_⟩
  have ho2 : (MS.bld 8 (MS.empty most o) f).2.2.o = o := h2.o
  have := h1.size_is (L := [f]) (fun n hn => by rw [ho2]; exact hno n hn) (fun g hg => by
    rw [ho2] at hg
    obtain ⟨m, tm, em⟩ := h1.reach_there t (g := g) (by rw [e, ho2]; exact hg.1)
    rcases MS.there_cases tm with ⟨_, hh⟩ | hh
    · exfalso
      rw [MS.tab_const hh] at em
      apply hg.2
      rw [← em]
      split
      · exact sup_const.1
      · exact sup_const.2
    · exact ⟨m, hh, em⟩)
  rw [ho2] at this
  exact this.symm

theorem sup_has (_h : s.Ok) {n : Int} (hn : s.there n = true) (hs : supF (s.tab n) ≠ 0) : s.has n = true := by
  rcases MS.there_cases hn with ⟨_, hh⟩ | hh
  · exfalso
    rw [MS.tab_const hh] at hs
    apply hs
    split
    · exact sup_const.1
    · exact sup_const.2
  · exact hh

/-- Two functions, one behind the other. -/
theorem MS.bld_two {most : Nat} (_hm : most ≤ 20000) {o : Nat → Int} (_ho : mayO o = true) (f g : Fn) (hs : sizeF [f, g] o ≤ most) (s1 : MS) (a : Int) (_hA : MS.bld 8 (MS.empty most o) f = (a, 0, s1)) (ok : s1.Ok) (ho1 : s1.o = o) (hm1 : s1.ar.most = most)
    (ta : s1.there a = true) (ea : s1.tab a = f) (hn : ∀ n, s1.has n = true → IsNode [f] o (s1.tab n)) :
    (MS.bld 8 s1 g).2.1 = 0 ∧ (MS.bld 8 s1 g).2.2.Ok ∧ (MS.bld 8 s1 g).2.2.o = o ∧ (MS.bld 8 s1 g).2.2.there (MS.bld 8 s1 g).1 = true ∧ (MS.bld 8 s1 g).2.2.tab (MS.bld 8 s1 g).1 = g ∧
      (MS.bld 8 s1 g).2.2.there a = true ∧ (MS.bld 8 s1 g).2.2.tab a = f ∧ (a = (MS.bld 8 s1 g).1 ↔ f = g) ∧ (MS.bld 8 s1 g).2.2.all.length = sizeF [f, g] o := by
  have mono : ∀ k, IsNode [f] o k → IsNode [f, g] o k := fun k hk => ⟨hk.1.mono (fun x hx => by simp only [List.mem_singleton] at hx; simp [hx]), hk.2⟩
  have mono2 : ∀ k, IsNode [g] o k → IsNode [f, g] o k := fun k hk => ⟨hk.1.mono (fun x hx => by simp only [List.mem_singleton] at hx; simp [hx]), hk.2⟩
  obtain ⟨h1, h2, h3, h4, h5⟩ := MS.bld_spec 8 s1 g ok (supN_8 g)
  have h0 := MS.bld_room 8 s1 g [f, g] ok (supN_8 g) (fun n h => by rw [ho1]; exact mono _ (hn n h)) (Reach.base (by simp)) (by rw [ho1, hm1]; exact hs)
  obtain ⟨t, e⟩ := h4 h0
  have ho2 : (MS.bld 8 s1 g).2.2.o = o := h2.o.trans ho1
  have ta2 := h2.there ta
  have ea2 : (MS.bld 8 s1 g).2.2.tab a = f := (h2.tab ok h1 ta).trans ea
  have hno : ∀ n, (MS.bld 8 s1 g).2.2.has n = true → IsNode [f, g] o ((MS.bld 8 s1 g).2.2.tab n) := fun n h => by
    rcases h5 n h with h | h
    · rw [h2.tab ok h1 (by simp [MS.there, h])]; exact mono _ (hn n h)
    · rw [ho1] at h; exact mono2 _ h
  refine ⟨h0, h1, ho2, t, e, ta2, ea2, ⟨fun q => ?_, fun q => ?_⟩, ?_⟩
  · rw [← q, ea2] at e; exact e
  · exact h1.tab_inj ta2 t (ea2.trans (q.trans e.symm))
  · have := h1.size_is (L := [f, g]) (fun n h => by rw [ho2]; exact hno n h) (fun k hk => by
      rw [ho2] at hk
      have hk1 : Reach [f] o k ∨ Reach [g] o k := Reach.append (l := [f]) (k := [g]) hk.1
      rcases hk1 with hk1 | hk1
      · obtain ⟨m, tm, em⟩ := h1.reach_there ta2 (g := k) (by rw [ea2, ho2]; exact hk1)
        exact ⟨m, sup_has h1 tm (by rw [em]; exact hk.2), em⟩
      · obtain ⟨m, tm, em⟩ := h1.reach_there t (g := k) (by rw [e, ho2]; exact hk1)
        exact ⟨m, sup_has h1 tm (by rw [em]; exact hk.2), em⟩)
    rw [ho2] at this
    exact this.symm
theorem size_154 (f g : Fn) {o : Nat → Int} (ho : mayO o = true) : sizeF [f, g] o ≤ 154 := by
  have h := size_add [f] [g] o
  have h1 := size_77 f o (full_of ho)
  have h2 := size_77 g o (full_of ho)
  have e : ([f] ++ [g] : List Fn) = [f, g] := rfl
  rw [e] at h
  omega
end
theorem reach_one {L : List Fn} {o : Nat → Int} {g : Fn} (h : Reach L o g) : ∃ f ∈ L, Reach [f] o g := by
  induction h with
  | base hf => exact ⟨_, hf, .base (by simp)⟩
  | step b _ hs ht ih =>
    obtain ⟨f, hf, hr⟩ := ih
    exact ⟨f, hf, .step b hr hs ht⟩

end Go.Proofs.YtmbonbicokbihaaGreatDoor

/-
  Mathematics of layers 12 and 13: how many nodes are left; where a variable comes to. Nothing of the program is read here.
-/
namespace Go.Proofs.YtmbonbicokbihaaGreatDoor


section
variable {s t : MS} {roots : List Int}
/-- Where all that is there is reached, there are as many nodes as the roots' functions need. -/
theorem MS.Ok.size_reach (h : s.Ok) (hth : ∀ r ∈ roots, s.there r = true) (hall : ∀ n, s.has n = true → s.Rch roots n) : sizeF (roots.map s.tab) s.o = s.all.length := by
  have key : ∀ n, s.Rch roots n → Reach (roots.map s.tab) s.o (s.tab n) := fun n hr => by
    induction hr with
    | root hm hh => exact .base (List.mem_map.2 ⟨_, hm, rfl⟩)
    | lo hr hh ih =>
      have hn := hr.has
      have := Reach.step false ih (h.sup_node hn) (by rw [h.top_node hn]; exact (h.var _ hn).1)
      rw [h.top_node hn, h.cof_node hn] at this
      exact this
    | hi hr hh ih =>
      have hn := hr.has
      have := Reach.step true ih (h.sup_node hn) (by rw [h.top_node hn]; exact (h.var _ hn).1)
      rw [h.top_node hn, h.cof_node hn] at this
      exact this
  refine h.size_is (fun n hn => ⟨key n (hall n hn), h.sup_node hn⟩) fun g hg => ?_
  obtain ⟨f, hf, hr⟩ := reach_one hg.1
  obtain ⟨r, hm, rfl⟩ := List.mem_map.1 hf
  obtain ⟨m, tm, e, _⟩ := h.reach_rch (hth r hm) hr
  exact ⟨m, sup_has h tm (by rw [e]; exact hg.2), e⟩

theorem Swept.rch (h : Swept s roots t) {n : Int} (hr : s.Rch roots n) : t.Rch roots n := by
  induction hr with
  | root hm hh => exact .root hm ((h.has _).2 (.root hm hh))
  | lo hr hh ih =>
    have := (h.has _).2 (.lo hr hh)
    rw [← h.nd] at this ⊢
    exact .lo ih this
  | hi hr hh ih =>
    have := (h.has _).2 (.hi hr hh)
    rw [← h.nd] at this ⊢
    exact .hi ih this
theorem Swept.there (h : Swept s roots t) {r : Int} (hm : r ∈ roots) (hr : s.there r = true) : t.there r = true := by
  rcases MS.there_cases hr with ⟨h1, _⟩ | h1
  · rcases h1 with rfl | rfl <;> simp [MS.there]
  · simp [MS.there, (h.has r).2 (.root hm h1)]
theorem Swept.size (h : Swept s roots t) (ok : s.Ok) (hth : ∀ r ∈ roots, s.there r = true) : sizeF (roots.map s.tab) s.o = t.all.length := by
  have e : roots.map s.tab = roots.map t.tab := List.map_congr_left fun r hr => (h.tab ok (fun hh => .root hr hh)).symm
  rw [e, ← h.o]
  exact h.ok.size_reach (fun r hr => h.there hr (hth r hr)) (fun n hn => h.rch ((h.has n).1 hn))
end

/-- The orders that one comes to, one behind the other. -/
theorem path_of (l : Nat) : ∀ (o : Nat → Int), l ≤ 7 → ∃ P : Nat → Nat → Int, P l = o ∧ ∀ k : Nat, P (k + 1) = swapO (P k) (k : Int) := by
  induction l with
  | zero => intro o _; exact ⟨fun k => Nat.rec o (fun k p => swapO p (k : Int)) k, rfl, fun k => rfl⟩
  | succ l ih =>
    intro o hl
    obtain ⟨P, h1, h2⟩ := ih (swapO o (l : Int)) (by omega)
    exact ⟨P, by rw [h2, h1, swapO_swapO], h2⟩

/-- In what order the others stand. -/
def Others (v : Int) (o p : Nat → Int) : Prop := ∀ a b : Nat, a < 8 → b < 8 → (a : Int) ≠ v → (b : Int) ≠ v → (levO o (a : Int) < levO o (b : Int) ↔ levO p (a : Int) < levO p (b : Int))
theorem Others.refl (v : Int) (o : Nat → Int) : Others v o o := fun _ _ _ _ _ _ => Iff.rfl
theorem lev_inj {o : Nat → Int} (h : mayO o = true) {a b : Nat} (ha : a < 8) (hb : b < 8) (e : levO o (a : Int) = levO o (b : Int)) : a = b := by
  rcases levO_cases o (a : Int) with ⟨h1, _⟩ | ⟨j, h1, _, h2, _⟩
  · have := levO_nonneg.2 (mayO_iff.1 h a ha); omega
  · rcases levO_cases o (b : Int) with ⟨h3, _⟩ | ⟨k, h3, _, h4, _⟩
    · have := levO_nonneg.2 (mayO_iff.1 h b hb); omega
    · have : j = k := by omega
      subst this
      rw [h2] at h4
      omega
theorem Others.swap {v : Nat} (hv : v < 8) {o p : Nat → Int} (h : Others (v : Int) o p) (hm : mayO p = true) {l : Int} (l0 : 0 ≤ l) (l6 : l ≤ 6) (hl : levO p (v : Int) = l ∨ levO p (v : Int) = l + 1) : Others (v : Int) o (swapO p l) := by
  intro a b ha hb hav hbv
  rw [h a b ha hb hav hbv]
  obtain ⟨a1, a2, a3⟩ := swapO_lev hm l0 l6 ha
  obtain ⟨b1, b2, b3⟩ := swapO_lev hm l0 l6 hb
  have nav : levO p (a : Int) ≠ levO p (v : Int) := fun e => hav (by rw [lev_inj hm ha hv e])
  have nbv : levO p (b : Int) ≠ levO p (v : Int) := fun e => hbv (by rw [lev_inj hm hb hv e])
  by_cases x1 : levO p (a : Int) = l
  · by_cases y2 : levO p (b : Int) = l + 1
    · omega
    · by_cases y1 : levO p (b : Int) = l
      · rw [a2 x1, b2 y1]; omega
      · rw [a2 x1, b1 y1 y2]; omega
  · by_cases x2 : levO p (a : Int) = l + 1
    · by_cases y1 : levO p (b : Int) = l
      · omega
      · by_cases y2 : levO p (b : Int) = l + 1
        · rw [a3 x2, b3 y2]; omega
        · rw [a3 x2, b1 y1 y2]; omega
    · by_cases y1 : levO p (b : Int) = l
      · rw [a1 x1 x2, b2 y1]; omega
      · by_cases y2 : levO p (b : Int) = l + 1
        · rw [a1 x1 x2, b3 y2]; omega
        · rw [a1 x1 x2, b1 y1 y2]

/-- On the way: what stays. -/
structure SfI (s : MS) (roots : List Int) (v : Nat) (P : Nat → Nat → Int) (t : MS) : Prop where
  ok : t.Ok
  most : t.ar.most = s.ar.most
  th : ∀ r ∈ roots, t.there r = true
  tab : ∀ r ∈ roots, t.tab r = s.tab r
  all : ∀ n, t.has n = true → t.Rch roots n
  ord : ∃ k : Nat, k ≤ 7 ∧ levO t.o (v : Int) = (k : Int) ∧ t.o = P k
  oth : Others (v : Int) s.o t.o

section
variable {s t : MS} {roots : List Int} {v : Nat} {P : Nat → Nat → Int}
theorem SfI.size (h : SfI s roots v P t) : sizeF (roots.map s.tab) t.o = t.all.length := by
  have e : roots.map s.tab = roots.map t.tab := List.map_congr_left fun r hr => (h.tab r hr).symm
  rw [e]
  exact h.ok.size_reach h.th h.all
theorem MS.swap_most (s : MS) (l : Int) : (s.swap l).2.ar.most = s.ar.most := by
  have hmk : ∀ (s : MS) (v lo hi : Int) (but : List Int), (s.mk v lo hi but).2.2.ar.most = s.ar.most := fun s v lo hi but => by
    rcases s.mk_cases v lo hi but with ⟨r, e, h⟩ | ⟨hf, _, _, _, _, _, _, h⟩ <;> rw [h]
    show s.ar.take.most = _
    rcases last_or_nil s.ar.B with hb | ⟨k, n, hb⟩
    · rw [(AS.Ok.take_new hf hb).2.2]
    · rw [(AS.Ok.take_again hf hb).2.2]
  have h1 : ∀ (R : List Int) (x y : Int) (s : MS), (MS.swap1 s x y R).ar.most = s.ar.most := fun R => by
    induction R with
    | nil => intro x y s; rfl
    | cons n R ih =>
      intro x y s
      unfold MS.swap1
      dsimp only
      rw [ih]
      unfold MS.setNd
      dsimp only
      rw [hmk, hmk]
  unfold MS.swap
  split
  · rfl
  · dsimp only
    split
    · rfl
    · exact h1 _ _ _ _
/-- Where there is room a level is exchanged. -/
theorem MS.Ok.swap_room (h : s.Ok) {l : Int} (l0 : 0 ≤ l) (l6 : l ≤ 6) (hroom : 3 * (s.all.length : Int) ≤ s.ar.most) : (s.swap l).1 = 0 := by
  unfold MS.swap
  rw [if_neg (by omega)]
  dsimp only
  have h1 : (s.changes (s.o l.toNat) (s.o (l.toNat + 1))).length ≤ s.all.length := by unfold MS.changes; exact List.length_filter_le _ _
  have h2 := h.toBase.count
  rw [if_neg (by unfold MS.room; omega)]
theorem SfI.step (h : SfI s roots v P t) (hv : v < 8) (hP : ∀ k : Nat, P (k + 1) = swapO (P k) (k : Int)) (hroom : 3 * (sizeF (roots.map s.tab) t.o : Int) ≤ s.ar.most) {down : Bool} (hl : t.last (v : Int) down = false) :
    (t.step roots (v : Int) down).1 = true ∧ SfI s roots v P (t.step roots (v : Int) down).2 := by
  obtain ⟨k, k7, hk, hPk⟩ := h.ord
  have hlev : 0 ≤ levO t.o (v : Int) - (if down then 0 else 1) ∧ levO t.o (v : Int) - (if down then 0 else 1) ≤ 6 := by
    unfold MS.last at hl
    cases down
    · simp only [Bool.false_eq_true, if_false, decide_eq_false_iff_not] at hl ⊢; omega
    · simp only [if_true, decide_eq_false_iff_not] at hl ⊢; omega
  have hsz := h.size
  have hs := h.ok.swap_room hlev.1 hlev.2 (by rw [h.most]; omega)
  have hst : (t.step roots (v : Int) down).1 = true := by
    unfold MS.step
    dsimp only
    rw [if_neg (by rw [hs]; decide)]
  refine ⟨hst, ?_⟩
  obtain ⟨_, e2⟩ := MS.step_yes hst
  have hnl := h.ok.step_lev (roots := roots) (v := (v : Int)) (by omega) (by omega) hst
  obtain ⟨ho, _, _⟩ := t.swap_order hs
  have okS := h.ok.swapped (levO t.o (v : Int) - (if down then 0 else 1))
  have hsw := (okS.swept roots).1
  have thS : ∀ r ∈ roots, (t.swap (levO t.o (v : Int) - (if down then 0 else 1))).2.there r = true := fun r hr => by
    rcases MS.there_cases (h.th r hr) with ⟨h1, _⟩ | h1
    · rcases h1 with rfl | rfl <;> simp [MS.there]
    · simp [MS.there, h.ok.swap_has _ h1]
  have tbS : ∀ r ∈ roots, (t.swap (levO t.o (v : Int) - (if down then 0 else 1))).2.tab r = t.tab r := fun r hr => fn_ext fun k hk => by
    rw [MS.tab_bit _ _ hk, MS.tab_bit _ _ hk]
    exact h.ok.swap_val _ _ (h.th r hr)
  have hord : (t.step roots (v : Int) down).2.o = swapO t.o (levO t.o (v : Int) - (if down then 0 else 1)) := by rw [e2, hsw.o, ho]
  refine ⟨h.ok.step _ _ _, ?_, fun r hr => ?_, fun r hr => ?_, fun n hn => ?_, ?_, ?_⟩
  · rw [e2, hsw.most, MS.swap_most, h.most]
  · rw [e2]; exact hsw.there hr (thS r hr)
  · rw [e2, hsw.tab okS (fun hh => .root hr hh), tbS r hr, h.tab r hr]
  · rw [e2] at hn ⊢; exact hsw.rch ((hsw.has n).1 hn)
  · cases down
    · simp only [Bool.false_eq_true, if_false] at *
      obtain ⟨j, rfl⟩ : ∃ j, k = j + 1 := ⟨k - 1, by omega⟩
      refine ⟨j, by omega, by rw [hnl, hk]; omega, ?_⟩
      rw [hord, hk, hPk, hP, show ((j + 1 : Nat) : Int) - 1 = (j : Int) by omega, swapO_swapO]
    · simp only [if_true] at *
      refine ⟨k + 1, by omega, by rw [hnl, hk]; rfl, ?_⟩
      rw [hord, hk, hPk, hP, Int.sub_zero]
  · rw [hord]
    refine h.oth.swap hv h.ok.order hlev.1 hlev.2 ?_
    cases down
    · simp only [Bool.false_eq_true, if_false]; omega
    · simp only [if_true]; omega

/-- A way, with room: so many nodes there are at the best level. -/
def SfBest (s : MS) (roots : List Int) (P : Nat → Nat → Int) (x : Sft) : Prop := ∃ k : Nat, k ≤ 7 ∧ x.best = (k : Int) ∧ x.few = (sizeF (roots.map s.tab) (P k) : Int)
theorem SfI.go (hv : v < 8) (hP : ∀ k : Nat, P (k + 1) = swapO (P k) (k : Int)) (hroom : ∀ o, mayO o = true → 3 * (sizeF (roots.map s.tab) o : Int) ≤ s.ar.most) (grow : Int) (down : Bool) :
    ∀ (n : Nat) (x : Sft), SfI s roots v P x.s → SfBest s roots P x →
      SfI s roots v P (siftGo roots (v : Int) grow down n x).s ∧ SfBest s roots P (siftGo roots (v : Int) grow down n x) ∧ (siftGo roots (v : Int) grow down n x).few ≤ x.few
  | 0, x, h, hb => ⟨h, hb, Int.le_refl _⟩
  | n + 1, x, h, hb => by
    obtain ⟨g0, g1, g2, g3⟩ := (show _ ∧ _ ∧ _ ∧ _ from ⟨fun (hl : x.s.last (v : Int) down = true) => (show siftGo roots (v : Int) grow down (n + 1) x = x by rw [siftGo, if_pos hl]), fun (hl : x.s.last (v : Int) down = false) (hs : (x.s.step roots (v : Int) down).1 = true) (hf : grow < ((x.s.step roots (v : Int) down).2.all.length : Int)) => (show siftGo roots (v : Int) grow down (n + 1) x = x.met (x.s.step roots (v : Int) down).2 (v : Int) by rw [siftGo, if_neg (by rw [hl]; decide), if_neg (by rw [hs]; decide), if_pos hf]), fun (hl : x.s.last (v : Int) down = false) (hs : (x.s.step roots (v : Int) down).1 = true) (hf : ¬ grow < ((x.s.step roots (v : Int) down).2.all.length : Int)) => (show siftGo roots (v : Int) grow down (n + 1) x = siftGo roots (v : Int) grow down n (x.met (x.s.step roots (v : Int) down).2 (v : Int)) by rw [siftGo, if_neg (by rw [hl]; decide), if_neg (by rw [hs]; decide), if_neg hf]), trivial⟩)
    cases hl : x.s.last (v : Int) down
    · obtain ⟨hs, hI⟩ := h.step hv hP (hroom _ h.ok.order) hl
      have hmet : SfI s roots v P (x.met (x.s.step roots (v : Int) down).2 (v : Int)).s ∧ SfBest s roots P (x.met (x.s.step roots (v : Int) down).2 (v : Int)) ∧ (x.met (x.s.step roots (v : Int) down).2 (v : Int)).few ≤ x.few := by
        refine ⟨hI, ?_, ?_⟩
        · unfold Sft.met
          split
          · obtain ⟨k, k7, hk, hPk⟩ := hI.ord
            exact ⟨k, k7, hk, by dsimp only; rw [← hPk, hI.size]⟩
          · exact hb
        · unfold Sft.met
          dsimp only
          split <;> omega
      by_cases hf : grow < ((x.s.step roots (v : Int) down).2.all.length : Int)
      · rw [g1 hl hs hf]; exact hmet
      · rw [g2 hl hs hf]
        obtain ⟨a, b, c⟩ := SfI.go hv hP hroom grow down n _ hmet.1 hmet.2.1
        exact ⟨a, b, Int.le_trans c hmet.2.2⟩
    · rw [g0 hl]; exact ⟨h, hb, Int.le_refl _⟩
theorem SfI.end (hv : v < 8) (hP : ∀ k : Nat, P (k + 1) = swapO (P k) (k : Int)) (hroom : ∀ o, mayO o = true → 3 * (sizeF (roots.map s.tab) o : Int) ≤ s.ar.most) (best : Nat) (hbest : best ≤ 7) :
    ∀ (n : Nat) (t : MS), SfI s roots v P t → (best - levO t.o (v : Int) ≤ (n : Int) ∧ levO t.o (v : Int) - best ≤ (n : Int)) → SfI s roots v P (siftEnd roots (v : Int) best n t) ∧ levO (siftEnd roots (v : Int) best n t).o (v : Int) = best
  | 0, t, h, hn => ⟨h, by show levO t.o (v : Int) = _; omega⟩
  | n + 1, t, h, hn => by
    by_cases he : levO t.o (v : Int) = best
    · rw [siftEnd, if_pos he]; exact ⟨h, he⟩
    · obtain ⟨k, k7, hk, _⟩ := h.ord
      have hl : t.last (v : Int) (decide (levO t.o (v : Int) < best)) = false := by
        unfold MS.last
        by_cases h3 : levO t.o (v : Int) < best
        · rw [decide_eq_true h3, if_pos rfl, decide_eq_false_iff_not]; omega
        · rw [decide_eq_false h3, if_neg (by decide), decide_eq_false_iff_not]; omega
      obtain ⟨hs, hI⟩ := h.step hv hP (hroom _ h.ok.order) hl
      have hnl := h.ok.step_lev (roots := roots) (v := (v : Int)) (by omega) (by omega) hs
      rw [siftEnd, if_neg he, if_neg (by rw [hs]; decide)]
      refine SfI.end hv hP hroom best hbest n _ hI ?_
      by_cases h3 : levO t.o (v : Int) < best
      · rw [decide_eq_true h3, if_pos rfl] at hnl
        rw [decide_eq_true h3]
        omega
      · rw [decide_eq_false h3, if_neg (by decide)] at hnl
        rw [decide_eq_false h3]
        omega

/-- What Sift comes to, with room. -/
theorem MS.Ok.sift_keeps (h : s.Ok) (hth : ∀ r ∈ roots, s.there r = true) (hv : v < 8) {grow : Int} (hg : 0 ≤ grow) (hroom : ∀ o, mayO o = true → 3 * (sizeF (roots.map s.tab) o : Int) ≤ s.ar.most) :
    (s.sift roots (v : Int) grow).1 = 0 ∧ (∃ P, SfI s roots v P (s.sift roots (v : Int) grow).2) ∧ (s.sift roots (v : Int) grow).2.all.length ≤ sizeF (roots.map s.tab) s.o := by
  have hsw := (h.swept roots).1
  obtain ⟨l0, l7⟩ := hsw.ok.lev07 (v := (v : Int)) (by omega) (by omega)
  obtain ⟨k, hk⟩ := Int.eq_ofNat_of_zero_le l0
  obtain ⟨P, hPk, hP⟩ := path_of k (s.sweep roots).2.o (by omega)
  have I0 : SfI s roots v P (s.sweep roots).2 := ⟨hsw.ok, hsw.most, fun r hr => hsw.there hr (hth r hr), fun r hr => hsw.tab h (fun hh => .root hr hh), fun n hn => hsw.rch ((hsw.has n).1 hn), ⟨k, by omega, hk, hPk.symm⟩, by rw [hsw.o]; exact Others.refl _ _⟩
  have hsz := I0.size
  have B0 : SfBest s roots P ⟨(s.sweep roots).2, (s.sweep roots).2.all.length, levO (s.sweep roots).2.o (v : Int)⟩ := ⟨k, by omega, hk, by dsimp only; rw [hPk, hsz]⟩
  obtain ⟨I1, B1, C1⟩ := SfI.go hv hP hroom grow true 8 _ I0 B0
  obtain ⟨I2, B2, C2⟩ := SfI.go hv hP hroom grow false 8 _ I1 B1
  obtain ⟨bk, b7, hb, hf⟩ := B2
  have hlv := I2.ok.lev07 (v := (v : Int)) (by omega) (by omega)
  obtain ⟨I3, L3⟩ := SfI.end hv hP hroom bk b7 8 _ I2 (by omega)
  have e : s.sift roots (v : Int) grow = (0, Go.Proofs.YtmbonbicokbihaaGreatDoor.siftEnd roots (v : Int) bk 8 (Go.Proofs.YtmbonbicokbihaaGreatDoor.siftGo roots (v : Int) grow false 8 (Go.Proofs.YtmbonbicokbihaaGreatDoor.siftGo roots (v : Int) grow true 8 ⟨(s.sweep roots).2, (s.sweep roots).2.all.length, levO (s.sweep roots).2.o (v : Int)⟩)).s) := by
    unfold MS.sift
    rw [if_neg (by omega)]
    dsimp only
    rw [hb]
  rw [e]
  refine ⟨rfl, ⟨P, I3⟩, ?_⟩
  obtain ⟨j, j7, hj, hPj⟩ := I3.ord
  have hjb : j = bk := by omega
  have hsz3 := I3.size
  rw [hPj, hjb] at hsz3
  rw [hsw.o] at hsz
  dsimp only at C1 C2 hf ⊢
  omega
end

end Go.Proofs.YtmbonbicokbihaaGreatDoor

/-
  Mathematics of layers 9 to 11: if, then, else of nodes; what grows. Nothing of the program is read here.
-/
namespace Go.Proofs.YtmbonbicokbihaaGreatDoor

/-- If, then, else of functions. -/
def iteF (f g h : Fn) : Fn := f &&& g ||| ~~~f &&& h
/-- What Ite comes to. -/
def MS.ite (s : MS) (f g h : Int) : Int × Int × MS := if s.there f = true ∧ s.there g = true ∧ s.there h = true then MS.bld 8 s (iteF (s.tab f) (s.tab g) (s.tab h)) else (0, 1, s)
/-- What Xor comes to. -/
def MS.xor (s : MS) (f g : Int) : Int × Int × MS :=
  if s.there f = true ∧ s.there g = true then
    let n := s.ite g 0 1
    if n.2.1 ≠ 0 then (0, n.2.1, n.2.2) else n.2.2.ite f n.1 g
  else (0, 1, s)
/-- What Restrict comes to. -/
def MS.restr (s : MS) (f v : Int) (b : Bool) : Int × Int × MS := if s.there f = true ∧ 0 ≤ v ∧ v ≤ 7 then MS.bld 8 s (cofAny (s.tab f) v b) else (0, 1, s)
/-- What Compose (0), Exists (1), Forall (2) come to. -/
def MS.three (s : MS) (what : Int) (f v g : Int) : Int × Int × MS :=
  if what = 0 ∧ s.there g = false then (0, 1, s)
  else
    let a := s.restr f v false
    if a.2.1 ≠ 0 then (0, a.2.1, a.2.2)
    else
      let b := a.2.2.restr f v true
      if b.2.1 ≠ 0 then (0, b.2.1, b.2.2)
      else if what = 0 then b.2.2.ite g b.1 a.1
      else if what = 1 then b.2.2.ite a.1 1 b.1
      else b.2.2.ite a.1 b.1 0

/-- No number's function is another one. -/
structure MS.Grows (s t : MS) : Prop where
  there : ∀ n, s.there n = true → t.there n = true
  val : ∀ (b : Int → Bool) n, s.there n = true → t.val b n = s.val b n

section
variable {s t u : MS}
theorem MS.there_mono' (h : ∀ n, s.has n = true → t.has n = true) {n : Int} (hn : s.there n = true) : t.there n = true := by
  rcases MS.there_cases hn with ⟨rfl | rfl, _⟩ | hn
  · rfl
  · rfl
  · simp [MS.there, h n hn]
theorem MS.Grows.refl (s : MS) : MS.Grows s s := ⟨fun _ h => h, fun _ _ _ => rfl⟩
theorem MS.Grows.trans (h : MS.Grows s t) (k : MS.Grows t u) : MS.Grows s u := ⟨fun n hn => k.there n (h.there n hn), fun b n hn => (k.val b n (h.there n hn)).trans (h.val b n hn)⟩
theorem MS.Grows.of_ext (e : MS.Ext s t) (hs : s.Ok) (ht : t.Ok) : MS.Grows s t := ⟨fun _ hn => e.there hn, fun b n hn => e.val hs ht b _ n (Nat.le_refl _) hn⟩
theorem MS.Grows.of_swap (hs : s.Ok) (l : Int) : MS.Grows s (s.swap l).2 := ⟨fun _ hn => MS.there_mono' (fun _ hm => hs.swap_has l hm) hn, fun b _ hn => hs.swap_val l b hn⟩
theorem MS.Grows.tab (h : MS.Grows s t) {n : Int} (hn : s.there n = true) : t.tab n = s.tab n := fn_ext fun k hk => by
  rw [MS.tab_bit _ _ hk, MS.tab_bit _ _ hk, h.val _ n hn]

theorem MS.Ok.bld_ok (h : s.Ok) (f : Fn) : (MS.bld 8 s f).2.2.Ok := (MS.bld_spec 8 s f h (supN_8 f)).1
theorem MS.Ok.bld_err (h : s.Ok) (f : Fn) : 0 ≤ (MS.bld 8 s f).2.1 ∧ (MS.bld 8 s f).2.1 ≤ 8 := by
  rcases (MS.bld_spec 8 s f h (supN_8 f)).2.2.1 with h | h <;> rw [h] <;> decide
theorem MS.Ok.ite_spec (h : s.Ok) (f g k : Int) : (s.ite f g k).2.2.Ok ∧ MS.Ext s (s.ite f g k).2.2 ∧ (0 ≤ (s.ite f g k).2.1 ∧ (s.ite f g k).2.1 ≤ 8) ∧
    ((s.ite f g k).2.1 = 0 → (s.ite f g k).2.2.there (s.ite f g k).1 = true ∧ (s.ite f g k).2.2.tab (s.ite f g k).1 = iteF (s.tab f) (s.tab g) (s.tab k)) := by
  unfold MS.ite
  split
  · have := MS.bld_spec 8 s (iteF (s.tab f) (s.tab g) (s.tab k)) h (supN_8 _)
    exact ⟨this.1, this.2.1, h.bld_err _, this.2.2.2.1⟩
  · exact ⟨h, MS.Ext.refl s, by dsimp only; omega, fun e => by dsimp only at e; omega⟩
theorem MS.Ok.xor_spec (h : s.Ok) (f g : Int) : (s.xor f g).2.2.Ok ∧ MS.Ext s (s.xor f g).2.2 ∧ (0 ≤ (s.xor f g).2.1 ∧ (s.xor f g).2.1 ≤ 8) := by
  unfold MS.xor
  split
  · obtain ⟨h1, h2, h3, _⟩ := h.ite_spec g 0 1
    dsimp only
    split
    · exact ⟨h1, h2, h3⟩
    · obtain ⟨k1, k2, k3, _⟩ := h1.ite_spec f (s.ite g 0 1).1 g
      exact ⟨k1, h2.trans k2, k3⟩
  · exact ⟨h, MS.Ext.refl s, by dsimp only; omega⟩
theorem MS.Ok.restr_spec (h : s.Ok) (f v : Int) (b : Bool) : (s.restr f v b).2.2.Ok ∧ MS.Ext s (s.restr f v b).2.2 ∧ (0 ≤ (s.restr f v b).2.1 ∧ (s.restr f v b).2.1 ≤ 8) ∧
    ((s.restr f v b).2.1 = 0 → (s.restr f v b).2.2.there (s.restr f v b).1 = true ∧ (s.restr f v b).2.2.tab (s.restr f v b).1 = cofAny (s.tab f) v b) := by
  unfold MS.restr
  split
  · have := MS.bld_spec 8 s (cofAny (s.tab f) v b) h (supN_8 _)
    exact ⟨this.1, this.2.1, h.bld_err _, this.2.2.2.1⟩
  · exact ⟨h, MS.Ext.refl s, by dsimp only; omega, fun e => by dsimp only at e; omega⟩
theorem MS.Ok.three_spec (h : s.Ok) (what f v g : Int) : (s.three what f v g).2.2.Ok ∧ MS.Ext s (s.three what f v g).2.2 ∧ (0 ≤ (s.three what f v g).2.1 ∧ (s.three what f v g).2.1 ≤ 8) := by
  unfold MS.three
  split
  · exact ⟨h, MS.Ext.refl s, by dsimp only; omega⟩
  · obtain ⟨h1, h2, h3, _⟩ := h.restr_spec f v false
    dsimp only
    split
    · exact ⟨h1, h2, h3⟩
    · obtain ⟨k1, k2, k3, _⟩ := h1.restr_spec f v true
      split
      · exact ⟨k1, h2.trans k2, k3⟩
      · split
        · obtain ⟨j1, j2, j3, _⟩ := k1.ite_spec g ((s.restr f v false).2.2.restr f v true).1 (s.restr f v false).1
          exact ⟨j1, (h2.trans k2).trans j2, j3⟩
        · split
          · obtain ⟨j1, j2, j3, _⟩ := k1.ite_spec (s.restr f v false).1 1 ((s.restr f v false).2.2.restr f v true).1
            exact ⟨j1, (h2.trans k2).trans j2, j3⟩
          · obtain ⟨j1, j2, j3, _⟩ := k1.ite_spec (s.restr f v false).1 ((s.restr f v false).2.2.restr f v true).1 0
            exact ⟨j1, (h2.trans k2).trans j2, j3⟩
end

end Go.Proofs.YtmbonbicokbihaaGreatDoor
