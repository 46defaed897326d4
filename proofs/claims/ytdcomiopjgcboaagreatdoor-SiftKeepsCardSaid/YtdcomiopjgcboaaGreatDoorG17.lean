/-
  Texts of this proof, one behind the other: SiftQ, SiftW, SiftX, IteM, IteC.
-/
import Derived.Test.YtdcomiopjgcboaaGreatDoorG16
import Derived.Test.YtdcomiopjgcboaaGreatDoorG1
import Derived.Test.YtdcomiopjgcboaaGreatDoorG5
import Derived.Test.YtdcomiopjgcboaaGreatDoorG7
import Derived.BigQuiet
import Derived.Test.YtdcomiopjgcboaaGreatDoorG8
import Derived.Test.YtdcomiopjgcboaaGreatDoorG15
import Derived.Test.YtdcomiopjgcboaaGreatDoorG14
/-
  Mathematics of the landed package sift: the ways as the code goes them. Nothing of the program is read here.
-/
namespace Go.Proofs.YtdcomiopjgcboaaGreatDoor

/-- The level at which a step begins. -/
def wayL (at_ : Int) (down : Bool) : Int := at_ - if down then 0 else 1
/-- Where it comes to. -/
def wayTo (at_ : Int) (down : Bool) : Int := at_ + if down then 1 else -1

section
variable {s : MS} {roots : List Int} {v grow : Int}
theorem MS.step_at (s : MS) (roots : List Int) (v : Int) (down : Bool) : s.step roots v down =
    if (s.swap (wayL (levO s.o v) down)).1 = 0 then (true, ((s.swap (wayL (levO s.o v) down)).2.sweep roots).2) else (false, (s.swap (wayL (levO s.o v) down)).2) := by
  unfold MS.step wayL
  dsimp only
  generalize s.swap (levO s.o v - if down = true then 0 else 1) = r
  by_cases h : r.1 = 0
  · rw [if_neg (by simp [h]), if_pos h]
  · rw [if_pos h, if_neg h]
theorem MS.swap_out (s : MS) {l : Int} (h : l < 0 ∨ 6 < l) : s.swap l = (1, s) := by
  unfold MS.swap
  rw [if_pos h]
/-- At the end of a way there is no step. -/
theorem MS.step_last {down : Bool} (h : s.last v down = true) : s.step roots v down = (false, s) := by
  rw [MS.step_at, s.swap_out (l := wayL (levO s.o v) down) (by
    unfold MS.last at h
    unfold wayL
    cases down
    · simp only [Bool.false_eq_true, if_false, decide_eq_true_eq] at h ⊢; omega
    · simp only [if_true, decide_eq_true_eq] at h ⊢; omega)]
  rfl
/-- A way, as the code goes it. -/
theorem siftGo_next (roots : List Int) (v grow : Int) (down : Bool) (n : Nat) (x : Sft) : siftGo roots v grow down (n + 1) x =
    if (x.s.step roots v down).1 = false then ⟨(x.s.step roots v down).2, x.few, x.best⟩
    else if grow < ((x.s.step roots v down).2.all.length : Int) then x.met (x.s.step roots v down).2 v
    else siftGo roots v grow down n (x.met (x.s.step roots v down).2 v) := by
  rw [siftGo]
  by_cases h : x.s.last v down = true
  · rw [if_pos h, MS.step_last h, if_pos rfl]
  · rw [if_neg h]
/-- How many steps there may be yet. -/
def wayFit (at_ : Int) (down : Bool) (n : Nat) : Prop := if down = true then 8 ≤ at_ + n else at_ + 1 ≤ n
theorem wayFit.pos {at_ : Int} {down : Bool} {n : Nat} (h : wayFit at_ down n) (h0 : 0 ≤ at_) (h7 : at_ ≤ 7) : ∃ m, n = m + 1 ∧ wayFit (wayTo at_ down) down m := by
  unfold wayFit wayTo at *
  cases n with
  | zero => cases down <;> simp at h <;> omega
  | succ m => exact ⟨m, rfl, by cases down <;> simp at h ⊢ <;> omega⟩
theorem wayFit.eight {at_ : Int} (down : Bool) (h0 : 0 ≤ at_) (h7 : at_ ≤ 7) : wayFit at_ down 8 := by
  unfold wayFit
  cases down <;> simp <;> omega
theorem MS.Ok.step_to (h : s.Ok) {v : Int} (v0 : 0 ≤ v) (v7 : v ≤ 7) {down : Bool} (hs : (s.step roots v down).1 = true) :
    levO (s.step roots v down).2.o v = wayTo (levO s.o v) down := by
  rw [h.step_lev v0 v7 hs]
  unfold wayTo
  cases down <;> rfl

theorem MS.swap_no (s : MS) {l : Int} (h : (s.swap l).1 ≠ 0) : (s.swap l).2 = s := by
  unfold MS.swap at h ⊢
  by_cases h1 : l < 0 ∨ 6 < l
  · rw [if_pos h1]
  · rw [if_neg h1] at h ⊢
    dsimp only at h ⊢
    split at h
    · rename_i h2
      rw [if_pos h2]
    · exact absurd rfl h
theorem MS.step_no {down : Bool} (h : (s.step roots v down).1 = false) : (s.step roots v down).2 = s := by
  rw [MS.step_at] at h ⊢
  by_cases hc : (s.swap (wayL (levO s.o v) down)).1 = 0
  · rw [if_pos hc] at h; cases h
  · rw [if_neg hc]; exact s.swap_no hc

/-- The end, as the code goes it. -/
theorem siftEnd_down (roots : List Int) (v best : Int) (n : Nat) (s : MS) (h : levO s.o v < best) : siftEnd roots v best (n + 1) s =
    if (s.step roots v true).1 = false then (s.step roots v true).2 else siftEnd roots v best n (s.step roots v true).2 := by
  rw [siftEnd, if_neg (by omega), decide_eq_true h]
theorem siftEnd_up (roots : List Int) (v best : Int) (n : Nat) (s : MS) (h : best < levO s.o v) : siftEnd roots v best (n + 1) s =
    if (s.step roots v false).1 = false then (s.step roots v false).2 else siftEnd roots v best n (s.step roots v false).2 := by
  rw [siftEnd, if_neg (by omega), decide_eq_false (by omega)]
theorem siftEnd_at (roots : List Int) (v best : Int) (n : Nat) (s : MS) (h : levO s.o v = best) : siftEnd roots v best n s = s := by
  cases n with
  | zero => rfl
  | succ n => rw [siftEnd, if_pos h]

/-- Best levels are levels. -/
theorem siftGo_best (v0 : 0 ≤ v) (v7 : v ≤ 7) (down : Bool) : ∀ (n : Nat) (x : Sft), x.s.Ok → 0 ≤ x.best ∧ x.best ≤ 7 → 0 ≤ (siftGo roots v grow down n x).best ∧ (siftGo roots v grow down n x).best ≤ 7
  | 0, _, _, h => h
  | n + 1, x, ok, h => by
    have hm : 0 ≤ (x.met (x.s.step roots v down).2 v).best ∧ (x.met (x.s.step roots v down).2 v).best ≤ 7 := by
      unfold Sft.met
      dsimp only
      have := (ok.step roots v down).lev07 v0 v7
      split <;> omega
    rw [siftGo_next]
    split
    · exact h
    · split
      · exact hm
      · exact siftGo_best v0 v7 down n _ (ok.step _ _ _) hm
end

end Go.Proofs.YtdcomiopjgcboaaGreatDoor

/-
  The code's package sift walked, over contracts of its store and of package sweep.
-/
namespace Go.Proofs.YtdcomiopjgcboaaGreatDoor
open Go Go.RowKit

/-- A variable on its way: the walk's row of cells in block bw, the store apart from it. -/
structure WkS (StAt : World → Nat → (Nat → Prop) → MS → Prop) (w0 : World) (b : Nat) (F0 : Nat → Prop) (vs : Value) (bw : Nat) (s : MS) (at_ best few : Int) (F : Nat → Prop) (W : World) : Prop where
  st : StAt W b F s
  ok : s.Ok
  keeps : Keeps F0 w0 W
  within : Within w0 F0 F
  wk : W.heap[bw]? = some (.cells #[.pointer (some ⟨b, 0, none⟩), vs, .int .i64 at_, .int .i64 best, .int .i64 few] 65 (0, 0))
  out : ¬ F bw
  new : w0.heap.size ≤ bw

section
variable {StAt : World → Nat → (Nat → Prop) → MS → Prop} {w0 W W' : World} {b : Nat} {F0 F F' : Nat → Prop} {vs : Value} {bw : Nat} {s s' : MS} {at_ best few : Int} {roots : List Int}
theorem WkS.lt (h : WkS StAt w0 b F0 vs bw s at_ best few F W) : bw < W.heap.size := (Array.getElem?_eq_some_iff.1 h.wk).1
theorem WkS.keep (H : StoreC StAt) (h : WkS StAt w0 b F0 vs bw s at_ best few F W) (hb : Below W.heap.size W W') : WkS StAt w0 b F0 vs bw s at_ best few F W' :=
  ⟨H.below h.st hb, h.ok, h.keeps.and (Keeps.of_below hb _), h.within, (hb.block _ h.lt).trans h.wk, h.out, h.new⟩
theorem WkS.sub (H : StoreC StAt) (h : WkS StAt w0 b F0 vs bw s at_ best few F W) (u : Sub W) : WkS StAt w0 b F0 vs bw s at_ best few F u.1 := h.keep H u.2
theorem WkS.step (h : WkS StAt w0 b F0 vs bw s at_ best few F W) (hA : StAt W' b F' s') (ok : s'.Ok) (hK : Keeps F W W') (hW : Within W F F') : WkS StAt w0 b F0 vs bw s' at_ best few F' W' :=
  ⟨hA, ok, h.keeps.trans hK h.within, h.within.trans hW h.keeps.size, (hK.block _ h.lt h.out).trans h.wk, fun q => (hW _ q).elim h.out (fun q => by have := h.lt; omega), h.new⟩
theorem WkS.cells (h : WkS StAt w0 b F0 vs bw s at_ best few F W) : W.cell? ⟨bw, 0, none⟩ = some (.pointer (some ⟨b, 0, none⟩)) ∧ W.cell? ⟨bw, 1, none⟩ = some vs ∧ W.cell? ⟨bw, 2, none⟩ = some (.int .i64 at_) ∧ W.cell? ⟨bw, 3, none⟩ = some (.int .i64 best) ∧ W.cell? ⟨bw, 4, none⟩ = some (.int .i64 few) :=
  ⟨by rw [cell_of_row _ _ _ _ _ _ h.wk]; rfl, by rw [cell_of_row _ _ _ _ _ _ h.wk]; rfl, by rw [cell_of_row _ _ _ _ _ _ h.wk]; rfl, by rw [cell_of_row _ _ _ _ _ _ h.wk]; rfl, by rw [cell_of_row _ _ _ _ _ _ h.wk]; rfl⟩
theorem WkS.free (h : WkS StAt w0 b F0 vs bw s at_ best few F W) (j : Nat) : W.frozen? ⟨bw, j, none⟩ = false := frozen_of_row _ _ _ _ _ h.wk
theorem WkS.rts (h : WkS StAt w0 b F0 vs bw s at_ best few F W) (hv : RootsAt w0 F0 vs roots) : RootsAt W F vs roots := hv.keep h.keeps h.within
theorem WkS.wrote (H : StoreC StAt) (h : WkS StAt w0 b F0 vs bw s at_ best few F W) (i : Nat) (x : Value) (at' best' few' : Int)
    (e : (#[.pointer (some ⟨b, 0, none⟩), vs, .int .i64 at_, .int .i64 best, .int .i64 few] : Array Value).setIfInBounds i x = #[.pointer (some ⟨b, 0, none⟩), vs, .int .i64 at', .int .i64 best', .int .i64 few']) :
    WkS StAt w0 b F0 vs bw s at' best' few' F (W.setCell ⟨bw, i, none⟩ x) := by
  have h1 := heap_setCell_same W bw i _ _ x h.wk
  rw [e] at h1
  have hk : Keeps (fun g => g = bw) W (W.setCell ⟨bw, i, none⟩ x) := Keeps.of_setCell (fun g => g = bw) W ⟨bw, i, none⟩ x rfl
  exact ⟨H.keep h.st hk (fun k h2 h3 => h.out (h3 ▸ h2)), h.ok, h.keeps.trans hk (fun k hk => .inr (hk ▸ h.new)), h.within, h1, h.out, h.new⟩
theorem WkS.setAt (H : StoreC StAt) (h : WkS StAt w0 b F0 vs bw s at_ best few F W) (x : Int) : WkS StAt w0 b F0 vs bw s x best few F (W.setCell ⟨bw, 2, none⟩ (.int .i64 x)) := h.wrote H 2 _ _ _ _ rfl
theorem WkS.setBest (H : StoreC StAt) (h : WkS StAt w0 b F0 vs bw s at_ best few F W) (x : Int) : WkS StAt w0 b F0 vs bw s at_ x few F (W.setCell ⟨bw, 3, none⟩ (.int .i64 x)) := h.wrote H 3 _ _ _ _ rfl
theorem WkS.setFew (H : StoreC StAt) (h : WkS StAt w0 b F0 vs bw s at_ best few F W) (x : Int) : WkS StAt w0 b F0 vs bw s at_ best x F (W.setCell ⟨bw, 4, none⟩ (.int .i64 x)) := h.wrote H 4 _ _ _ _ rfl

set_option maxRecDepth 100000 in
set_option maxHeartbeats 4000000 in
/-- An exchange of two levels, and a sweep. -/
theorem siftStep (H : StoreC StAt) (SC : SweepC StAt) (hv : RootsAt w0 F0 vs roots) (hl : roots.length ≤ 100000) (hr : ∀ r ∈ roots, r ≤ 9223372036854775807 ∧ -9223372036854775808 ≤ r) (S : WkS StAt w0 b F0 vs bw s at_ best few F W) (l to : Int) :
    Calls Tryz.prog 73 #[.pointer (some ⟨bw, 0, none⟩), .int .i64 l, .int .i64 to] W fun e W' => e = .returned (.bool (decide ((s.swap l).1 = 0))) ∧
      ∃ F', WkS StAt w0 b F0 vs bw (if (s.swap l).1 = 0 then ((s.swap l).2.sweep roots).2 else (s.swap l).2) (if (s.swap l).1 = 0 then to else at_) best few F' W' := by
  have HS := H.swap S.st S.ok l
  have ok1 := S.ok.swapped l
  generalize s.swap l = r at *
  obtain ⟨c, t⟩ := r
  dsimp only at *
  by_cases hc : c = 0
  · subst hc
    rw [errV0] at HS
    rw [if_pos rfl, if_pos rfl, show decide ((0 : Int) = 0) = true from rfl]
    obtain ⟨c0, _, _, _, _⟩ := S.cells
    have HQ := fun W F (hA : StAt W b F t) hR => SC.sweep hA ok1 roots vs hR hl hr
    have ok2 := (ok1.swept roots).1.ok
    generalize t.sweep roots = q at *
    go_enter Tryz.func73, Tryz.ntmps73
    go_wp2_with fail
    refine HS.mono ?_
    rintro e w1 ⟨rfl, F1, hA, hK, hW⟩
    replace S := S.step hA ok1 hK hW
    clear HS hA hK hW c0
    have cx0 := fun u : Sub w1 => (S.sub H u).cells.1
    have cx1 := fun u : Sub w1 => (S.sub H u).cells.2.1
    have HW := fun u : Sub w1 => HQ _ _ (S.sub H u).st ((S.sub H u).rts hv)
    clear HQ
    replace S := Lib.hid S
    replace HW := Lib.hid HW
    go_wp2
    refine wp_region_quiet_effect (C := fun w' => ∃ u : Sub w1, w' = u.1) 8 _ rfl (by kernel_rfl) (by kernel_rfl) (InSub.drew w1) (by simp only [List.drop_succ_cons, List.drop_zero]; exact panicsBy_nil) ?_
    simp only [List.take_succ_cons, List.take_zero]
    iterate 8 (go_big_quiet_step (fail))
    refine wpQuiet_nil ?_
    clear cx0 cx1
    intro w' hw' K1 hK1
    obtain ⟨u, rfl⟩ := hw'
    have HM1 := HW.out u
    replace S := S.out.sub H u
    clear HW
    generalize u.1 = UW1 at *
    go_simp
    refine HM1.mono ?_
    rintro e W2 ⟨rfl, F2, hA, hK, hW⟩
    clear HM1
    replace S := S.step hA ok2 hK hW
    clear hA hK hW
    refine hK1.out _ _ ?_
    clear hK1 K1
    simp only [List.drop_succ_cons, List.drop_zero, wpPure]
    have S2 := S.setAt H to
    have f2 := S.free 2
    obtain ⟨_, _, c2, _, _⟩ := S.cells
    clear S
    replace S2 := Lib.hid S2
    go_wp2
    go_ret
    exact ⟨rfl, F2, S2.out⟩
  · rw [if_neg hc, if_neg hc, decide_eq_false hc]
    rw [show errV c = .iface 63 (.int .i64 c) from if_neg hc] at HS
    obtain ⟨c0, _, _, _, _⟩ := S.cells
    go_enter Tryz.func73, Tryz.ntmps73
    go_wp2_with fail
    refine HS.mono ?_
    rintro e w1 ⟨rfl, F1, hA, hK, hW⟩
    replace S := Lib.hid (S.step hA ok1 hK hW)
    clear HS hA hK hW c0
    go_wp2
    go_ret
    exact ⟨rfl, F1, S.out⟩

/-- The two bound methods. -/
def wayF (down : Bool) : Nat := if down then 32 else 33

theorem way_yes (s : MS) (roots : List Int) (v : Int) (down : Bool) : (s.step roots v down).1 = decide ((s.swap (wayL (levO s.o v) down)).1 = 0) ∧
    (s.step roots v down).2 = if (s.swap (wayL (levO s.o v) down)).1 = 0 then ((s.swap (wayL (levO s.o v) down)).2.sweep roots).2 else (s.swap (wayL (levO s.o v) down)).2 := by
  rw [MS.step_at]
  by_cases h : (s.swap (wayL (levO s.o v) down)).1 = 0
  · simp only [if_pos h, decide_eq_true h, and_self]
  · simp only [if_neg h, decide_eq_false h, and_self]

/-- What a step of a way comes to. -/
def WayPost (StAt : World → Nat → (Nat → Prop) → MS → Prop) (w0 : World) (b : Nat) (F0 : Nat → Prop) (vs : Value) (bw : Nat) (best few : Int) (at_ to : Int) (r : Bool × MS) (e : Ending) (W' : World) : Prop :=
  e = .returned (.bool r.1) ∧ ∃ F', WkS StAt w0 b F0 vs bw r.2 (if r.1 = true then to else at_) best few F' W'

set_option maxRecDepth 100000 in
set_option maxHeartbeats 4000000 in
theorem siftWay (H : StoreC StAt) (SC : SweepC StAt) (hv : RootsAt w0 F0 vs roots) (hl : roots.length ≤ 100000) (hr : ∀ r ∈ roots, r ≤ 9223372036854775807 ∧ -9223372036854775808 ≤ r) (S : WkS StAt w0 b F0 vs bw s at_ best few F W) {v : Int} (e : at_ = levO s.o v) (h0 : -1 ≤ at_) (h7 : at_ ≤ 8) (down : Bool) :
    Calls Tryz.prog (wayF down) #[.pointer (some ⟨bw, 0, none⟩)] W (WayPost StAt w0 b F0 vs bw best few at_ (wayTo at_ down) (s.step roots v down)) := by
  have HP := fun u : Sub W => siftStep H SC hv hl hr (S.sub H u) (wayL at_ down) (wayTo at_ down)
  have E := way_yes s roots v down
  rw [← e] at E
  obtain ⟨E1, E2⟩ := E
  have E3 : (if (s.step roots v down).1 = true then wayTo at_ down else at_) = if (s.swap (wayL at_ down)).1 = 0 then wayTo at_ down else at_ := by
    rw [E1]
    by_cases h : (s.swap (wayL at_ down)).1 = 0
    · simp [h]
    · simp [h]
  unfold WayPost
  rw [E3, E1, E2]
  clear E1 E2 E3 e hv hl hr
  generalize (s.swap (wayL at_ down)).1 = c at *
  generalize (s.swap (wayL at_ down)).2 = t at *
  generalize (if c = 0 then (t.sweep roots).2 else t) = q at *
  generalize hx : (if c = 0 then wayTo at_ down else at_) = x at *
  have cx2 := fun u : Sub W => (S.sub H u).cells.2.2.1
  clear S hx
  unfold wayF
  cases down
  · simp only [wayL, wayTo, Bool.false_eq_true, if_false] at *
    rw [show at_ + -1 = at_ - 1 by omega] at *
    go_enter Tryz.func33, Tryz.ntmps33
    go_wp2
    refine wp_region_quiet_effect (C := fun w' => ∃ u : Sub W, w' = u.1) 11 _ rfl (by kernel_rfl) (by kernel_rfl) (InSub.drew W) (by simp only [List.drop_succ_cons, List.drop_zero]; exact panicsBy_cons (fun _ _ _ _ h => h) panicsBy_nil) ?_
    simp only [List.take_succ_cons, List.take_zero]
    iterate 11 (go_big_quiet_step (fail))
    refine wpQuiet_nil ?_
    clear cx2
    intro w' hw' K1 hK1
    obtain ⟨u, rfl⟩ := hw'
    have HM1 := HP u
    clear HP
    go_simp
    refine HM1.mono ?_
    rintro e W2 ⟨rfl, F2, S⟩
    clear HM1
    refine hK1.out _ _ ?_
    clear hK1 K1
    simp only [List.drop_succ_cons, List.drop_zero]
    refine wpPure_cons (v := ?_) (by rfl) ?_ ?_
    rotate_left
    · (intro w; go_simp <;> with_reducible rfl)
    simp only [Act.put, List.setIfInBounds_toArray, List.set_cons_zero, List.set_cons_succ]
    refine wpPure_nil ?_
    replace S := Lib.hid S
    go_wp2
    go_ret
    exact ⟨rfl, F2, S.out⟩
  · simp only [wayL, wayTo, if_true, Int.sub_zero] at *
    go_enter Tryz.func32, Tryz.ntmps32
    go_wp2
    refine wp_region_quiet_effect (C := fun w' => ∃ u : Sub W, w' = u.1) 10 _ rfl (by kernel_rfl) (by kernel_rfl) (InSub.drew W) (by simp only [List.drop_succ_cons, List.drop_zero]; exact panicsBy_cons (fun _ _ _ _ h => h) panicsBy_nil) ?_
    simp only [List.take_succ_cons, List.take_zero]
    iterate 10 (go_big_quiet_step (fail))
    refine wpQuiet_nil ?_
    clear cx2
    intro w' hw' K1 hK1
    obtain ⟨u, rfl⟩ := hw'
    have HM1 := HP u
    clear HP
    go_simp
    refine HM1.mono ?_
    rintro e W2 ⟨rfl, F2, S⟩
    clear HM1
    refine hK1.out _ _ ?_
    clear hK1 K1
    simp only [List.drop_succ_cons, List.drop_zero]
    refine wpPure_cons (v := ?_) (by rfl) ?_ ?_
    rotate_left
    · (intro w; go_simp <;> with_reducible rfl)
    simp only [Act.put, List.setIfInBounds_toArray, List.set_cons_zero, List.set_cons_succ]
    refine wpPure_nil ?_
    replace S := Lib.hid S
    go_wp2
    go_ret
    exact ⟨rfl, F2, S.out⟩

/-- What settling comes to, on the way. -/
def EndAt (roots : List Int) (v best : Int) (X : MS) (n : Nat) (t : MS) (a : Int) : Prop := a = levO t.o v ∧ siftEnd roots v best n t = X ∧ a - best ≤ n ∧ best - a ≤ n
theorem EndAt.down {roots : List Int} {v best : Int} {X t : MS} {n : Nat} {a : Int} (h : EndAt roots v best X n t a) (ok : t.Ok) (v0 : 0 ≤ v) (v7 : v ≤ 7) (hlt : a < best) :
    ((t.step roots v true).1 = true → ∃ m, EndAt roots v best X m (t.step roots v true).2 (wayTo a true)) ∧ ((t.step roots v true).1 = false → X = (t.step roots v true).2) := by
  obtain ⟨e1, e2, e3, e4⟩ := h
  cases n with
  | zero => omega
  | succ m =>
    rw [siftEnd_down _ _ _ _ _ (by omega)] at e2
    refine ⟨fun h => ?_, fun h => ?_⟩
    · rw [h, if_neg (by simp)] at e2
      have hw : wayTo a true = a + 1 := rfl
      exact ⟨m, by rw [ok.step_to v0 v7 h, e1], e2, by omega, by omega⟩
    · rw [h, if_pos rfl] at e2; exact e2.symm
theorem EndAt.up {roots : List Int} {v best : Int} {X t : MS} {n : Nat} {a : Int} (h : EndAt roots v best X n t a) (ok : t.Ok) (v0 : 0 ≤ v) (v7 : v ≤ 7) (hlt : best < a) :
    ((t.step roots v false).1 = true → ∃ m, EndAt roots v best X m (t.step roots v false).2 (wayTo a false)) ∧ ((t.step roots v false).1 = false → X = (t.step roots v false).2) := by
  obtain ⟨e1, e2, e3, e4⟩ := h
  cases n with
  | zero => omega
  | succ m =>
    rw [siftEnd_up _ _ _ _ _ (by omega)] at e2
    refine ⟨fun h => ?_, fun h => ?_⟩
    · rw [h, if_neg (by simp)] at e2
      have hw : wayTo a false = a - 1 := rfl
      exact ⟨m, by rw [ok.step_to v0 v7 h, e1], e2, by omega, by omega⟩
    · rw [h, if_pos rfl] at e2; exact e2.symm
theorem EndAt.at {roots : List Int} {v best : Int} {X t : MS} {n : Nat} {a : Int} (h : EndAt roots v best X n t a) (e : a = best) : X = t := by
  obtain ⟨e1, e2, e3, e4⟩ := h
  rw [siftEnd_at _ _ _ _ _ (by omega)] at e2
  exact e2.symm

/-- What stands at the walk's level. -/
def atOf (W : World) (bw : Nat) : Int := match W.cell? ⟨bw, 2, none⟩ with
  | some (.int _ a) => a
  | _ => 0
theorem WkS.atOf (h : WkS StAt w0 b F0 vs bw s at_ best few F W) : atOf W bw = at_ := by
  unfold Go.Proofs.YtdcomiopjgcboaaGreatDoor.atOf
  rw [h.cells.2.2.1]

set_option maxRecDepth 100000 in
set_option maxHeartbeats 8000000 in
theorem siftSettle (H : StoreC StAt) (SC : SweepC StAt) (hv : RootsAt w0 F0 vs roots) (hl : roots.length ≤ 100000) (hr : ∀ r ∈ roots, r ≤ 9223372036854775807 ∧ -9223372036854775808 ≤ r) (S : WkS StAt w0 b F0 vs bw s at_ best few F W) {v : Int} (v0 : 0 ≤ v) (v7 : v ≤ 7) (e : at_ = levO s.o v) (hb : 0 ≤ best ∧ best ≤ 7) :
    Calls Tryz.prog 34 #[.pointer (some ⟨bw, 0, none⟩)] W fun e W' => e = .returned (.tuple #[]) ∧ ∃ a F', WkS StAt w0 b F0 vs bw (siftEnd roots v best 8 s) a best few F' W' := by
  have hat := S.ok.lev07 v0 v7
  have E0 : EndAt roots v best (siftEnd roots v best 8 s) 8 s at_ := ⟨e, rfl, by omega, by omega⟩
  have WY := fun (W : World) (t : MS) (a : Int) (F : Nat → Prop) (S : WkS StAt w0 b F0 vs bw t a best few F W) (e : a = levO t.o v) down => siftWay H SC hv hl hr S e (by have := S.ok.lev07 v0 v7; omega) (by have := S.ok.lev07 v0 v7; omega) down
  generalize siftEnd roots v best 8 s = X at *
  clear hat e hv hl hr
  replace S := Lib.hid S
  replace E0 := Lib.hid E0
  replace WY := Lib.hid WY
  go_enter Tryz.func34, Tryz.ntmps34
  go_wp2
  go_loopw [] (fun wr => ∃ (n : Nat) (t : MS) (a : Int) (F' : Nat → Prop), WkS StAt w0 b F0 vs bw t a best few F' wr ∧ EndAt roots v best X n t a) (fun wr => (best - atOf wr bw).toNat)
  case atStart => exact ⟨8, s, at_, F, S.out, E0.out⟩
  case round =>
    clear S E0
    obtain ⟨n, t, a, F', S, E⟩ := hrel
    have ea := S.atOf
    have cx2 := fun u : Sub wr => (S.sub H u).cells.2.2.1
    have cx3 := fun u : Sub wr => (S.sub H u).cells.2.2.2.1
    by_cases hlt : a < best
    · have hd : decide (a < best) = true := decide_eq_true hlt
      have HP := fun u : Sub wr => WY.out _ _ _ _ (S.sub H u) E.1 true
      obtain ⟨g1, g2⟩ := E.down S.ok v0 v7 hlt
      simp only [wayF, if_true] at HP
      generalize t.step roots v true = r at *
      obtain ⟨r1, q⟩ := r
      dsimp only at *
      unfold WayPost at HP
      dsimp only at HP
      clear S E
      go_wp2
      refine wp_region_quiet_effect (C := fun w' => ∃ u : Sub wr, w' = u.1) 11 _ rfl (by kernel_rfl) (by kernel_rfl) (InSub.drew wr) (by simp only [List.drop_succ_cons, List.drop_zero]; exact panicsBy_cons (fun _ _ _ _ h => h) panicsBy_nil) ?_
      simp only [List.take_succ_cons, List.take_zero]
      iterate 11 (go_big_quiet_step (fail))
      refine wpQuiet_nil ?_
      clear cx2 cx3
      intro w' hw' K1 hK1
      obtain ⟨u, rfl⟩ := hw'
      have HM1 := HP u
      clear HP
      go_simp
      refine HM1.mono ?_
      rintro e W2 ⟨rfl, F2, S⟩
      clear HM1
      refine hK1.out _ _ ?_
      clear hK1 K1
      simp only [List.drop_succ_cons, List.drop_zero]
      refine wpPure_cons (v := ?_) (by rfl) ?_ ?_
      rotate_left
      · (intro w; go_simp <;> with_reducible rfl)
      simp only [Act.put, List.setIfInBounds_toArray, List.set_cons_zero, List.set_cons_succ]
      refine wpPure_nil ?_
      replace S := Lib.hid S
      cases r1
      · obtain rfl := g2 rfl
        replace S := S.out
        simp only [Bool.false_eq_true, if_false] at S
        go_wp2
        clear g1 g2 WY
        have cx2 := fun u : Sub W2 => (S.sub H u).cells.2.2.1
        have cx3 := fun u : Sub W2 => (S.sub H u).cells.2.2.2.1
        have hd2 : decide (best < a) = false := decide_eq_false (by omega)
        replace S := Lib.hid S
        refine wp_loop_rounds 1 ?_
        rw [rounds_succ]
        go_wp2
        refine wp_region_quiet_all (C := fun w' => ∃ u : Sub W2, w' = u.1) (by kernel_rfl) (by kernel_rfl) (InSub.drew W2) ?_
        iterate 10 (go_big_quiet_step (fail))
        iterate 2 go_big_quiet_skip
        go_big_quiet_step (fail)
        refine wpQuiet_nil ?_
        clear cx2 cx3
        intro w' hw'
        obtain ⟨u, rfl⟩ := hw'
        replace S := Lib.hid (S.out.sub H u)
        go_wp2
        exact bodyPost_end (v := .tuple #[]) (by simp [results, Tryz.results34, go_sem]) rfl ⟨rfl, _, _, S.out⟩
      · obtain ⟨m, E⟩ := g1 rfl
        replace S := S.out
        simp only [if_true] at S
        have eb := S.atOf
        go_wp2
        exact ⟨⟨m, q, _, F2, S, E⟩, by rw [ea, eb]; have : wayTo a true = a + 1 := rfl; omega⟩
    · have hd : decide (a < best) = false := decide_eq_false hlt
      replace S := Lib.hid S
      clear ea
      go_wp2
      refine wp_region_quiet_all (C := fun w' => ∃ u : Sub wr, w' = u.1) (by kernel_rfl) (by kernel_rfl) (InSub.drew wr) ?_
      iterate 10 (go_big_quiet_step (fail))
      iterate 2 go_big_quiet_skip
      go_big_quiet_step (fail)
      refine wpQuiet_nil ?_
      clear cx2 cx3
      intro w' hw'
      obtain ⟨u, rfl⟩ := hw'
      replace S := Lib.hid (S.out.sub H u)
      go_wp2
      generalize u.1 = wr1 at *
      replace hlt : best ≤ a := by omega
      clear hd
      go_loopw [] (fun wr => ∃ (n : Nat) (t : MS) (a : Int) (F' : Nat → Prop), WkS StAt w0 b F0 vs bw t a best few F' wr ∧ EndAt roots v best X n t a ∧ best ≤ a) (fun wr => (atOf wr bw - best).toNat)
      case atStart => exact ⟨n, t, a, F', S.out, E, hlt⟩
      case round =>
        clear S E hlt
        obtain ⟨n, t, a, F', S, E, hle⟩ := hrel
        have ea := S.atOf
        have cx2 := fun u : Sub wr => (S.sub H u).cells.2.2.1
        have cx3 := fun u : Sub wr => (S.sub H u).cells.2.2.2.1
        by_cases hlt : best < a
        · have hd : decide (best < a) = true := decide_eq_true hlt
          have HP := fun u : Sub wr => WY.out _ _ _ _ (S.sub H u) E.1 false
          obtain ⟨g1, g2⟩ := E.up S.ok v0 v7 hlt
          simp only [wayF, Bool.false_eq_true, if_false] at HP
          generalize t.step roots v false = r at *
          obtain ⟨r1, q⟩ := r
          dsimp only at *
          unfold WayPost at HP
          dsimp only at HP
          clear S E
          go_wp2
          refine wp_region_quiet_effect (C := fun w' => ∃ u : Sub wr, w' = u.1) 11 _ rfl (by kernel_rfl) (by kernel_rfl) (InSub.drew wr) (by simp only [List.drop_succ_cons, List.drop_zero]; exact panicsBy_cons (fun _ _ _ _ h => h) panicsBy_nil) ?_
          simp only [List.take_succ_cons, List.take_zero]
          iterate 11 (go_big_quiet_step (fail))
          refine wpQuiet_nil ?_
          clear cx2 cx3
          intro w' hw' K1 hK1
          obtain ⟨u, rfl⟩ := hw'
          have HM1 := HP u
          clear HP
          go_simp
          refine HM1.mono ?_
          rintro e W2 ⟨rfl, F2, S⟩
          clear HM1
          refine hK1.out _ _ ?_
          clear hK1 K1
          simp only [List.drop_succ_cons, List.drop_zero]
          refine wpPure_cons (v := ?_) (by rfl) ?_ ?_
          rotate_left
          · (intro w; go_simp <;> with_reducible rfl)
          simp only [Act.put, List.setIfInBounds_toArray, List.set_cons_zero, List.set_cons_succ]
          refine wpPure_nil ?_
          replace S := Lib.hid S
          cases r1
          · obtain rfl := g2 rfl
            replace S := S.out
            simp only [Bool.false_eq_true, if_false] at S
            replace S := Lib.hid S
            go_wp2
            exact bodyPost_end (v := .tuple #[]) (by simp [results, Tryz.results34, go_sem]) rfl ⟨rfl, _, _, S.out⟩
          · obtain ⟨m, E⟩ := g1 rfl
            replace S := S.out
            simp only [if_true] at S
            have eb := S.atOf
            go_wp2
            exact ⟨⟨m, q, _, F2, S, E, by have : wayTo a false = a - 1 := rfl; omega⟩, by rw [ea, eb]; have : wayTo a false = a - 1 := rfl; omega⟩
        · have hd : decide (best < a) = false := decide_eq_false hlt
          obtain rfl := E.at (by omega)
          replace S := Lib.hid S
          clear ea
          go_wp2
          refine wp_region_quiet_all (C := fun w' => ∃ u : Sub wr, w' = u.1) (by kernel_rfl) (by kernel_rfl) (InSub.drew wr) ?_
          iterate 10 (go_big_quiet_step (fail))
          iterate 2 go_big_quiet_skip
          go_big_quiet_step (fail)
          refine wpQuiet_nil ?_
          clear cx2 cx3
          intro w' hw'
          obtain ⟨u, rfl⟩ := hw'
          replace S := Lib.hid (S.out.sub H u)
          go_wp2
          exact bodyPost_end (v := .tuple #[]) (by simp [results, Tryz.results34, go_sem]) rfl ⟨rfl, _, _, S.out⟩

/-- A way as the code goes it: what is left of it. -/
def wayN (a : Int) (down : Bool) : Nat := if down then (8 - a).toNat else (a + 1).toNat
theorem wayN_to {a : Int} (down : Bool) (h0 : 0 ≤ a) (h7 : a ≤ 7) : wayN (wayTo a down) down < wayN a down := by
  unfold wayN wayTo
  cases down <;> simp <;> omega

theorem way_enters (down : Bool) (args : Array Value) (w : World) : Sem.run Tryz.prog (callFunc (wayF down) args) w = .ok (.enter (wayF down) args) w := by
  unfold wayF
  cases down <;> go_simp

set_option maxRecDepth 100000 in
set_option maxHeartbeats 8000000 in
theorem siftSeek (H : StoreC StAt) (SC : SweepC StAt) (hv : RootsAt w0 F0 vs roots) (hl : roots.length ≤ 100000) (hr : ∀ r ∈ roots, r ≤ 9223372036854775807 ∧ -9223372036854775808 ≤ r) (S : WkS StAt w0 b F0 vs bw s at_ best few F W) {v : Int} (v0 : 0 ≤ v) (v7 : v ≤ 7) (e : at_ = levO s.o v) (grow : Int) (down : Bool) :
    Calls Tryz.prog 31 #[.pointer (some ⟨bw, 0, none⟩), .func (.func (wayF down)) #[.pointer (some ⟨bw, 0, none⟩)] #[], .int .i64 grow] W fun e W' => e = .returned (.tuple #[]) ∧
      ∃ F', WkS StAt w0 b F0 vs bw (siftGo roots v grow down 8 ⟨s, few, best⟩).s (levO (siftGo roots v grow down 8 ⟨s, few, best⟩).s.o v) (siftGo roots v grow down 8 ⟨s, few, best⟩).best (siftGo roots v grow down 8 ⟨s, few, best⟩).few F' W' := by
  have hat := S.ok.lev07 v0 v7
  have E0 : wayFit at_ down 8 := e ▸ wayFit.eight down hat.1 hat.2
  have WY := fun (W : World) (t : MS) (a best few : Int) (F : Nat → Prop) (S : WkS StAt w0 b F0 vs bw t a best few F W) (e : a = levO t.o v) => siftWay H SC hv hl hr S e (by have := S.ok.lev07 v0 v7; omega) (by have := S.ok.lev07 v0 v7; omega) down
  obtain ⟨x0, hx0⟩ : ∃ x : Sft, x = ⟨s, few, best⟩ := ⟨_, rfl⟩
  have hX : siftGo roots v grow down 8 x0 = siftGo roots v grow down 8 ⟨s, few, best⟩ := by rw [hx0]
  generalize siftGo roots v grow down 8 ⟨s, few, best⟩ = X at *
  replace S : WkS StAt w0 b F0 vs bw x0.s at_ x0.best x0.few F W := by rw [hx0]; exact S
  replace e : at_ = levO x0.s.o v := by rw [hx0]; exact e
  clear hat hv hl hr hx0
  replace S := Lib.hid S
  replace WY := Lib.hid WY
  replace hX := Lib.hid hX
  have hen := way_enters down
  generalize hk : wayF down = k at *
  go_enter Tryz.func31, Tryz.ntmps31
  go_wp2
  go_loopw [] (fun wr => ∃ (n : Nat) (x : Sft) (a : Int) (F' : Nat → Prop), WkS StAt w0 b F0 vs bw x.s a x.best x.few F' wr ∧ a = levO x.s.o v ∧ wayFit a down n ∧ siftGo roots v grow down n x = X) (fun wr => wayN (atOf wr bw) down)
  case atStart => exact ⟨8, x0, at_, F, S.out, e, E0, hX.out⟩
  case round =>
    clear S E0 e hX
    obtain ⟨n, x, a, F', S, e, hfit, hX⟩ := hrel
    have ea := S.atOf
    have h07 := S.ok.lev07 v0 v7
    obtain ⟨m, rfl, hfit2⟩ := hfit.pos (e ▸ h07.1) (e ▸ h07.2)
    rw [siftGo_next] at hX
    have HP := WY.out _ _ _ _ _ _ S e
    have hto := fun h => S.ok.step_to (roots := roots) v0 v7 (down := down) h
    have hno := fun h => MS.step_no (s := x.s) (roots := roots) (v := v) (down := down) h
    have hok := S.ok.step roots v down
    rw [← e] at hto
    unfold Sft.met at hX
    unfold WayPost at HP
    generalize x.s.step roots v down = r at *
    obtain ⟨r1, t⟩ := r
    dsimp only at *
    clear S hfit
    go_wp2_with fail
    refine HP.mono ?_
    rintro e w1 ⟨rfl, F1, S⟩
    have HL := H.live S.st hok
    cases r1
    · simp only [Bool.false_eq_true, if_false, if_true] at hX S hno
      subst hX
      replace hno : levO t.o v = a := by rw [hno trivial, ← e]
      rw [← hno] at S
      replace S := Lib.hid S
      clear hen HL WY hto hno
      go_wp2
      exact bodyPost_end (v := .tuple #[]) (by simp [results, Tryz.results31, go_sem]) rfl ⟨rfl, _, S.out⟩
    · simp only [if_true, Bool.true_eq_false, if_false] at hX S hto
      replace hto := hto trivial
      have hmeas := wayN_to down (e ▸ h07.1) (e ▸ h07.2)
      replace e := Lib.hid e
      generalize wayTo a down = a2 at *
      obtain ⟨c0, _, _, _, _⟩ := S.cells
      replace S := Lib.hid S
      clear hen hno HP
      go_wp2_with fail
      refine HL.mono ?_
      rintro e2 w2 ⟨rfl, hb2⟩
      replace S := S.out.keep H hb2
      clear HL c0 hb2
      generalize hn : (t.all.length : Int) = n at *
      have ea2 := S.atOf
      obtain ⟨_, _, c2, _, c4⟩ := S.cells
      have f3 := S.free 3
      have f4 := S.free 4
      by_cases hlt : n < x.few
      · have S2 := (S.setBest H a2).setFew H n
        have ea3 := S2.atOf
        rw [if_pos hlt, if_pos hlt, hto] at hX
        replace S2 := Lib.hid S2
        by_cases hg : grow < n
        · rw [if_pos hg] at hX
          subst hX
          clear WY S
          go_wp2
          exact bodyPost_ret (v := .tuple #[]) (by simp [results, Tryz.results31, go_sem]) rfl ⟨rfl, _, S2.out⟩
        · rw [if_neg hg] at hX
          clear S
          go_wp2
          exact ⟨⟨m, _, _, _, S2.out, hto.symm, hfit2, hX⟩, by rw [ea, ea3]; exact hmeas⟩
      · rw [if_neg hlt, if_neg hlt] at hX
        replace S := Lib.hid S
        by_cases hg : grow < n
        · rw [if_pos hg] at hX
          subst hX
          clear WY
          go_wp2
          exact bodyPost_ret (v := .tuple #[]) (by simp [results, Tryz.results31, go_sem]) rfl ⟨rfl, _, S.out⟩
        · rw [if_neg hg] at hX
          go_wp2
          exact ⟨⟨m, _, _, _, S.out, hto.symm, hfit2, hX⟩, by rw [ea, ea2]; exact hmeas⟩
end

end Go.Proofs.YtdcomiopjgcboaaGreatDoor

/-
  The landed package sift keeps its contract.
-/
namespace Go.Proofs.YtdcomiopjgcboaaGreatDoor
open Go Go.RowKit

set_option maxRecDepth 100000 in
set_option maxHeartbeats 2000000 in
/-- slices.Index of an order that stands in a variable. -/
theorem indexO {w : World} {b : Nat} {o : Nat → Int} (h : HoldsO w b o) (v : Int) :
    Calls Tryz.prog 30 #[.slice (some ⟨b, 0, none⟩) 8 8, .int .i64 v] w fun e w' => e = .returned (.int .i64 (levO o v)) ∧ w' = w := by
  go_enter Tryz.func30, Tryz.ntmps30
  go_wp2
  go_loop [8] (fun i => ∃ n : Nat, n ≤ 8 ∧ i = .int .i64 n ∧ Hid (levO o v = lf o v (8 - n) n)) (fun i => 8 - (intOf i).toNat)
  case atStart => exact ⟨0, by omega, rfl, rfl⟩
  case round =>
    obtain ⟨n, hn, rfl, hr⟩ := hrel
    by_cases hlt : n < 8
    · have hs : levO o v = if o n = v then (n : Int) else lf o v (8 - (n + 1)) (n + 1) := by
        have := hr.out
        rw [show 8 - n = (8 - (n + 1)) + 1 by omega] at this
        exact this
      clear hr
      have hc := h.cell n hlt
      have hc2 : w.cell? ⟨b, 0 + n, none⟩ = some (.int .i64 (o n)) := by rw [Nat.zero_add]; exact hc
      have hn8 : (n : Int) < 8 := by omega
      have hn0 : (0 : Int) ≤ (n : Int) := by omega
      generalize hy : o n = y at *
      clear hy
      split at hs
      · rename_i hv
        have hvb : (v == y) = true := beq_iff_eq.2 hv.symm
        replace hs := Lib.hid hs
        clear hv
        go_wp2
        go_ret
        exact ⟨by rw [hs.out]; rfl, rfl⟩
      · rename_i hv
        have hvb : (v == y) = false := beq_eq_false_iff_ne.2 (Ne.symm hv)
        replace hs := Lib.hid hs
        clear hv
        go_wp2
        exact ⟨⟨n + 1, by omega, by go_num, hs⟩, by simp [intOf]; omega⟩
    · obtain rfl : n = 8 := by omega
      go_wp2
      go_ret
      exact ⟨by rw [hr.out]; rfl, rfl⟩

section
variable {StAt : World → Nat → (Nat → Prop) → MS → Prop} {w : World} {b : Nat} {F : Nat → Prop} {s : MS}
set_option maxRecDepth 100000 in
set_option maxHeartbeats 8000000 in
theorem siftSift (H : StoreC StAt) (SC : SweepC StAt) (h : StAt w b F s) (ok : s.Ok) (roots : List Int) (vs : Value) (hv : RootsAt w F vs roots) (hl : roots.length ≤ 100000) (hr : ∀ r ∈ roots, r ≤ 9223372036854775807 ∧ -9223372036854775808 ≤ r) (x grow : Int) :
    Calls Tryz.prog 11 #[.pointer (some ⟨b, 0, none⟩), vs, .int .i64 x, .int .i64 grow] w fun e w' => e = .returned (errV (s.sift roots x grow).1) ∧ ∃ F', StAt w' b F' (s.sift roots x grow).2 ∧ Keeps F w w' ∧ Within w F F' := by
  obtain ⟨av, cv, rfl⟩ := hv.reads.form
  by_cases hbad : x < 0 ∨ 7 < x ∨ grow < 0
  · have e : s.sift roots x grow = (1, s) := by unfold MS.sift; rw [if_pos hbad]
    rw [e, show errV 1 = .iface 63 (.int .i64 1) from rfl]
    have hend : ∃ F', StAt w b F' s ∧ Keeps F w w ∧ Within w F F' := ⟨F, h, Keeps.refl _ _, Within.refl _ _⟩
    replace hend := Lib.hid hend
    clear h hv hl hr
    by_cases h1 : x < 0
    · go_enter Tryz.func11, Tryz.ntmps11
      go_wp2
      go_ret
      exact ⟨rfl, hend.out⟩
    · by_cases h2 : 8 ≤ x
      · go_enter Tryz.func11, Tryz.ntmps11
        go_wp2
        go_ret
        exact ⟨rfl, hend.out⟩
      · have h3 : grow < 0 := by omega
        go_enter Tryz.func11, Tryz.ntmps11
        go_wp2
        go_ret
        exact ⟨rfl, hend.out⟩
  · have v0 : 0 ≤ x := by omega
    have v7 : x ≤ 7 := by omega
    have h1 : ¬ x < 0 := by omega
    have h2 : ¬ 8 ≤ x := by omega
    have h3 : ¬ grow < 0 := by omega
    have HS := SC.sweep h ok roots _ hv hl hr
    have ok1 := (ok.swept roots).1.ok
    have e : s.sift roots x grow = (0, siftEnd roots x (siftGo roots x grow false 8 (siftGo roots x grow true 8 ⟨(s.sweep roots).2, (s.sweep roots).2.all.length, levO (s.sweep roots).2.o x⟩)).best 8 (siftGo roots x grow false 8 (siftGo roots x grow true 8 ⟨(s.sweep roots).2, (s.sweep roots).2.all.length, levO (s.sweep roots).2.o x⟩)).s) := by unfold MS.sift; rw [if_neg hbad]
    rw [e]
    clear e hbad
    dsimp only
    rw [errV0]
    generalize (s.sweep roots).1 = fr at *
    generalize (s.sweep roots).2 = t at *
    have h07 := ok1.lev07 v0 v7
    generalize hx1 : siftGo roots x grow true 8 ⟨t, t.all.length, levO t.o x⟩ = x1 at *
    have okx1 : x1.s.Ok := hx1 ▸ MS.Ok.siftGo (x := ⟨t, t.all.length, levO t.o x⟩) true 8 ok1
    have hb1 : 0 ≤ x1.best ∧ x1.best ≤ 7 := hx1 ▸ siftGo_best v0 v7 true 8 ⟨t, t.all.length, levO t.o x⟩ ok1 h07
    generalize hx2 : siftGo roots x grow false 8 x1 = x2 at *
    have hb2 : 0 ≤ x2.best ∧ x2.best ≤ 7 := hx2 ▸ siftGo_best v0 v7 false 8 x1 okx1 hb1
    generalize hX : siftEnd roots x x2.best 8 x2.s = X at *
    have T1 := fun W F' bw (S : WkS StAt w b F (.slice av roots.length cv) bw t (levO t.o x) (levO t.o x) t.all.length F' W) => siftSeek H SC hv hl hr S v0 v7 rfl grow true
    rw [hx1] at T1
    have T2 := fun W F' bw (S : WkS StAt w b F (.slice av roots.length cv) bw x1.s (levO x1.s.o x) x1.best x1.few F' W) => siftSeek H SC hv hl hr S v0 v7 rfl grow false
    rw [hx2] at T2
    have T3 := fun W F' bw (S : WkS StAt w b F (.slice av roots.length cv) bw x2.s (levO x2.s.o x) x2.best x2.few F' W) => siftSettle H SC hv hl hr S v0 v7 rfl hb2
    rw [hX] at T3
    simp only [wayF, if_true, Bool.false_eq_true, if_false] at T1 T2
    have hlt0 := H.lt h
    have hF0 : ∀ bw, w.heap.size ≤ bw → ¬ F bw := fun bw hb q => by have := hlt0 _ q; omega
    clear hx1 hx2 hX okx1 hb1 hb2 v0 v7 hv hl hr h
    replace T1 := Lib.hid T1
    replace T2 := Lib.hid T2
    replace T3 := Lib.hid T3
    replace hF0 := Lib.hid hF0
    go_enter Tryz.func11, Tryz.ntmps11
    go_wp2_with fail
    refine HS.mono ?_
    rintro e w1 ⟨rfl, F1, hA, hK, hW⟩
    clear HS
    have HO := H.order hA ok1
    go_wp2_with fail
    refine HO.mono ?_
    rintro e w2 ⟨rfl, hb2⟩
    clear HO
    replace hA := H.below hA hb2
    have hKs := hK.size
    replace hK := hK.and (Keeps.of_below hb2 _)
    have hO := HoldsO.new w2 t.o w2.heap.size rfl
    have hbx := (Below.refl w2.heap.size w2).alloc (Nat.le_refl _) (.cells #[.int .i64 (t.o 0), .int .i64 (t.o 1), .int .i64 (t.o 2), .int .i64 (t.o 3), .int .i64 (t.o 4), .int .i64 (t.o 5), .int .i64 (t.o 6), .int .i64 (t.o 7)] 49)
    replace hA := H.below hA hbx
    replace hK := hK.and (Keeps.of_below hbx _)
    have HI := indexO hO x
    have hK0 : w.heap.size ≤ w2.heap.size := Nat.le_trans hKs hb2.size
    clear hb2
    unfold ov
    go_wp2_with fail
    refine HI.mono ?_
    rintro e w3 ⟨rfl, rfl⟩
    clear HI hO
    have hl1 : w.heap.size ≤ w2.heap.size := hK0
    generalize w2.alloc (.cells #[.int .i64 (t.o 0), .int .i64 (t.o 1), .int .i64 (t.o 2), .int .i64 (t.o 3), .int .i64 (t.o 4), .int .i64 (t.o 5), .int .i64 (t.o 6), .int .i64 (t.o 7)] 49) = w3 at *
    have HL := H.live hA ok1
    go_wp2_with fail
    refine HL.mono ?_
    rintro e w4 ⟨rfl, hb4⟩
    clear HL
    replace hA := H.below hA hb4
    replace hK := hK.and (Keeps.of_below hb4 _)
    clear hb4
    have hby := (Below.refl w4.heap.size w4).alloc (Nat.le_refl _) (.cells #[.pointer (some ⟨b, 0, none⟩), .slice av roots.length cv, .int .i64 (levO t.o x), .int .i64 (levO t.o x), .int .i64 t.all.length] 65)
    have S : WkS StAt w b F (.slice av roots.length cv) w4.heap.size t (levO t.o x) (levO t.o x) t.all.length F1 (w4.alloc (.cells #[.pointer (some ⟨b, 0, none⟩), .slice av roots.length cv, .int .i64 (levO t.o x), .int .i64 (levO t.o x), .int .i64 t.all.length] 65)) :=
      ⟨H.below hA hby, ok1, hK.and (Keeps.of_below hby _), hW, heap_alloc_new _ _, fun q => (hW _ q).elim (hF0.out _ hK.size) (fun q => by have := H.lt hA _ ‹_›; omega), hK.size⟩
    clear hby hA hK hW
    have TT := T1.out _ _ _ S
    clear S T1
    go_wp2_with fail
    refine TT.mono ?_
    rintro e w5 ⟨rfl, F2, S⟩
    clear TT
    have TT := T2.out _ _ _ S
    clear S T2
    go_wp2_with fail
    refine TT.mono ?_
    rintro e w6 ⟨rfl, F3, S⟩
    clear TT
    have TT := T3.out _ _ _ S
    clear S T3
    go_wp2_with fail
    refine TT.mono ?_
    rintro e w7 ⟨rfl, a, F4, S⟩
    clear TT
    replace S := Lib.hid S
    go_wp2
    go_ret
    exact ⟨rfl, F4, S.out.st, S.out.keeps, S.out.within⟩
/-- Within All. -/
structure AlS (StAt : World → Nat → (Nat → Prop) → MS → Prop) (w : World) (b : Nat) (F : Nat → Prop) (t : MS) (F' : Nat → Prop) (W : World) : Prop where
  st : StAt W b F' t
  ok : t.Ok
  keeps : Keeps F w W
  within : Within w F F'

set_option maxRecDepth 100000 in
set_option maxHeartbeats 8000000 in
theorem siftAllC (H : StoreC StAt) (SC : SweepC StAt) (h : StAt w b F s) (ok : s.Ok) (roots : List Int) (vs : Value) (hv : RootsAt w F vs roots) (hl : roots.length ≤ 100000) (hr : ∀ r ∈ roots, r ≤ 9223372036854775807 ∧ -9223372036854775808 ≤ r) (grow : Int) :
    Calls Tryz.prog 9 #[.pointer (some ⟨b, 0, none⟩), vs, .int .i64 grow] w fun e w' => e = .returned (errV (s.siftAll roots grow).1) ∧ ∃ F', StAt w' b F' (s.siftAll roots grow).2 ∧ Keeps F w w' ∧ Within w F F' := by
  have CS := fun W F' t (S : AlS StAt w b F t F' W) x => siftSift H SC S.st S.ok roots vs (hv.keep S.keeps S.within) hl hr x grow
  have S : AlS StAt w b F s F w := ⟨h, ok, Keeps.refl _ _, Within.refl _ _⟩
  clear h ok hv hl hr
  replace CS := Lib.hid CS
  by_cases hg : grow < 0
  · have e : s.siftAll roots grow = (1, s) := by unfold MS.siftAll; rw [if_pos hg]
    rw [e]
    have HS := CS.out _ _ _ S 0
    rw [show s.sift roots 0 grow = (1, s) by unfold MS.sift; rw [if_pos (by omega)], show errV 1 = .iface 63 (.int .i64 1) from rfl] at HS
    rw [show errV 1 = .iface 63 (.int .i64 1) from rfl]
    clear e S CS
    go_enter Tryz.func9, Tryz.ntmps9
    go_wp2
    refine wp_loop_rounds 1 ?_
    rw [rounds_succ]
    go_wp2_with fail
    refine HS.mono ?_
    rintro e w1 ⟨rfl, F1, hA, hK, hW⟩
    clear HS
    have hend : ∃ F', StAt w1 b F' s ∧ Keeps F w w1 ∧ Within w F F' := ⟨F1, hA, hK, hW⟩
    clear hA hK hW
    replace hend := Lib.hid hend
    go_wp2
    go_ret
    exact ⟨rfl, hend.out⟩
  · have e : s.siftAll roots grow = (0, s.siftTo roots grow 8) := by unfold MS.siftAll; rw [if_neg hg]
    rw [e, errV0]
    clear e
    have hx : ∀ k : Nat, k < 8 → (s.siftTo roots grow k).sift roots (k : Int) grow = (0, s.siftTo roots grow (k + 1)) := fun k hk => by
      have h1 : ((s.siftTo roots grow k).sift roots (k : Int) grow).1 = 0 := by unfold MS.sift; rw [if_neg (by omega)]
      exact Prod.ext h1 rfl
    have hok : ∀ k : Nat, (s.siftTo roots grow k).Ok := fun k => S.ok.siftTo roots grow k
    replace hx := Lib.hid hx
    replace hok := Lib.hid hok
    replace S := Lib.hid S
    go_enter Tryz.func9, Tryz.ntmps9
    go_wp2
    go_loopw [9] (fun i wr => ∃ (k : Nat) (F' : Nat → Prop), k ≤ 8 ∧ i = .int .i64 k ∧ AlS StAt w b F (s.siftTo roots grow k) F' wr) (fun i _ => 8 - (intOf i).toNat)
    case atStart => exact ⟨0, F, by omega, rfl, S.out⟩
    case round =>
      clear S
      obtain ⟨k, F', hk, rfl, S⟩ := hrel
      by_cases hlt : k < 8
      · have HS := CS.out _ _ _ S (k : Int)
        rw [hx.out k hlt, errV0] at HS
        have hok2 := hok.out (k + 1)
        have hk0 : (0 : Int) ≤ (k : Int) := by omega
        have hk8 : (k : Int) < 8 := by omega
        generalize ht : s.siftTo roots grow (k + 1) = t at *
        replace ht := Lib.hid ht
        replace S := Lib.hid S
        go_wp2_with fail
        refine HS.mono ?_
        rintro e w1 ⟨rfl, F1, hA, hK, hW⟩
        clear HS
        have S2 : AlS StAt w b F t F1 w1 := ⟨hA, hok2, S.out.keeps.trans hK S.out.within, S.out.within.trans hW S.out.keeps.size⟩
        clear hA hK hW S
        replace S2 := Lib.hid S2
        go_wp2
        exact ⟨⟨k + 1, F1, by omega, by go_num, by rw [ht.out]; exact S2.out⟩, by simp [intOf]; omega⟩
      · obtain rfl : k = 8 := by omega
        replace S := Lib.hid S
        clear CS hx hok
        go_wp2
        go_ret
        exact ⟨rfl, F', S.out.st, S.out.keeps, S.out.within⟩
end

/-- The landed package sift keeps its contract. -/
theorem siftC {StAt : World → Nat → (Nat → Prop) → MS → Prop} (H : StoreC StAt) (SC : SweepC StAt) : SiftC StAt where
  sift h ok roots v hv hl hr x grow := siftSift H SC h ok roots v hv hl hr x grow
  all h ok roots v hv hl hr grow := siftAllC H SC h ok roots v hv hl hr grow

end Go.Proofs.YtdcomiopjgcboaaGreatDoor

/-
  Mathematics of layers 9 to 11: if, then, else of nodes; what grows. Nothing of the program is read here.
-/
namespace Go.Proofs.YtdcomiopjgcboaaGreatDoor

/-- If, then, else of functions. -/
def iteF (f g h : Fn) : Fn := f &&& g ||| ~~~f &&& h
/-- What Ite comes to. -/
def MS.ite (s : MS) (f g h : Int) : Int × Int × MS := if s.there f = true ∧ s.there g = true ∧ s.there h = true then MS.bld 8 s (iteF (s.tab f) (s.tab g) (s.tab h)) else (0, 1, s)
/-- What Xor comes to. -/
def MS.xor (s : MS) (f g : Int) : Int × Int × MS :=
  if s.there f = true ∧ s.there g = true then
    let n := s.ite g 0 1
    if n.2.1 ≠ 0 then (0, n.2.1, n.2.2) else n.2.2.ite f n.1 g
  else (0, 1, s)
/-- What Restrict comes to. -/
def MS.restr (s : MS) (f v : Int) (b : Bool) : Int × Int × MS := if s.there f = true ∧ 0 ≤ v ∧ v ≤ 7 then MS.bld 8 s (cofAny (s.tab f) v b) else (0, 1, s)
/-- What Compose (0), Exists (1), Forall (2) come to. -/
def MS.three (s : MS) (what : Int) (f v g : Int) : Int × Int × MS :=
  if what = 0 ∧ s.there g = false then (0, 1, s)
  else
    let a := s.restr f v false
    if a.2.1 ≠ 0 then (0, a.2.1, a.2.2)
    else
      let b := a.2.2.restr f v true
      if b.2.1 ≠ 0 then (0, b.2.1, b.2.2)
      else if what = 0 then b.2.2.ite g b.1 a.1
      else if what = 1 then b.2.2.ite a.1 1 b.1
      else b.2.2.ite a.1 b.1 0

/-- No number's function is another one. -/
structure MS.Grows (s t : MS) : Prop where
  there : ∀ n, s.there n = true → t.there n = true
  val : ∀ (b : Int → Bool) n, s.there n = true → t.val b n = s.val b n

section
variable {s t u : MS}
theorem MS.there_mono' (h : ∀ n, s.has n = true → t.has n = true) {n : Int} (hn : s.there n = true) : t.there n = true := by
  rcases MS.there_cases hn with ⟨rfl | rfl, _⟩ | hn
  · rfl
  · rfl
  · simp [MS.there, h n hn]
theorem MS.Grows.refl (s : MS) : MS.Grows s s := ⟨fun _ h => h, fun _ _ _ => rfl⟩
theorem MS.Grows.trans (h : MS.Grows s t) (k : MS.Grows t u) : MS.Grows s u := ⟨fun n hn => k.there n (h.there n hn), fun b n hn => (k.val b n (h.there n hn)).trans (h.val b n hn)⟩
theorem MS.Grows.of_ext (e : MS.Ext s t) (hs : s.Ok) (ht : t.Ok) : MS.Grows s t := ⟨fun _ hn => e.there hn, fun b n hn => e.val hs ht b _ n (Nat.le_refl _) hn⟩
theorem MS.Grows.of_swap (hs : s.Ok) (l : Int) : MS.Grows s (s.swap l).2 := ⟨fun _ hn => MS.there_mono' (fun _ hm => hs.swap_has l hm) hn, fun b _ hn => hs.swap_val l b hn⟩
theorem MS.Grows.tab (h : MS.Grows s t) {n : Int} (hn : s.there n = true) : t.tab n = s.tab n := fn_ext fun k hk => by
  rw [MS.tab_bit _ _ hk, MS.tab_bit _ _ hk, h.val _ n hn]

theorem MS.Ok.bld_ok (h : s.Ok) (f : Fn) : (MS.bld 8 s f).2.2.Ok := (MS.bld_spec 8 s f h (supN_8 f)).1
theorem MS.Ok.bld_err (h : s.Ok) (f : Fn) : 0 ≤ (MS.bld 8 s f).2.1 ∧ (MS.bld 8 s f).2.1 ≤ 8 := by
  rcases (MS.bld_spec 8 s f h (supN_8 f)).2.2.1 with h | h <;> rw [h] <;> decide
theorem MS.Ok.ite_spec (h : s.Ok) (f g k : Int) : (s.ite f g k).2.2.Ok ∧ MS.Ext s (s.ite f g k).2.2 ∧ (0 ≤ (s.ite f g k).2.1 ∧ (s.ite f g k).2.1 ≤ 8) ∧
    ((s.ite f g k).2.1 = 0 → (s.ite f g k).2.2.there (s.ite f g k).1 = true ∧ (s.ite f g k).2.2.tab (s.ite f g k).1 = iteF (s.tab f) (s.tab g) (s.tab k)) := by
  unfold MS.ite
  split
  · have := MS.bld_spec 8 s (iteF (s.tab f) (s.tab g) (s.tab k)) h (supN_8 _)
    exact ⟨this.1, this.2.1, h.bld_err _, this.2.2.2.1⟩
  · exact ⟨h, MS.Ext.refl s, by dsimp only; omega, fun e => by dsimp only at e; omega⟩
theorem MS.Ok.xor_spec (h : s.Ok) (f g : Int) : (s.xor f g).2.2.Ok ∧ MS.Ext s (s.xor f g).2.2 ∧ (0 ≤ (s.xor f g).2.1 ∧ (s.xor f g).2.1 ≤ 8) := by
  unfold MS.xor
  split
  · obtain ⟨h1, h2, h3, _⟩ := h.ite_spec g 0 1
    dsimp only
    split
    · exact ⟨h1, h2, h3⟩
    · obtain ⟨k1, k2, k3, _⟩ := h1.ite_spec f (s.ite g 0 1).1 g
      exact ⟨k1, h2.trans k2, k3⟩
  · exact ⟨h, MS.Ext.refl s, by dsimp only; omega⟩
theorem MS.Ok.restr_spec (h : s.Ok) (f v : Int) (b : Bool) : (s.restr f v b).2.2.Ok ∧ MS.Ext s (s.restr f v b).2.2 ∧ (0 ≤ (s.restr f v b).2.1 ∧ (s.restr f v b).2.1 ≤ 8) ∧
    ((s.restr f v b).2.1 = 0 → (s.restr f v b).2.2.there (s.restr f v b).1 = true ∧ (s.restr f v b).2.2.tab (s.restr f v b).1 = cofAny (s.tab f) v b) := by
  unfold MS.restr
  split
  · have := MS.bld_spec 8 s (cofAny (s.tab f) v b) h (supN_8 _)
    exact ⟨this.1, this.2.1, h.bld_err _, this.2.2.2.1⟩
  · exact ⟨h, MS.Ext.refl s, by dsimp only; omega, fun e => by dsimp only at e; omega⟩
theorem MS.Ok.three_spec (h : s.Ok) (what f v g : Int) : (s.three what f v g).2.2.Ok ∧ MS.Ext s (s.three what f v g).2.2 ∧ (0 ≤ (s.three what f v g).2.1 ∧ (s.three what f v g).2.1 ≤ 8) := by
  unfold MS.three
  split
  · exact ⟨h, MS.Ext.refl s, by dsimp only; omega⟩
  · obtain ⟨h1, h2, h3, _⟩ := h.restr_spec f v false
    dsimp only
    split
    · exact ⟨h1, h2, h3⟩
    · obtain ⟨k1, k2, k3, _⟩ := h1.restr_spec f v true
      split
      · exact ⟨k1, h2.trans k2, k3⟩
      · split
        · obtain ⟨j1, j2, j3, _⟩ := k1.ite_spec g ((s.restr f v false).2.2.restr f v true).1 (s.restr f v false).1
          exact ⟨j1, (h2.trans k2).trans j2, j3⟩
        · split
          · obtain ⟨j1, j2, j3, _⟩ := k1.ite_spec (s.restr f v false).1 1 ((s.restr f v false).2.2.restr f v true).1
            exact ⟨j1, (h2.trans k2).trans j2, j3⟩
          · obtain ⟨j1, j2, j3, _⟩ := k1.ite_spec (s.restr f v false).1 ((s.restr f v false).2.2.restr f v true).1 0
            exact ⟨j1, (h2.trans k2).trans j2, j3⟩
end

end Go.Proofs.YtdcomiopjgcboaaGreatDoor

/-
  What is asked of the code's packages ite, oper, quant, whatever they are; both stores and a cache side by side.
-/
namespace Go.Proofs.YtdcomiopjgcboaaGreatDoor
open Go Go.RowKit

/-- What a call that makes nodes by a cache comes to: the number, the error, the store; store and cache stay apart. -/
def CallPost (StAt CAt : World → Nat → (Nat → Prop) → MS → Prop) (w : World) (b c : Nat) (F G : Nat → Prop) (r : Int × Int × MS) (e : Ending) (w' : World) : Prop :=
  e = .returned (.tuple #[.int .i64 r.1, errV r.2.1]) ∧ ∃ F' G', StAt w' b F' r.2.2 ∧ CAt w' c G' r.2.2 ∧ (∀ k, F' k → ¬ G' k) ∧ Keeps (fun k => F k ∨ G k) w w' ∧ Within w (fun k => F k ∨ G k) F' ∧ Within w (fun k => F k ∨ G k) G'

/-- A number of the language. -/
def I64 (n : Int) : Prop := n ≤ 9223372036854775807 ∧ -9223372036854775808 ≤ n

/-- Each call of package ite. -/
structure IteC (StAt CAt : World → Nat → (Nat → Prop) → MS → Prop) : Prop where ofAll ::
  lt : ∀ {w c F s}, CAt w c F s → ∀ k, F k → k < w.heap.size
  keep : ∀ {w w' c F s} {G : Nat → Prop}, CAt w c F s → Keeps G w w' → (∀ k, F k → ¬ G k) → CAt w' c F s
  grows : ∀ {w c F s t}, CAt w c F s → s.Ok → t.Ok → MS.Grows s t → CAt w c F t

/-- Both stores, and the code's cache, apart from each other and from all that stood in w0. -/
structure P3 (StAt CAt : World → Nat → (Nat → Prop) → MS → Prop) (w0 : World) (bA bM bC : Nat) (FA FM FC : Nat → Prop) (s : MS) (W : World) : Prop where
  p : P2 StAt w0 bA bM FA FM s s W
  c : CAt W bC FC s
  apA : ∀ k, FA k → ¬ FC k
  apM : ∀ k, FM k → ¬ FC k
  lowC : ∀ k, FC k → w0.heap.size ≤ k

section
variable {StAt CAt : World → Nat → (Nat → Prop) → MS → Prop} {w0 W W' : World} {bA bM bC : Nat} {FA FM FC FA' FM' FC' : Nat → Prop} {s t : MS}

theorem P3.keep (H : StoreC StAt) (I : IteC StAt CAt) (h : P3 StAt CAt w0 bA bM bC FA FM FC s W) (hb : Below W.heap.size W W') : P3 StAt CAt w0 bA bM bC FA FM FC s W' :=
  ⟨h.p.keep H hb, I.keep h.c (Keeps.of_below hb noBlock) (fun _ _ h => h), h.apA, h.apM, h.lowC⟩
/-- Both stores have gone on, the code's first. -/
theorem P3.stores (H : StoreC StAt) (I : IteC StAt CAt) (h : P3 StAt CAt w0 bA bM bC FA FM FC s W) (ok : s.Ok) (ok' : t.Ok) (hg : MS.Grows s t) {W1 : World} (hA : StAt W1 bA FA' t) (hK : Keeps FA W W1) (hW : Within W FA FA') :
    P2 StAt w0 bA bM FA' FM t s W1 ∧ CAt W1 bC FC t ∧ (∀ k, FA' k → ¬ FC k) := by
  refine ⟨h.p.code H hA hK hW, I.grows (I.keep h.c hK fun k h1 h2 => h.apA k h2 h1) ok ok' hg, fun k h1 h2 => ?_⟩
  exact (hW k h1).elim (fun h3 => h.apA k h3 h2) (fun h3 => by have := I.lt h.c k h2; omega)
theorem P3.model (H : StoreC StAt) (I : IteC StAt CAt) {W1 : World} (p : P2 StAt w0 bA bM FA' FM t s W1) (c : CAt W1 bC FC' t) (apA : ∀ k, FA' k → ¬ FC' k) (apM : ∀ k, FM k → ¬ FC' k) (lowC : ∀ k, FC' k → w0.heap.size ≤ k) (hM : RefSAt W' bM FM' t) (hK : Keeps FM W1 W') (hW : Within W1 FM FM') :
    P3 StAt CAt w0 bA bM bC FA' FM' FC' t W' :=
  ⟨p.ref H hM hK hW, I.keep c hK fun k h1 h2 => apM k h2 h1, apA, fun k h1 h2 => (hW k h1).elim (fun h3 => apM k h3 h2) (fun h3 => by have := I.lt c k h2; omega), lowC⟩
/-- The code's store and cache have gone on. -/
theorem P3.call (_H : StoreC StAt) (_I : IteC StAt CAt) (h : P3 StAt CAt w0 bA bM bC FA FM FC s W) {W1 : World} (hA : StAt W1 bA FA' t) (hK : Keeps (fun k => FA k ∨ FC k) W W1) (hA' : Within W (fun k => FA k ∨ FC k) FA') (hC' : Within W (fun k => FA k ∨ FC k) FC') :
    P2 StAt w0 bA bM FA' FM t s W1 ∧ (∀ k, FM k → ¬ FC' k) ∧ (∀ k, FC' k → w0.heap.size ≤ k) := by
  have hlow : ∀ k, (FA k ∨ FC k) → w0.heap.size ≤ k := fun k hk => hk.elim (h.p.lowA k) (h.lowC k)
  refine ⟨⟨hA, h.p.m.keep hK fun k h1 h2 => h2.elim (fun h3 => h.p.apart k h3 h1) (fun h3 => h.apM k h1 h3), fun k h1 h2 => ?_, fun k h1 => ?_, h.p.lowM, h.p.below.trans (hK.below h.p.below.size hlow)⟩, fun k h1 h2 => ?_, fun k h1 => ?_⟩
  · rcases hA' k h1 with (h3 | h3) | h3
    · exact h.p.apart k h3 h2
    · exact h.apM k h2 h3
    · have := h.p.m.lt k h2; omega
  · exact (hA' k h1).elim (hlow k) (fun h3 => Nat.le_trans h.p.below.size h3)
  · rcases hC' k h2 with (h3 | h3) | h3
    · exact h.p.apart k h3 h1
    · exact h.apM k h1 h3
    · have := h.p.m.lt k h1; omega
  · exact (hC' k h1).elim (hlow k) (fun h3 => Nat.le_trans h.p.below.size h3)
/-- The cache alone has turned. -/
theorem P3.flushed (H : StoreC StAt) (_I : IteC StAt CAt) (h : P3 StAt CAt w0 bA bM bC FA FM FC s W) (hC : CAt W' bC FC' s) (hK : Keeps FC W W') (hW : Within W FC FC') : P3 StAt CAt w0 bA bM bC FA FM FC' s W' :=
  ⟨⟨H.keep h.p.a hK (fun k h1 h2 => h.apA k h1 h2), h.p.m.keep hK (fun k h1 h2 => h.apM k h1 h2), h.p.apart, h.p.lowA, h.p.lowM, h.p.below.trans (hK.below h.p.below.size h.lowC)⟩, hC,
    fun k h1 h2 => (hW k h2).elim (h.apA k h1) (fun h3 => by have := H.lt h.p.a k h1; omega), fun k h1 h2 => (hW k h2).elim (h.apM k h1) (fun h3 => by have := h.p.m.lt k h1; omega), fun k h1 => (hW k h1).elim (h.lowC k) (fun h3 => Nat.le_trans h.p.below.size h3)⟩
end

end Go.Proofs.YtdcomiopjgcboaaGreatDoor
