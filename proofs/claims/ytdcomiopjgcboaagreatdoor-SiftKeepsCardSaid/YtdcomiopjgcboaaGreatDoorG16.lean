/-
  Texts of this proof, one behind the other: SweepC, SweepL, Idle, SiftM, SweepN, SiftC.
-/
import Derived.Test.YtdcomiopjgcboaaGreatDoorG8
import Derived.Test.YtdcomiopjgcboaaGreatDoorG15
import Derived.Test.YtdcomiopjgcboaaGreatDoorG1
import Derived.Test.YtdcomiopjgcboaaGreatDoorG2
import Derived.Test.YtdcomiopjgcboaaGreatDoorG5
import Derived.Test.YtdcomiopjgcboaaGreatDoorG3
import Derived.Test.YtdcomiopjgcboaaGreatDoorG14
/-
  What is asked of the code's package sweep, whatever it is; its example.
-/
namespace Go.Proofs.YtdcomiopjgcboaaGreatDoor
open Go Go.RowKit

/-- Roots that stay while F turns. -/
def RootsAt (w : World) (F : Nat → Prop) (v : Value) (roots : List Int) : Prop := ∀ W, Keeps F w W → Reads encI W v roots
theorem RootsAt.reads {w : World} {F : Nat → Prop} {v : Value} {roots : List Int} (h : RootsAt w F v roots) : Reads encI w v roots := h w (Keeps.refl _ _)
theorem RootsAt.keep {w w' : World} {F F' : Nat → Prop} {v : Value} {roots : List Int} (h : RootsAt w F v roots) (hk : Keeps F w w') (hW : Within w F F') : RootsAt w' F' v roots := fun W hW' => h W (hk.trans hW' hW)
theorem RootsAt.below {w w' : World} {F : Nat → Prop} {v : Value} {roots : List Int} (h : RootsAt w F v roots) (hb : Below w.heap.size w w') : RootsAt w' F v roots := h.keep (Keeps.of_below hb F) (Within.refl _ _)
theorem RootsAt.of_owns {w : World} {F : Nat → Prop} {v : Value} {roots : List Int} (h : Owns encI w v roots) (hF : ∀ g, v.ownBlock = some g → ¬ F g) : RootsAt w F v roots := fun _ hk => (h.keep hk hF).reads
theorem RootsAt.none (w : World) (F : Nat → Prop) : RootsAt w F (.slice none 0 0) [] := RootsAt.of_owns (Owns.nil _ _) (fun _ h => by cases h)
theorem ownsOne (W : World) (n : Int) : Owns encI (W.alloc (.cells #[.int .i64 n] 3)) (.slice (some ⟨W.heap.size, 0, none⟩) 1 1) [n] := World.ownsRow_lit W #[.int .i64 n] 1 (Nat.zero_le _) (by unfold maxLen; decide) rfl

/-- Each call of package sweep. -/
structure SweepC (StAt : World → Nat → (Nat → Prop) → MS → Prop) : Prop where ofAll ::
  sweep : ∀ {w b F s}, StAt w b F s → s.Ok → ∀ (roots : List Int) (v : Value), RootsAt w F v roots → roots.length ≤ 100000 → (∀ r ∈ roots, r ≤ 9223372036854775807 ∧ -9223372036854775808 ≤ r) → Calls Tryz.prog 18 #[.pointer (some ⟨b, 0, none⟩), v] w fun e w' => e = .returned (.int .i64 (s.sweep roots).1) ∧ ∃ F', StAt w' b F' (s.sweep roots).2 ∧ Keeps F w w' ∧ Within w F F'

open Classical in
/-- Without roots nothing is reached. -/
theorem MS.reach_none (s : MS) : s.reach [] = [] := by
  unfold MS.reach
  rw [List.filter_eq_nil_iff]
  intro n hm h
  have hr : s.Rch [] n := of_decide_eq_true h
  clear h hm
  induction hr with
  | root h _ => cases h
  | lo _ _ ih => exact ih
  | hi _ _ ih => exact ih
open Classical in
/-- Where roots are all there is. -/
theorem MS.Base.reach_all_of {s : MS} (ok : s.Base) {roots : List Int} (h : ∀ n, s.has n = true → n ∈ roots) : s.reach roots = s.all := by
  unfold MS.reach
  rw [List.filter_eq_self]
  intro n hn
  have hh := ok.mem_all.1 hn
  exact decide_eq_true (.root (h n hh) hh)
theorem MS.Ok.sweep_none {s : MS} (h : s.Ok) : (s.sweep []).1 = s.all.length ∧ (s.sweep []).2.all = [] := by
  obtain ⟨a, b⟩ := h.swept []
  rw [s.reach_none] at b
  exact ⟨by simpa using b, by rw [a.all, s.reach_none]⟩
theorem MS.Ok.sweep_all {s : MS} (h : s.Ok) {roots : List Int} (hr : ∀ n, s.has n = true → n ∈ roots) : (s.sweep roots).1 = 0 ∧ (s.sweep roots).2.all = s.all := by
  obtain ⟨a, b⟩ := h.swept roots
  rw [h.toBase.reach_all_of hr] at b
  exact ⟨by omega, by rw [a.all, h.toBase.reach_all_of hr]⟩

end Go.Proofs.YtdcomiopjgcboaaGreatDoor

/-
  Mathematics of the landed Sweep: what isn't reached, laid by variables, is freed one behind the other. Nothing of the program is read here.
-/
namespace Go.Proofs.YtdcomiopjgcboaaGreatDoor

/-- It isn't in K, and of this variable. -/
def MS.out (s : MS) (K : List Int) (v : Int) (n : Int) : Bool := decide ((s.nd n).var = v ∧ n ∉ K)
/-- Of a variable what isn't in K. -/
def MS.idle (s : MS) (K : List Int) (v : Int) : List Int := s.all.filter (s.out K v)
/-- What goes on the first levels. -/
def MS.goes (s : MS) (K : List Int) : Nat → List Int
  | 0 => []
  | l + 1 => s.goes K l ++ s.idle K (s.o l)
/-- One that goes. -/
def MS.free1 (r : Int × MS) (n : Int) : Int × MS := (r.1 + 1, (r.2.free n).2)

theorem MS.free_N (s : MS) (n : Int) : (s.free n).2.N = s.N := by unfold MS.free; split <;> rfl
theorem MS.mem_idle {s : MS} (ok : s.Base) {K : List Int} {v n : Int} : n ∈ s.idle K v ↔ s.has n = true ∧ (s.nd n).var = v ∧ n ∉ K := by
  unfold MS.idle MS.out
  rw [List.mem_filter, ok.mem_all, decide_eq_true_eq]
theorem MS.mem_goes {s : MS} (ok : s.Base) {K : List Int} {n : Int} : ∀ {l : Nat}, n ∈ s.goes K l → n ∉ K ∧ ∃ j, j < l ∧ (s.nd n).var = s.o j := by
  intro l
  induction l with
  | zero => intro h; cases h
  | succ l ih =>
    intro h
    rcases List.mem_append.1 h with h | h
    · obtain ⟨a, j, hj, e⟩ := ih h
      exact ⟨a, j, by omega, e⟩
    · obtain ⟨_, b, c⟩ := (MS.mem_idle ok).1 h
      exact ⟨c, l, by omega, b⟩

theorem foldl_sw1 {s : MS} {K : List Int} {v : Int} : ∀ (X : List Int) (r : Int × MS), r.2.N = s.N → X.foldl (MS.sw1 K v) r = (X.filter (s.out K v)).foldl MS.free1 r
  | [], _, _ => rfl
  | n :: X, r, h => by
    have hn : r.2.nd n = s.nd n := by unfold MS.nd; rw [h]
    rw [List.foldl_cons]
    by_cases hp : (s.nd n).var = v ∧ n ∉ K
    · have e : MS.sw1 K v r n = MS.free1 r n := by unfold MS.sw1 MS.free1; rw [hn, if_pos hp]
      have ep : s.out K v n = true := decide_eq_true hp
      rw [List.filter_cons_of_pos ep, List.foldl_cons, e]
      exact foldl_sw1 X _ ((MS.free_N _ _).trans h)
    · have e : MS.sw1 K v r n = r := by unfold MS.sw1; rw [hn, if_neg hp]
      have ep : ¬ s.out K v n = true := by unfold MS.out; simpa using hp
      rw [List.filter_cons_of_neg ep, e]
      exact foldl_sw1 X _ h

/-- As far as some went. -/
structure Gone (s : MS) (K : List Int) (l : Nat) (G : List Int) (r : Int × MS) : Prop where
  i : SwI s K r
  d : SwDone s K r l
  has : ∀ m, r.2.has m = true ↔ s.has m = true ∧ m ∉ G
section
variable {s : MS} {K : List Int}
theorem Gone.yes {l : Nat} {G : List Int} {r : Int × MS} (h : Gone s K l G r) (ok : s.Ok) (hc : SwClosed s K) (hl : l < 8) {n : Int} (hn : n ∈ s.idle K (s.o l)) (hG : n ∉ G) : r.2.Ok ∧ (r.2.free n).1 = 0 ∧ Gone s K l (G ++ [n]) (MS.free1 r n) := by
  obtain ⟨a, b, c⟩ := (MS.mem_idle ok.toBase).1 hn
  have hr := (h.has n).2 ⟨a, hG⟩
  have hv : (r.2.nd n).var = r.2.o l := by rw [h.i.nd, h.i.o]; exact b
  obtain ⟨f0, f1, _⟩ := h.i.free hc h.d hl hr hv c
  obtain ⟨s1, s2, _⟩ := h.i.step hc h.d hl hr
  have e : MS.sw1 K (r.2.o l) r n = MS.free1 r n := by unfold MS.sw1 MS.free1; rw [if_pos ⟨hv, c⟩]
  rw [e] at s1 s2
  refine ⟨h.i.ok, f0, s1, s2, fun m => ?_⟩
  show (r.2.free n).2.has m = true ↔ _
  rw [f1, h.has, List.mem_append, List.mem_singleton]
  constructor
  · rintro ⟨⟨x, y⟩, z⟩; exact ⟨x, fun q => q.elim y z⟩
  · rintro ⟨x, y⟩; exact ⟨⟨x, fun q => y (.inl q)⟩, fun q => y (.inr q)⟩
theorem MS.idle_nodup (s : MS) (K : List Int) (v : Int) : (s.idle K v).Nodup := List.Pairwise.filter _ s.all_nodup
/-- Within a level. -/
theorem Gone.upto {l : Nat} {r : Int × MS} (h : Gone s K l (s.goes K l) r) (ok : s.Ok) (hc : SwClosed s K) (hl : l < 8) : ∀ i, i ≤ (s.idle K (s.o l)).length → Gone s K l (s.goes K l ++ (s.idle K (s.o l)).take i) (((s.idle K (s.o l)).take i).foldl MS.free1 r) ∧
      ∀ hi : i < (s.idle K (s.o l)).length, (s.idle K (s.o l))[i] ∉ s.goes K l ++ (s.idle K (s.o l)).take i := by
  have away : ∀ i (hi : i < (s.idle K (s.o l)).length), (s.idle K (s.o l))[i] ∉ s.goes K l ++ (s.idle K (s.o l)).take i := fun i hi hm => by
    have hin := List.getElem_mem hi
    obtain ⟨_, b, _⟩ := (MS.mem_idle ok.toBase).1 hin
    rcases List.mem_append.1 hm with hm | hm
    · obtain ⟨_, j, hj, e⟩ := MS.mem_goes ok.toBase hm
      have e1 := levO_at ok.order (i := j) (by omega) e.symm
      have e2 := levO_at ok.order hl b.symm
      omega
    · obtain ⟨k, hk, e⟩ := List.mem_take_iff_getElem.1 hm
      have := (List.getElem_inj (s.idle_nodup K (s.o l))).1 e
      omega
  intro i
  induction i with
  | zero => intro _; exact ⟨by simpa using h, away 0⟩
  | succ i ih =>
    intro hi
    obtain ⟨a, b⟩ := ih (by omega)
    have hlt : i < (s.idle K (s.o l)).length := by omega
    obtain ⟨_, _, c⟩ := a.yes ok hc hl (List.getElem_mem hlt) (b hlt)
    refine ⟨?_, away (i + 1)⟩
    rw [List.take_succ_eq_append_getElem hlt, List.foldl_append, ← List.append_assoc]
    exact c
theorem Gone.next {l : Nat} {r : Int × MS} (h : Gone s K l (s.goes K l) r) (ok : s.Ok) (hc : SwClosed s K) (hl : l < 8) : MS.swLevel K r l = (s.idle K (s.o l)).foldl MS.free1 r ∧ Gone s K (l + 1) (s.goes K (l + 1)) (MS.swLevel K r l) := by
  have e : MS.swLevel K r l = (s.idle K (s.o l)).foldl MS.free1 r := by
    unfold MS.swLevel
    rw [foldl_sw1 (s := s) _ _ h.i.N, h.i.o]
    congr 1
    unfold MS.idle MS.all
    rw [List.filter_filter, List.filter_filter, h.i.N]
    refine List.filter_congr fun n _ => ?_
    cases ho : s.out K (s.o l) n
    · rw [Bool.false_and, Bool.false_and]
    · rw [Bool.true_and, Bool.true_and]
      have hv : (s.nd n).var = s.o l ∧ n ∉ K := of_decide_eq_true ho
      have := h.has n
      cases hs : s.has n
      · cases hr : r.2.has n
        · rfl
        · rw [hr, hs] at this; exact absurd (this.1 rfl).1 (by decide)
      · refine this.2 ⟨hs, fun hm => ?_⟩
        obtain ⟨_, j, hj, e⟩ := MS.mem_goes ok.toBase hm
        have e1 := levO_at ok.order (i := j) (by omega) e.symm
        have e2 := levO_at ok.order hl hv.1.symm
        omega
  obtain ⟨a, b⟩ := h.i.next hc hl h.d
  refine ⟨e, a, b, fun m => ?_⟩
  have c := (h.upto ok hc hl _ (Nat.le_refl _)).1
  rw [List.take_length] at c
  rw [e]
  exact c.has m
/-- Behind the first levels. -/
theorem MS.Ok.gone (ok : s.Ok) (hc : SwClosed s K) : ∀ l, l ≤ 8 → Gone s K l (s.goes K l) (MS.swTo K (0, s) l)
  | 0, _ => ⟨SwI.start ok K, fun n hn hl => by have := (ok.lev hn).1; omega, fun m => by simp [MS.goes, MS.swTo]⟩
  | l + 1, hl => by
    rw [MS.swTo_succ]
    exact ((MS.Ok.gone ok hc l (by omega)).next ok hc (by omega)).2

/-- Behind the first levels, and some of the next one. -/
noncomputable def MS.sweepAt (s : MS) (roots : List Int) (l i : Nat) : Int × MS := ((s.idle (s.reach roots) (s.o l)).take i).foldl MS.free1 (MS.swTo (s.reach roots) (0, s) l)
theorem MS.sweepAt_start (s : MS) (roots : List Int) : s.sweepAt roots 0 0 = (0, s) := by simp [MS.sweepAt, MS.swTo]
theorem MS.Ok.sweepAt_ok (ok : s.Ok) (roots : List Int) {l : Nat} (hl : l < 8) {i : Nat} (hi : i < (s.idle (s.reach roots) (s.o l)).length) :
    (s.sweepAt roots l i).2.Ok ∧ (((s.sweepAt roots l i).2.free (s.idle (s.reach roots) (s.o l))[i]).1 = 0) ∧ s.sweepAt roots l (i + 1) = ((s.sweepAt roots l i).1 + 1, ((s.sweepAt roots l i).2.free (s.idle (s.reach roots) (s.o l))[i]).2) := by
  have hc := ok.reach_closed roots
  obtain ⟨a, b⟩ := (ok.gone hc l (by omega)).upto ok hc hl i (by omega)
  obtain ⟨x, y, _⟩ := a.yes ok hc hl (List.getElem_mem hi) (b hi)
  refine ⟨x, y, ?_⟩
  unfold MS.sweepAt
  rw [List.take_succ_eq_append_getElem hi, List.foldl_append]
  rfl
theorem MS.Ok.sweepAt_next (ok : s.Ok) (roots : List Int) {l : Nat} (hl : l < 8) : s.sweepAt roots l (s.idle (s.reach roots) (s.o l)).length = s.sweepAt roots (l + 1) 0 := by
  have hc := ok.reach_closed roots
  unfold MS.sweepAt
  rw [List.take_length, List.take_zero, List.foldl_nil, MS.swTo_succ, ((ok.gone hc l (by omega)).next ok hc hl).1]
theorem MS.sweepAt_end (s : MS) (roots : List Int) : s.sweepAt roots 8 0 = s.sweep roots := by
  unfold MS.sweepAt; rw [List.take_zero, List.foldl_nil, MS.sweep_eq]
/-- How many: never more than there were. -/
theorem MS.Ok.sweepAt_many (ok : s.Ok) (roots : List Int) {l : Nat} (hl : l < 8) {i : Nat} (hi : i ≤ (s.idle (s.reach roots) (s.o l)).length) : 0 ≤ (s.sweepAt roots l i).1 + (s.all.length : Int) ∧ (s.sweepAt roots l i).1 ≤ (s.all.length : Int) := by
  have hc := ok.reach_closed roots
  obtain ⟨a, _⟩ := (ok.gone hc l (by omega)).upto ok hc hl i hi
  have h1 := a.i.cnt
  have h2 : ((((s.idle (s.reach roots) (s.o l)).take i).foldl MS.free1 (MS.swTo (s.reach roots) (0, s) l)).2.all.length : Int) ≤ s.all.length := by
    have : (((s.idle (s.reach roots) (s.o l)).take i).foldl MS.free1 (MS.swTo (s.reach roots) (0, s) l)).2.all.length ≤ s.all.length := by
      unfold MS.all
      rw [a.i.N]
      rw [← List.countP_eq_length_filter, ← List.countP_eq_length_filter]
      exact List.countP_mono_left fun n _ hn => a.i.has n hn
    omega
  unfold MS.sweepAt
  omega
theorem MS.Ok.sweepAt_okX (ok : s.Ok) (roots : List Int) {l : Nat} (hl : l < 8) {X : Int} (hX : s.o l = X) {i : Nat} (hi : i < (s.idle (s.reach roots) X).length) :
    (s.sweepAt roots l i).2.Ok ∧ (((s.sweepAt roots l i).2.free (s.idle (s.reach roots) X)[i]).1 = 0) ∧ s.sweepAt roots l (i + 1) = ((s.sweepAt roots l i).1 + 1, ((s.sweepAt roots l i).2.free (s.idle (s.reach roots) X)[i]).2) := by
  subst hX; exact ok.sweepAt_ok roots hl hi
theorem MS.Ok.sweepAt_nextX (ok : s.Ok) (roots : List Int) {l : Nat} (hl : l < 8) {X : Int} (hX : s.o l = X) : s.sweepAt roots l (s.idle (s.reach roots) X).length = s.sweepAt roots (l + 1) 0 := by
  subst hX; exact ok.sweepAt_next roots hl
theorem MS.Ok.sweepAt_manyX (ok : s.Ok) (roots : List Int) {l : Nat} (hl : l < 8) {X : Int} (hX : s.o l = X) {i : Nat} (hi : i ≤ (s.idle (s.reach roots) X).length) : 0 ≤ (s.sweepAt roots l i).1 + (s.all.length : Int) ∧ (s.sweepAt roots l i).1 ≤ (s.all.length : Int) := by
  subst hX; exact ok.sweepAt_many roots hl hi
end

end Go.Proofs.YtdcomiopjgcboaaGreatDoor

/-
  Eight slices of numbers in one variable, each somebody's own.
-/
namespace Go.Proofs.YtdcomiopjgcboaaGreatDoor
open Go Go.RowKit

/-- Eight slices, as the program holds them. -/
def iv8 (V : Nat → Value) : Value := .agg #[V 0, V 1, V 2, V 3, V 4, V 5, V 6, V 7]
/-- Block b is a variable that holds eight slices. -/
def HoldsI (w : World) (b : Nat) (V : Nat → Value) : Prop := w.heap[b]? = some (.cells #[V 0, V 1, V 2, V 3, V 4, V 5, V 6, V 7] 100 (0, 0))
theorem HoldsI.lt {w : World} {b : Nat} {V : Nat → Value} (h : HoldsI w b V) : b < w.heap.size := (Array.getElem?_eq_some_iff.1 h).1
theorem HoldsI.block {w w' : World} {b : Nat} {V : Nat → Value} (h : HoldsI w b V) (hb : w'.heap[b]? = w.heap[b]?) : HoldsI w' b V := hb.trans h
theorem HoldsI.keep {w w' : World} {b : Nat} {V : Nat → Value} {F : Nat → Prop} (h : HoldsI w b V) (hb : Keeps F w w') (hF : ¬ F b) : HoldsI w' b V := h.block (hb.block b h.lt hF)
theorem HoldsI.below {w w' : World} {b : Nat} {V : Nat → Value} (h : HoldsI w b V) (hb : Below w.heap.size w w') : HoldsI w' b V := h.block (hb.block b h.lt)
theorem HoldsI.new (w : World) (V : Nat → Value) : HoldsI (w.alloc (.cells #[V 0, V 1, V 2, V 3, V 4, V 5, V 6, V 7] 100)) w.heap.size V := heap_alloc_new _ _
theorem HoldsI.cell {w : World} {b : Nat} {V : Nat → Value} (h : HoldsI w b V) (i : Nat) (hi : i < 8) : w.cell? ⟨b, i, none⟩ = some (V i) := by
  rw [cell_of_row _ _ _ _ _ _ h]
  rcases (by omega : i = 0 ∨ i = 1 ∨ i = 2 ∨ i = 3 ∨ i = 4 ∨ i = 5 ∨ i = 6 ∨ i = 7) with rfl | rfl | rfl | rfl | rfl | rfl | rfl | rfl <;> rfl
theorem HoldsI.free {w : World} {b : Nat} {V : Nat → Value} (h : HoldsI w b V) (j : Nat) : w.frozen? ⟨b, j, none⟩ = false := frozen_of_row _ _ _ _ _ h
/-- One of them, another. -/
def putV {α : Type} (V : Nat → α) (i : Nat) (x : α) : Nat → α := fun j => if j = i then x else V j
theorem HoldsI.set {w : World} {b : Nat} {V : Nat → Value} (h : HoldsI w b V) (i : Nat) (hi : i < 8) (x : Value) : HoldsI (w.setCell ⟨b, i, none⟩ x) b (putV V i x) := by
  have h1 := heap_setCell_same w b i _ _ x h
  unfold HoldsI
  rw [h1]
  rcases (by omega : i = 0 ∨ i = 1 ∨ i = 2 ∨ i = 3 ∨ i = 4 ∨ i = 5 ∨ i = 6 ∨ i = 7) with rfl | rfl | rfl | rfl | rfl | rfl | rfl | rfl <;> rfl
theorem HoldsI.other {w : World} {b c : Nat} {V : Nat → Value} (h : HoldsI w b V) (hne : b ≠ c) (i : Nat) (x : Value) : HoldsI (w.setCell ⟨c, i, none⟩ x) b V := h.block (Below.heap_setCell _ _ _ _ hne)
/-- All of them written. -/
theorem HoldsI.set8 {w : World} {b : Nat} {V : Nat → Value} (h : HoldsI w b V) (U : Nat → Value) :
    HoldsI ((((((((w.setCell ⟨b, 0, none⟩ (U 0)).setCell ⟨b, 1, none⟩ (U 1)).setCell ⟨b, 2, none⟩ (U 2)).setCell ⟨b, 3, none⟩ (U 3)).setCell ⟨b, 4, none⟩ (U 4)).setCell ⟨b, 5, none⟩ (U 5)).setCell ⟨b, 6, none⟩ (U 6)).setCell ⟨b, 7, none⟩ (U 7)) b U :=
  ((((((((h.set 0 (by decide) (U 0)).set 1 (by decide) (U 1)).set 2 (by decide) (U 2)).set 3 (by decide) (U 3)).set 4 (by decide) (U 4)).set 5 (by decide) (U 5)).set 6 (by decide) (U 6)).set 7 (by decide) (U 7))
theorem keeps_set8 {b : Nat} {w : World} {x0 x1 x2 x3 x4 x5 x6 x7 : Value} :
    Keeps (fun g => g = b) w ((((((((w.setCell ⟨b, 0, none⟩ x0).setCell ⟨b, 1, none⟩ x1).setCell ⟨b, 2, none⟩ x2).setCell ⟨b, 3, none⟩ x3).setCell ⟨b, 4, none⟩ x4).setCell ⟨b, 5, none⟩ x5).setCell ⟨b, 6, none⟩ x6).setCell ⟨b, 7, none⟩ x7) :=
  have k : ∀ (w : World) (i : Nat) (x : Value), Keeps (fun g => g = b) w (w.setCell ⟨b, i, none⟩ x) := fun w i x => Keeps.of_setCell (fun g => g = b) w ⟨b, i, none⟩ x rfl
  ((((((((k _ _ _).and (k _ _ _)).and (k _ _ _)).and (k _ _ _)).and (k _ _ _)).and (k _ _ _)).and (k _ _ _)).and (k _ _ _))
theorem ret_holdsI {fn : Func} {p : Tmp} {tmps : Array Value} {w : World} {b : Nat} {V : Nat → Value} (h : fn.results = #[.cell p 100]) (hp : tmps.getD p undef = .pointer (some ⟨b, 0, none⟩)) (hh : HoldsI w b V) :
    (results fn tmps).run Tryz.prog w = .ok (iv8 V) w :=
  results_cell_row h tmps w b _ _ _ _ hp hh Tryz.underlying100 rfl (by kernel_rfl)

/-- Eight slices of somebody's own, apart, in a variable b; what they hold was made since B. -/
structure Idle (w : World) (B b : Nat) (V : Nat → Value) (L : Nat → List Int) : Prop where
  holds : HoldsI w b V
  size : B ≤ w.heap.size
  ahead : b < B
  own : ∀ k, k < 8 → Owns encI w (V k) (L k)
  low : ∀ k, k < 8 → ∀ g, (V k).ownBlock = some g → B ≤ g
  apart : ∀ j k, j < 8 → k < 8 → j ≠ k → ∀ g, (V j).ownBlock = some g → (V k).ownBlock = some g → False
section
variable {w w' : World} {B b : Nat} {V : Nat → Value} {L : Nat → List Int}
theorem Idle.start (h : HoldsI w b (fun _ => .slice none 0 0)) : Idle w w.heap.size b (fun _ => .slice none 0 0) (fun _ => []) :=
  ⟨h, Nat.le_refl _, h.lt, fun _ _ => Owns.nil _ _, (fun _ _ g h => by cases h), (fun _ _ _ _ _ g h => by cases h)⟩
theorem Idle.keep (h : Idle w B b V L) (hb : Below w.heap.size w w') : Idle w' B b V L :=
  ⟨h.holds.below hb, Nat.le_trans h.size hb.size, h.ahead, fun k hk => (h.own k hk).block fun g hg => hb.block g ((h.own k hk).lt g hg), h.low, h.apart⟩
theorem Idle.sub (h : Idle w B b V L) (u : Sub w) : Idle u.1 B b V L := h.keep u.2
/-- One more in one of them. -/
theorem Idle.push (h : Idle w B b V L) {k : Nat} (hk : k < 8) {v : Value} {l : List Int} (hown : Owns encI w' v l) (hgr : w.grownBy w' (V k).ownBlock) (hat : v.ownBlock = (V k).ownBlock ∨ v.ownBlock = some w.heap.size) :
    Idle (w'.setCell ⟨b, k, none⟩ v) B b (putV V k v) (putV L k l) := by
  have hab := h.ahead
  have hb' : HoldsI w' b V := h.holds.block (hgr.block b h.holds.lt (fun e => by have := h.low k hk b e.symm; omega))
  have hsz := hgr.size
  have hvg : ∀ g, v.ownBlock = some g → B ≤ g := fun g hg => by
    rcases hat with e | e
    · exact h.low k hk g (e ▸ hg)
    · rw [e] at hg; cases hg; exact h.size
  have hset : ∀ {u : Value} {l' : List Int}, Owns encI w' u l' → (∀ g, u.ownBlock = some g → B ≤ g) → Owns encI (w'.setCell ⟨b, k, none⟩ v) u l' := fun ho hne => ho.block fun g hg => Below.heap_setCell _ _ _ _ (by have := hne g hg; show g ≠ b; omega)
  refine ⟨hb'.set k hk v, ?_, hab, fun j hj => ?_, fun j hj g hg => ?_, fun i j hi hj hij g h1 h2 => ?_⟩
  · have := h.size; simp only [World.setCell, Array.size_modify]; omega
  · by_cases e : j = k
    · subst e
      simp only [putV, if_true]
      exact hset hown hvg
    · simp only [putV, if_neg e]
      exact hset ((h.own j hj).block fun g hg => hgr.block g ((h.own j hj).lt g hg) fun e2 => h.apart j k hj hk e g hg e2.symm) fun g hg => h.low j hj g hg
  · by_cases e : j = k
    · subst e
      simp only [putV, if_true] at hg
      exact hvg g hg
    · simp only [putV, if_neg e] at hg
      exact h.low j hj g hg
  · have key : ∀ i, i < 8 → i ≠ k → ∀ g, (V i).ownBlock = some g → v.ownBlock = some g → False := fun i hi hik g h1 h2 => by
      rcases hat with e | e
      · exact h.apart i k hi hk hik g h1 (e ▸ h2)
      · rw [e] at h2; cases h2
        have := (h.own i hi).lt _ h1
        omega
    by_cases e1 : i = k
    · subst e1
      have e2 : j ≠ i := fun e => hij e.symm
      simp only [putV, if_true] at h1
      simp only [putV, if_neg e2] at h2
      exact key j hj e2 g h2 h1
    · simp only [putV, if_neg e1] at h1
      by_cases e2 : j = k
      · subst e2
        simp only [putV, if_true] at h2
        exact key i hi e1 g h1 h2
      · simp only [putV, if_neg e2] at h2
        exact h.apart i j hi hj hij g h1 h2
theorem Idle.pushKeeps (h : Idle w B b V L) {k : Nat} (hk : k < 8) {v : Value} (hgr : w.grownBy w' (V k).ownBlock) {w0 : World} (hw : Keeps (fun g => g = b) w0 w) (hB : w0.heap.size ≤ B) :
    Keeps (fun g => g = b) w0 (w'.setCell ⟨b, k, none⟩ v) := by
  have h1 : Keeps (fun g => w0.heap.size ≤ g) w w' := Keeps.of_grown hgr fun g e => Nat.le_trans hB (h.low k hk g e)
  have h2 := Keeps.of_setCell (fun g => g = b) w' ⟨b, k, none⟩ v rfl
  refine ⟨h2.os.trans (h1.os.trans hw.os), h2.tape.trans (h1.tape.trans hw.tape), h2.output.trans (h1.output.trans hw.output), Nat.le_trans hw.size (Nat.le_trans h1.size h2.size), fun g hg hne => ?_⟩
  have hg1 := Nat.lt_of_lt_of_le hg hw.size
  have hg2 := Nat.lt_of_lt_of_le hg1 h1.size
  exact (h2.block g hg2 hne).trans ((h1.block g hg1 (by omega)).trans (hw.block g hg hne))
theorem Idle.pushCell (h : Idle w B b V L) {k : Nat} (hk : k < 8) (hgr : w.grownBy w' (V k).ownBlock) : w'.cell? ⟨b, k, none⟩ = some (V k) ∧ w'.frozen? ⟨b, k, none⟩ = false := by
  have hb' : HoldsI w' b V := h.holds.block (hgr.block b h.holds.lt (fun e => by have := h.low k hk b e.symm; have := h.ahead; omega))
  exact ⟨hb'.cell k hk, hb'.free k⟩
/-- Each is a slice. -/
theorem Idle.form (h : Idle w B b V L) : ∃ (A : Nat → Option Addr) (C : Nat → Nat), Idle w B b (fun k => .slice (A k) (L k).length (C k)) L := by
  have hA : ∀ k, ∃ x : Option Addr × Nat, k < 8 → V k = .slice x.1 (L k).length x.2 := fun k => by
    by_cases hk : k < 8
    · obtain ⟨a, c, e, _⟩ := (h.own k hk).form
      exact ⟨(a, c), fun _ => e⟩
    · exact ⟨(none, 0), fun q => absurd q hk⟩
  obtain ⟨X, hX⟩ := Classical.axiomOfChoice hA
  refine ⟨fun k => (X k).1, fun k => (X k).2, ?_, h.size, h.ahead, fun k hk => hX k hk ▸ h.own k hk, fun k hk g hg => h.low k hk g (hX k hk ▸ hg), fun j k hj hk hjk g h1 h2 => h.apart j k hj hk hjk g (hX j hj ▸ h1) (hX k hk ▸ h2)⟩
  have := h.holds
  unfold HoldsI at *
  rw [this, hX 0 (by decide), hX 1 (by decide), hX 2 (by decide), hX 3 (by decide), hX 4 (by decide), hX 5 (by decide), hX 6 (by decide), hX 7 (by decide)]
theorem Idle.congr (h : Idle w B b V L) {M : Nat → List Int} (he : ∀ k, k < 8 → L k = M k) : Idle w B b V M :=
  ⟨h.holds, h.size, h.ahead, fun k hk => he k hk ▸ h.own k hk, h.low, h.apart⟩
end

end Go.Proofs.YtdcomiopjgcboaaGreatDoor

/-
  Mathematics of layer 13: a variable moved to where the fewest nodes are. Nothing of the program is read here.
-/
namespace Go.Proofs.YtdcomiopjgcboaaGreatDoor

/-- A step down, or up: whether there is one, the state. -/
noncomputable def MS.step (s : MS) (roots : List Int) (v : Int) (down : Bool) : Bool × MS :=
  let r := s.swap (levO s.o v - if down then 0 else 1)
  if r.1 ≠ 0 then (false, r.2) else (true, (r.2.sweep roots).2)

/-- On the way: the state, how few there were, at which level. -/
structure Sft where
  s : MS
  few : Int
  best : Int

/-- At the end of a way. -/
def MS.last (s : MS) (v : Int) (down : Bool) : Bool := if down then decide (levO s.o v = 7) else decide (levO s.o v = 0)
/-- Behind a step. -/
def Sft.met (x : Sft) (t : MS) (v : Int) : Sft := ⟨t, if (t.all.length : Int) < x.few then t.all.length else x.few, if (t.all.length : Int) < x.few then levO t.o v else x.best⟩
/-- A way. -/
noncomputable def siftGo (roots : List Int) (v grow : Int) (down : Bool) : Nat → Sft → Sft
  | 0, x => x
  | k + 1, x =>
    if x.s.last v down = true then x
    else if (x.s.step roots v down).1 = false then ⟨(x.s.step roots v down).2, x.few, x.best⟩
    else if grow < ((x.s.step roots v down).2.all.length : Int) then x.met (x.s.step roots v down).2 v
    else siftGo roots v grow down k (x.met (x.s.step roots v down).2 v)
/-- To the best level. -/
noncomputable def siftEnd (roots : List Int) (v best : Int) : Nat → MS → MS
  | 0, s => s
  | k + 1, s =>
    if levO s.o v = best then s
    else if (s.step roots v (decide (levO s.o v < best))).1 = false then (s.step roots v (decide (levO s.o v < best))).2
    else siftEnd roots v best k (s.step roots v (decide (levO s.o v < best))).2
noncomputable def MS.sift (s : MS) (roots : List Int) (v grow : Int) : Int × MS :=
  if v < 0 ∨ 7 < v ∨ grow < 0 then (1, s)
  else
    let s0 := (s.sweep roots).2
    let x := siftGo roots v grow false 8 (siftGo roots v grow true 8 ⟨s0, s0.all.length, levO s0.o v⟩)
    (0, siftEnd roots v x.best 8 x.s)
/-- The first variables. -/
noncomputable def MS.siftTo (s : MS) (roots : List Int) (grow : Int) : Nat → MS
  | 0 => s
  | v + 1 => ((s.siftTo roots grow v).sift roots (v : Int) grow).2
noncomputable def MS.siftAll (s : MS) (roots : List Int) (grow : Int) : Int × MS := if grow < 0 then (1, s) else (0, s.siftTo roots grow 8)

section
variable {s : MS} {roots : List Int} {v grow : Int}
theorem MS.Ok.step (h : s.Ok) (roots : List Int) (v : Int) (down : Bool) : (s.step roots v down).2.Ok := by
  unfold MS.step
  dsimp only
  generalize levO s.o v - (if down = true then (0 : Int) else 1) = l
  split
  · exact h.swapped l
  · exact ((h.swapped l).swept roots).1.ok
theorem MS.Ok.siftGo (down : Bool) : ∀ (k : Nat) (x : Sft), x.s.Ok → (siftGo roots v grow down k x).s.Ok
  | 0, _, h => h
  | k + 1, x, h => by
    unfold Go.Proofs.YtdcomiopjgcboaaGreatDoor.siftGo
    split
    · exact h
    · split
      · exact h.step _ _ _
      · split
        · exact h.step _ _ _
        · exact MS.Ok.siftGo down k _ (h.step _ _ _)
theorem MS.Ok.siftEnd (best : Int) : ∀ (k : Nat) (s : MS), s.Ok → (siftEnd roots v best k s).Ok
  | 0, _, h => h
  | k + 1, s, h => by
    unfold Go.Proofs.YtdcomiopjgcboaaGreatDoor.siftEnd
    split
    · exact h
    · split
      · exact h.step _ _ _
      · exact MS.Ok.siftEnd best k _ (h.step _ _ _)
theorem MS.Ok.sift (h : s.Ok) (roots : List Int) (v grow : Int) : (s.sift roots v grow).2.Ok := by
  unfold MS.sift
  split
  · exact h
  · exact MS.Ok.siftEnd _ _ _ (MS.Ok.siftGo _ _ _ (MS.Ok.siftGo _ _ _ (h.swept roots).1.ok))
theorem MS.Ok.siftTo (h : s.Ok) (roots : List Int) (grow : Int) : ∀ v, (s.siftTo roots grow v).Ok
  | 0 => h
  | v + 1 => (MS.Ok.siftTo h roots grow v).sift roots _ grow
theorem MS.Ok.siftAll (h : s.Ok) (roots : List Int) (grow : Int) : (s.siftAll roots grow).2.Ok := by
  unfold MS.siftAll
  split
  · exact h
  · exact h.siftTo roots grow 8

/-- Where a variable stands. -/
theorem MS.Ok.lev07 (h : s.Ok) {v : Int} (v0 : 0 ≤ v) (v7 : v ≤ 7) : 0 ≤ levO s.o v ∧ levO s.o v ≤ 7 := by
  obtain ⟨n, rfl⟩ := Int.eq_ofNat_of_zero_le v0
  exact ⟨levO_nonneg.2 (mayO_iff.1 h.order n (by omega)), (levO_range s.o _).2⟩
/-- What a step that is does. -/
theorem MS.step_yes {v : Int} {down : Bool} (hs : (s.step roots v down).1 = true) :
    (s.swap (levO s.o v - if down then 0 else 1)).1 = 0 ∧ (s.step roots v down).2 = ((s.swap (levO s.o v - if down then 0 else 1)).2.sweep roots).2 := by
  unfold MS.step at *
  dsimp only at *
  by_cases e : (s.swap (levO s.o v - if down then 0 else 1)).1 ≠ 0
  · rw [if_pos e] at hs; cases hs
  · rw [if_neg e]
    exact ⟨Classical.not_not.1 e, rfl⟩
theorem swap1_order (x y : Int) : ∀ (l : List Int) (s : MS), (MS.swap1 s x y l).o = s.o
  | [], _ => rfl
  | n :: rest, s => by
    unfold MS.swap1
    dsimp only
    rw [swap1_order x y rest]
    have hmk : ∀ (s : MS) (v lo hi : Int) (but : List Int), (s.mk v lo hi but).2.2.o = s.o := fun s v lo hi but => by
      rcases s.mk_cases v lo hi but with ⟨r, e, h⟩ | ⟨_, _, _, _, _, _, _, h⟩ <;> rw [h]
      rfl
    unfold MS.setNd
    dsimp only
    rw [hmk, hmk]
theorem MS.swap_order (s : MS) {l : Int} (h : (s.swap l).1 = 0) : (s.swap l).2.o = swapO s.o l ∧ 0 ≤ l ∧ l ≤ 6 := by
  unfold MS.swap at h ⊢
  by_cases h1 : l < 0 ∨ 6 < l
  · rw [if_pos h1] at h; cases h
  · rw [if_neg h1] at h ⊢
    dsimp only at h ⊢
    split at h
    · cases h
    · rename_i h2
      rw [if_neg h2]
      refine ⟨?_, by omega, by omega⟩
      exact swap1_order _ _ _ _
theorem MS.Ok.step_lev (h : s.Ok) {v : Int} (v0 : 0 ≤ v) (v7 : v ≤ 7) {down : Bool} (hs : (s.step roots v down).1 = true) :
    levO (s.step roots v down).2.o v = levO s.o v + (if down then 1 else -1) := by
  obtain ⟨h1, h2⟩ := MS.step_yes hs
  obtain ⟨ho, l0, l6⟩ := s.swap_order h1
  rw [h2, ((h.swapped _).swept roots).1.o, ho]
  obtain ⟨n, rfl⟩ := Int.eq_ofNat_of_zero_le v0
  obtain ⟨_, a, b⟩ := swapO_lev h.order l0 l6 (v := n) (by omega)
  cases down
  · simp only [Bool.false_eq_true, if_false] at *
    rw [b (by omega)]; omega
  · simp only [if_true] at *
    rw [a (by omega)]; omega
end

end Go.Proofs.YtdcomiopjgcboaaGreatDoor

/-
  Mathematics of layers 12 and 13: how many nodes are left; where a variable comes to. Nothing of the program is read here.
-/
namespace Go.Proofs.YtdcomiopjgcboaaGreatDoor


section
variable {s t : MS} {roots : List Int}
/-- Where all that is there is reached, there are as many nodes as the roots' functions need. -/
theorem MS.Ok.size_reach (h : s.Ok) (hth : ∀ r ∈ roots, s.there r = true) (hall : ∀ n, s.has n = true → s.Rch roots n) : sizeF (roots.map s.tab) s.o = s.all.length := by
  have key : ∀ n, s.Rch roots n → Reach (roots.map s.tab) s.o (s.tab n) := fun n hr => by
    induction hr with
    | root hm hh => exact .base (List.mem_map.2 ⟨_, hm, rfl⟩)
    | lo hr hh ih =>
      have hn := hr.has
      have := Reach.step false ih (h.sup_node hn) (by rw [h.top_node hn]; exact (h.var _ hn).1)
      rw [h.top_node hn, h.cof_node hn] at this
      exact this
    | hi hr hh ih =>
      have hn := hr.has
      have := Reach.step true ih (h.sup_node hn) (by rw [h.top_node hn]; exact (h.var _ hn).1)
      rw [h.top_node hn, h.cof_node hn] at this
      exact this
  refine h.size_is (fun n hn => ⟨key n (hall n hn), h.sup_node hn⟩) fun g hg => ?_
  obtain ⟨f, hf, hr⟩ := reach_one hg.1
  obtain ⟨r, hm, rfl⟩ := List.mem_map.1 hf
  obtain ⟨m, tm, e, _⟩ := h.reach_rch (hth r hm) hr
  exact ⟨m, sup_has h tm (by rw [e]; exact hg.2), e⟩

theorem Swept.rch (h : Swept s roots t) {n : Int} (hr : s.Rch roots n) : t.Rch roots n := by
  induction hr with
  | root hm hh => exact .root hm ((h.has _).2 (.root hm hh))
  | lo hr hh ih =>
    have := (h.has _).2 (.lo hr hh)
    rw [← h.nd] at this ⊢
    exact .lo ih this
  | hi hr hh ih =>
    have := (h.has _).2 (.hi hr hh)
    rw [← h.nd] at this ⊢
    exact .hi ih this
theorem Swept.there (h : Swept s roots t) {r : Int} (hm : r ∈ roots) (hr : s.there r = true) : t.there r = true := by
  rcases MS.there_cases hr with ⟨h1, _⟩ | h1
  · rcases h1 with rfl | rfl <;> simp [MS.there]
  · simp [MS.there, (h.has r).2 (.root hm h1)]
theorem Swept.size (h : Swept s roots t) (ok : s.Ok) (hth : ∀ r ∈ roots, s.there r = true) : sizeF (roots.map s.tab) s.o = t.all.length := by
  have e : roots.map s.tab = roots.map t.tab := List.map_congr_left fun r hr => (h.tab ok (fun hh => .root hr hh)).symm
  rw [e, ← h.o]
  exact h.ok.size_reach (fun r hr => h.there hr (hth r hr)) (fun n hn => h.rch ((h.has n).1 hn))
end

/-- The orders that one comes to, one behind the other. -/
theorem path_of (l : Nat) : ∀ (o : Nat → Int), l ≤ 7 → ∃ P : Nat → Nat → Int, P l = o ∧ ∀ k : Nat, P (k + 1) = swapO (P k) (k : Int) := by
  induction l with
  | zero => intro o _; exact ⟨fun k => Nat.rec o (fun k p => swapO p (k : Int)) k, rfl, fun k => rfl⟩
  | succ l ih =>
    intro o hl
    obtain ⟨P, h1, h2⟩ := ih (swapO o (l : Int)) (by omega)
    exact ⟨P, by rw [h2, h1, swapO_swapO], h2⟩

/-- In what order the others stand. -/
def Others (v : Int) (o p : Nat → Int) : Prop := ∀ a b : Nat, a < 8 → b < 8 → (a : Int) ≠ v → (b : Int) ≠ v → (levO o (a : Int) < levO o (b : Int) ↔ levO p (a : Int) < levO p (b : Int))
theorem Others.refl (v : Int) (o : Nat → Int) : Others v o o := fun _ _ _ _ _ _ => Iff.rfl
theorem lev_inj {o : Nat → Int} (h : mayO o = true) {a b : Nat} (ha : a < 8) (hb : b < 8) (e : levO o (a : Int) = levO o (b : Int)) : a = b := by
  rcases levO_cases o (a : Int) with ⟨h1, _⟩ | ⟨j, h1, _, h2, _⟩
  · have := levO_nonneg.2 (mayO_iff.1 h a ha); omega
  · rcases levO_cases o (b : Int) with ⟨h3, _⟩ | ⟨k, h3, _, h4, _⟩
    · have := levO_nonneg.2 (mayO_iff.1 h b hb); omega
    · have : j = k := by omega
      subst this
      rw [h2] at h4
      omega
theorem Others.swap {v : Nat} (hv : v < 8) {o p : Nat → Int} (h : Others (v : Int) o p) (hm : mayO p = true) {l : Int} (l0 : 0 ≤ l) (l6 : l ≤ 6) (hl : levO p (v : Int) = l ∨ levO p (v : Int) = l + 1) : Others (v : Int) o (swapO p l) := by
  intro a b ha hb hav hbv
  rw [h a b ha hb hav hbv]
  obtain ⟨a1, a2, a3⟩ := swapO_lev hm l0 l6 ha
  obtain ⟨b1, b2, b3⟩ := swapO_lev hm l0 l6 hb
  have nav : levO p (a : Int) ≠ levO p (v : Int) := fun e => hav (by rw [lev_inj hm ha hv e])
  have nbv : levO p (b : Int) ≠ levO p (v : Int) := fun e => hbv (by rw [lev_inj hm hb hv e])
  by_cases x1 : levO p (a : Int) = l
  · by_cases y2 : levO p (b : Int) = l + 1
    · omega
    · by_cases y1 : levO p (b : Int) = l
      · rw [a2 x1, b2 y1]; omega
      · rw [a2 x1, b1 y1 y2]; omega
  · by_cases x2 : levO p (a : Int) = l + 1
    · by_cases y1 : levO p (b : Int) = l
      · omega
      · by_cases y2 : levO p (b : Int) = l + 1
        · rw [a3 x2, b3 y2]; omega
        · rw [a3 x2, b1 y1 y2]; omega
    · by_cases y1 : levO p (b : Int) = l
      · rw [a1 x1 x2, b2 y1]; omega
      · by_cases y2 : levO p (b : Int) = l + 1
        · rw [a1 x1 x2, b3 y2]; omega
        · rw [a1 x1 x2, b1 y1 y2]

/-- On the way: what stays. -/
structure SfI (s : MS) (roots : List Int) (v : Nat) (P : Nat → Nat → Int) (t : MS) : Prop where
  ok : t.Ok
  most : t.ar.most = s.ar.most
  th : ∀ r ∈ roots, t.there r = true
  tab : ∀ r ∈ roots, t.tab r = s.tab r
  all : ∀ n, t.has n = true → t.Rch roots n
  ord : ∃ k : Nat, k ≤ 7 ∧ levO t.o (v : Int) = (k : Int) ∧ t.o = P k
  oth : Others (v : Int) s.o t.o

section
variable {s t : MS} {roots : List Int} {v : Nat} {P : Nat → Nat → Int}
theorem SfI.size (h : SfI s roots v P t) : sizeF (roots.map s.tab) t.o = t.all.length := by
  have e : roots.map s.tab = roots.map t.tab := List.map_congr_left fun r hr => (h.tab r hr).symm
  rw [e]
  exact h.ok.size_reach h.th h.all
theorem MS.swap_most (s : MS) (l : Int) : (s.swap l).2.ar.most = s.ar.most := by
  have hmk : ∀ (s : MS) (v lo hi : Int) (but : List Int), (s.mk v lo hi but).2.2.ar.most = s.ar.most := fun s v lo hi but => by
    rcases s.mk_cases v lo hi but with ⟨r, e, h⟩ | ⟨hf, _, _, _, _, _, _, h⟩ <;> rw [h]
    show s.ar.take.most = _
    rcases last_or_nil s.ar.B with hb | ⟨k, n, hb⟩
    · rw [(AS.Ok.take_new hf hb).2.2]
    · rw [(AS.Ok.take_again hf hb).2.2]
  have h1 : ∀ (R : List Int) (x y : Int) (s : MS), (MS.swap1 s x y R).ar.most = s.ar.most := fun R => by
    induction R with
    | nil => intro x y s; rfl
    | cons n R ih =>
      intro x y s
      unfold MS.swap1
      dsimp only
      rw [ih]
      unfold MS.setNd
      dsimp only
      rw [hmk, hmk]
  unfold MS.swap
  split
  · rfl
  · dsimp only
    split
    · rfl
    · exact h1 _ _ _ _
/-- Where there is room a level is exchanged. -/
theorem MS.Ok.swap_room (h : s.Ok) {l : Int} (l0 : 0 ≤ l) (l6 : l ≤ 6) (hroom : 3 * (s.all.length : Int) ≤ s.ar.most) : (s.swap l).1 = 0 := by
  unfold MS.swap
  rw [if_neg (by omega)]
  dsimp only
  have h1 : (s.changes (s.o l.toNat) (s.o (l.toNat + 1))).length ≤ s.all.length := by unfold MS.changes; exact List.length_filter_le _ _
  have h2 := h.toBase.count
  rw [if_neg (by unfold MS.room; omega)]
theorem SfI.step (h : SfI s roots v P t) (hv : v < 8) (hP : ∀ k : Nat, P (k + 1) = swapO (P k) (k : Int)) (hroom : 3 * (sizeF (roots.map s.tab) t.o : Int) ≤ s.ar.most) {down : Bool} (hl : t.last (v : Int) down = false) :
    (t.step roots (v : Int) down).1 = true ∧ SfI s roots v P (t.step roots (v : Int) down).2 := by
  obtain ⟨k, k7, hk, hPk⟩ := h.ord
  have hlev : 0 ≤ levO t.o (v : Int) - (if down then 0 else 1) ∧ levO t.o (v : Int) - (if down then 0 else 1) ≤ 6 := by
    unfold MS.last at hl
    cases down
    · simp only [Bool.false_eq_true, if_false, decide_eq_false_iff_not] at hl ⊢; omega
    · simp only [if_true, decide_eq_false_iff_not] at hl ⊢; omega
  have hsz := h.size
  have hs := h.ok.swap_room hlev.1 hlev.2 (by rw [h.most]; omega)
  have hst : (t.step roots (v : Int) down).1 = true := by
    unfold MS.step
    dsimp only
    rw [if_neg (by rw [hs]; decide)]
  refine ⟨hst, ?_⟩
  obtain ⟨_, e2⟩ := MS.step_yes hst
  have hnl := h.ok.step_lev (roots := roots) (v := (v : Int)) (by omega) (by omega) hst
  obtain ⟨ho, _, _⟩ := t.swap_order hs
  have okS := h.ok.swapped (levO t.o (v : Int) - (if down then 0 else 1))
  have hsw := (okS.swept roots).1
  have thS : ∀ r ∈ roots, (t.swap (levO t.o (v : Int) - (if down then 0 else 1))).2.there r = true := fun r hr => by
    rcases MS.there_cases (h.th r hr) with ⟨h1, _⟩ | h1
    · rcases h1 with rfl | rfl <;> simp [MS.there]
    · simp [MS.there, h.ok.swap_has _ h1]
  have tbS : ∀ r ∈ roots, (t.swap (levO t.o (v : Int) - (if down then 0 else 1))).2.tab r = t.tab r := fun r hr => fn_ext fun k hk => by
    rw [MS.tab_bit _ _ hk, MS.tab_bit _ _ hk]
    exact h.ok.swap_val _ _ (h.th r hr)
  have hord : (t.step roots (v : Int) down).2.o = swapO t.o (levO t.o (v : Int) - (if down then 0 else 1)) := by rw [e2, hsw.o, ho]
  refine ⟨h.ok.step _ _ _, ?_, fun r hr => ?_, fun r hr => ?_, fun n hn => ?_, ?_, ?_⟩
  · rw [e2, hsw.most, MS.swap_most, h.most]
  · rw [e2]; exact hsw.there hr (thS r hr)
  · rw [e2, hsw.tab okS (fun hh => .root hr hh), tbS r hr, h.tab r hr]
  · rw [e2] at hn ⊢; exact hsw.rch ((hsw.has n).1 hn)
  · cases down
    · simp only [Bool.false_eq_true, if_false] at *
      obtain ⟨j, rfl⟩ : ∃ j, k = j + 1 := ⟨k - 1, by omega⟩
      refine ⟨j, by omega, by rw [hnl, hk]; omega, ?_⟩
      rw [hord, hk, hPk, hP, show ((j + 1 : Nat) : Int) - 1 = (j : Int) by omega, swapO_swapO]
    · simp only [if_true] at *
      refine ⟨k + 1, by omega, by rw [hnl, hk]; rfl, ?_⟩
      rw [hord, hk, hPk, hP, Int.sub_zero]
  · rw [hord]
    refine h.oth.swap hv h.ok.order hlev.1 hlev.2 ?_
    cases down
    · simp only [Bool.false_eq_true, if_false]; omega
    · simp only [if_true]; omega

/-- A way, with room: so many nodes there are at the best level. -/
def SfBest (s : MS) (roots : List Int) (P : Nat → Nat → Int) (x : Sft) : Prop := ∃ k : Nat, k ≤ 7 ∧ x.best = (k : Int) ∧ x.few = (sizeF (roots.map s.tab) (P k) : Int)
theorem SfI.go (hv : v < 8) (hP : ∀ k : Nat, P (k + 1) = swapO (P k) (k : Int)) (hroom : ∀ o, mayO o = true → 3 * (sizeF (roots.map s.tab) o : Int) ≤ s.ar.most) (grow : Int) (down : Bool) :
    ∀ (n : Nat) (x : Sft), SfI s roots v P x.s → SfBest s roots P x →
      SfI s roots v P (siftGo roots (v : Int) grow down n x).s ∧ SfBest s roots P (siftGo roots (v : Int) grow down n x) ∧ (siftGo roots (v : Int) grow down n x).few ≤ x.few
  | 0, x, h, hb => ⟨h, hb, Int.le_refl _⟩
  | n + 1, x, h, hb => by
    obtain ⟨g0, g1, g2, g3⟩ := (show _ ∧ _ ∧ _ ∧ _ from ⟨fun (hl : x.s.last (v : Int) down = true) => (show siftGo roots (v : Int) grow down (n + 1) x = x by rw [siftGo, if_pos hl]), fun (hl : x.s.last (v : Int) down = false) (hs : (x.s.step roots (v : Int) down).1 = true) (hf : grow < ((x.s.step roots (v : Int) down).2.all.length : Int)) => (show siftGo roots (v : Int) grow down (n + 1) x = x.met (x.s.step roots (v : Int) down).2 (v : Int) by rw [siftGo, if_neg (by rw [hl]; decide), if_neg (by rw [hs]; decide), if_pos hf]), fun (hl : x.s.last (v : Int) down = false) (hs : (x.s.step roots (v : Int) down).1 = true) (hf : ¬ grow < ((x.s.step roots (v : Int) down).2.all.length : Int)) => (show siftGo roots (v : Int) grow down (n + 1) x = siftGo roots (v : Int) grow down n (x.met (x.s.step roots (v : Int) down).2 (v : Int)) by rw [siftGo, if_neg (by rw [hl]; decide), if_neg (by rw [hs]; decide), if_neg hf]), trivial⟩)
    cases hl : x.s.last (v : Int) down
    · obtain ⟨hs, hI⟩ := h.step hv hP (hroom _ h.ok.order) hl
      have hmet : SfI s roots v P (x.met (x.s.step roots (v : Int) down).2 (v : Int)).s ∧ SfBest s roots P (x.met (x.s.step roots (v : Int) down).2 (v : Int)) ∧ (x.met (x.s.step roots (v : Int) down).2 (v : Int)).few ≤ x.few := by
        refine ⟨hI, ?_, ?_⟩
        · unfold Sft.met
          split
          · obtain ⟨k, k7, hk, hPk⟩ := hI.ord
            exact ⟨k, k7, hk, by dsimp only; rw [← hPk, hI.size]⟩
          · exact hb
        · unfold Sft.met
          dsimp only
          split <;> omega
      by_cases hf : grow < ((x.s.step roots (v : Int) down).2.all.length : Int)
      · rw [g1 hl hs hf]; exact hmet
      · rw [g2 hl hs hf]
        obtain ⟨a, b, c⟩ := SfI.go hv hP hroom grow down n _ hmet.1 hmet.2.1
        exact ⟨a, b, Int.le_trans c hmet.2.2⟩
    · rw [g0 hl]; exact ⟨h, hb, Int.le_refl _⟩
theorem SfI.end (hv : v < 8) (hP : ∀ k : Nat, P (k + 1) = swapO (P k) (k : Int)) (hroom : ∀ o, mayO o = true → 3 * (sizeF (roots.map s.tab) o : Int) ≤ s.ar.most) (best : Nat) (hbest : best ≤ 7) :
    ∀ (n : Nat) (t : MS), SfI s roots v P t → (best - levO t.o (v : Int) ≤ (n : Int) ∧ levO t.o (v : Int) - best ≤ (n : Int)) → SfI s roots v P (siftEnd roots (v : Int) best n t) ∧ levO (siftEnd roots (v : Int) best n t).o (v : Int) = best
  | 0, t, h, hn => ⟨h, by show levO t.o (v : Int) = _; omega⟩
  | n + 1, t, h, hn => by
    by_cases he : levO t.o (v : Int) = best
    · rw [siftEnd, if_pos he]; exact ⟨h, he⟩
    · obtain ⟨k, k7, hk, _⟩ := h.ord
      have hl : t.last (v : Int) (decide (levO t.o (v : Int) < best)) = false := by
        unfold MS.last
        by_cases h3 : levO t.o (v : Int) < best
        · rw [decide_eq_true h3, if_pos rfl, decide_eq_false_iff_not]; omega
        · rw [decide_eq_false h3, if_neg (by decide), decide_eq_false_iff_not]; omega
      obtain ⟨hs, hI⟩ := h.step hv hP (hroom _ h.ok.order) hl
      have hnl := h.ok.step_lev (roots := roots) (v := (v : Int)) (by omega) (by omega) hs
      rw [siftEnd, if_neg he, if_neg (by rw [hs]; decide)]
      refine SfI.end hv hP hroom best hbest n _ hI ?_
      by_cases h3 : levO t.o (v : Int) < best
      · rw [decide_eq_true h3, if_pos rfl] at hnl
        rw [decide_eq_true h3]
        omega
      · rw [decide_eq_false h3, if_neg (by decide)] at hnl
        rw [decide_eq_false h3]
        omega

/-- What Sift comes to, with room. -/
theorem MS.Ok.sift_keeps (h : s.Ok) (hth : ∀ r ∈ roots, s.there r = true) (hv : v < 8) {grow : Int} (hg : 0 ≤ grow) (hroom : ∀ o, mayO o = true → 3 * (sizeF (roots.map s.tab) o : Int) ≤ s.ar.most) :
    (s.sift roots (v : Int) grow).1 = 0 ∧ (∃ P, SfI s roots v P (s.sift roots (v : Int) grow).2) ∧ (s.sift roots (v : Int) grow).2.all.length ≤ sizeF (roots.map s.tab) s.o := by
  have hsw := (h.swept roots).1
  obtain ⟨l0, l7⟩ := hsw.ok.lev07 (v := (v : Int)) (by omega) (by omega)
  obtain ⟨k, hk⟩ := Int.eq_ofNat_of_zero_le l0
  obtain ⟨P, hPk, hP⟩ := path_of k (s.sweep roots).2.o (by omega)
  have I0 : SfI s roots v P (s.sweep roots).2 := ⟨hsw.ok, hsw.most, fun r hr => hsw.there hr (hth r hr), fun r hr => hsw.tab h (fun hh => .root hr hh), fun n hn => hsw.rch ((hsw.has n).1 hn), ⟨k, by omega, hk, hPk.symm⟩, by rw [hsw.o]; exact Others.refl _ _⟩
  have hsz := I0.size
  have B0 : SfBest s roots P ⟨(s.sweep roots).2, (s.sweep roots).2.all.length, levO (s.sweep roots).2.o (v : Int)⟩ := ⟨k, by omega, hk, by dsimp only; rw [hPk, hsz]⟩
  obtain ⟨I1, B1, C1⟩ := SfI.go hv hP hroom grow true 8 _ I0 B0
  obtain ⟨I2, B2, C2⟩ := SfI.go hv hP hroom grow false 8 _ I1 B1
  obtain ⟨bk, b7, hb, hf⟩ := B2
  have hlv := I2.ok.lev07 (v := (v : Int)) (by omega) (by omega)
  obtain ⟨I3, L3⟩ := SfI.end hv hP hroom bk b7 8 _ I2 (by omega)
  have e : s.sift roots (v : Int) grow = (0, Go.Proofs.YtdcomiopjgcboaaGreatDoor.siftEnd roots (v : Int) bk 8 (Go.Proofs.YtdcomiopjgcboaaGreatDoor.siftGo roots (v : Int) grow false 8 (Go.Proofs.YtdcomiopjgcboaaGreatDoor.siftGo roots (v : Int) grow true 8 ⟨(s.sweep roots).2, (s.sweep roots).2.all.length, levO (s.sweep roots).2.o (v : Int)⟩)).s) := by
    unfold MS.sift
    rw [if_neg (by omega)]
    dsimp only
    rw [hb]
  rw [e]
  refine ⟨rfl, ⟨P, I3⟩, ?_⟩
  obtain ⟨j, j7, hj, hPj⟩ := I3.ord
  have hjb : j = bk := by omega
  have hsz3 := I3.size
  rw [hPj, hjb] at hsz3
  rw [hsw.o] at hsz
  dsimp only at C1 C2 hf ⊢
  omega
end

end Go.Proofs.YtdcomiopjgcboaaGreatDoor

/-
  What is asked of the code's package sift; the document's example of layer 13.
-/
namespace Go.Proofs.YtdcomiopjgcboaaGreatDoor
open Go Go.RowKit
attribute [local go_sem] run_equal_same' run_guard_order

/-- Each call of package sift. -/
structure SiftC (StAt : World → Nat → (Nat → Prop) → MS → Prop) : Prop where ofAll ::
  sift : ∀ {w b F s}, StAt w b F s → s.Ok → ∀ (roots : List Int) (v : Value), RootsAt w F v roots → roots.length ≤ 100000 → (∀ r ∈ roots, r ≤ 9223372036854775807 ∧ -9223372036854775808 ≤ r) → ∀ x grow : Int, Calls Tryz.prog 11 #[.pointer (some ⟨b, 0, none⟩), v, .int .i64 x, .int .i64 grow] w fun e w' => e = .returned (errV (s.sift roots x grow).1) ∧ ∃ F', StAt w' b F' (s.sift roots x grow).2 ∧ Keeps F w w' ∧ Within w F F'
  all : ∀ {w b F s}, StAt w b F s → s.Ok → ∀ (roots : List Int) (v : Value), RootsAt w F v roots → roots.length ≤ 100000 → (∀ r ∈ roots, r ≤ 9223372036854775807 ∧ -9223372036854775808 ≤ r) → ∀ grow : Int, Calls Tryz.prog 9 #[.pointer (some ⟨b, 0, none⟩), v, .int .i64 grow] w fun e w' => e = .returned (errV (s.siftAll roots grow).1) ∧ ∃ F', StAt w' b F' (s.siftAll roots grow).2 ∧ Keeps F w w' ∧ Within w F F'

section
variable {s : MS} {roots : List Int} {v : Nat} {P : Nat → Nat → Int}
/-- Where the roots need as many nodes in each order, the best level is the first one. -/
theorem SfI.go_same (hv : v < 8) (hP : ∀ k : Nat, P (k + 1) = swapO (P k) (k : Int)) (hroom : ∀ o, mayO o = true → 3 * (sizeF (roots.map s.tab) o : Int) ≤ s.ar.most) (m : Nat) (hm : ∀ o, mayO o = true → sizeF (roots.map s.tab) o = m) (grow : Int) (down : Bool) :
    ∀ (n : Nat) (x : Sft), SfI s roots v P x.s → x.few = (m : Int) → (siftGo roots (v : Int) grow down n x).best = x.best ∧ (siftGo roots (v : Int) grow down n x).few = (m : Int)
  | 0, x, _, hf => ⟨rfl, hf⟩
  | n + 1, x, h, hf => by
    cases hl : x.s.last (v : Int) down
    · obtain ⟨hs, hI⟩ := h.step hv hP (hroom _ h.ok.order) hl
      have hz := hI.size
      rw [hm _ hI.ok.order] at hz
      have hmet : (x.met (x.s.step roots (v : Int) down).2 (v : Int)).best = x.best ∧ (x.met (x.s.step roots (v : Int) down).2 (v : Int)).few = (m : Int) := by
        unfold Sft.met
        dsimp only
        rw [if_neg (by omega), if_neg (by omega)]
        exact ⟨rfl, hf⟩
      by_cases hg : grow < ((x.s.step roots (v : Int) down).2.all.length : Int)
      · rw [siftGo, if_neg (by rw [hl]; decide), if_neg (by rw [hs]; decide), if_pos hg]; exact hmet
      · rw [siftGo, if_neg (by rw [hl]; decide), if_neg (by rw [hs]; decide), if_neg hg]
        obtain ⟨a, b⟩ := SfI.go_same hv hP hroom m hm grow down n _ hI hmet.2
        exact ⟨a.trans hmet.1, b⟩
    · rw [siftGo, if_pos hl]; exact ⟨rfl, hf⟩
theorem MS.Ok.sift_same (h : s.Ok) (hth : ∀ r ∈ roots, s.there r = true) (hv : v < 8) {grow : Int} (hg : 0 ≤ grow) (hroom : ∀ o, mayO o = true → 3 * (sizeF (roots.map s.tab) o : Int) ≤ s.ar.most) (m : Nat) (hm : ∀ o, mayO o = true → sizeF (roots.map s.tab) o = m) :
    (s.sift roots (v : Int) grow).1 = 0 ∧ (s.sift roots (v : Int) grow).2.o = s.o ∧ (s.sift roots (v : Int) grow).2.all.length = m := by
  have hsw := (h.swept roots).1
  obtain ⟨l0, l7⟩ := hsw.ok.lev07 (v := (v : Int)) (by omega) (by omega)
  obtain ⟨k, hk⟩ := Int.eq_ofNat_of_zero_le l0
  obtain ⟨P, hPk, hP⟩ := path_of k (s.sweep roots).2.o (by omega)
  have I0 : SfI s roots v P (s.sweep roots).2 := ⟨hsw.ok, hsw.most, fun r hr => hsw.there hr (hth r hr), fun r hr => hsw.tab h (fun hh => .root hr hh), fun n hn => hsw.rch ((hsw.has n).1 hn), ⟨k, by omega, hk, hPk.symm⟩, by rw [hsw.o]; exact Others.refl _ _⟩
  have hsz := I0.size
  rw [hm _ I0.ok.order] at hsz
  have B0 : SfBest s roots P ⟨(s.sweep roots).2, (s.sweep roots).2.all.length, levO (s.sweep roots).2.o (v : Int)⟩ := ⟨k, by omega, hk, by dsimp only; rw [hPk, hm _ I0.ok.order, ← hsz]⟩
  obtain ⟨I1, B1, _⟩ := SfI.go hv hP hroom grow true 8 _ I0 B0
  obtain ⟨e1, f1⟩ := SfI.go_same hv hP hroom m hm grow true 8 ⟨(s.sweep roots).2, (s.sweep roots).2.all.length, levO (s.sweep roots).2.o (v : Int)⟩ I0 (by dsimp only; omega)
  obtain ⟨I2, B2, _⟩ := SfI.go hv hP hroom grow false 8 _ I1 B1
  obtain ⟨e2, _⟩ := SfI.go_same hv hP hroom m hm grow false 8 _ I1 f1
  have hb := (e2.trans e1).trans hk
  have hlv := I2.ok.lev07 (v := (v : Int)) (by omega) (by omega)
  obtain ⟨I3, L3⟩ := SfI.end hv hP hroom k (by omega) 8 _ I2 (by omega)
  have e : s.sift roots (v : Int) grow = (0, Go.Proofs.YtdcomiopjgcboaaGreatDoor.siftEnd roots (v : Int) k 8 (Go.Proofs.YtdcomiopjgcboaaGreatDoor.siftGo roots (v : Int) grow false 8 (Go.Proofs.YtdcomiopjgcboaaGreatDoor.siftGo roots (v : Int) grow true 8 ⟨(s.sweep roots).2, (s.sweep roots).2.all.length, levO (s.sweep roots).2.o (v : Int)⟩)).s) := by
    unfold MS.sift
    rw [if_neg (by omega)]
    dsimp only
    rw [hb]
  rw [e]
  obtain ⟨j, j7, hj, hPj⟩ := I3.ord
  have hjb : j = k := by omega
  have hsz3 := I3.size
  rw [hm _ I3.ok.order] at hsz3
  refine ⟨rfl, ?_, hsz3.symm⟩
  rw [hPj, hjb, hPk, hsw.o]
end

/-- A store of one node, in any order. -/
def one9 (o : Nat → Int) : MS := ⟨⟨9, 1, [0], []⟩, [⟨0, 0, 1⟩], o⟩
theorem one9_mk (o : Nat → Int) : (MS.empty 9 o).mk 0 0 1 [] = (2, 0, one9 o) := rfl
theorem one9_ok {o : Nat → Int} (h : mayO o = true) : (one9 o).Ok := by
  have := (MS.empty_ok 9 (by decide) h).made 0 0 1
  rwa [one9_mk] at this
theorem one9_has {o : Nat → Int} (h : mayO o = true) (n : Int) (hn : (one9 o).has n = true) : n = 2 := by
  have : n ∈ (one9 o).all := (one9_ok h).toBase.mem_all.2 hn
  simpa using (show n ∈ [(2 : Int)] from this)
theorem one9_tab {o : Nat → Int} (h : mayO o = true) : (one9 o).tab 2 = (varAny 0 &&& BitVec.allOnes 256 ||| ~~~(varAny 0) &&& 0#256) := by
  have := (one9_ok h).tab_node (n := 2) rfl
  rw [this]
  show (varAny 0 &&& (one9 o).tab 1 ||| ~~~(varAny 0) &&& (one9 o).tab 0) = _
  rw [MS.tab_const rfl, MS.tab_const rfl]
  rfl
theorem one9_size {o p : Nat → Int} (h : mayO o = true) (hp : mayO p = true) : sizeF ([2].map (one9 p).tab) o = 1 := by
  have := (one9_ok h).size_reach (roots := [2]) (fun r hr => by rw [List.mem_singleton.1 hr]; rfl) (fun n hn => by
    have e := one9_has h n hn
    subst e
    exact .root (by simp) hn)
  rw [show [2].map (one9 p).tab = [2].map (one9 o).tab by simp only [List.map_cons, List.map_nil]; rw [one9_tab h, one9_tab hp]]
  exact this

set_option maxRecDepth 100000 in
set_option maxHeartbeats 4000000 in
theorem up13 {StAt : World → Nat → (Nat → Prop) → MS → Prop} (H : StoreC StAt) (C : SiftC StAt) (w : World) : Calls Tryz.prog 5 #[] w fun e w' => e = .returned (.bool true) ∧ Below w.heap.size w w' := by
  have h13 := MS.Ok.sift_same (one9_ok plainO_may) (roots := [2]) (fun r hr => by rw [List.mem_singleton.1 hr]; rfl) (v := 0) (by decide) (grow := 100) (by decide) (fun o ho => by rw [one9_size ho plainO_may]; decide) 1 (fun o ho => one9_size ho plainO_may)
  have hok := (one9_ok plainO_may).sift [2] 0 100
  rw [show ((0 : Nat) : Int) = 0 from rfl] at h13
  obtain ⟨q1, q2, q3⟩ := h13
  go_enter Tryz.func5, Tryz.ntmps5
  go_wp2_with fail
  refine (H.new 9 w (by decide) (by decide)).mono ?_
  rintro e w1 ⟨b, rfl, ⟨F, hA, hF⟩, hb⟩
  rw [show MS.none (9 : Int).toNat = MS.empty 9 plainO from rfl] at hA
  have M := H.make hA (MS.empty_ok 9 (by decide) plainO_may) 0 0 1 (by decide) (by decide)
  rw [one9_mk] at M
  dsimp only at M
  rw [errV0] at M
  go_wp2_with fail
  refine M.mono ?_
  rintro e w2 ⟨rfl, F2, hA2, hK, hW⟩
  obtain ⟨⟨F3, hA3, hF3⟩, hb3⟩ := UpS.step hb hF hA2 hK hW
  clear M hA hF hA2 hK hW hb
  have hb1 := (Below.refl w2.heap.size w2).alloc (Nat.le_refl _) (.cells #[.int .i64 2] 3)
  have hA4 := H.below hA3 hb1
  have S1 := C.sift hA4 (one9_ok plainO_may) [2] (.slice (some ⟨w2.heap.size, 0, none⟩) 1 1) (RootsAt.of_owns (ownsOne w2 2) (fun g hg hq => by cases hg; have := H.lt hA3 _ hq; dsimp only at this; omega)) (by decide) (by decide) 0 100
  rw [q1, errV0] at S1
  replace hb := hb3.trans (hb1.mono hb3.size)
  generalize ((one9 plainO).sift [2] 0 100).2 = s2 at *
  clear q1 hA3 hb3
  go_wp2_with fail
  refine S1.mono ?_
  rintro e w3 ⟨rfl, F5, hA5, hK, hW⟩
  obtain ⟨⟨F6, hA6, hF6⟩, hb6⟩ := UpS.step hb hF3 hA5 hK hW
  clear S1 hA4 hF3 hA5 hK hW hb hb1
  have HL := H.live hA6 hok
  rw [q3] at HL
  go_wp2_with fail
  refine HL.mono ?_
  rintro e w4 ⟨rfl, hb⟩
  replace hA6 := H.below hA6 hb
  replace hb := hb6.trans (hb.mono hb6.size)
  clear HL hb6
  have HO := H.order hA6 hok
  rw [q2, show ov (one9 plainO).o = .agg #[.int .i64 0, .int .i64 1, .int .i64 2, .int .i64 3, .int .i64 4, .int .i64 5, .int .i64 6, .int .i64 7] from rfl] at HO
  go_wp2_with fail
  refine HO.mono ?_
  rintro e w5 ⟨rfl, hb6⟩
  replace hA6 := H.below hA6 hb6
  replace hb := hb.trans (hb6.mono hb.size)
  clear HO hb6
  have S2 := C.sift hA6 hok [] (.slice none 0 0) (RootsAt.none _ _) (by decide) (fun r h => by cases h) 8 1
  rw [show s2.sift [] 8 1 = (1, s2) by unfold MS.sift; rw [if_pos (by decide)]] at S2
  have HC := fun V => lawCode 1 V (by decide) (by decide)
  go_wp2_with fail
  refine S2.mono ?_
  rintro e w6 ⟨rfl, F7, hA7, hK, hW⟩
  obtain ⟨_, hb7⟩ := UpS.step hb hF6 hA7 hK hW
  clear S2 hA7 hK hW
  go_wp2_with fail
  refine (HC _).mono ?_
  rintro e w7 ⟨rfl, rfl⟩
  go_wp2
  go_ret
  exact ⟨rfl, hb7⟩

end Go.Proofs.YtdcomiopjgcboaaGreatDoor
