/-
  Texts of this proof, one behind the other: BSet, ReachM, GathM, Slay, ReadB, OrdEq, Law7.
-/
import Derived.Test.YtoopeaahpmfleaaGreatDoorG14
import Derived.Maps.OwnSet
import Derived.Test.YtoopeaahpmfleaaGreatDoorG1
import Derived.Test.YtoopeaahpmfleaaGreatDoorG12
import Derived.Shelf.SlIterI.Nil
import Derived.Shelf.SortM.Plain
import Derived.Shelf.SortM.SortNone
import Derived.Test.YtoopeaahpmfleaaGreatDoorProg
import Derived.Test.YtoopeaahpmfleaaGreatDoorG5
import Derived.ChangeKeysEq
import Derived.WalkKit
import Derived.KernelRfl
import Derived.Test.YtoopeaahpmfleaaGreatDoorG8
import Derived.Deep.RegionHeld3
/-
  A map whose elements are bools and that holds true at some keys and nothing else, as the list of these keys; nothing of the program is read here.
-/
namespace Go.Proofs.YtoopeaahpmfleaaGreatDoor
open Go Go.RowKit Go.Maps

section
variable {P : Program} {K e : TypeId} {α : Type} [DecidableEq α] {E : KeyEnc P K α}

/-- Block b is a map that holds true at the keys S, and nothing else. -/
def BSet (E : KeyEnc P K α) (e : TypeId) (w : World) (b : Nat) (S : List α) : Prop :=
  ∃ D : DataW Unit, w.ownsMap P K (plainElem P e) b S.length D ∧ (∀ a, D.atKey (E.lit a) (.lit (.bool false)) = .lit (.bool (decide (a ∈ S)))) ∧ (∀ a, has D (E.lit a) = decide (a ∈ S)) ∧ Maps.size D = S.length

theorem BSet.made (E : KeyEnc P K α) (e : TypeId) (w : World) : BSet E e (w.alloc (.map #[] 0)) w.heap.size [] :=
  ⟨.map [], World.ownsMap_made _ _ _ _, fun _ => rfl, fun _ => rfl, rfl⟩

theorem BSet.block {w w' : World} {b : Nat} {S : List α} (h : BSet E e w b S) (hb : w'.heap[b]? = w.heap[b]?) : BSet E e w' b S := by
  obtain ⟨D, ⟨es, clock, h1, h2, h3, h4⟩, r⟩ := h
  exact ⟨D, ⟨es, clock, hb.trans h1, h2, h3, h4⟩, r⟩

theorem BSet.lt {w : World} {b : Nat} {S : List α} (h : BSet E e w b S) : b < w.heap.size := by
  obtain ⟨D, ho, _⟩ := h; exact ho.lt

theorem BSet.keep {w w' : World} {b B : Nat} {S : List α} (h : BSet E e w b S) (hb : Below B w w') (hB : b < B) : BSet E e w' b S := h.block (hb.block b hB)
theorem BSet.alloc {w : World} {b : Nat} {S : List α} (h : BSet E e w b S) (o : Obj) : BSet E e (w.alloc o) b S := h.block (heap_alloc_old _ _ h.lt)

theorem plainElem_bool_inv {e : TypeId} (he : P.underlying e = some .bool) {v : Value} {z : DataW Unit × List MemPlace} (h : plainElem P e v = some z) : ∃ x, v = .bool x ∧ z = (.lit (.bool x), []) := by
  unfold plainElem at h
  rw [he] at h
  cases v <;> simp at h
  exact ⟨_, rfl, h.symm⟩

/-- m[a], read. -/
theorem BSet.look {w : World} {b : Nat} {S : List α} {t : TypeId} (h : BSet E e w b S) (ht : P.underlying t = some (.map K e)) (he : P.underlying e = some .bool) (hz : (zeroValue e).run P w = .ok (.bool false) w) (a : α) :
    (Instr.lookup t (.map (some b)) (E.val a) false).run P w = .ok (.bool (decide (a ∈ S))) w := by
  obtain ⟨D, ho, ha, _⟩ := h
  obtain ⟨v, ps, hr, hv⟩ := ho.lookup E.law ht hz (plainElem_bool he false) (E.key a)
  obtain ⟨x, rfl, hx⟩ := plainElem_bool_inv he hv
  rw [ha a] at hx
  simp only [Prod.mk.injEq, DataW.lit.injEq, Lit.bool.injEq] at hx
  rw [hr, hx.1]

/-- len(m). -/
theorem BSet.len {w : World} {b : Nat} {S : List α} {t : TypeId} (h : BSet E e w b S) (ht : P.underlying t = some (.map K e)) (ty : TypeId) : (Builtin.len_ #[t] ty #[.map (some b)]).run P w = .ok (.int .i64 S.length) w := by
  obtain ⟨D, ho, _, _, hs⟩ := h
  rw [ho.len ht ty, hs]

/-- m[a] = true, stored. -/
theorem BSet.put {ops : Array Oper} {rest : List Oper} {o : Oper} {A : Act} {Q : Exit → Act → World → Prop} {w : World} {b : Nat} {S : List α} {t : TypeId}
    (h : BSet E e w b S) (ht : P.underlying t = some (.map K e)) (he : P.underlying e = some .bool) (hn : S.length < maxLen) (hg : o.guard = none) (x y v : Operand) (hop : o.op = Op.mapUpdate t x y v)
    (a : α) (hna : a ∉ S) (hx : A.eval x = .map (some b)) (hy : A.eval y = E.val a) (hv : A.eval v = .bool true)
    (hK : ∀ w', BSet E e w' b (S ++ [a]) → w.grownBy w' (some b) → wpList P ops Q rest (A.put o.dst undef) w') : wpList P ops Q (o :: rest) A w := by
  obtain ⟨D, ho, ha, hh, hs⟩ := h
  have hm := ho.isMap
  have htd := ho.tidy E.law
  refine wpList_mapUpdate_own w hg x y v t hop K e E.law ht _ b _ D hx ho hn _ _ _ hy hv (E.key a) _ [] (plainElem_bool he true) ?_
  intro w' ho' hgr
  refine hK w' ⟨_, by rw [List.length_append, List.length_singleton]; exact ho', fun z => ?_, fun z => ?_, ?_⟩ hgr
  · by_cases hz : z = a
    · subst hz
      rw [atKey_put_same hm (E.law.key (E.key z)), decide_eq_true (List.mem_append_right _ (List.mem_singleton.2 rfl))]
    · rw [atKey_put_other (fun h => hz (E.lit_inj h)), ha z]
      simp [hz]
  · by_cases hz : z = a
    · subst hz
      rw [has_put_same hm (E.law.key (E.key z)), decide_eq_true (List.mem_append_right _ (List.mem_singleton.2 rfl))]
    · rw [has_put_other (fun h => hz (E.lit_inj h)), hh z]
      simp [hz]
  · rw [size_put htd, hh a, decide_eq_false hna, hs]
    simp
end

end Go.Proofs.YtoopeaahpmfleaaGreatDoor

/-
  Mathematics of layer 8: what is reached. Nothing of the program is read here.
-/
namespace Go.Proofs.YtoopeaahpmfleaaGreatDoor

/-- Reached from roots. -/
inductive MS.Rch (s : MS) (roots : List Int) : Int → Prop
  | root {r : Int} (h : r ∈ roots) (hh : s.has r = true) : MS.Rch s roots r
  | lo {n : Int} (h : MS.Rch s roots n) (hh : s.has (s.nd n).lo = true) : MS.Rch s roots (s.nd n).lo
  | hi {n : Int} (h : MS.Rch s roots n) (hh : s.has (s.nd n).hi = true) : MS.Rch s roots (s.nd n).hi
theorem MS.Rch.has {s : MS} {roots : List Int} {n : Int} (h : s.Rch roots n) : s.has n = true := by cases h <;> assumption
open Classical in
/-- Their numbers, rising. -/
noncomputable def MS.reach (s : MS) (roots : List Int) : List Int := s.all.filter fun n => decide (s.Rch roots n)

/-- While what is reached is marked: so much of the work is done. -/
structure RInv (s : MS) (roots : List Int) (seen : List Bool) (work : List Int) (i : Nat) : Prop where
  len : seen.length = s.N.length + 2
  sound : ∀ n : Int, 0 ≤ n → seen.getD n.toNat false = true → s.Rch roots n
  wk : ∀ m ∈ work, s.has m = true → s.Rch roots m
  done : ∀ j (hj : j < work.length), j < i → s.has work[j] = true → seen.getD work[j].toNat false = true
  kids : ∀ n : Int, 0 ≤ n → seen.getD n.toNat false = true → (s.nd n).lo ∈ work ∧ (s.nd n).hi ∈ work
  rt : ∀ r ∈ roots, r ∈ work
  count : work.length = roots.length + 2 * seen.count true

section
variable {s : MS} {roots work : List Int} {seen : List Bool} {i : Nat}
theorem RInv.start (s : MS) (roots : List Int) : RInv s roots (List.replicate (s.N.length + 2) false) roots 0 := by
  have h0 : ∀ n : Nat, (List.replicate (s.N.length + 2) false).getD n false = false := fun n => by
    rw [List.getD, List.getElem?_replicate]; split <;> rfl
  exact ⟨by simp, fun n _ h => (by rw [h0] at h; cases h), fun m hm hh => .root hm hh, fun j hj h => by omega, fun n _ h => (by rw [h0] at h; cases h), fun r hr => hr, by simp [List.count_replicate]⟩
theorem RInv.old (h : RInv s roots seen work i) (hi : i < work.length) (hs : s.has work[i] = true → seen.getD work[i].toNat false = true) : RInv s roots seen work (i + 1) :=
  ⟨h.len, h.sound, h.wk, fun j hj hlt hh => by
    by_cases e : j = i
    · subst e; exact hs hh
    · exact h.done j hj (by omega) hh, h.kids, h.rt, h.count⟩
theorem getD_set (l : List Bool) (k j : Nat) (hk : k < l.length) : (l.set k true).getD j false = if j = k then true else l.getD j false := by
  rw [List.getD, List.getElem?_set]
  by_cases e : k = j
  · subst e; simp [hk]
  · rw [if_neg e, if_neg (fun e' => e e'.symm)]; rfl
theorem RInv.new (h : RInv s roots seen work i) (ok : s.Base) (hi : i < work.length) (hh : s.has work[i] = true) (hs : seen.getD work[i].toNat false = false) :
    RInv s roots (seen.set work[i].toNat true) (work ++ [(s.nd work[i]).lo, (s.nd work[i]).hi]) (i + 1) := by
  obtain ⟨r1, r2, _⟩ := ok.range hh
  have hk : work[i].toNat < seen.length := by rw [h.len]; omega
  have hR := h.wk _ (List.getElem_mem hi) hh
  have e : ∀ n : Int, 0 ≤ n → (n.toNat = work[i].toNat ↔ n = work[i]) := fun n hn => by omega
  refine ⟨by rw [List.length_set]; exact h.len, fun n hn hc => ?_, fun m hm hmh => ?_, fun j hj hlt hjh => ?_, fun n hn hc => ?_, fun r hr => List.mem_append_left _ (h.rt r hr), ?_⟩
  · rw [getD_set _ _ _ hk] at hc
    by_cases en : n = work[i]
    · rw [en]; exact hR
    · rw [if_neg (fun q => en ((e n hn).1 q))] at hc
      exact h.sound n hn hc
  · rcases List.mem_append.1 hm with hm | hm
    · exact h.wk m hm hmh
    · simp only [List.mem_cons, List.not_mem_nil, or_false] at hm
      rcases hm with rfl | rfl
      · exact .lo hR hmh
      · exact .hi hR hmh
  · rw [getD_set _ _ _ hk]
    by_cases ej : j = i
    · subst ej
      rw [List.getElem_append_left hi, if_pos rfl]
    · have hj' : j < work.length := by omega
      rw [List.getElem_append_left hj'] at hjh ⊢
      split
      · rfl
      · exact h.done j hj' (by omega) hjh
  · rw [getD_set _ _ _ hk] at hc
    by_cases en : n = work[i]
    · rw [en]; simp
    · rw [if_neg (fun q => en ((e n hn).1 q))] at hc
      have := h.kids n hn hc
      exact ⟨List.mem_append_left _ this.1, List.mem_append_left _ this.2⟩
  · have hc := List.count_set (a := true) (b := true) hk
    have h0 : seen[work[i].toNat] = false := by
      rw [List.getD, List.getElem?_eq_getElem hk] at hs
      exact hs
    rw [hc, h0, List.length_append, h.count]
    simp
    omega
theorem RInv.all (h : RInv s roots seen work i) (hi : work.length ≤ i) {n : Int} (hn : s.Rch roots n) : seen.getD n.toNat false = true := by
  have key : ∀ m ∈ work, s.has m = true → seen.getD m.toNat false = true := fun m hm hh => by
    obtain ⟨j, hj, rfl⟩ := List.mem_iff_getElem.1 hm
    exact h.done j hj (by omega) hh
  induction hn with
  | root hr hh => exact key _ (h.rt _ hr) hh
  | lo hR hh ih => exact key _ (h.kids _ (by have := hR.has; simp only [MS.has, Bool.and_eq_true, decide_eq_true_eq] at this; omega) ih).1 hh
  | hi hR hh ih => exact key _ (h.kids _ (by have := hR.has; simp only [MS.has, Bool.and_eq_true, decide_eq_true_eq] at this; omega) ih).2 hh
theorem RInv.bound (h : RInv s roots seen work i) : work.length ≤ roots.length + 2 * (s.N.length + 2) := by
  have := List.count_le_length (a := true) (l := seen)
  rw [h.len] at this
  rw [h.count]
  omega
theorem RInv.reach (h : RInv s roots seen work i) (hi : work.length ≤ i) : ((List.range s.N.length).map fun k : Nat => (k : Int) + 2).filter (fun n => seen.getD n.toNat false) = s.reach roots := by
  unfold MS.reach MS.all
  rw [List.filter_filter]
  refine List.filter_congr fun n hn => ?_
  obtain ⟨k, _, rfl⟩ := List.mem_map.1 hn
  have h1 : seen.getD ((k : Int) + 2).toNat false = true ↔ s.Rch roots ((k : Int) + 2) := ⟨fun q => h.sound _ (by omega) q, fun q => h.all hi q⟩
  by_cases hR : s.Rch roots ((k : Int) + 2)
  · rw [h1.2 hR, hR.has]; simp [hR]
  · have : seen.getD ((k : Int) + 2).toNat false = false := by
      cases hc : seen.getD ((k : Int) + 2).toNat false
      · rfl
      · exact absurd (h1.1 hc) hR
    rw [this]; simp [hR]
end

end Go.Proofs.YtoopeaahpmfleaaGreatDoor

/-
  Mathematics of package read: what a search from a node adds to what was met. Nothing of the program is read here.
-/
namespace Go.Proofs.YtoopeaahpmfleaaGreatDoor

/-- As deep as k all that is met has its parts met. -/
def MS.Clo (s : MS) (k : Nat) (S : List Int) : Prop := ∀ m ∈ S, s.dep m ≤ k → (s.has (s.nd m).lo = true → (s.nd m).lo ∈ S) ∧ (s.has (s.nd m).hi = true → (s.nd m).hi ∈ S)

/-- T is what a search from n adds to S. -/
structure GthP (s : MS) (n : Int) (S T : List Int) : Prop where
  nodup : (S ++ T).Nodup
  rch : ∀ m ∈ T, s.Rch [n] m ∧ s.dep m ≤ s.dep n
  inn : s.has n = true → n ∈ S ++ T
  clo : s.Clo (s.dep n) S → s.Clo (s.dep n) (S ++ T)

theorem MS.Rch.via {s : MS} {r : List Int} {m k : Int} (h : s.Rch [m] k) (hm : s.has m = true → s.Rch r m) : s.Rch r k := by
  induction h with
  | root h hh => obtain rfl := List.mem_singleton.1 h; exact hm hh
  | lo _ hh ih => exact .lo ih hh
  | hi _ hh ih => exact .hi ih hh

theorem GthP.none {s : MS} {n : Int} {S : List Int} (hS : S.Nodup) (h : s.has n = true → n ∈ S) : GthP s n S [] :=
  ⟨by rwa [List.append_nil], (by intro m hm; cases hm), fun hh => by rw [List.append_nil]; exact h hh, fun h => by rwa [List.append_nil]⟩

theorem GthP.node {s : MS} (ok : s.Ok) {n : Int} {S T1 T2 : List Int} (hn : s.has n = true) (_hS : n ∉ S) (h1 : GthP s (s.nd n).lo (S ++ [n]) T1) (h2 : GthP s (s.nd n).hi (S ++ [n] ++ T1) T2) :
    GthP s n S ([n] ++ T1 ++ T2) := by
  have d1 := ok.dep_behind hn (ok.lo n hn)
  have d2 := ok.dep_behind hn (ok.hi n hn)
  have e : S ++ ([n] ++ T1 ++ T2) = S ++ [n] ++ T1 ++ T2 := by simp
  have hr : s.Rch [n] n := .root (List.mem_singleton.2 rfl) hn
  refine ⟨by rw [e]; exact h2.nodup, fun m hm => ?_, fun _ => by simp, fun hc => ?_⟩
  · simp only [List.mem_append, List.mem_singleton] at hm
    rcases hm with (rfl | hm) | hm
    · exact ⟨hr, Nat.le_refl _⟩
    · obtain ⟨r, d⟩ := h1.rch m hm
      exact ⟨MS.Rch.via r (fun hh => .lo hr hh), by omega⟩
    · obtain ⟨r, d⟩ := h2.rch m hm
      exact ⟨MS.Rch.via r (fun hh => .hi hr hh), by omega⟩
  · rw [e]
    have c1 : s.Clo (s.dep (s.nd n).lo) (S ++ [n]) := fun m hm hd => by
      rcases List.mem_append.1 hm with hm | hm
      · obtain ⟨a, b⟩ := hc m hm (by omega)
        exact ⟨fun h => List.mem_append_left _ (a h), fun h => List.mem_append_left _ (b h)⟩
      · obtain rfl := List.mem_singleton.1 hm; omega
    replace c1 := h1.clo c1
    have c2 : s.Clo (s.dep (s.nd n).hi) (S ++ [n] ++ T1) := fun m hm hd => by
      rcases List.mem_append.1 hm with hm' | hm'
      · rcases List.mem_append.1 hm' with hm' | hm'
        · obtain ⟨a, b⟩ := hc m hm' (by omega)
          exact ⟨fun h => List.mem_append_left _ (List.mem_append_left _ (a h)), fun h => List.mem_append_left _ (List.mem_append_left _ (b h))⟩
        · obtain rfl := List.mem_singleton.1 hm'; omega
      · exact c1 m hm (h1.rch m hm').2
    replace c2 := h2.clo c2
    intro m hm hd
    rcases List.mem_append.1 hm with hm1 | hm1
    · rcases List.mem_append.1 hm1 with hm2 | hm2
      · rcases List.mem_append.1 hm2 with hm3 | hm3
        · obtain ⟨a, b⟩ := hc m hm3 hd
          exact ⟨fun h => by have := a h; simp [this], fun h => by have := b h; simp [this]⟩
        · obtain rfl := List.mem_singleton.1 hm3
          exact ⟨fun h => List.mem_append_left _ (h1.inn h), fun h => h2.inn h⟩
      · obtain ⟨a, b⟩ := c1 m (List.mem_append_right _ hm2) (h1.rch m hm2).2
        exact ⟨fun h => List.mem_append_left _ (a h), fun h => List.mem_append_left _ (b h)⟩
    · exact c2 m hm (h2.rch m hm1).2

/-- At the loop's head of Reach. -/
structure RchI (s : MS) (roots : List Int) (i : Nat) (S : List Int) : Prop where
  nodup : S.Nodup
  rch : ∀ m ∈ S, s.Rch roots m
  rt : ∀ j (hj : j < roots.length), j < i → s.has roots[j] = true → roots[j] ∈ S
  clo : ∀ k, s.Clo k S

theorem RchI.start (s : MS) (roots : List Int) : RchI s roots 0 [] := ⟨List.nodup_nil, (by intro m hm; cases hm), fun j _ h => by omega, fun k m hm => by cases hm⟩
theorem RchI.step {s : MS} {roots S T : List Int} {i : Nat} (h : RchI s roots i S) (hi : i < roots.length) (g : GthP s roots[i] S T) : RchI s roots (i + 1) (S ++ T) := by
  refine ⟨g.nodup, fun m hm => ?_, fun j hj hlt hh => ?_, fun k m hm hd => ?_⟩
  · rcases List.mem_append.1 hm with hm1 | hm1
    · exact h.rch m hm1
    · have r := (g.rch m hm1).1
      clear h hm hm1 g
      induction r with
      | root h hh => obtain rfl := List.mem_singleton.1 h; exact .root (List.getElem_mem hi) hh
      | lo _ hh ih => exact .lo ih hh
      | hi _ hh ih => exact .hi ih hh
  · by_cases e : j = i
    · subst e; exact g.inn hh
    · exact List.mem_append_left _ (h.rt j hj (by omega) hh)
  · rcases List.mem_append.1 hm with hm' | hm'
    · obtain ⟨a, b⟩ := h.clo k m hm' hd
      exact ⟨fun h => List.mem_append_left _ (a h), fun h => List.mem_append_left _ (b h)⟩
    · exact g.clo (h.clo _) m hm (g.rch m hm').2
theorem RchI.all {s : MS} {roots S : List Int} {i : Nat} (h : RchI s roots i S) (hi : roots.length ≤ i) {m : Int} (hm : s.Rch roots m) : m ∈ S := by
  induction hm with
  | root h1 hh =>
    obtain ⟨j, hj, rfl⟩ := List.mem_iff_getElem.1 h1
    exact h.rt j hj (by omega) hh
  | lo _ hh ih => exact (h.clo _ _ ih (Nat.le_refl _)).1 hh
  | hi _ hh ih => exact (h.clo _ _ ih (Nat.le_refl _)).2 hh

open Classical in
theorem MS.Base.reach_iff {s : MS} (ok : s.Base) {roots : List Int} {m : Int} : m ∈ s.reach roots ↔ s.Rch roots m := by
  unfold MS.reach
  rw [List.mem_filter]
  exact ⟨fun h => of_decide_eq_true h.2, fun h => ⟨ok.mem_all.2 h.has, decide_eq_true h⟩⟩
theorem MS.reach_sorted (s : MS) (roots : List Int) : (s.reach roots).Pairwise (· < ·) := by
  unfold MS.reach MS.all
  refine List.Pairwise.filter _ (List.Pairwise.filter _ ?_)
  rw [List.pairwise_map]
  exact List.Pairwise.imp (fun h => by omega) List.pairwise_lt_range
theorem RchI.sorted {s : MS} (ok : s.Base) {roots S ss : List Int} {i : Nat} (h : RchI s roots i S) (hi : roots.length ≤ i) (hp : ss.Perm S) : ss.mergeSort (fun x y => decide (x ≤ y)) = s.reach roots := by
  have hs := s.reach_sorted roots
  have hnd : (s.reach roots).Nodup := List.Pairwise.imp (fun h e => by omega) hs
  have hperm : ss.Perm (s.reach roots) := hp.trans ((List.perm_ext_iff_of_nodup h.nodup hnd).2 fun m => by
    rw [ok.reach_iff]
    exact ⟨h.rch m, h.all hi⟩)
  have tr : ∀ a b c : Int, decide (a ≤ b) = true → decide (b ≤ c) = true → decide (a ≤ c) = true := fun a b c h1 h2 => by simp only [decide_eq_true_eq] at *; omega
  have to : ∀ a b : Int, (decide (a ≤ b) || decide (b ≤ a)) = true := fun a b => by simp only [Bool.or_eq_true, decide_eq_true_eq]; omega
  refine List.Perm.eq_of_pairwise (le := fun a b => decide (a ≤ b) = true) (fun a b _ _ h1 h2 => ?_) (List.pairwise_mergeSort tr to ss) (hs.imp fun h => by simp only [decide_eq_true_eq]; omega) ((List.mergeSort_perm ss _).trans hperm)
  simp only [decide_eq_true_eq] at h1 h2
  omega
/-- No more are met than there may be. -/
theorem met_few {s : MS} (ok : s.Base) {S : List Int} (hS : S.Nodup) (h : ∀ m ∈ S, s.has m = true) : S.length ≤ 20000 := by
  have := List.Nodup.length_le_of_subset (l₁ := S) (l₂ := (List.range 20000).map fun k : Nat => (k : Int) + 2) hS fun m hm => by
    have := ok.has_le (h m hm)
    rw [List.mem_map]
    exact ⟨(m - 2).toNat, List.mem_range.2 (by omega), by omega⟩
  simpa using this

end Go.Proofs.YtoopeaahpmfleaaGreatDoor

/-
  The library's contracts of maps.Keys, slices.Sorted, slices.Sort at numbers, laid over this program: tables of numbers, and one theorem each.
-/
namespace Go.Proofs
open Go.Shelf
def Tryz.keysA_ren : Go.Shelf.Ren := ⟨fun | 7 => 64 | 10 => 103 | n => n, fun | 23 => 107 | 26 => 3 | 3 => 4 | 28 => 111 | 0 => 0 | 27 => 110 | 33 => 76 | 4 => 4 | n => n, fun | n => n⟩
theorem Tryz.keysA : Go.Proofs.SlLaysZI.n7 Tryz.prog Tryz.keysA_ren := {
  mixed := by kernel_rfl
  f7 := ⟨Tryz.f64.name, by decide, Tryz.func64.trans (congrArg some (by kernel_rfl))⟩
  f10 := ⟨Tryz.f103.name, by decide, Tryz.func103.trans (congrArg some (by kernel_rfl))⟩
  t0 := Tryz.underlying0
  a0 := Tryz.isAgg0
  z0 := Tryz.sizeOf0
  v0 := Tryz.zeroValue0
  t4 := Tryz.underlying4
  a4 := Tryz.isAgg4
  z4 := Tryz.sizeOf4
  v4 := Tryz.zeroValue4
  t23 := Tryz.underlying107
  a23 := Tryz.isAgg107
  z23 := Tryz.sizeOf107
  v23 := Tryz.zeroValue107
  t26 := Tryz.underlying3
  a26 := Tryz.isAgg3
  z26 := Tryz.sizeOf3
  v26 := Tryz.zeroValue3
  t27 := Tryz.underlying110
  a27 := Tryz.isAgg110
  z27 := Tryz.sizeOf110
  v27 := Tryz.zeroValue110
  t28 := Tryz.underlying111
  a28 := Tryz.isAgg111
  z28 := Tryz.sizeOf111
  v28 := Tryz.zeroValue111
  t33 := Tryz.underlying76
  a33 := Tryz.isAgg76
  z33 := Tryz.sizeOf76
  v33 := Tryz.zeroValue76 }
def Tryz.sortedA_ren : Go.Shelf.Ren := ⟨fun | 6 => 63 | 8 => 101 | 9 => 102 | 11 => 125 | 13 => 127 | 12 => 126 | 23 => 146 | 24 => 147 | 14 => 137 | 15 => 138 | 16 => 139 | 17 => 140 | 18 => 141 | 19 => 142 | 20 => 143 | 21 => 144 | 22 => 145 | 25 => 149 | 26 => 150 | 27 => 151 | 28 => 152 | 29 => 153 | 30 => 154 | 31 => 155 | n => n, fun | 26 => 3 | 28 => 111 | 24 => 23 | 0 => 0 | 3 => 3 | 37 => 144 | 48 => 173 | 50 => 48 | 4 => 4 | 40 => 167 | 39 => 166 | 45 => 104 | 5 => 5 | 9 => 9 | 51 => 176 | 55 => 180 | 57 => 182 | 58 => 40 | 33 => 76 | n => n, fun | n => n⟩
theorem Tryz.sortedA : Go.Proofs.SlLaysZI.n6 Tryz.prog Tryz.sortedA_ren := {
  mixed := by kernel_rfl
  f6 := ⟨Tryz.f63.name, by decide, Tryz.func63.trans (congrArg some (by kernel_rfl))⟩
  f8 := ⟨Tryz.f101.name, by decide, Tryz.func101.trans (congrArg some (by kernel_rfl))⟩
  f11 := ⟨Tryz.f125.name, by decide, Tryz.func125.trans (congrArg some (by kernel_rfl))⟩
  t0 := Tryz.underlying0
  a0 := Tryz.isAgg0
  z0 := Tryz.sizeOf0
  v0 := Tryz.zeroValue0
  t24 := Tryz.underlying23
  a24 := Tryz.isAgg23
  z24 := Tryz.sizeOf23
  v24 := Tryz.zeroValue23
  t26 := Tryz.underlying3
  a26 := Tryz.isAgg3
  z26 := Tryz.sizeOf3
  v26 := Tryz.zeroValue3
  t28 := Tryz.underlying111
  a28 := Tryz.isAgg111
  z28 := Tryz.sizeOf111
  v28 := Tryz.zeroValue111
  i26 := by kernel_rfl }
def Tryz.sortA_ren : Go.Shelf.Ren := ⟨fun | 5 => 102 | 8 => 127 | 7 => 126 | 19 => 146 | 20 => 147 | 10 => 137 | 11 => 138 | 12 => 139 | 13 => 140 | 14 => 141 | 15 => 142 | 16 => 143 | 17 => 144 | 18 => 145 | 30 => 149 | 31 => 150 | 32 => 151 | 33 => 152 | 34 => 153 | 35 => 154 | 40 => 155 | n => n, fun | 23 => 23 | 25 => 3 | 3 => 3 | 32 => 144 | 22 => 23 | 0 => 0 | 44 => 173 | 46 => 48 | 4 => 4 | 36 => 167 | 35 => 166 | 41 => 104 | 5 => 5 | 9 => 9 | 53 => 176 | 57 => 180 | 63 => 182 | 64 => 40 | n => n, fun | n => n⟩
theorem Tryz.sortA : Go.Proofs.SlLaysM.n5 Tryz.prog Tryz.sortA_ren := {
  mixed := by kernel_rfl
  f5 := ⟨Tryz.f102.name, by decide, Tryz.func102.trans (congrArg some (by kernel_rfl))⟩
  f7 := ⟨Tryz.f126.name, by decide, Tryz.func126.trans (congrArg some (by kernel_rfl))⟩
  f8 := Tryz.func127.trans (congrArg some (by kernel_rfl))
  f10 := ⟨Tryz.f137.name, by decide, Tryz.func137.trans (congrArg some (by kernel_rfl))⟩
  f11 := ⟨Tryz.f138.name, by decide, Tryz.func138.trans (congrArg some (by kernel_rfl))⟩
  f12 := ⟨Tryz.f139.name, by decide, Tryz.func139.trans (congrArg some (by kernel_rfl))⟩
  f13 := ⟨Tryz.f140.name, by decide, Tryz.func140.trans (congrArg some (by kernel_rfl))⟩
  f14 := ⟨Tryz.f141.name, by decide, Tryz.func141.trans (congrArg some (by kernel_rfl))⟩
  f15 := ⟨Tryz.f142.name, by decide, Tryz.func142.trans (congrArg some (by kernel_rfl))⟩
  f16 := ⟨Tryz.f143.name, by decide, Tryz.func143.trans (congrArg some (by kernel_rfl))⟩
  f17 := ⟨Tryz.f144.name, by decide, Tryz.func144.trans (congrArg some (by kernel_rfl))⟩
  f18 := ⟨Tryz.f145.name, by decide, Tryz.func145.trans (congrArg some (by kernel_rfl))⟩
  f19 := Tryz.func146.trans (congrArg some (by kernel_rfl))
  f20 := Tryz.func147.trans (congrArg some (by kernel_rfl))
  f30 := ⟨Tryz.f149.name, by decide, Tryz.func149.trans (congrArg some (by kernel_rfl))⟩
  f31 := Tryz.func150.trans (congrArg some (by kernel_rfl))
  f32 := Tryz.func151.trans (congrArg some (by kernel_rfl))
  f33 := ⟨Tryz.f152.name, by decide, Tryz.func152.trans (congrArg some (by kernel_rfl))⟩
  f34 := ⟨Tryz.f153.name, by decide, Tryz.func153.trans (congrArg some (by kernel_rfl))⟩
  f35 := ⟨Tryz.f154.name, by decide, Tryz.func154.trans (congrArg some (by kernel_rfl))⟩
  f40 := ⟨Tryz.f155.name, by decide, Tryz.func155.trans (congrArg some (by kernel_rfl))⟩
  t0 := Tryz.underlying0
  a0 := Tryz.isAgg0
  z0 := Tryz.sizeOf0
  v0 := Tryz.zeroValue0
  t3 := Tryz.underlying3
  a3 := Tryz.isAgg3
  z3 := Tryz.sizeOf3
  v3 := Tryz.zeroValue3
  t4 := Tryz.underlying4
  a4 := Tryz.isAgg4
  z4 := Tryz.sizeOf4
  v4 := Tryz.zeroValue4
  t5 := Tryz.underlying5
  a5 := Tryz.isAgg5
  z5 := Tryz.sizeOf5
  v5 := Tryz.zeroValue5
  t9 := Tryz.underlying9
  a9 := Tryz.isAgg9
  z9 := Tryz.sizeOf9
  v9 := Tryz.zeroValue9
  t22 := Tryz.underlying23
  a22 := Tryz.isAgg23
  z22 := Tryz.sizeOf23
  v22 := Tryz.zeroValue23
  t23 := Tryz.underlying23
  a23 := Tryz.isAgg23
  z23 := Tryz.sizeOf23
  v23 := Tryz.zeroValue23
  t25 := Tryz.underlying3
  a25 := Tryz.isAgg3
  z25 := Tryz.sizeOf3
  v25 := Tryz.zeroValue3
  t32 := Tryz.underlying144
  a32 := Tryz.isAgg144
  z32 := Tryz.sizeOf144
  v32 := Tryz.zeroValue144
  t35 := Tryz.underlying166
  a35 := Tryz.isAgg166
  z35 := Tryz.sizeOf166
  v35 := Tryz.zeroValue166
  t36 := Tryz.underlying167
  a36 := Tryz.isAgg167
  z36 := Tryz.sizeOf167
  v36 := Tryz.zeroValue167
  t41 := Tryz.underlying104
  a41 := Tryz.isAgg104
  z41 := Tryz.sizeOf104
  v41 := Tryz.zeroValue104
  t44 := Tryz.underlying173
  a44 := Tryz.isAgg173
  z44 := Tryz.sizeOf173
  v44 := Tryz.zeroValue173
  t46 := Tryz.underlying48
  a46 := Tryz.isAgg48
  z46 := Tryz.sizeOf48
  v46 := Tryz.zeroValue48
  t53 := Tryz.underlying176
  a53 := Tryz.isAgg176
  z53 := Tryz.sizeOf176
  v53 := Tryz.zeroValue176
  t57 := Tryz.underlying180
  a57 := Tryz.isAgg180
  z57 := Tryz.sizeOf180
  v57 := Tryz.zeroValue180
  t63 := Tryz.underlying182
  a63 := Tryz.isAgg182
  z63 := Tryz.sizeOf182
  v63 := Tryz.zeroValue182
  t64 := Tryz.underlying40
  a64 := Tryz.isAgg40
  z64 := Tryz.sizeOf40
  v64 := Tryz.zeroValue40 }
end Go.Proofs

/-
  Walks of package read over the store's contracts: top, constant, Build.
-/
namespace Go.Proofs.YtoopeaahpmfleaaGreatDoor
open Go Go.RowKit

theorem idx_ov (o : Nat → Int) (n : Nat) (hn : n < 8) (w : World) : (Instr.index 83 (.agg #[.int .i64 (o 0), .int .i64 (o 1), .int .i64 (o 2), .int .i64 (o 3), .int .i64 (o 4), .int .i64 (o 5), .int .i64 (o 6), .int .i64 (o 7)]) (.int .i64 (n : Int))).run Tryz.prog w = .ok (.int .i64 (o n)) w := by
  have h1 : (0 : Int) ≤ (n : Int) ∧ (n : Int) < 8 := ⟨by omega, by omega⟩
  rcases (by omega : n = 0 ∨ n = 1 ∨ n = 2 ∨ n = 3 ∨ n = 4 ∨ n = 5 ∨ n = 6 ∨ n = 7) with rfl | rfl | rfl | rfl | rfl | rfl | rfl | rfl <;> simp [Instr.index, run_underlying Tryz.underlying83, asIntOf, go_sem]

theorem topFrom_none8 (f : Fn) (o : Nat → Int) (n : Nat) : ∀ i, ¬ 0 ≤ topFrom f o n i → topFrom f o n i = -1 := by
  induction n with
  | zero => intro i _; rfl
  | succ n ih =>
    intro i h
    simp only [topFrom] at h ⊢
    split
    · rename_i hd
      rw [if_pos hd] at h
      exact absurd (depAny_range hd).1 h
    · rename_i hd
      rw [if_neg hd] at h
      exact ih (i + 1) h

set_option maxRecDepth 100000 in
set_option maxHeartbeats 1000000 in
theorem readTop (f : Fn) (o : Nat → Int) (w : World) (hl : LowW w) :
    Calls Tryz.prog 57 #[fv f, ov o] w fun e w' => e = .returned (.tuple #[.int .i64 (if 0 ≤ topF f o then topF f o else 0), .bool (decide (0 ≤ topF f o))]) ∧ Below w.heap.size w w' := by
  have Hl := Lib.hid hl
  have HD := fun (v : Int) (W : World) (hb : Below w.heap.size w W) => cofDepends f v W (hl.keep hb)
  replace HD := Lib.hid HD
  clear hl
  generalize hr1 : (if 0 ≤ topF f o then topF f o else 0) = r1
  generalize hr2 : decide (0 ≤ topF f o) = r2
  replace hr1 := Lib.hid hr1
  replace hr2 := Lib.hid hr2
  simp only [fv, ov]
  go_enter Tryz.func57, Tryz.ntmps57
  go_wp2
  go_loopw [9] (fun i wr => ∃ n : Nat, n ≤ 8 ∧ i = .int .i64 n ∧ Hid (topF f o = topFrom f o (8 - n) n) ∧ Holds wr w.heap.size f ∧ Below w.heap.size w wr) (fun i _ => 8 - (intOf i).toNat)
  case atStart => exact ⟨0, Nat.zero_le _, rfl, rfl, (Holds.new _ _ _).alloc _, by go_grown⟩
  case round =>
    obtain ⟨n, hn, rfl, ht, h0, hb⟩ := hrel
    by_cases hlt : n < 8
    · have Hs : Hid (topF f o = if depAny f (o n) then o n else topFrom f o (8 - (n + 1)) (n + 1)) := by
        have := ht.out
        rw [show 8 - n = (8 - (n + 1)) + 1 by omega] at this
        exact this
      clear ht
      have hn0 : (0 : Int) ≤ (n : Int) := by omega
      have hn8 : (n : Int) < 8 := by omega
      obtain ⟨c0, c1, c2, c3⟩ := h0.cells
      have hix := idx_ov o n hlt wr
      have hd := HD.out (o n) wr hb
      simp only [fv] at hd
      go_wp2_with fail
      refine hd.mono ?_
      rintro e w1 ⟨rfl, hb1⟩
      replace h0 := h0.keep hb1 h0.lt
      replace hb := hb.trans (hb1.mono hb.size)
      clear hd hix c0 c1 c2 c3 hb1
      cases hdp : depAny f (o n)
      · rw [hdp] at Hs
        go_wp2
        exact ⟨⟨n + 1, by omega, by go_num, Hs.out, h0, hb⟩, by simp [intOf]; omega⟩
      · rw [hdp] at Hs
        have h00 := (depAny_range hdp).1
        have e1 : topF f o = o n := Hs.out
        have hres : r1 = o n ∧ r2 = true := by rw [← hr1.out, ← hr2.out, e1, if_pos h00, decide_eq_true h00]; exact ⟨rfl, rfl⟩
        replace hres := Lib.hid hres
        clear Hs HD e1 h00 hr1 hr2
        go_wp2
        go_ret2
        exact ⟨by rw [hres.out.1, hres.out.2]; rfl, hb⟩
    · obtain rfl : n = 8 := by omega
      have e1 : topF f o = -1 := ht.out
      have hres : r1 = 0 ∧ r2 = false := by rw [← hr1.out, ← hr2.out, e1]; exact ⟨rfl, rfl⟩
      replace hres := Lib.hid hres
      clear ht e1 HD hr1 hr2
      go_wp2
      go_ret2
      exact ⟨by rw [hres.out.1, hres.out.2]; rfl, hb⟩

set_option maxRecDepth 100000 in
theorem readConstant (f : Fn) (w : World) :
    Calls Tryz.prog 58 #[fv f] w fun e w' => e = .returned (.int .i64 (constN f)) ∧ Below w.heap.size w w' := by
  have HA := fun W => tabAt f 0 W
  have hc : constN f = if atF f 0 then 1 else 0 := rfl
  generalize constN f = c at *
  generalize atF f 0 = z at *
  simp only [fv] at *
  have hb : Below w.heap.size w (w.alloc (.cells #[.int .u64 (wd f 0), .int .u64 (wd f 1), .int .u64 (wd f 2), .int .u64 (wd f 3)] 50)) := by go_grown
  have hF := Holds.new w f w.heap.size rfl
  cases z
  · simp only [Bool.false_eq_true, if_false] at hc
    subst hc
    go_enter Tryz.func58, Tryz.ntmps58
    go_wp2_with fail
    generalize w.alloc (.cells #[.int .u64 (wd f 0), .int .u64 (wd f 1), .int .u64 (wd f 2), .int .u64 (wd f 3)] 50) = W at *
    refine (HA _).mono ?_
    rintro e w3 ⟨rfl, hb3⟩
    go_wp2
    go_ret
    exact ⟨rfl, hb.trans (hb3.mono hb.size)⟩
  · simp only [if_true] at hc
    subst hc
    go_enter Tryz.func58, Tryz.ntmps58
    go_wp2_with fail
    generalize w.alloc (.cells #[.int .u64 (wd f 0), .int .u64 (wd f 1), .int .u64 (wd f 2), .int .u64 (wd f 3)] 50) = W at *
    refine (HA _).mono ?_
    rintro e w3 ⟨rfl, hb3⟩
    go_wp2
    go_ret
    exact ⟨rfl, hb.trans (hb3.mono hb.size)⟩

theorem LowW.keepK {w w' : World} {F : Nat → Prop} (h : LowW w) (K : Keeps F w w') (hF : ¬ F 0) : LowW w' := fun i hi => by
  have := K.block 0 h.pos hF
  have h1 := h i hi
  unfold World.cell? at *
  rw [this]
  exact h1

theorem MS.Ok.in64 {s : MS} (ok : s.Ok) {n : Int} (h : s.there n = true) : n ≤ 9223372036854775807 ∧ -9223372036854775808 ≤ n := by
  rcases MS.there_cases h with ⟨h, _⟩ | h
  · omega
  · have := ok.toBase.has_le h; omega

/-- What Build comes to: a number, an error, and the store. -/
def BldPost (StAt : World → Nat → (Nat → Prop) → MS → Prop) (w : World) (b : Nat) (F : Nat → Prop) (r : Int × Int × MS) (e : Ending) (w' : World) : Prop := e = .returned (.tuple #[.int .i64 r.1, errV r.2.1]) ∧ ∃ F', StAt w' b F' r.2.2 ∧ Keeps F w w' ∧ Within w F F'

set_option maxRecDepth 100000 in
set_option maxHeartbeats 2000000 in
theorem readBuild_const {StAt : World → Nat → (Nat → Prop) → MS → Prop} (H : StoreC StAt) {w : World} {b : Nat} {F : Nat → Prop} {s : MS} (hL : LowW w) (h : StAt w b F s) (ok : s.Ok) (f : Fn) (ht : topF f s.o < 0) :
    Calls Tryz.prog 20 #[.pointer (some ⟨b, 0, none⟩), fv f] w (BldPost StAt w b F (constN f, 0, s)) := by
  have HO := fun W (hb : Below w.heap.size w W) => H.order (H.below h hb) ok
  have HT := fun W (hb : Below w.heap.size w W) => readTop f s.o W (hL.keep hb)
  simp only [if_neg (show ¬ 0 ≤ topF f s.o by omega), decide_eq_false (show ¬ 0 ≤ topF f s.o by omega)] at HT
  have HA := fun W => readConstant f W
  have hend : ∀ w', Below w.heap.size w w' → ∃ F', StAt w' b F' s ∧ Keeps F w w' ∧ Within w F F' := fun w' hb => ⟨F, H.below h hb, Keeps.of_below hb _, Within.refl _ _⟩
  unfold BldPost errV
  simp only [if_true]
  generalize constN f = z at *
  clear h ht hL ok
  simp only [fv, ov] at *
  go_enter Tryz.func20, Tryz.ntmps20
  go_wp2
  have hF := Holds.new w f w.heap.size rfl
  have hb := (Below.refl w.heap.size w).alloc (Nat.le_refl _) (.cells #[.int .u64 (wd f 0), .int .u64 (wd f 1), .int .u64 (wd f 2), .int .u64 (wd f 3)] 50)
  generalize w.alloc (.cells #[.int .u64 (wd f 0), .int .u64 (wd f 1), .int .u64 (wd f 2), .int .u64 (wd f 3)] 50) = W at *
  have c0 := fun u : Sub W => (hF.sub u).cells.1
  have c1 := fun u : Sub W => (hF.sub u).cells.2.1
  have c2 := fun u : Sub W => (hF.sub u).cells.2.2.1
  have c3 := fun u : Sub W => (hF.sub u).cells.2.2.2
  have JO := fun u : Sub W => HO _ (hb.trans (u.2.mono hb.size))
  have JT := fun u : Sub W => HT _ (hb.trans (u.2.mono hb.size))
  refine wp_region_quiet_all (C := fun w' => ∃ u : Sub W, w' = u.1) (by kernel_rfl) (by kernel_rfl) (InSub.drew W) ?_
  iterate 2 (go_big_quiet_step (fail))
  go_big_quiet_step (exact subBelow (JO _))
  go_big_quiet_step (exact subBelow (JT _))
  iterate 5 (go_big_quiet_step (fail))
  refine wpQuiet_nil ?_
  clear c0 c1 c2 c3 JO JT HO HT
  intro w' hw'
  obtain ⟨u, rfl⟩ := hw'
  replace hF := hF.keep u.2 hF.lt
  replace hb := hb.trans (u.2.mono hb.size)
  generalize u.1 = W2 at *
  obtain ⟨c0, c1, c2, c3⟩ := hF.cells
  go_wp2_with fail
  refine (HA _).mono ?_
  rintro e w3 ⟨rfl, hb3⟩
  have hb4 := hb.trans (hb3.mono hb.size)
  clear HA c0 c1 c2 c3
  go_wp2
  go_ret2
  exact ⟨rfl, hend _ hb4⟩

set_option maxRecDepth 100000 in
set_option maxHeartbeats 4000000 in
theorem readBuild {StAt : World → Nat → (Nat → Prop) → MS → Prop} (H : StoreC StAt) {b : Nat} : ∀ (k : Nat) (s : MS) (f : Fn) (w : World) (F : Nat → Prop), LowW w → (∀ k, F k → 0 < k) → StAt w b F s → s.Ok → supN f ≤ k →
    Calls Tryz.prog 20 #[.pointer (some ⟨b, 0, none⟩), fv f] w (BldPost StAt w b F (MS.bld k s f)) := by
  intro k
  induction k with
  | zero =>
    intro s f w F hL _ h ok hk
    refine readBuild_const H hL h ok f ?_
    have := (top_neg (f := f) (full_of ok.order)).2 (supN_zero (f := f) (by omega))
    omega
  | succ k ih =>
    intro s f w F hL hlow h ok hk
    unfold MS.bld
    by_cases ht : topF f s.o < 0
    · rw [if_pos ht]
      exact readBuild_const H hL h ok f ht
    · rw [if_neg ht]
      have ht0 : 0 ≤ topF f s.o := by omega
      have k0 := supN_cof f s.o false ht0
      have k1 := supN_cof f s.o true ht0
      have ra := MS.bld_spec k s (cofAny f (topF f s.o) false) ok (by omega)
      have IA := fun W (hb : Below w.heap.size w W) => ih s (cofAny f (topF f s.o) false) W F (hL.keep hb) hlow (H.below h hb) ok (by omega)
      have rb := fun hA => MS.bld_spec k (MS.bld k s (cofAny f (topF f s.o) false)).2.2 (cofAny f (topF f s.o) true) hA (by omega)
      have IB := fun W F' hlW hl hW hA => ih (MS.bld k s (cofAny f (topF f s.o) false)).2.2 (cofAny f (topF f s.o) true) W F' hlW hl hW hA (by omega)
      have HO := fun W (hb : Below w.heap.size w W) => H.order (H.below h hb) ok
      have HT := fun W (hb : Below w.heap.size w W) => readTop f s.o W (hL.keep hb)
      simp only [if_pos ht0, decide_eq_true ht0] at HT
      have HC0 := fun W (hb : Below w.heap.size w W) => cofCof f (topF f s.o) false W (hL.keep hb)
      have HC1 := fun W (hlW : LowW W) => cofCof f (topF f s.o) true W hlW
      dsimp only
      generalize hA : MS.bld k s (cofAny f (topF f s.o) false) = A at *
      generalize hB : MS.bld k A.2.2 (cofAny f (topF f s.o) true) = B at *
      have hFlt := H.lt h
      have hp := hL.pos
      generalize topF f s.o = v at *
      generalize cofAny f v false = f0 at *
      generalize cofAny f v true = f1 at *
      clear ih hA hB k0 k1 hk
      obtain ⟨A0, A1, sA⟩ := A
      obtain ⟨B0, B1, sB⟩ := B
      dsimp only at *
      generalize hr : (if A1 ≠ 0 then ((0, A1, sA) : Int × Int × MS) else if B1 ≠ 0 then (0, B1, sB) else sB.mk v A0 B0 []) = r
      simp only [fv, ov] at *
      obtain ⟨okA, _, _, resA, _⟩ := ra
      unfold BldPost at *
      dsimp only at IA IB
      replace hL := Lib.hid hL
      go_enter Tryz.func20, Tryz.ntmps20
      go_wp2
      have hF := Holds.new w f w.heap.size rfl
      have hb := (Below.refl w.heap.size w).alloc (Nat.le_refl _) (.cells #[.int .u64 (wd f 0), .int .u64 (wd f 1), .int .u64 (wd f 2), .int .u64 (wd f 3)] 50)
      generalize w.alloc (.cells #[.int .u64 (wd f 0), .int .u64 (wd f 1), .int .u64 (wd f 2), .int .u64 (wd f 3)] 50) = W at *
      have c0 := fun u : Sub W => (hF.sub u).cells.1
      have c1 := fun u : Sub W => (hF.sub u).cells.2.1
      have c2 := fun u : Sub W => (hF.sub u).cells.2.2.1
      have c3 := fun u : Sub W => (hF.sub u).cells.2.2.2
      have JO := fun u : Sub W => HO _ (hb.trans (u.2.mono hb.size))
      have JT := fun u : Sub W => HT _ (hb.trans (u.2.mono hb.size))
      refine wp_region_quiet_all (C := fun w' => ∃ u : Sub W, w' = u.1) (by kernel_rfl) (by kernel_rfl) (InSub.drew W) ?_
      iterate 2 (go_big_quiet_step (fail))
      go_big_quiet_step (exact subBelow (JO _))
      go_big_quiet_step (exact subBelow (JT _))
      iterate 5 (go_big_quiet_step (fail))
      refine wpQuiet_nil ?_
      clear c0 c1 c2 c3 JO JT HO HT
      intro w' hw'
      obtain ⟨u, rfl⟩ := hw'
      replace hF := hF.keep u.2 hF.lt
      replace hb := hb.trans (u.2.mono hb.size)
      generalize u.1 = W2 at *
      obtain ⟨c0, c1, c2, c3⟩ := hF.cells
      go_wp2_with fail
      refine (HC0 _ hb).mono ?_
      rintro e w3 ⟨rfl, hb3⟩
      replace hF := hF.keep hb3 hF.lt
      replace hb := hb.trans (hb3.mono hb.size)
      clear HC0 c0 c1 c2 c3 hb3
      go_wp2_with fail
      refine (IA _ hb).mono ?_
      rintro e w4 ⟨rfl, FA4, hA4, hK4, hW4⟩
      have hBn : ¬ F w.heap.size := fun e => by have := hFlt _ e; omega
      have hF4 : Holds w4 w.heap.size f := by
        have := hK4.block w.heap.size hF.lt hBn
        unfold Holds at *
        rw [this]; exact hF
      have HK := (Keeps.of_below hb F).trans hK4 (Within.refl _ _)
      have HW := (Within.refl w F).trans hW4 hb.size
      have hL4 := hL.out.keepK HK (fun e => by have := hlow _ e; omega)
      have hlow4 : ∀ k, FA4 k → 0 < k := fun k hk => (HW k hk).elim (hlow k) (fun h => by omega)
      clear IA hK4 hW4 hF hb hL hlow
      by_cases hA1 : A1 = 0
      · subst hA1
        rw [if_neg (by decide)] at hr
        obtain ⟨thA, _⟩ := resA rfl
        obtain ⟨c0, c1, c2, c3⟩ := hF4.cells
        rw [errV0]
        go_wp2_with fail
        refine (HC1 _ hL4).mono ?_
        rintro e w5 ⟨rfl, hb5⟩
        clear HC1 c0 c1 c2 c3
        obtain ⟨okB, extB, _, resB, _⟩ := rb okA
        go_wp2_with fail
        refine (IB _ _ (hL4.keep hb5) hlow4 (H.below hA4 hb5) okA).mono ?_
        rintro e w6 ⟨rfl, FB6, hB6, hK6, hW6⟩
        replace HK := HK.trans ((Keeps.of_below hb5 FA4).trans hK6 (Within.refl _ _)) HW
        replace HW := HW.trans ((Within.refl w4 FA4).trans hW6 hb5.size) (by have := hF4.lt; omega)
        clear IB hK6 hb5
        by_cases hB1 : B1 = 0
        · subst hB1
          rw [if_neg (by decide)] at hr
          obtain ⟨thB, _⟩ := resB rfl
          have HM := H.make hB6 okB v A0 B0 (okB.in64 (extB.there thA)) (okB.in64 thB)
          rw [hr] at HM
          rw [errV0]
          go_wp2_with fail
          refine HM.mono ?_
          rintro e w7 ⟨rfl, F7, hM7, hK7, hW7⟩
          go_wp2
          go_ret2
          exact ⟨rfl, F7, hM7, HK.trans hK7 HW, HW.trans hW7 HK.size⟩
        · rw [if_pos hB1] at hr
          subst hr
          simp only [errV, if_neg hB1]
          go_wp2
          go_ret2
          exact ⟨by first | rfl | (simp only [errV, if_neg hB1]; rfl), FB6, hB6, HK, HW⟩
      · rw [if_pos hA1] at hr
        subst hr
        simp only [errV, if_neg hA1]
        clear IB rb
        go_wp2
        go_ret2
        exact ⟨by first | rfl | (simp only [errV, if_neg hA1]; rfl), FA4, hA4, HK, HW⟩

end Go.Proofs.YtoopeaahpmfleaaGreatDoor

/-
  Orders compared.
-/
namespace Go.Proofs.YtoopeaahpmfleaaGreatDoor
open Go Go.RowKit

theorem run_equal_same (d : Nat) (a0 a1 a2 a3 a4 a5 a6 a7 : Int) (w : World) : (Op.equalIn (d + 1 + 1) 83 (.agg #[.int .i64 a0, .int .i64 a1, .int .i64 a2, .int .i64 a3, .int .i64 a4, .int .i64 a5, .int .i64 a6, .int .i64 a7]) (.agg #[.int .i64 a0, .int .i64 a1, .int .i64 a2, .int .i64 a3, .int .i64 a4, .int .i64 a5, .int .i64 a6, .int .i64 a7])).run Tryz.prog w = .ok true w := by
  obtain ⟨i, hi⟩ : ∃ i, Tryz.prog.info? 3 = some i := info_of_underlying Tryz.underlying3
  rw [run_equalIn_array w (d + 1) _ _ Tryz.underlying83 hi]
  have hc : Tryz.prog.cellsOf 3 = 1 := by kernel_rfl
  have hr : List.range 8 = [0, 1, 2, 3, 4, 5, 6, 7] := rfl
  rw [hc, hr]
  have hq : ∀ (w : World) (a b : Int), (Op.equalIn (d + 1) 3 (.int .i64 a) (.int .i64 b)).run Tryz.prog w = .ok (a == b) w := fun w a b => run_equalIn_int w d _ _ _ _ _ Tryz.underlying3
  simp [Op.eqItems, part, go_sem, hq]

theorem run_eql_same (a0 a1 a2 a3 a4 a5 a6 a7 : Int) (w : World) : (binOp .eql 83 (.agg #[.int .i64 a0, .int .i64 a1, .int .i64 a2, .int .i64 a3, .int .i64 a4, .int .i64 a5, .int .i64 a6, .int .i64 a7]) (.agg #[.int .i64 a0, .int .i64 a1, .int .i64 a2, .int .i64 a3, .int .i64 a4, .int .i64 a5, .int .i64 a6, .int .i64 a7])).run Tryz.prog w = .ok (.bool true) w := by
  rw [run_eql_struct, run_equal_same 9998]
  rfl
theorem run_neq_same (a0 a1 a2 a3 a4 a5 a6 a7 : Int) (w : World) : (binOp .neq 83 (.agg #[.int .i64 a0, .int .i64 a1, .int .i64 a2, .int .i64 a3, .int .i64 a4, .int .i64 a5, .int .i64 a6, .int .i64 a7]) (.agg #[.int .i64 a0, .int .i64 a1, .int .i64 a2, .int .i64 a3, .int .i64 a4, .int .i64 a5, .int .i64 a6, .int .i64 a7])).run Tryz.prog w = .ok (.bool false) w := by
  rw [run_neq_struct, run_equal_same 9998]
  rfl
theorem run_guard_order (op : BinOp) (x y : Operand) (a b : Array Value) (w : World) : (eqGuard op 83 x y (.agg a) (.agg b)).run Tryz.prog w = .ok () w :=
  run_eqGuard_agg w op _ x y _ _ (by kernel_rfl)
theorem run_equal_same' (a0 a1 a2 a3 a4 a5 a6 a7 : Int) (w : World) : (Op.equalIn 10000 83 (.agg #[.int .i64 a0, .int .i64 a1, .int .i64 a2, .int .i64 a3, .int .i64 a4, .int .i64 a5, .int .i64 a6, .int .i64 a7]) (.agg #[.int .i64 a0, .int .i64 a1, .int .i64 a2, .int .i64 a3, .int .i64 a4, .int .i64 a5, .int .i64 a6, .int .i64 a7])).run Tryz.prog w = .ok true w := run_equal_same 9998 _ _ _ _ _ _ _ _ w

end Go.Proofs.YtoopeaahpmfleaaGreatDoor

/-
  Layer 7's law: the two stores compared; a deed.
-/
namespace Go.Proofs.YtoopeaahpmfleaaGreatDoor
open Go Go.RowKit
attribute [local go_sem] run_equal_same' run_eql_same run_neq_same run_guard_order

theorem run_neq_nodes (a0 a1 a2 : Int) (w : World) : (binOp .neq 57 (.agg #[.int .i64 a0, .int .i64 a1, .int .i64 a2]) (.agg #[.int .i64 a0, .int .i64 a1, .int .i64 a2])).run Tryz.prog w = .ok (.bool false) w := by
  have hq : ∀ (w : World) (a b : Int), (Op.equalIn 9999 3 (.int .i64 a) (.int .i64 b)).run Tryz.prog w = .ok (a == b) w := fun w a b => run_equalIn_int w 9998 _ _ _ _ _ Tryz.underlying3
  rw [run_neq_struct, run_equalIn_agg w 9999 _ _ _ (by kernel_rfl) (by kernel_rfl)]
  simp [Op.eqFields, part, go_sem, hq]

section
variable {StAt : World → Nat → (Nat → Prop) → MS → Prop} {w0 W W' : World} {bA bM : Nat} {FA FM FA' FM' : Nat → Prop} {sA sM s' : MS}
/-- The order's cells. -/
def OrdAt (w : World) (b : Nat) (o : Nat → Int) : Prop := w.cell? ⟨b, 2, none⟩ = some (.int .i64 (o 0)) ∧ w.cell? ⟨b, 3, none⟩ = some (.int .i64 (o 1)) ∧ w.cell? ⟨b, 4, none⟩ = some (.int .i64 (o 2)) ∧ w.cell? ⟨b, 5, none⟩ = some (.int .i64 (o 3)) ∧
    w.cell? ⟨b, 6, none⟩ = some (.int .i64 (o 4)) ∧ w.cell? ⟨b, 7, none⟩ = some (.int .i64 (o 5)) ∧ w.cell? ⟨b, 8, none⟩ = some (.int .i64 (o 6)) ∧ w.cell? ⟨b, 9, none⟩ = some (.int .i64 (o 7))
theorem P2.order (h : P2 StAt w0 bA bM FA FM sA sM W) : OrdAt W bM sM.o := by
  obtain ⟨_, _, _, _, hR⟩ := h.m
  exact hR.order
end

set_option maxRecDepth 100000 in
set_option maxHeartbeats 8000000 in
theorem lawSame {StAt : World → Nat → (Nat → Prop) → MS → Prop} (H : StoreC StAt) {w0 w : World} {bA bM : Nat} {FA FM : Nat → Prop} {s : MS} (P : P2 StAt w0 bA bM FA FM s s w) (ok : s.Ok) :
    Calls Tryz.prog 17 #[.pointer (some ⟨bA, 0, none⟩), .pointer (some ⟨bM, 0, none⟩)] w fun e w' => e = .returned (.int .i64 1) ∧ Below w.heap.size w w' := by
  have hal : s.all.length ≤ 20000 := Nat.le_trans (numsTo_filter_length s.has s.N.length) ok.toBase.few
  go_enter Tryz.func17, Tryz.ntmps17
  go_wp2_with fail
  refine (refSAll P.m ok.toBase).mono ?_
  rintro e w1 ⟨vA, rfl, RA⟩
  replace P := P.keep H RA.below
  obtain ⟨aA, cA, rfl, _⟩ := RA.own.form
  replace P := P.keep H (Below.refl w1.heap.size w1).drew
  have hb1 := RA.below.drew
  have hA := RA.own.reads.keep (Below.refl w1.heap.size w1).drew
  clear RA
  go_wp2
  have hS0 := P.order
  simp only [OrdAt] at hS0
  replace P := Lib.hid P
  replace hA := Lib.hid hA
  replace H := Lib.hid H
  go_region_held3 (fun w' => w'.cell? ⟨bM, 2, none⟩ = some (.int .i64 (s.o 0)) ∧ w'.cell? ⟨bM, 3, none⟩ = some (.int .i64 (s.o 1)) ∧ w'.cell? ⟨bM, 4, none⟩ = some (.int .i64 (s.o 2)) ∧ w'.cell? ⟨bM, 5, none⟩ = some (.int .i64 (s.o 3)) ∧
    w'.cell? ⟨bM, 6, none⟩ = some (.int .i64 (s.o 4)) ∧ w'.cell? ⟨bM, 7, none⟩ = some (.int .i64 (s.o 5)) ∧ w'.cell? ⟨bM, 8, none⟩ = some (.int .i64 (s.o 6)) ∧ w'.cell? ⟨bM, 9, none⟩ = some (.int .i64 (s.o 7))) (first | assumption)
    (first
      | (go_at_call 44; refine (H.out.all P.out.a ok).mono ?_; rintro e W1 ⟨v1, rfl, R1⟩; have P1 := Lib.hid (P.out.keep H.out R1.below); have hb2 := hb1.trans (R1.below.mono hb1.size); have hA1 := Lib.hid (hA.out.keep R1.below); have hS1 := P1.out.order; simp only [OrdAt] at hS1)
      | (go_at_call 43; refine (lawInts s.all v1 _ _ R1.own.reads hA1.out (by omega)).mono ?_; rintro e W2 ⟨rfl, R2⟩; have P2 := Lib.hid (P1.out.keep H.out R2); have hb3 := hb2.trans (R2.mono hb2.size); have hA2 := Lib.hid (hA1.out.keep R2); have hS2 := P2.out.order; simp only [OrdAt] at hS2)
      | (go_at_call 45; refine (H.out.live P2.out.a ok).mono ?_; rintro e W3 ⟨rfl, R3⟩; have P3 := Lib.hid (P2.out.keep H.out R3); have hb4 := hb3.trans (R3.mono hb3.size); have hA3 := Lib.hid (hA2.out.keep R3); have hS3 := P3.out.order; simp only [OrdAt] at hS3)
      | (go_at_call 46; refine (H.out.room P3.out.a ok).mono ?_; rintro e W4 ⟨rfl, R4⟩; have P4 := Lib.hid (P3.out.keep H.out R4); have hb5 := hb4.trans (R4.mono hb4.size); have hA4 := Lib.hid (hA3.out.keep R4); have hS4 := P4.out.order; simp only [OrdAt] at hS4)
      | (go_at_call 47; refine (refSRoom P4.out.m ok.toBase).mono ?_; rintro e W5 ⟨rfl, R5⟩; have P5 := Lib.hid (P4.out.keep H.out R5); have hb6 := hb5.trans (R5.mono hb5.size); have hA5 := Lib.hid (hA4.out.keep R5); have hS5 := P5.out.order; simp only [OrdAt] at hS5)
      | (go_at_call 48; refine (H.out.order P5.out.a ok).mono ?_; rintro e W6 ⟨rfl, R6⟩; have P6 := Lib.hid (P5.out.keep H.out R6); have hb7 := hb6.trans (R6.mono hb6.size); have hA6 := Lib.hid (hA5.out.keep R6); have hS6 := P6.out.order; simp only [OrdAt] at hS6; simp only [ov]))
  replace P := P6.out
  replace hA := hA6.out
  replace H := H.out
  clear hS0 hS1 hS2 hS3 hS4 hS5 hS6 P1 P2 P3 P4 P5 P6 hA1 hA2 hA3 hA4 hA5 hA6 R1 R2 R3 R4 R5 R6 hb1 hb2 hb3 hb4 hb5 hb6
  go_wp2
  go_loopw [6] (fun i wr => ∃ k : Nat, k ≤ s.all.length ∧ i = .int .i64 k ∧ Below W6.heap.size W6 wr) (fun i _ => s.all.length - (intOf i).toNat)
  case atStart => exact ⟨0, Nat.zero_le _, rfl, Below.refl _ _⟩
  case round =>
    obtain ⟨k, hk, rfl, hb⟩ := hrel
    by_cases hlt : k < s.all.length
    · replace P := P.keep H hb
      obtain ⟨ad, rfl, hc⟩ := (hA.keep hb).intAt k hlt
      have hhas : s.has s.all[k] = true := ok.toBase.mem_all.1 (List.getElem_mem hlt)
      generalize s.all[k] = n at *
      have hle := ok.toBase.has_le hhas
      have hk0 : (0 : Int) ≤ (k : Int) := by omega
      have hk1 : (k : Int) < (s.all.length : Int) := by omega
      have HA := H.node P.a ok n (by omega)
      have HM := fun V (hV : Below wr.heap.size wr V) => refSNode (P.m.below hV) ok.toBase n (by omega)
      simp only [nodeV, hhas, if_true, nv] at HA HM
      generalize s.nd n = x at *
      obtain ⟨x0, x1, x2⟩ := x
      dsimp only at HA HM
      have hq := run_neq_nodes x0 x1 x2
      clear hA P
      go_wp2_with fail
      refine HA.mono ?_
      rintro e w2 ⟨rfl, hb2⟩
      have hb3 := hb2.alloc hb2.size (.cells #[.int .i64 x0, .int .i64 x1, .int .i64 x2] 57)
      have y0 := HoldsN.new w2 ⟨x0, x1, x2⟩
      dsimp only at y0
      have hc3 := (hb3.cell (p := ad.add k) (block_lt_of_cell hc)).trans hc
      go_wp2_with fail
      generalize w2.alloc (.cells #[.int .i64 x0, .int .i64 x1, .int .i64 x2] 57) = W3 at *
      refine (HM _ hb3).mono ?_
      rintro e w4 ⟨rfl, hb4⟩
      replace y0 := y0.below hb4
      replace hb4 := hb3.trans (hb4.mono hb3.size)
      clear HA HM hc3 hc
      have z0 := HoldsN.new w4 ⟨x0, x1, x2⟩
      have hb5 : Below wr.heap.size wr (w4.alloc (.cells #[.int .i64 x0, .int .i64 x1, .int .i64 x2] 57)) := hb4.alloc hb4.size _
      have y1 : HoldsN (w4.alloc (.cells #[.int .i64 x0, .int .i64 x1, .int .i64 x2] 57)) w2.heap.size ⟨x0, x1, x2⟩ := y0.keep (Keeps.of_alloc noBlock _ _) (fun h => h)
      dsimp only at z0
      obtain ⟨a0, a1, a2⟩ := y1.cells
      obtain ⟨c0, c1, c2⟩ := z0.cells
      dsimp only at a0 a1 a2 c0 c1 c2
      clear y0 y1 z0
      go_wp2
      exact ⟨⟨k + 1, by omega, by go_num, hb.trans (hb5.mono hb.size)⟩, by simp [intOf]; omega⟩
    · obtain rfl : k = s.all.length := by omega
      go_wp2
      go_ret
      exact ⟨rfl, hb7.trans (hb.mono hb7.size)⟩

end Go.Proofs.YtoopeaahpmfleaaGreatDoor
