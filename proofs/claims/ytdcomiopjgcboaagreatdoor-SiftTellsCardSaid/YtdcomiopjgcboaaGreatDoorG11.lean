/-
  Texts of this proof, one behind the other: BSet, Math, Tab, ReachM, MathVar, Math2, Math2b, Math3, Math3b.
-/
import Derived.Test.YtdcomiopjgcboaaGreatDoorG10
import Derived.Maps.OwnSet
import Derived.WalkKit
import Derived.Test.YtdcomiopjgcboaaGreatDoorProg
import Derived.Outline
import Derived.RegionTactic
import Derived.ChangeAlike
import Derived.Handy
import Derived.StillTailTactics
import Derived.Deep.RegionHeld3
import Derived.KernelRfl
import Derived.Test.YtdcomiopjgcboaaGreatDoorG1
/-
  A map whose elements are bools and that holds true at some keys and nothing else, as the list of these keys; nothing of the program is read here.
-/
namespace Go.Proofs.YtdcomiopjgcboaaGreatDoor
open Go Go.RowKit Go.Maps

section
variable {P : Program} {K e : TypeId} {α : Type} [DecidableEq α] {E : KeyEnc P K α}

/-- Block b is a map that holds true at the keys S, and nothing else. -/
def BSet (E : KeyEnc P K α) (e : TypeId) (w : World) (b : Nat) (S : List α) : Prop :=
  ∃ D : DataW Unit, w.ownsMap P K (plainElem P e) b S.length D ∧ (∀ a, D.atKey (E.lit a) (.lit (.bool false)) = .lit (.bool (decide (a ∈ S)))) ∧ (∀ a, has D (E.lit a) = decide (a ∈ S)) ∧ Maps.size D = S.length

theorem BSet.made (E : KeyEnc P K α) (e : TypeId) (w : World) : BSet E e (w.alloc (.map #[] 0)) w.heap.size [] :=
  ⟨.map [], World.ownsMap_made _ _ _ _, fun _ => rfl, fun _ => rfl, rfl⟩

theorem BSet.block {w w' : World} {b : Nat} {S : List α} (h : BSet E e w b S) (hb : w'.heap[b]? = w.heap[b]?) : BSet E e w' b S := by
  obtain ⟨D, ⟨es, clock, h1, h2, h3, h4⟩, r⟩ := h
  exact ⟨D, ⟨es, clock, hb.trans h1, h2, h3, h4⟩, r⟩

theorem BSet.lt {w : World} {b : Nat} {S : List α} (h : BSet E e w b S) : b < w.heap.size := by
  obtain ⟨D, ho, _⟩ := h; exact ho.lt

theorem BSet.keep {w w' : World} {b B : Nat} {S : List α} (h : BSet E e w b S) (hb : Below B w w') (hB : b < B) : BSet E e w' b S := h.block (hb.block b hB)
theorem BSet.alloc {w : World} {b : Nat} {S : List α} (h : BSet E e w b S) (o : Obj) : BSet E e (w.alloc o) b S := h.block (heap_alloc_old _ _ h.lt)

theorem plainElem_bool_inv {e : TypeId} (he : P.underlying e = some .bool) {v : Value} {z : DataW Unit × List MemPlace} (h : plainElem P e v = some z) : ∃ x, v = .bool x ∧ z = (.lit (.bool x), []) := by
  unfold plainElem at h
  rw [he] at h
  cases v <;> simp at h
  exact ⟨_, rfl, h.symm⟩

/-- m[a], read. -/
theorem BSet.look {w : World} {b : Nat} {S : List α} {t : TypeId} (h : BSet E e w b S) (ht : P.underlying t = some (.map K e)) (he : P.underlying e = some .bool) (hz : (zeroValue e).run P w = .ok (.bool false) w) (a : α) :
    (Instr.lookup t (.map (some b)) (E.val a) false).run P w = .ok (.bool (decide (a ∈ S))) w := by
  obtain ⟨D, ho, ha, _⟩ := h
  obtain ⟨v, ps, hr, hv⟩ := ho.lookup E.law ht hz (plainElem_bool he false) (E.key a)
  obtain ⟨x, rfl, hx⟩ := plainElem_bool_inv he hv
  rw [ha a] at hx
  simp only [Prod.mk.injEq, DataW.lit.injEq, Lit.bool.injEq] at hx
  rw [hr, hx.1]

/-- len(m). -/
theorem BSet.len {w : World} {b : Nat} {S : List α} {t : TypeId} (h : BSet E e w b S) (ht : P.underlying t = some (.map K e)) (ty : TypeId) : (Builtin.len_ #[t] ty #[.map (some b)]).run P w = .ok (.int .i64 S.length) w := by
  obtain ⟨D, ho, _, _, hs⟩ := h
  rw [ho.len ht ty, hs]

/-- m[a] = true, stored. -/
theorem BSet.put {ops : Array Oper} {rest : List Oper} {o : Oper} {A : Act} {Q : Exit → Act → World → Prop} {w : World} {b : Nat} {S : List α} {t : TypeId}
    (h : BSet E e w b S) (ht : P.underlying t = some (.map K e)) (he : P.underlying e = some .bool) (hn : S.length < maxLen) (hg : o.guard = none) (x y v : Operand) (hop : o.op = Op.mapUpdate t x y v)
    (a : α) (hna : a ∉ S) (hx : A.eval x = .map (some b)) (hy : A.eval y = E.val a) (hv : A.eval v = .bool true)
    (hK : ∀ w', BSet E e w' b (S ++ [a]) → w.grownBy w' (some b) → wpList P ops Q rest (A.put o.dst undef) w') : wpList P ops Q (o :: rest) A w := by
  obtain ⟨D, ho, ha, hh, hs⟩ := h
  have hm := ho.isMap
  have htd := ho.tidy E.law
  refine wpList_mapUpdate_own w hg x y v t hop K e E.law ht _ b _ D hx ho hn _ _ _ hy hv (E.key a) _ [] (plainElem_bool he true) ?_
  intro w' ho' hgr
  refine hK w' ⟨_, by rw [List.length_append, List.length_singleton]; exact ho', fun z => ?_, fun z => ?_, ?_⟩ hgr
  · by_cases hz : z = a
    · subst hz
      rw [atKey_put_same hm (E.law.key (E.key z)), decide_eq_true (List.mem_append_right _ (List.mem_singleton.2 rfl))]
    · rw [atKey_put_other (fun h => hz (E.lit_inj h)), ha z]
      simp [hz]
  · by_cases hz : z = a
    · subst hz
      rw [has_put_same hm (E.law.key (E.key z)), decide_eq_true (List.mem_append_right _ (List.mem_singleton.2 rfl))]
    · rw [has_put_other (fun h => hz (E.lit_inj h)), hh z]
      simp [hz]
  · rw [size_put htd, hh a, decide_eq_false hna, hs]
    simp
end

end Go.Proofs.YtdcomiopjgcboaaGreatDoor

/-
  Plain mathematics of a function of eight variables as four words of 64 bits: nothing of the program is read here.
-/
namespace Go.Proofs.YtdcomiopjgcboaaGreatDoor
open Go Go.RowKit

/-- A function of eight variables: bit x is its value in row x. -/
abbrev Fn := BitVec 256

/-- Word i of it. -/
def wd (f : Fn) (i : Nat) : Nat := (f.extractLsb' (64 * i) 64).toNat

theorem wd_lt (f : Fn) (i : Nat) : wd f i < 18446744073709551616 := (f.extractLsb' (64 * i) 64).isLt

/-- The value that the program holds. -/
def fv (f : Fn) : Value := .agg #[.int .u64 (wd f 0), .int .u64 (wd f 1), .int .u64 (wd f 2), .int .u64 (wd f 3)]

theorem wd_and (f g : Fn) (i : Nat) : bits .and .u64 (wd f i) (wd g i) = (wd (f &&& g) i : Nat) := by
  rw [bits_and_u64_nat _ _ (wd_lt f i) (wd_lt g i)]
  unfold wd
  rw [BitVec.extractLsb'_and, BitVec.toNat_and]

theorem wd_or (f g : Fn) (i : Nat) : bits .or .u64 (wd f i) (wd g i) = (wd (f ||| g) i : Nat) := by
  rw [bits_or_u64_nat _ _ (wd_lt f i) (wd_lt g i)]
  unfold wd
  rw [BitVec.extractLsb'_or, BitVec.toNat_or]

theorem bits_xor_u64_nat' (a b : Nat) (ha : a < 18446744073709551616) (hb : b < 18446744073709551616) :
    bits .xor .u64 (a : Int) (b : Int) = ((a ^^^ b : Nat) : Int) := by
  have hx : a ^^^ b < 2 ^ 64 := Nat.xor_lt_two_pow (by omega) (by omega)
  show IntKind.u64.wrap ((BitVec.ofInt 64 (a : Int) ^^^ BitVec.ofInt 64 (b : Int)).toNat : Int) = _
  rw [BitVec.toNat_xor, BitVec.ofInt_natCast, BitVec.ofInt_natCast, BitVec.toNat_ofNat, BitVec.toNat_ofNat, Nat.mod_eq_of_lt (by omega), Nat.mod_eq_of_lt (by omega), IntKind.wrap_u64]
  omega

theorem wd_xor (f g : Fn) (i : Nat) : bits .xor .u64 (wd f i) (wd g i) = (wd (f ^^^ g) i : Nat) := by
  rw [bits_xor_u64_nat' _ _ (wd_lt f i) (wd_lt g i)]
  unfold wd
  rw [BitVec.extractLsb'_xor, BitVec.toNat_xor]

theorem wd_not (f : Fn) (i : Nat) (hi : i < 4 := by decide) : bits .xor .u64 IntKind.u64.max (wd f i) = (wd (~~~f) i : Nat) := by
  have e : IntKind.u64.max = ((18446744073709551615 : Nat) : Int) := by decide
  rw [e, bits_xor_u64_nat' _ _ (by decide) (wd_lt f i)]
  unfold wd
  rw [show (18446744073709551615 : Nat) = (BitVec.allOnes 64).toNat by decide, ← BitVec.toNat_xor]
  congr 2
  ext k hk
  simp only [BitVec.getElem_xor, BitVec.getElem_allOnes, BitVec.getElem_extractLsb', BitVec.getLsbD_not]
  have : 64 * i + k < 256 := by omega
  simp [this]

/-- The value in row x; false, where there is no such row. -/
def atF (f : Fn) (x : Int) : Bool := if 0 ≤ x ∧ x < 256 then f.getLsbD x.toNat else false

theorem wd_bit (f : Fn) (k : Nat) : f.getLsbD k = decide (wd f (k / 64) / 2 ^ (k % 64) % 2 = 1) := by
  have h1 : (f.extractLsb' (64 * (k / 64)) 64).getLsbD (k % 64) = f.getLsbD k := by
    rw [BitVec.getLsbD_extractLsb']
    have : 64 * (k / 64) + k % 64 = k := by omega
    simp [this, Nat.mod_lt]
  rw [← h1]
  unfold wd
  rw [BitVec.getLsbD, Nat.testBit_eq_decide_div_mod_eq]

theorem atF_and (f : Fn) (k : Nat) (hk : k < 256) : (bits .and .u64 ((wd f (k / 64) : Int) / 2 ^ (k % 64)) 1 == 1) = atF f k := by
  have e : ((wd f (k / 64) : Int) / 2 ^ (k % 64)) = ((wd f (k / 64) / 2 ^ (k % 64) : Nat) : Int) := by simp
  have hlt : wd f (k / 64) / 2 ^ (k % 64) < 18446744073709551616 := Nat.lt_of_le_of_lt (Nat.div_le_self _ _) (wd_lt f _)
  rw [e, show (1 : Int) = ((1 : Nat) : Int) from rfl, bits_and_u64_nat _ _ hlt (by decide), Nat.and_one_is_mod]
  unfold atF
  rw [if_pos (by omega), Int.toNat_natCast, wd_bit]
  generalize wd f (k / 64) / 2 ^ (k % 64) % 2 = r
  rw [Bool.eq_iff_iff]
  simp
  omega

theorem atF_rem (f : Fn) (k : Nat) (hk : k < 256) : ((wd f (k / 64) : Int) / 2 ^ (k % 64) % 2 == 1) = atF f k := by
  have e : ((wd f (k / 64) : Int) / 2 ^ (k % 64) % 2) = ((wd f (k / 64) / 2 ^ (k % 64) % 2 : Nat) : Int) := by simp
  rw [e]
  unfold atF
  rw [if_pos (by omega), Int.toNat_natCast, wd_bit]
  generalize wd f (k / 64) / 2 ^ (k % 64) % 2 = r
  rw [Bool.eq_iff_iff]
  simp
  omega

theorem atF_tmod (f : Fn) (k : Nat) (hk : k < 256) : (((wd f (k / 64) : Int) / 2 ^ (k % 64)).tmod 2 == 1) = atF f k := by
  rw [Int.tmod_eq_emod_of_nonneg (Int.ediv_nonneg (Int.natCast_nonneg _) (Int.pow_nonneg (by decide)))]
  exact atF_rem f k hk

theorem ret_bool {a b : Bool} (h : a = b) : Ending.returned (.bool a) = .returned (.bool b) := by rw [h]

theorem atF_out (f : Fn) (x : Int) (h : ¬ (0 ≤ x ∧ x < 256)) : atF f x = false := if_neg h

end Go.Proofs.YtdcomiopjgcboaaGreatDoor

/-
  Walks of package tab: Not, And, Or, Xor, Ite on four words.
-/
namespace Go.Proofs.YtdcomiopjgcboaaGreatDoor
open Go Go.RowKit

set_option maxHeartbeats 400000 in
theorem tabAnd (f g : Fn) (w : World) :
    Calls Tryz.prog 112 #[fv f, fv g] w fun e w' => e = .returned (fv (f &&& g)) ∧ Below w.heap.size w w' := by
  simp only [fv, ← wd_and]
  go_enter Tryz.func112, Tryz.ntmps112
  go_wp2
  refine wp_loop_rounds 5 ?_
  iterate 4 (rw [rounds_succ]; go_wp2; go_region; go_wp2)
  rw [rounds_succ]
  go_wp2
  exact bodyPost_ret (v := .agg #[.int .u64 (bits .and .u64 (wd f 0) (wd g 0)), .int .u64 (bits .and .u64 (wd f 1) (wd g 1)), .int .u64 (bits .and .u64 (wd f 2) (wd g 2)), .int .u64 (bits .and .u64 (wd f 3) (wd g 3))])
    (by simp [results, Tryz.results112, go_sem]) rfl ⟨rfl, by go_grown⟩



set_option maxHeartbeats 400000 in
theorem tabNot (f : Fn) (w : World) :
    Calls Tryz.prog 94 #[fv f] w fun e w' => e = .returned (fv (~~~f)) ∧ Below w.heap.size w w' := by
  simp only [fv]
  go_enter Tryz.func94, Tryz.ntmps94
  go_wp2
  refine wp_loop_rounds 5 ?_
  iterate 4 (rw [rounds_succ]; go_wp2)
  rw [rounds_succ]
  go_wp2
  exact bodyPost_ret (v := .agg #[.int .u64 (bits .xor .u64 IntKind.u64.max (wd f 0)), .int .u64 (bits .xor .u64 IntKind.u64.max (wd f 1)), .int .u64 (bits .xor .u64 IntKind.u64.max (wd f 2)), .int .u64 (bits .xor .u64 IntKind.u64.max (wd f 3))])
    (by simp [results, Tryz.results94, go_sem]) rfl ⟨by rw [wd_not f 0, wd_not f 1, wd_not f 2, wd_not f 3], by go_grown⟩

end Go.Proofs.YtdcomiopjgcboaaGreatDoor

/-
  Mathematics of layer 8: what is reached. Nothing of the program is read here.
-/
namespace Go.Proofs.YtdcomiopjgcboaaGreatDoor

/-- Reached from roots. -/
inductive MS.Rch (s : MS) (roots : List Int) : Int → Prop
  | root {r : Int} (h : r ∈ roots) (hh : s.has r = true) : MS.Rch s roots r
  | lo {n : Int} (h : MS.Rch s roots n) (hh : s.has (s.nd n).lo = true) : MS.Rch s roots (s.nd n).lo
  | hi {n : Int} (h : MS.Rch s roots n) (hh : s.has (s.nd n).hi = true) : MS.Rch s roots (s.nd n).hi
theorem MS.Rch.has {s : MS} {roots : List Int} {n : Int} (h : s.Rch roots n) : s.has n = true := by cases h <;> assumption
open Classical in
/-- Their numbers, rising. -/
noncomputable def MS.reach (s : MS) (roots : List Int) : List Int := s.all.filter fun n => decide (s.Rch roots n)

/-- While what is reached is marked: so much of the work is done. -/
structure RInv (s : MS) (roots : List Int) (seen : List Bool) (work : List Int) (i : Nat) : Prop where
  len : seen.length = s.N.length + 2
  sound : ∀ n : Int, 0 ≤ n → seen.getD n.toNat false = true → s.Rch roots n
  wk : ∀ m ∈ work, s.has m = true → s.Rch roots m
  done : ∀ j (hj : j < work.length), j < i → s.has work[j] = true → seen.getD work[j].toNat false = true
  kids : ∀ n : Int, 0 ≤ n → seen.getD n.toNat false = true → (s.nd n).lo ∈ work ∧ (s.nd n).hi ∈ work
  rt : ∀ r ∈ roots, r ∈ work
  count : work.length = roots.length + 2 * seen.count true

section
variable {s : MS} {roots work : List Int} {seen : List Bool} {i : Nat}
theorem RInv.start (s : MS) (roots : List Int) : RInv s roots (List.replicate (s.N.length + 2) false) roots 0 := by
  have h0 : ∀ n : Nat, (List.replicate (s.N.length + 2) false).getD n false = false := fun n => by
    rw [List.getD, List.getElem?_replicate]; split <;> rfl
  exact ⟨by simp, fun n _ h => (by rw [h0] at h; cases h), fun m hm hh => .root hm hh, fun j hj h => by omega, fun n _ h => (by rw [h0] at h; cases h), fun r hr => hr, by simp [List.count_replicate]⟩
theorem RInv.old (h : RInv s roots seen work i) (hi : i < work.length) (hs : s.has work[i] = true → seen.getD work[i].toNat false = true) : RInv s roots seen work (i + 1) :=
  ⟨h.len, h.sound, h.wk, fun j hj hlt hh => by
    by_cases e : j = i
    · subst e; exact hs hh
    · exact h.done j hj (by omega) hh, h.kids, h.rt, h.count⟩
theorem getD_set (l : List Bool) (k j : Nat) (hk : k < l.length) : (l.set k true).getD j false = if j = k then true else l.getD j false := by
  rw [List.getD, List.getElem?_set]
  by_cases e : k = j
  · subst e; simp [hk]
  · rw [if_neg e, if_neg (fun e' => e e'.symm)]; rfl
theorem RInv.new (h : RInv s roots seen work i) (ok : s.Base) (hi : i < work.length) (hh : s.has work[i] = true) (hs : seen.getD work[i].toNat false = false) :
    RInv s roots (seen.set work[i].toNat true) (work ++ [(s.nd work[i]).lo, (s.nd work[i]).hi]) (i + 1) := by
  obtain ⟨r1, r2, _⟩ := ok.range hh
  have hk : work[i].toNat < seen.length := by rw [h.len]; omega
  have hR := h.wk _ (List.getElem_mem hi) hh
  have e : ∀ n : Int, 0 ≤ n → (n.toNat = work[i].toNat ↔ n = work[i]) := fun n hn => by omega
  refine ⟨by rw [List.length_set]; exact h.len, fun n hn hc => ?_, fun m hm hmh => ?_, fun j hj hlt hjh => ?_, fun n hn hc => ?_, fun r hr => List.mem_append_left _ (h.rt r hr), ?_⟩
  · rw [getD_set _ _ _ hk] at hc
    by_cases en : n = work[i]
    · rw [en]; exact hR
    · rw [if_neg (fun q => en ((e n hn).1 q))] at hc
      exact h.sound n hn hc
  · rcases List.mem_append.1 hm with hm | hm
    · exact h.wk m hm hmh
    · simp only [List.mem_cons, List.not_mem_nil, or_false] at hm
      rcases hm with rfl | rfl
      · exact .lo hR hmh
      · exact .hi hR hmh
  · rw [getD_set _ _ _ hk]
    by_cases ej : j = i
    · subst ej
      rw [List.getElem_append_left hi, if_pos rfl]
    · have hj' : j < work.length := by omega
      rw [List.getElem_append_left hj'] at hjh ⊢
      split
      · rfl
      · exact h.done j hj' (by omega) hjh
  · rw [getD_set _ _ _ hk] at hc
    by_cases en : n = work[i]
    · rw [en]; simp
    · rw [if_neg (fun q => en ((e n hn).1 q))] at hc
      have := h.kids n hn hc
      exact ⟨List.mem_append_left _ this.1, List.mem_append_left _ this.2⟩
  · have hc := List.count_set (a := true) (b := true) hk
    have h0 : seen[work[i].toNat] = false := by
      rw [List.getD, List.getElem?_eq_getElem hk] at hs
      exact hs
    rw [hc, h0, List.length_append, h.count]
    simp
    omega
theorem RInv.all (h : RInv s roots seen work i) (hi : work.length ≤ i) {n : Int} (hn : s.Rch roots n) : seen.getD n.toNat false = true := by
  have key : ∀ m ∈ work, s.has m = true → seen.getD m.toNat false = true := fun m hm hh => by
    obtain ⟨j, hj, rfl⟩ := List.mem_iff_getElem.1 hm
    exact h.done j hj (by omega) hh
  induction hn with
  | root hr hh => exact key _ (h.rt _ hr) hh
  | lo hR hh ih => exact key _ (h.kids _ (by have := hR.has; simp only [MS.has, Bool.and_eq_true, decide_eq_true_eq] at this; omega) ih).1 hh
  | hi hR hh ih => exact key _ (h.kids _ (by have := hR.has; simp only [MS.has, Bool.and_eq_true, decide_eq_true_eq] at this; omega) ih).2 hh
theorem RInv.bound (h : RInv s roots seen work i) : work.length ≤ roots.length + 2 * (s.N.length + 2) := by
  have := List.count_le_length (a := true) (l := seen)
  rw [h.len] at this
  rw [h.count]
  omega
theorem RInv.reach (h : RInv s roots seen work i) (hi : work.length ≤ i) : ((List.range s.N.length).map fun k : Nat => (k : Int) + 2).filter (fun n => seen.getD n.toNat false) = s.reach roots := by
  unfold MS.reach MS.all
  rw [List.filter_filter]
  refine List.filter_congr fun n hn => ?_
  obtain ⟨k, _, rfl⟩ := List.mem_map.1 hn
  have h1 : seen.getD ((k : Int) + 2).toNat false = true ↔ s.Rch roots ((k : Int) + 2) := ⟨fun q => h.sound _ (by omega) q, fun q => h.all hi q⟩
  by_cases hR : s.Rch roots ((k : Int) + 2)
  · rw [h1.2 hR, hR.has]; simp [hR]
  · have : seen.getD ((k : Int) + 2).toNat false = false := by
      cases hc : seen.getD ((k : Int) + 2).toNat false
      · rfl
      · exact absurd (h1.1 hc) hR
    rw [this]; simp [hR]
end

end Go.Proofs.YtdcomiopjgcboaaGreatDoor

/-
  Plain mathematics: the variables as functions, their words; what putting row after row comes to.
-/
namespace Go.Proofs.YtdcomiopjgcboaaGreatDoor
open Go Go.RowKit

/-- The number whose bits below n are P's. -/
def rowNat (P : Nat → Bool) : Nat → Nat
  | 0 => 0
  | n + 1 => if P n then rowNat P n + 2 ^ n else rowNat P n

theorem rowNat_lt (P : Nat → Bool) (n : Nat) : rowNat P n < 2 ^ n := by
  induction n with
  | zero => simp [rowNat]
  | succ n ih => simp only [rowNat]; rw [Nat.pow_succ]; split <;> omega

theorem rowNat_bit (P : Nat → Bool) (n k : Nat) : (rowNat P n).testBit k = (decide (k < n) && P k) := by
  induction n with
  | zero => simp [rowNat]
  | succ n ih =>
    simp only [rowNat]
    have hlt := rowNat_lt P n
    split
    · rename_i hp
      rw [Nat.add_comm]
      rcases Nat.lt_trichotomy k n with h | h | h
      · rw [Nat.testBit_two_pow_add_gt h, ih]
        simp [h, Nat.lt_succ_of_lt h]
      · subst h
        rw [Nat.testBit_two_pow_add_eq, Nat.testBit_lt_two_pow hlt]
        simp [hp]
      · have h2 : 2 ^ n + rowNat P n < 2 ^ k :=
          Nat.lt_of_lt_of_le (by rw [Nat.pow_succ]; omega) (Nat.pow_le_pow_right (by decide) (Nat.succ_le_of_lt h))
        rw [Nat.testBit_lt_two_pow h2]
        have : ¬ k < n + 1 := by omega
        simp [this]
    · rename_i hp
      rw [ih, Bool.eq_iff_iff]
      simp
      intro hk
      constructor
      · intro h; omega
      · intro h
        rcases Nat.lt_or_ge k n with h' | h'
        · exact h'
        · obtain rfl : k = n := by omega
          exact absurd hk hp

/-- The function whose value in row x is P x. -/
def ofRow (P : Nat → Bool) : Fn := BitVec.ofNat 256 (rowNat P 256)

theorem ofRow_bit (P : Nat → Bool) (k : Nat) (hk : k < 256) : (ofRow P).getLsbD k = P k := by
  unfold ofRow
  rw [BitVec.getLsbD_ofNat, rowNat_bit]
  simp [hk]

/-- Variable v. -/
def varF (v : Nat) : Fn := ofRow (fun x => x.testBit v)

/-- Any number as a variable. -/
def varAny (v : Int) : Fn := if 0 ≤ v ∧ v < 8 then varF v.toNat else 0#256

/-- The words of the first six variables. -/
def lowV : Nat → Int
  | 0 => 12297829382473034410
  | 1 => 14757395258967641292
  | 2 => 17361641481138401520
  | 3 => 18374966859414961920
  | 4 => 18446462603027742720
  | _ => 18446744069414584320

theorem lowV_eq (v i : Nat) (hv : v < 6) (hi : i < 4) : lowV v = (wd (varF v) i : Nat) := by
  have H : ∀ v : Fin 6, ∀ i : Fin 4, lowV v = (wd (varF v) i : Nat) := by decide +kernel
  exact H ⟨v, hv⟩ ⟨i, hi⟩

theorem wd_var6 : wd (varF 6) 0 = 0 ∧ wd (varF 6) 1 = 18446744073709551615 ∧ wd (varF 6) 2 = 0 ∧ wd (varF 6) 3 = 18446744073709551615 := by decide +kernel
theorem wd_var7 : wd (varF 7) 0 = 0 ∧ wd (varF 7) 1 = 0 ∧ wd (varF 7) 2 = 18446744073709551615 ∧ wd (varF 7) 3 = 18446744073709551615 := by decide +kernel

theorem fn_ext {f g : Fn} (h : ∀ k, k < 256 → f.getLsbD k = g.getLsbD k) : f = g := BitVec.eq_of_getLsbD_eq fun k hk => h k hk

/-- What has been put when the rows below n have been. -/
def upTo (P : Nat → Bool) (n : Nat) : Fn := ofRow (fun x => decide (x < n) && P x)

theorem upTo_zero (P : Nat → Bool) : upTo P 0 = 0#256 := fn_ext fun k hk => by rw [upTo, ofRow_bit _ _ hk]; simp
theorem upTo_all (P : Nat → Bool) : upTo P 256 = ofRow P := fn_ext fun k hk => by rw [upTo, ofRow_bit _ _ hk, ofRow_bit _ _ hk]; simp [hk]

/-- f with b put in row k. -/
def putF (f : Fn) (k : Nat) (b : Bool) : Fn := if b then f ||| (1#256 <<< k) else f

theorem putF_bit (f : Fn) (k j : Nat) (b : Bool) (hj : j < 256) : (putF f k b).getLsbD j = (f.getLsbD j || (b && decide (j = k))) := by
  unfold putF
  cases b with
  | false => simp
  | true =>
    simp only [if_true, BitVec.getLsbD_or, BitVec.getLsbD_shiftLeft, BitVec.getLsbD_one, Bool.true_and]
    by_cases h : j = k
    · subst h; simp [hj]
    · have : ¬ (j - k = 0 ∧ k ≤ j) := by omega
      by_cases h2 : j < k
      · simp [h, h2]
      · have h3 : ¬ (j - k = 0) := by omega
        simp [h, h2, h3]

theorem upTo_put (P : Nat → Bool) (n : Nat) (b : Bool) (hb : b = P n) : putF (upTo P n) n b = upTo P (n + 1) := fn_ext fun k hk => by
  subst hb
  rw [putF_bit _ _ _ _ hk, upTo, upTo, ofRow_bit _ _ hk, ofRow_bit _ _ hk, Bool.eq_iff_iff]
  simp
  constructor
  · rintro (⟨h1, h2⟩ | ⟨h1, rfl⟩)
    · exact ⟨by omega, h2⟩
    · exact ⟨by omega, h1⟩
  · rintro ⟨h1, h2⟩
    rcases Nat.lt_or_ge k n with h | h
    · exact .inl ⟨h, h2⟩
    · obtain rfl : k = n := by omega
      exact .inr ⟨h2, rfl⟩

/-- One word of it. -/
theorem wd_put (f : Fn) (k i : Nat) (hi : i < 4) : wd (putF f k true) i = if i = k / 64 then wd f i ||| 2 ^ (k % 64) else wd f i := by
  have e : ∀ j, j < 64 → ((putF f k true).extractLsb' (64 * i) 64).getLsbD j = (if i = k / 64 then (f.extractLsb' (64 * i) 64) ||| (1#64 <<< (k % 64)) else f.extractLsb' (64 * i) 64).getLsbD j := by
    intro j hj
    rw [BitVec.getLsbD_extractLsb', putF_bit _ _ _ _ (by omega)]
    by_cases h : i = k / 64
    · rw [if_pos h, BitVec.getLsbD_or, BitVec.getLsbD_extractLsb', BitVec.getLsbD_shiftLeft, BitVec.getLsbD_one]
      simp only [hj, decide_true, Bool.true_and]
      congr 1
      rw [Bool.eq_iff_iff]
      simp
      omega
    · rw [if_neg h, BitVec.getLsbD_extractLsb']
      have : ¬ (64 * i + j = k) := by omega
      simp [hj, this]
  have e2 := BitVec.eq_of_getLsbD_eq e
  unfold wd
  rw [e2]
  by_cases h : i = k / 64
  · rw [if_pos h, if_pos h, BitVec.toNat_or, BitVec.toNat_shiftLeft, BitVec.toNat_one (by decide), Nat.shiftLeft_eq, Nat.one_mul, Nat.mod_eq_of_lt]
    exact Nat.pow_lt_pow_right (by decide) (Nat.mod_lt _ (by decide))
  · rw [if_neg h, if_neg h]

theorem put_same (f : Fn) (k q : Nat) (hq : k / 64 = q) (h4 : q < 4) : bits .or .u64 (wd f q) (IntKind.u64.wrap (2 ^ (k % 64))) = (wd (putF f k true) q : Nat) := by
  have hp : (2 : Nat) ^ (k % 64) < 18446744073709551616 := by
    have : (2 : Nat) ^ (k % 64) < 2 ^ 64 := Nat.pow_lt_pow_right (by decide) (Nat.mod_lt _ (by decide))
    simpa using this
  have e : IntKind.u64.wrap (2 ^ (k % 64)) = ((2 ^ (k % 64) : Nat) : Int) := by
    rw [IntKind.wrap_u64]
    have : ((2 : Int) ^ (k % 64)) = ((2 ^ (k % 64) : Nat) : Int) := by simp
    rw [this]
    clear this
    generalize (2 : Nat) ^ (k % 64) = y at hp
    omega
  rw [e, bits_or_u64_nat _ _ (wd_lt f q) hp, wd_put f k q h4, if_pos hq.symm]

theorem put_other (f : Fn) (k q i : Nat) (hq : k / 64 = q) (hi : i < 4) (hne : i ≠ q) : wd (putF f k true) i = wd f i := by
  rw [wd_put f k i hi, if_neg (by omega)]

theorem bit_div (k v : Nat) : ((k / 2 ^ v : Nat) % 2 == 1) = k.testBit v := by
  rw [Nat.testBit_eq_decide_div_mod_eq]; rfl

end Go.Proofs.YtdcomiopjgcboaaGreatDoor

/-
  Plain mathematics of layer 2: a variable set, on which a function depends, in how many rows it is true.
-/
namespace Go.Proofs.YtdcomiopjgcboaaGreatDoor
open Go Go.RowKit

/-- Row x with variable m set to b. -/
def rowF (x m : Nat) (b : Bool) : Nat := (if x / 2 ^ m % 2 = 1 then x - 2 ^ m else x) + (if b then 2 ^ m else 0)

theorem pow8 {m : Nat} (h : m < 8) : 2 ^ m = 1 ∨ 2 ^ m = 2 ∨ 2 ^ m = 4 ∨ 2 ^ m = 8 ∨ 2 ^ m = 16 ∨ 2 ^ m = 32 ∨ 2 ^ m = 64 ∨ 2 ^ m = 128 := by
  rcases (by omega : m = 0 ∨ m = 1 ∨ m = 2 ∨ m = 3 ∨ m = 4 ∨ m = 5 ∨ m = 6 ∨ m = 7) with rfl | rfl | rfl | rfl | rfl | rfl | rfl | rfl <;> decide

theorem rowF_lt (x m : Nat) (b : Bool) (hx : x < 256) (hm : m < 8) : rowF x m b < 256 := by
  unfold rowF
  rcases pow8 hm with h | h | h | h | h | h | h | h <;> rw [h] <;> cases b <;> simp <;> split <;> omega

/-- The function with variable m set to b. -/
def cofF (f : Fn) (m : Nat) (b : Bool) : Fn := ofRow fun x => f.getLsbD (rowF x m b)

/-- The same for any number. -/
def cofAny (f : Fn) (v : Int) (b : Bool) : Fn := if 0 ≤ v ∧ v < 8 then cofF f v.toNat b else f

theorem cofF_bit (f : Fn) (m : Nat) (b : Bool) (k : Nat) (hk : k < 256) : (cofF f m b).getLsbD k = f.getLsbD (rowF k m b) := ofRow_bit _ _ hk

/-- Does row x show that f depends on variable m? -/
def shows (f : Fn) (m x : Nat) : Bool := decide (x / 2 ^ m % 2 = 0) && (f.getLsbD x != f.getLsbD (x + 2 ^ m))

/-- Does f depend on variable m? -/
def depF (f : Fn) (m : Nat) : Bool := (List.range 256).any (shows f m)

/-- The same for any number. -/
def depAny (f : Fn) (v : Int) : Bool := if 0 ≤ v ∧ v < 8 then depF f v.toNat else false

theorem depF_true {f : Fn} {m x : Nat} (hx : x < 256) (h : shows f m x = true) : depF f m = true := List.any_eq_true.2 ⟨x, List.mem_range.2 hx, h⟩
theorem depF_false {f : Fn} {m : Nat} (h : ∀ x, x < 256 → shows f m x = false) : depF f m = false := by
  rw [depF, List.any_eq_false]
  intro x hx
  rw [h x (List.mem_range.1 hx)]
  decide

/-- 2 to the power of all variables from j on, from which f depends, as the sum of 2 ^ (v - j). -/
def supFrom (f : Fn) : Nat → Nat → Nat
  | 0, _ => 0
  | n + 1, j => 2 * supFrom f n (j + 1) + (if depF f j then 1 else 0)

/-- The support. -/
def supF (f : Fn) : Nat := supFrom f 8 0

theorem supFrom_lt (f : Fn) (n : Nat) : ∀ j, supFrom f n j < 2 ^ n := by
  induction n with
  | zero => intro j; simp [supFrom]
  | succ n ih => intro j; have := ih (j + 1); simp only [supFrom]; rw [Nat.pow_succ]; split <;> omega

/-- In how many rows below n f is true. -/
def cntF (f : Fn) : Nat → Nat
  | 0 => 0
  | n + 1 => cntF f n + (if f.getLsbD n then 1 else 0)

theorem cntF_le (f : Fn) (n : Nat) : cntF f n ≤ n := by
  induction n with
  | zero => simp [cntF]
  | succ n ih => simp only [cntF]; split <;> omega

/-- With g in variable v's place. -/
def compF (f : Fn) (v : Int) (g : Fn) : Fn := g &&& cofAny f v true ||| ~~~g &&& cofAny f v false

end Go.Proofs.YtdcomiopjgcboaaGreatDoor

/-
  Plain mathematics of layer 2's own law: what follows of a variable set.
-/
namespace Go.Proofs.YtdcomiopjgcboaaGreatDoor
open Go Go.RowKit

theorem rowF_test (x m : Nat) (b : Bool) (j : Nat) (hx : x < 256) (hm : m < 8) (hj : j < 8) : (rowF x m b).testBit j = if j = m then b else x.testBit j := by
  have H : ∀ x : Fin 256, ∀ m : Fin 8, ∀ b : Bool, ∀ j : Fin 8, (rowF x m b).testBit j = if (j : Nat) = m then b else (x : Nat).testBit j := by decide +kernel
  exact H ⟨x, hx⟩ ⟨m, hm⟩ b ⟨j, hj⟩

theorem row_ext {x y : Nat} (hx : x < 256) (hy : y < 256) (h : ∀ j, j < 8 → x.testBit j = y.testBit j) : x = y := by
  refine Nat.eq_of_testBit_eq fun j => ?_
  rcases Nat.lt_or_ge j 8 with hj | hj
  · exact h j hj
  · have h8 : (2 : Nat) ^ 8 ≤ 2 ^ j := Nat.pow_le_pow_right (by decide) hj
    rw [Nat.testBit_lt_two_pow (Nat.lt_of_lt_of_le hx h8), Nat.testBit_lt_two_pow (Nat.lt_of_lt_of_le hy h8)]

theorem rowF_self (x m : Nat) (hx : x < 256) (hm : m < 8) : rowF x m (x.testBit m) = x :=
  row_ext (rowF_lt _ _ _ hx hm) hx fun j hj => by
    rw [rowF_test _ _ _ _ hx hm hj]
    split
    · rename_i h; rw [h]
    · rfl

theorem rowF_rowF (x m n : Nat) (b c : Bool) (hx : x < 256) (hm : m < 8) (hn : n < 8) (h : m ≠ n) : rowF (rowF x m b) n c = rowF (rowF x n c) m b :=
  row_ext (rowF_lt _ _ _ (rowF_lt _ _ _ hx hm) hn) (rowF_lt _ _ _ (rowF_lt _ _ _ hx hn) hm) fun j hj => by
    rw [rowF_test _ _ _ _ (rowF_lt _ _ _ hx hm) hn hj, rowF_test _ _ _ _ (rowF_lt _ _ _ hx hn) hm hj, rowF_test _ _ _ _ hx hm hj, rowF_test _ _ _ _ hx hn hj]
    by_cases h1 : j = m
    · rw [if_pos h1, if_neg (by omega), if_pos h1]
    · rw [if_neg h1, if_neg h1]

theorem rowF_twice (x m : Nat) (b c : Bool) (hx : x < 256) (hm : m < 8) : rowF (rowF x m b) m c = rowF x m c :=
  row_ext (rowF_lt _ _ _ (rowF_lt _ _ _ hx hm) hm) (rowF_lt _ _ _ hx hm) fun j hj => by
    rw [rowF_test _ _ _ _ (rowF_lt _ _ _ hx hm) hm hj, rowF_test _ _ _ _ hx hm hj, rowF_test _ _ _ _ hx hm hj]
    split <;> rfl

theorem rowF_up (x m : Nat) (b : Bool) (hm : m < 8) (h : x / 2 ^ m % 2 = 0) : rowF (x + 2 ^ m) m b = rowF x m b := by
  have h1 : (x + 2 ^ m) / 2 ^ m % 2 = 1 := by rcases pow8 hm with e | e | e | e | e | e | e | e <;> rw [e] at h ⊢ <;> omega
  have h2 : ¬ x / 2 ^ m % 2 = 1 := by omega
  unfold rowF
  rw [if_pos h1, if_neg h2, Nat.add_sub_cancel]

/-- With a variable set a function doesn't depend on it. -/
theorem dep_cofF (f : Fn) (m : Nat) (b : Bool) (hm : m < 8) : depF (cofF f m b) m = false := depF_false fun x hx => by
  unfold shows
  by_cases h : x / 2 ^ m % 2 = 0
  · have hx2 : x + 2 ^ m < 256 := by rcases pow8 hm with e | e | e | e | e | e | e | e <;> rw [e] at h ⊢ <;> omega
    rw [cofF_bit _ _ _ _ hx, cofF_bit _ _ _ _ hx2, rowF_up x m b hm h]
    simp
  · rw [decide_eq_false h, Bool.false_and]

theorem dep_cof (f : Fn) (v : Int) (b : Bool) : depAny (cofAny f v b) v = false := by
  unfold depAny cofAny
  split
  · exact dep_cofF f v.toNat b (by omega)
  · rfl

theorem var_bit (m x : Nat) (hx : x < 256) : (varF m).getLsbD x = x.testBit m := by rw [varF, ofRow_bit _ _ hx]

/-- Ite by a variable of both is the function. -/
theorem ite_cof (f : Fn) (v : Int) (hv : 0 ≤ v ∧ v < 8) : (varAny v &&& cofAny f v true ||| ~~~(varAny v) &&& cofAny f v false) = f := by
  unfold varAny cofAny
  rw [if_pos hv, if_pos hv, if_pos hv]
  have hm : v.toNat < 8 := by omega
  refine fn_ext fun x hx => ?_
  rw [BitVec.getLsbD_or, BitVec.getLsbD_and, BitVec.getLsbD_and, BitVec.getLsbD_not, var_bit _ _ hx, cofF_bit _ _ _ _ hx, cofF_bit _ _ _ _ hx, decide_eq_true hx]
  have h := rowF_self x v.toNat hx hm
  cases hb : x.testBit v.toNat
  · rw [hb] at h; rw [h]; simp
  · rw [hb] at h; rw [h]; simp

theorem ite_same' (v f : Fn) : (v &&& f ||| ~~~v &&& f) = f := fn_ext fun x hx => by
  simp [hx]; cases v[x] <;> simp

/-- Compose by itself. -/
theorem comp_self (f : Fn) (v : Int) : compF f v (varAny v) = f := by
  unfold compF
  by_cases hv : 0 ≤ v ∧ v < 8
  · exact ite_cof f v hv
  · unfold cofAny; rw [if_neg hv, if_neg hv]; exact ite_same' _ _

/-- Compose by a constant. -/
theorem comp_const (f : Fn) (v : Int) (b : Bool) : compF f v (if b then BitVec.allOnes 256 else 0#256) = cofAny f v b := by
  unfold compF
  refine fn_ext fun x hx => ?_
  rw [BitVec.getLsbD_or, BitVec.getLsbD_and, BitVec.getLsbD_and, BitVec.getLsbD_not, decide_eq_true hx]
  cases b
  · rw [if_neg (by decide), BitVec.getLsbD_zero]; simp
  · rw [if_pos rfl, BitVec.getLsbD_allOnes, decide_eq_true hx]; simp

/-- Whatever is so for both is so for one. -/
theorem all_some (f : Fn) (v : Int) : ((cofAny f v false &&& cofAny f v true) &&& ~~~(cofAny f v false ||| cofAny f v true)) = 0#256 := fn_ext fun x hx => by
  simp [hx]
  intro h1 h2
  simp [h1]

/-- Two variables may be set in any order. -/
theorem cof_cof (f : Fn) (v w : Int) (b c : Bool) (h : v ≠ w) : cofAny (cofAny f v b) w c = cofAny (cofAny f w c) v b := by
  unfold cofAny
  by_cases hv : 0 ≤ v ∧ v < 8
  · by_cases hw : 0 ≤ w ∧ w < 8
    · rw [if_pos hv, if_pos hw, if_pos hw, if_pos hv]
      refine fn_ext fun x hx => ?_
      have hm : v.toNat < 8 := by omega
      have hn : w.toNat < 8 := by omega
      rw [cofF_bit _ _ _ _ hx, cofF_bit _ _ _ _ hx, cofF_bit _ _ _ _ (rowF_lt _ _ _ hx hn), cofF_bit _ _ _ _ (rowF_lt _ _ _ hx hm), rowF_rowF x v.toNat w.toNat b c hx hm hn (by omega)]
    · rw [if_neg hw, if_neg hw]
  · rw [if_neg hv, if_neg hv]

theorem cntF_eq (f : Fn) (n : Nat) : cntF f n = (List.range n).countP (fun x => f.getLsbD x) := by
  induction n with
  | zero => rfl
  | succ n ih => rw [cntF, ih, List.range_succ, List.countP_append, List.countP_cons, List.countP_nil, Nat.zero_add]

theorem countP_sum (l : List Nat) (p q r s : Nat → Bool) (h : ∀ x ∈ l, (p x).toNat + (q x).toNat = (r x).toNat + (s x).toNat) :
    l.countP p + l.countP q = l.countP r + l.countP s := by
  induction l with
  | nil => rfl
  | cons a l ih =>
    have h1 := h a (List.mem_cons_self ..)
    have h2 := ih fun x hx => h x (List.mem_cons_of_mem _ hx)
    simp only [List.countP_cons]
    revert h1
    cases p a <;> cases q a <;> cases r a <;> cases s a <;> simp <;> omega

/-- Row x with variable m turned. -/
def flipR (m x : Nat) : Nat := rowF x m (!x.testBit m)

theorem flip_perm (m : Nat) (hm : m < 8) : ((List.range 256).map (flipR m)).Perm (List.range 256) := by
  have H : ∀ m : Fin 8, (((List.range 256).map (flipR m)).isPerm (List.range 256)) = true := by decide +kernel
  exact List.isPerm_iff.1 (H ⟨m, hm⟩)

/-- Both halves count what the whole does. -/
theorem count_halves (f : Fn) (v : Int) (hv : 0 ≤ v ∧ v < 8) : cntF (cofAny f v true) 256 + cntF (cofAny f v false) 256 = 2 * cntF f 256 := by
  unfold cofAny
  rw [if_pos hv, if_pos hv, cntF_eq, cntF_eq, cntF_eq]
  have hm : v.toNat < 8 := by omega
  have e := (flip_perm v.toNat hm).countP_eq (fun x => f.getLsbD x)
  rw [List.countP_map] at e
  rw [countP_sum (List.range 256) _ _ (fun x => f.getLsbD x) ((fun x => f.getLsbD x) ∘ flipR v.toNat) ?_, e]
  · omega
  · intro x hx
    have hx' := List.mem_range.1 hx
    rw [cofF_bit _ _ _ _ hx', cofF_bit _ _ _ _ hx']
    have h := rowF_self x v.toNat hx' hm
    show _ = _ + (f.getLsbD (rowF x v.toNat (!x.testBit v.toNat))).toNat
    cases hb : x.testBit v.toNat
    · rw [hb] at h; simp only [Bool.not_false]; rw [h, Nat.add_comm]
    · rw [hb] at h; simp only [Bool.not_true]; rw [h]

end Go.Proofs.YtdcomiopjgcboaaGreatDoor

/-
  Plain mathematics of layer 3: the top of a function in an order, the nodes of functions.
-/
namespace Go.Proofs.YtdcomiopjgcboaaGreatDoor
open Go Go.RowKit

/-- The first of n numbers from place i on, on which f depends; -1, if there is none. -/
def topFrom (f : Fn) (o : Nat → Int) : Nat → Nat → Int
  | 0, _ => -1
  | n + 1, i => if depAny f (o i) then o i else topFrom f o n (i + 1)

/-- The top. -/
def topF (f : Fn) (o : Nat → Int) : Int := topFrom f o 8 0

/-- What is reached from functions by setting tops. -/
inductive Reach (l : List Fn) (o : Nat → Int) : Fn → Prop
  | base {f : Fn} (h : f ∈ l) : Reach l o f
  | step {f : Fn} (b : Bool) (h : Reach l o f) (hs : supF f ≠ 0) (ht : 0 ≤ topF f o) : Reach l o (cofAny f (topF f o) b)

/-- A node of these functions. -/
def IsNode (l : List Fn) (o : Nat → Int) (f : Fn) : Prop := Reach l o f ∧ supF f ≠ 0

/-- n is how many nodes there are. -/
def IsSize (l : List Fn) (o : Nat → Int) (n : Nat) : Prop := ∃ out : List Fn, out.Nodup ∧ (∀ f, f ∈ out ↔ IsNode l o f) ∧ out.length = n

theorem nodup_length_le {l k : List Fn} (hl : l.Nodup) (h : ∀ f, f ∈ l → f ∈ k) : l.length ≤ k.length := by
  induction l generalizing k with
  | nil => exact Nat.zero_le _
  | cons a l ih =>
    have hn := List.nodup_cons.1 hl
    have ha : a ∈ k := h a (List.mem_cons_self ..)
    have h2 : ∀ f, f ∈ l → f ∈ k.erase a := fun f hf => (List.mem_erase_of_ne (fun e : f = a => hn.1 (by rw [← e]; exact hf))).2 (h f (List.mem_cons_of_mem _ hf))
    have h3 := ih hn.2 h2
    rw [List.length_erase_of_mem ha] at h3
    have : 0 < k.length := List.length_pos_of_mem ha
    simp only [List.length_cons]
    omega

theorem IsSize.unique {l : List Fn} {o : Nat → Int} {n m : Nat} (h : IsSize l o n) (k : IsSize l o m) : n = m := by
  obtain ⟨a, ha, hma, rfl⟩ := h
  obtain ⟨b, hb, hmb, rfl⟩ := k
  exact Nat.le_antisymm (nodup_length_le ha fun f hf => (hmb f).2 ((hma f).1 hf)) (nodup_length_le hb fun f hf => (hma f).2 ((hmb f).1 hf))

/-- On how many variables f depends. -/
def supN (f : Fn) : Nat := (List.range 8).countP (depF f)

theorem supFrom_zero (f : Fn) (n : Nat) : ∀ j, supFrom f n j = 0 ↔ ∀ i, j ≤ i → i < j + n → depF f i = false := by
  induction n with
  | zero => intro j; simp only [supFrom, true_iff]; intro i h1 h2; omega
  | succ n ih =>
    intro j
    simp only [supFrom]
    constructor
    · intro h i h1 h2
      have hd : depF f j = false := by
        cases hd : depF f j
        · rfl
        · rw [hd] at h; simp at h
      have h0 : supFrom f n (j + 1) = 0 := by rw [hd] at h; simp at h; omega
      rcases Nat.lt_or_ge j i with hlt | hge
      · exact (ih (j + 1)).1 h0 i hlt (by omega)
      · obtain rfl : i = j := by omega
        exact hd
    · intro h
      have h0 := (ih (j + 1)).2 fun i h1 h2 => h i (by omega) (by omega)
      rw [h0, h j (Nat.le_refl _) (by omega)]
      simp

theorem supF_zero (f : Fn) : supF f = 0 ↔ ∀ i, i < 8 → depF f i = false := by
  rw [supF, supFrom_zero]
  constructor
  · intro h i hi; exact h i (Nat.zero_le _) (by omega)
  · intro h i _ hi; exact h i (by omega)

theorem topFrom_dep (f : Fn) (o : Nat → Int) (n : Nat) : ∀ i, 0 ≤ topFrom f o n i → depAny f (topFrom f o n i) = true := by
  induction n with
  | zero => intro i h; simp [topFrom] at h
  | succ n ih =>
    intro i h
    simp only [topFrom] at h ⊢
    split
    · assumption
    · rename_i hd
      rw [if_neg hd] at h
      exact ih (i + 1) h

theorem depAny_range {f : Fn} {v : Int} (h : depAny f v = true) : 0 ≤ v ∧ v < 8 := by
  unfold depAny at h
  split at h
  · assumption
  · cases h

/-- What doesn't depend on a variable doesn't with another one set. -/
theorem dep_cof_other (f : Fn) (m n : Nat) (b : Bool) (hm : m < 8) (hn : n < 8) (h : depF f n = false) : depF (cofF f m b) n = false := by
  by_cases e : m = n
  · subst e; exact dep_cofF f m b hm
  · refine depF_false fun x hx => ?_
    unfold shows
    by_cases h0 : x / 2 ^ n % 2 = 0
    · have hx2 : x + 2 ^ n < 256 := by rcases pow8 hn with e | e | e | e | e | e | e | e <;> rw [e] at h0 ⊢ <;> omega
      rw [cofF_bit _ _ _ _ hx, cofF_bit _ _ _ _ hx2]
      have hbit : x.testBit n = false := by rw [Nat.testBit_eq_decide_div_mod_eq]; simp; omega
      have e1 : x + 2 ^ n = rowF x n true := by unfold rowF; rw [if_neg (by omega), if_pos rfl]
      have e2 : rowF (x + 2 ^ n) m b = rowF x m b + 2 ^ n := by
        rw [e1, rowF_rowF x n m true b hx hn hm (Ne.symm e)]
        have hb2 : (rowF x m b).testBit n = false := by rw [rowF_test _ _ _ _ hx hm hn, if_neg (Ne.symm e)]; exact hbit
        unfold rowF at hb2 ⊢
        rw [Nat.testBit_eq_decide_div_mod_eq] at hb2
        have hb3 := of_decide_eq_false hb2
        rw [if_neg hb3]
        simp
      have hr0 : (rowF x m b) / 2 ^ n % 2 = 0 := by
        have hb2 : (rowF x m b).testBit n = false := by rw [rowF_test _ _ _ _ hx hm hn, if_neg (Ne.symm e)]; exact hbit
        rw [Nat.testBit_eq_decide_div_mod_eq] at hb2
        have := of_decide_eq_false hb2
        omega
      have hs : shows f n (rowF x m b) = false := by
        cases hs : shows f n (rowF x m b)
        · rfl
        · rw [depF_true (rowF_lt _ _ _ hx hm) hs] at h; cases h
      unfold shows at hs
      rw [decide_eq_true hr0, Bool.true_and] at hs
      rw [e2, hs, Bool.and_false]
    · rw [decide_eq_false h0, Bool.false_and]

theorem countP_lt {l : List Nat} {p q : Nat → Bool} (h : ∀ x ∈ l, p x = true → q x = true) {a : Nat} (ha : a ∈ l) (hp : p a = false) (hq : q a = true) : l.countP p < l.countP q := by
  induction l with
  | nil => cases ha
  | cons b l ih =>
    rw [List.countP_cons, List.countP_cons]
    rcases List.mem_cons.1 ha with rfl | ha
    · rw [hp, hq]
      have := List.countP_mono_left (l := l) (p := p) (q := q) fun x hx => h x (List.mem_cons_of_mem _ hx)
      simp
      omega
    · have := ih (fun x hx => h x (List.mem_cons_of_mem _ hx)) ha
      cases hb : p b
      · cases q b <;> simp <;> omega
      · rw [h b (List.mem_cons_self ..) hb]; simp; omega

/-- With its top set a function depends on fewer variables. -/
theorem supN_cof (f : Fn) (o : Nat → Int) (b : Bool) (h : 0 ≤ topF f o) : supN (cofAny f (topF f o) b) < supN f := by
  have hd := topFrom_dep f o 8 0 h
  have hr := depAny_range hd
  change 0 ≤ topF f o ∧ topF f o < 8 at hr
  change depAny f (topF f o) = true at hd
  generalize topF f o = v at *
  have hm : v.toNat < 8 := by omega
  unfold depAny at hd
  rw [if_pos hr] at hd
  unfold cofAny
  rw [if_pos hr]
  refine countP_lt (a := v.toNat) (fun x hx hp => ?_) (List.mem_range.2 hm) (dep_cofF f _ b hm) hd
  cases hx2 : depF f x
  · rw [dep_cof_other f v.toNat x b hm (List.mem_range.1 hx) hx2] at hp; cases hp
  · rfl

end Go.Proofs.YtdcomiopjgcboaaGreatDoor

/-
  Plain mathematics of layer 3: what a list of functions still to be looked at, those that were, and the nodes among them are to each other, step by step.
-/
namespace Go.Proofs.YtdcomiopjgcboaaGreatDoor
open Go Go.RowKit

/-- How many steps a function can cost at most. -/
def wt (f : Fn) : Nat := 2 ^ (supN f + 1) - 1

def wsum : List Fn → Nat
  | [] => 0
  | f :: l => wt f + wsum l

theorem wsum_append (l k : List Fn) : wsum (l ++ k) = wsum l + wsum k := by
  induction l with
  | nil => simp [wsum]
  | cons f l ih => simp only [List.cons_append, wsum, ih]; omega

theorem supN_le (f : Fn) : supN f ≤ 8 := by
  have := List.countP_le_length (p := depF f) (l := List.range 8)
  simpa [supN] using this

theorem wt_pos (f : Fn) : 1 ≤ wt f := by
  unfold wt
  have : 2 ^ 1 ≤ 2 ^ (supN f + 1) := Nat.pow_le_pow_right (by decide) (by omega)
  omega

theorem wt_le (f : Fn) : wt f ≤ 511 := by
  unfold wt
  have : 2 ^ (supN f + 1) ≤ 2 ^ 9 := Nat.pow_le_pow_right (by decide) (by have := supN_le f; omega)
  omega

theorem wsum_le (l : List Fn) : wsum l ≤ 511 * l.length := by
  induction l with
  | nil => simp [wsum]
  | cons f l ih => simp only [wsum, List.length_cons]; have := wt_le f; omega

theorem length_le_wsum (l : List Fn) : l.length ≤ wsum l := by
  induction l with
  | nil => simp [wsum]
  | cons f l ih => simp only [wsum, List.length_cons]; have := wt_pos f; omega

theorem wt_cof (f : Fn) (o : Nat → Int) (b c : Bool) (h : 0 ≤ topF f o) : wt (cofAny f (topF f o) b) + wt (cofAny f (topF f o) c) + 1 ≤ wt f := by
  have hb := supN_cof f o b h
  have hc := supN_cof f o c h
  unfold wt
  have h1 : 2 ^ (supN (cofAny f (topF f o) b) + 1) ≤ 2 ^ supN f := Nat.pow_le_pow_right (by decide) hb
  have h2 : 2 ^ (supN (cofAny f (topF f o) c) + 1) ≤ 2 ^ supN f := Nat.pow_le_pow_right (by decide) hc
  have h3 : 2 ^ 1 ≤ 2 ^ (supN (cofAny f (topF f o) b) + 1) := Nat.pow_le_pow_right (by decide) (by omega)
  have h4 : 2 ^ 1 ≤ 2 ^ (supN (cofAny f (topF f o) c) + 1) := Nat.pow_le_pow_right (by decide) (by omega)
  have h5 : 2 ^ (supN f + 1) = 2 * 2 ^ supN f := by rw [Nat.pow_succ, Nat.mul_comm]
  omega

/-- Behind k of the functions of 'work' have been looked at, 'out' are the nodes among them. -/
structure NInv (l : List Fn) (o : Nat → Int) (out work : List Fn) (k : Nat) : Prop where
  le : k ≤ work.length
  reach : ∀ f, f ∈ work → Reach l o f
  base : ∀ f, f ∈ l → f ∈ work
  closed : ∀ f, f ∈ work.take k → supF f ≠ 0 → 0 ≤ topF f o → ∀ b, cofAny f (topF f o) b ∈ work
  nodup : out.Nodup
  mem : ∀ f, f ∈ out ↔ f ∈ work.take k ∧ supF f ≠ 0
  cost : k + wsum (work.drop k) ≤ 511 * l.length

theorem NInv.start (l : List Fn) (o : Nat → Int) : NInv l o [] l 0 where
  le := Nat.zero_le _
  reach f h := .base h
  base f h := h
  closed f h := by cases h
  nodup := List.nodup_nil
  mem f := by simp
  cost := by simpa using wsum_le l

theorem NInv.len {l : List Fn} {o : Nat → Int} {out work : List Fn} {k : Nat} (h : NInv l o out work k) : work.length ≤ 511 * l.length := by
  have h1 := length_le_wsum (work.drop k)
  have h2 := h.cost
  have h3 := h.le
  rw [List.length_drop] at h1
  omega

theorem NInv.out_len {l : List Fn} {o : Nat → Int} {out work : List Fn} {k : Nat} (h : NInv l o out work k) : out.length ≤ k := by
  have h1 := nodup_length_le h.nodup fun f hf => ((h.mem f).1 hf).1
  rw [List.length_take] at h1
  omega

theorem take_one {work : List Fn} {k : Nat} (hk : k < work.length) : work.take (k + 1) = work.take k ++ [work[k]] := List.take_succ_eq_append_getElem hk
theorem drop_one {work : List Fn} {k : Nat} (hk : k < work.length) : wsum (work.drop k) = wt work[k] + wsum (work.drop (k + 1)) := by
  rw [List.drop_eq_getElem_cons hk]; rfl

theorem NInv.seen {l : List Fn} {o : Nat → Int} {out work : List Fn} {k : Nat} (h : NInv l o out work k) (hk : k < work.length) (hs : work[k] ∈ work.take k) : NInv l o out work (k + 1) := by
  have hm : ∀ f, f ∈ work.take (k + 1) ↔ f ∈ work.take k := fun f => by
    rw [take_one hk, List.mem_append, List.mem_singleton]
    exact ⟨fun h => h.elim id (fun e => e ▸ hs), .inl⟩
  have hc := h.cost
  rw [drop_one hk] at hc
  have hw := wt_pos work[k]
  exact ⟨hk, h.reach, h.base, fun f hf => h.closed f ((hm f).1 hf), h.nodup, fun f => (h.mem f).trans (by rw [hm]), by omega⟩

theorem NInv.const {l : List Fn} {o : Nat → Int} {out work : List Fn} {k : Nat} (h : NInv l o out work k) (hk : k < work.length) (hs : supF work[k] = 0) : NInv l o out work (k + 1) := by
  have hm : ∀ f, f ∈ work.take (k + 1) ↔ f ∈ work.take k ∨ f = work[k] := fun f => by
    rw [take_one hk, List.mem_append, List.mem_singleton]
  have hc := h.cost
  rw [drop_one hk] at hc
  have hw := wt_pos work[k]
  refine ⟨hk, h.reach, h.base, fun f hf hf2 => ?_, h.nodup, fun f => ?_, by omega⟩
  · rcases (hm f).1 hf with hf | rfl
    · exact h.closed f hf hf2
    · exact absurd hs hf2
  · rw [h.mem, hm]
    constructor
    · rintro ⟨a, b⟩; exact ⟨.inl a, b⟩
    · rintro ⟨a | rfl, b⟩
      · exact ⟨a, b⟩
      · exact absurd hs b

theorem nodup_snoc {l : List Fn} {f : Fn} (h : l.Nodup) (hf : f ∉ l) : (l ++ [f]).Nodup := by
  rw [List.nodup_append]
  refine ⟨h, List.nodup_cons.2 ⟨by simp, List.nodup_nil⟩, fun a ha b hb => ?_⟩
  rw [List.mem_singleton] at hb
  subst hb
  intro e
  subst e
  exact hf ha

theorem NInv.leaf {l : List Fn} {o : Nat → Int} {out work : List Fn} {k : Nat} (h : NInv l o out work k) (hk : k < work.length) (hn : work[k] ∉ work.take k) (hs : supF work[k] ≠ 0) (ht : ¬ 0 ≤ topF work[k] o) :
    NInv l o (out ++ [work[k]]) work (k + 1) := by
  have hm : ∀ f, f ∈ work.take (k + 1) ↔ f ∈ work.take k ∨ f = work[k] := fun f => by
    rw [take_one hk, List.mem_append, List.mem_singleton]
  have hc := h.cost
  rw [drop_one hk] at hc
  have hw := wt_pos work[k]
  refine ⟨hk, h.reach, h.base, fun f hf hf2 hf3 => ?_, nodup_snoc h.nodup fun hf => hn ((h.mem _).1 hf).1, fun f => ?_, by omega⟩
  · rcases (hm f).1 hf with hf | rfl
    · exact h.closed f hf hf2 hf3
    · exact absurd hf3 ht
  · rw [List.mem_append, List.mem_singleton, h.mem, hm]
    constructor
    · rintro (⟨a, b⟩ | rfl)
      · exact ⟨.inl a, b⟩
      · exact ⟨.inr rfl, hs⟩
    · rintro ⟨a | rfl, b⟩
      · exact .inl ⟨a, b⟩
      · exact .inr rfl

theorem NInv.node {l : List Fn} {o : Nat → Int} {out work : List Fn} {k : Nat} (h : NInv l o out work k) (hk : k < work.length) (hn : work[k] ∉ work.take k) (hs : supF work[k] ≠ 0) (ht : 0 ≤ topF work[k] o) :
    NInv l o (out ++ [work[k]]) (work ++ [cofAny work[k] (topF work[k] o) false, cofAny work[k] (topF work[k] o) true]) (k + 1) := by
  have htk : (work ++ [cofAny work[k] (topF work[k] o) false, cofAny work[k] (topF work[k] o) true]).take (k + 1) = work.take (k + 1) := List.take_append_of_le_length (by omega)
  have hm : ∀ f, f ∈ work.take (k + 1) ↔ f ∈ work.take k ∨ f = work[k] := fun f => by
    rw [take_one hk, List.mem_append, List.mem_singleton]
  have hc := h.cost
  rw [drop_one hk] at hc
  have hw := wt_cof work[k] o false true ht
  have hin : ∀ b, cofAny work[k] (topF work[k] o) b ∈ [cofAny work[k] (topF work[k] o) false, cofAny work[k] (topF work[k] o) true] := fun b => by cases b <;> simp
  refine ⟨by simp; omega, fun f hf => ?_, fun f hf => List.mem_append_left _ (h.base f hf), fun f hf hf2 hf3 b => ?_, nodup_snoc h.nodup fun hf => hn ((h.mem _).1 hf).1, fun f => ?_, ?_⟩
  · rcases List.mem_append.1 hf with hf | hf
    · exact h.reach f hf
    · have hr := h.reach _ (List.getElem_mem hk)
      simp only [List.mem_cons, List.not_mem_nil, or_false] at hf
      rcases hf with rfl | rfl
      · exact .step false hr hs ht
      · exact .step true hr hs ht
  · rw [htk] at hf
    rcases (hm f).1 hf with hf | rfl
    · exact List.mem_append_left _ (h.closed f hf hf2 hf3 b)
    · exact List.mem_append_right _ (hin b)
  · rw [htk, List.mem_append, List.mem_singleton, h.mem, hm]
    constructor
    · rintro (⟨a, b⟩ | rfl)
      · exact ⟨.inl a, b⟩
      · exact ⟨.inr rfl, hs⟩
    · rintro ⟨a | rfl, b⟩
      · exact .inl ⟨a, b⟩
      · exact .inr rfl
  · rw [List.drop_append_of_le_length (by omega), wsum_append]
    simp only [wsum]
    omega

theorem NInv.done {l : List Fn} {o : Nat → Int} {out work : List Fn} {k : Nat} (h : NInv l o out work k) (hk : ¬ k < work.length) : IsSize l o out.length := by
  have htk : work.take k = work := List.take_of_length_le (by omega)
  have hall : ∀ f, Reach l o f → f ∈ work := by
    intro f hf
    induction hf with
    | base h' => exact h.base _ h'
    | step b _ hs ht ih => exact h.closed _ (by rw [htk]; exact ih) hs ht b
  refine ⟨out, h.nodup, fun f => ?_, rfl⟩
  rw [h.mem, htk]
  exact ⟨fun ⟨a, b⟩ => ⟨h.reach f a, b⟩, fun ⟨a, b⟩ => ⟨hall f a, b⟩⟩

end Go.Proofs.YtdcomiopjgcboaaGreatDoor
