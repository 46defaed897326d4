/-
  A map whose elements are bools and that holds true at some keys and nothing else, as the list of these keys; nothing of the program is read here.
-/
import Derived.Test.YtgccgjeehggagaaDoorIMap
import Derived.Maps.OwnSet
namespace Go.Proofs.YtgccgjeehggagaaDoor
open Go Go.RowKit Go.Maps

section
variable {P : Program} {K e : TypeId} {α : Type} [DecidableEq α] {E : KeyEnc P K α}

/-- Block b is a map that holds true at the keys S, and nothing else. -/
def BSet (E : KeyEnc P K α) (e : TypeId) (w : World) (b : Nat) (S : List α) : Prop :=
  ∃ D : DataW Unit, w.ownsMap P K (plainElem P e) b S.length D ∧ (∀ a, D.atKey (E.lit a) (.lit (.bool false)) = .lit (.bool (decide (a ∈ S)))) ∧ (∀ a, has D (E.lit a) = decide (a ∈ S)) ∧ Maps.size D = S.length

theorem BSet.made (E : KeyEnc P K α) (e : TypeId) (w : World) : BSet E e (w.alloc (.map #[] 0)) w.heap.size [] :=
  ⟨.map [], World.ownsMap_made _ _ _ _, fun _ => rfl, fun _ => rfl, rfl⟩

theorem BSet.block {w w' : World} {b : Nat} {S : List α} (h : BSet E e w b S) (hb : w'.heap[b]? = w.heap[b]?) : BSet E e w' b S := by
  obtain ⟨D, ⟨es, clock, h1, h2, h3, h4⟩, r⟩ := h
  exact ⟨D, ⟨es, clock, hb.trans h1, h2, h3, h4⟩, r⟩

theorem BSet.lt {w : World} {b : Nat} {S : List α} (h : BSet E e w b S) : b < w.heap.size := by
  obtain ⟨D, ho, _⟩ := h; exact ho.lt

theorem BSet.keep {w w' : World} {b B : Nat} {S : List α} (h : BSet E e w b S) (hb : Below B w w') (hB : b < B) : BSet E e w' b S := h.block (hb.block b hB)
theorem BSet.alloc {w : World} {b : Nat} {S : List α} (h : BSet E e w b S) (o : Obj) : BSet E e (w.alloc o) b S := h.block (heap_alloc_old _ _ h.lt)

theorem plainElem_bool_inv {e : TypeId} (he : P.underlying e = some .bool) {v : Value} {z : DataW Unit × List MemPlace} (h : plainElem P e v = some z) : ∃ x, v = .bool x ∧ z = (.lit (.bool x), []) := by
  unfold plainElem at h
  rw [he] at h
  cases v <;> simp at h
  exact ⟨_, rfl, h.symm⟩

/-- m[a], read. -/
theorem BSet.look {w : World} {b : Nat} {S : List α} {t : TypeId} (h : BSet E e w b S) (ht : P.underlying t = some (.map K e)) (he : P.underlying e = some .bool) (hz : (zeroValue e).run P w = .ok (.bool false) w) (a : α) :
    (Instr.lookup t (.map (some b)) (E.val a) false).run P w = .ok (.bool (decide (a ∈ S))) w := by
  obtain ⟨D, ho, ha, _⟩ := h
  obtain ⟨v, ps, hr, hv⟩ := ho.lookup E.law ht hz (plainElem_bool he false) (E.key a)
  obtain ⟨x, rfl, hx⟩ := plainElem_bool_inv he hv
  rw [ha a] at hx
  simp only [Prod.mk.injEq, DataW.lit.injEq, Lit.bool.injEq] at hx
  rw [hr, hx.1]

/-- len(m). -/
theorem BSet.len {w : World} {b : Nat} {S : List α} {t : TypeId} (h : BSet E e w b S) (ht : P.underlying t = some (.map K e)) (ty : TypeId) : (Builtin.len_ #[t] ty #[.map (some b)]).run P w = .ok (.int .i64 S.length) w := by
  obtain ⟨D, ho, _, _, hs⟩ := h
  rw [ho.len ht ty, hs]

/-- m[a] = true, stored. -/
theorem BSet.put {ops : Array Oper} {rest : List Oper} {o : Oper} {A : Act} {Q : Exit → Act → World → Prop} {w : World} {b : Nat} {S : List α} {t : TypeId}
    (h : BSet E e w b S) (ht : P.underlying t = some (.map K e)) (he : P.underlying e = some .bool) (hn : S.length < maxLen) (hg : o.guard = none) (x y v : Operand) (hop : o.op = Op.mapUpdate t x y v)
    (a : α) (hna : a ∉ S) (hx : A.eval x = .map (some b)) (hy : A.eval y = E.val a) (hv : A.eval v = .bool true)
    (hK : ∀ w', BSet E e w' b (S ++ [a]) → w.grownBy w' (some b) → wpList P ops Q rest (A.put o.dst undef) w') : wpList P ops Q (o :: rest) A w := by
  obtain ⟨D, ho, ha, hh, hs⟩ := h
  have hm := ho.isMap
  have htd := ho.tidy E.law
  refine wpList_mapUpdate_own w hg x y v t hop K e E.law ht _ b _ D hx ho hn _ _ _ hy hv (E.key a) _ [] (plainElem_bool he true) ?_
  intro w' ho' hgr
  refine hK w' ⟨_, by rw [List.length_append, List.length_singleton]; exact ho', fun z => ?_, fun z => ?_, ?_⟩ hgr
  · by_cases hz : z = a
    · subst hz
      rw [atKey_put_same hm (E.law.key (E.key z)), decide_eq_true (List.mem_append_right _ (List.mem_singleton.2 rfl))]
    · rw [atKey_put_other (fun h => hz (E.lit_inj h)), ha z]
      simp [hz]
  · by_cases hz : z = a
    · subst hz
      rw [has_put_same hm (E.law.key (E.key z)), decide_eq_true (List.mem_append_right _ (List.mem_singleton.2 rfl))]
    · rw [has_put_other (fun h => hz (E.lit_inj h)), hh z]
      simp [hz]
  · rw [size_put htd, hh a, decide_eq_false hna, hs]
    simp
end

end Go.Proofs.YtgccgjeehggagaaDoor
