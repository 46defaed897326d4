/-
  A map of the call's own whose elements are numbers, as a function from its keys; nothing of the program is read here.
-/
import Derived.Maps.Own
import Derived.Maps.OwnOps
import Derived.Maps.Views
import Derived.WalkKit
namespace Go.Proofs.YtgccgjeehggagaaDoor
open Go Go.RowKit Go.Maps

/-- How values of α stand as keys of type K. -/
structure KeyEnc (P : Program) (K : TypeId) (α : Type) where
  val : α → Value
  lit : α → Lit
  key : ∀ a, keyOf P K (val a) = some (lit a)
  inj : ∀ a b, val a = val b → a = b
  law : Keyed P K

section
variable {P : Program} {K e : TypeId} {α : Type} {E : KeyEnc P K α}

theorem KeyEnc.lit_inj (E : KeyEnc P K α) {a b : α} (h : E.lit a = E.lit b) : a = b := by
  have ha := E.key a
  have hb := E.key b
  rw [h] at ha
  exact E.inj a b (E.law.inj ha hb)

/-- Block b is a map of at most n entries; at key a it has m a, and 0 where there is none. -/
def IMap (E : KeyEnc P K α) (e : TypeId) (w : World) (b n : Nat) (m : α → Int) : Prop :=
  ∃ D : DataW Unit, w.ownsMap P K (plainElem P e) b n D ∧ IsMap D ∧ ∀ a, D.atKey (E.lit a) (.lit (.int .i64 0)) = .lit (.int .i64 (m a))

theorem IMap.made (E : KeyEnc P K α) (e : TypeId) (w : World) : IMap E e (w.alloc (.map #[] 0)) w.heap.size 0 (fun _ => 0) :=
  ⟨.map [], World.ownsMap_made _ _ _ _, isMap_empty, fun _ => rfl⟩

theorem IMap.block {w w' : World} {b n : Nat} {m : α → Int} (h : IMap E e w b n m) (hb : w'.heap[b]? = w.heap[b]?) : IMap E e w' b n m := by
  obtain ⟨D, ⟨es, clock, h1, h2, h3, h4⟩, hm, ha⟩ := h
  exact ⟨D, ⟨es, clock, hb.trans h1, h2, h3, h4⟩, hm, ha⟩

theorem IMap.lt {w : World} {b n : Nat} {m : α → Int} (h : IMap E e w b n m) : b < w.heap.size := by
  obtain ⟨D, ho, _⟩ := h; exact ho.lt

theorem IMap.keep {w w' : World} {b n B : Nat} {m : α → Int} (h : IMap E e w b n m) (hb : Below B w w') (hB : b < B) : IMap E e w' b n m := h.block (hb.block b hB)
theorem IMap.alloc {w : World} {b n : Nat} {m : α → Int} (h : IMap E e w b n m) (o : Obj) : IMap E e (w.alloc o) b n m := h.block (heap_alloc_old _ _ h.lt)
theorem IMap.grown {w w' : World} {b n : Nat} {m : α → Int} {row : Option Nat} (h : IMap E e w b n m) (hg : w.grownBy w' row) (hne : some b ≠ row) : IMap E e w' b n m := by
  obtain ⟨D, ho, hm, ha⟩ := h; exact ⟨D, ho.kept hg hne, hm, ha⟩

theorem IMap.le {w : World} {b n : Nat} {m : α → Int} (h : IMap E e w b n m) : IMap E e w b (n + 1) m := by
  obtain ⟨D, ho, hm, ha⟩ := h; exact ⟨D, ho.mono (Nat.le_succ _), hm, ha⟩

/-- m[a], read. -/
theorem IMap.look {w : World} {b n : Nat} {m : α → Int} {t : TypeId} (h : IMap E e w b n m) (ht : P.underlying t = some (.map K e)) (he : P.underlying e = some (.int .i64)) (hz : (zeroValue e).run P w = .ok (.int .i64 0) w) (a : α) :
    (Instr.lookup t (.map (some b)) (E.val a) false).run P w = .ok (.int .i64 (m a)) w := by
  obtain ⟨D, ho, _, ha⟩ := h
  obtain ⟨c, hr, hc, _⟩ := ho.lookup_int E.law ht he hz (E.key a)
  rw [ha a] at hc
  injection hc with hc
  injection hc with _ hc
  rw [hr, hc]

/-- m[a] = x, stored. -/
theorem IMap.put [DecidableEq α] {ops : Array Oper} {rest : List Oper} {o : Oper} {A : Act} {Q : Exit → Act → World → Prop} {w : World} {b n : Nat} {m : α → Int} {t : TypeId}
    (h : IMap E e w b n m) (ht : P.underlying t = some (.map K e)) (he : P.underlying e = some (.int .i64)) (hn : n < maxLen) (hg : o.guard = none) (x y v : Operand) (hop : o.op = Op.mapUpdate t x y v)
    (a : α) (c : Int) (hc : (Lit.int .i64 c).wf = true) (hx : A.eval x = .map (some b)) (hy : A.eval y = E.val a) (hv : A.eval v = .int .i64 c)
    (hK : ∀ w', IMap E e w' b (n + 1) (fun z => if z = a then c else m z) → w.grownBy w' (some b) → wpList P ops Q rest (A.put o.dst undef) w') : wpList P ops Q (o :: rest) A w := by
  obtain ⟨D, ho, hm, ha⟩ := h
  refine wpList_mapUpdate_own w hg x y v t hop K e E.law ht _ b n D hx ho hn _ _ _ hy hv (E.key a) _ [] (plainElem_int he hc) ?_
  intro w' ho' hgr
  refine hK w' ⟨_, ho', hm.put _ _, fun z => ?_⟩ hgr
  by_cases hz : z = a
  · subst hz
    rw [atKey_put_same hm (E.law.key (E.key z))]
    dsimp only
    rw [if_pos rfl]
  · rw [atKey_put_other (fun h => hz (E.lit_inj h)), ha z]
    dsimp only
    rw [if_neg hz]
end

end Go.Proofs.YtgccgjeehggagaaDoor
