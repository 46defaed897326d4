/-
  A region whose order is open: operations that read no memory come first, in whatever order they stand; those behind them come one after another. One walk serves every order. Nothing of the program is read here.
-/
import Derived.Test.YtbnjbnjhpccomaaQuiet
namespace Go.Proofs.Ytbnjbnjhpccomaa
open Go Go.RowKit

section
variable {P : Program} {ops : Array Oper} {md : Region.Mode}

/-- The operations 'qs' come up one after another, and nothing else. -/
def seqIdxB (md : Region.Mode) (ops : Array Oper) : List Nat → Array Bool → Bool
  | [], ls => (Region.ready md ops ls).isEmpty
  | k :: qs, ls => decide (Region.ready md ops ls = [k]) && seqIdxB md ops qs (ls.setIfInBounds k true)

/-- Ahead of them 'ps' may be taken, in this order. -/
def pureIdxB (md : Region.Mode) (ops : Array Oper) (qs : List Nat) : List Nat → Array Bool → Bool
  | [], ls => seqIdxB md ops qs ls
  | i :: ps, ls => (Region.ready md ops ls).contains i && Region.free md ops ls i && pureIdxB md ops qs ps (ls.setIfInBounds i true)

/-- All operations of these numbers. -/
def opsAt (ops : Array Oper) (l : List Nat) : List Oper := l.filterMap fun i => ops[i]?

/-- Operations that read no memory, one after another. -/
def wpPure (P : Program) (ops : Array Oper) (K : Act → Prop) : List Oper → Act → Prop
  | [], a => K a
  | o :: l, a => ∃ v, Yields P ops o v a ∧ wpPure P ops K l (a.put o.dst v)

theorem wpPure_nil {K : Act → Prop} {a : Act} (h : K a) : wpPure P ops K [] a := h
theorem wpPure_cons {K : Act → Prop} {o : Oper} {l : List Oper} {a : Act} {v : Value} (hw : Region.wanted o (yielded ops a.tmps) = true) (hr : ∀ w, (execOp a.eval o).run P w = .ok (.value v) w) (h : wpPure P ops K l (a.put o.dst v)) : wpPure P ops K (o :: l) a :=
  ⟨v, .inl ⟨hw, hr⟩, h⟩
theorem wpPure_skip {K : Act → Prop} {o : Oper} {l : List Oper} {a : Act} (hw : Region.wanted o (yielded ops a.tmps) = false) (h : wpPure P ops K l (a.put o.dst undef)) : wpPure P ops K (o :: l) a :=
  ⟨undef, .inr ⟨hw, rfl⟩, h⟩

/-- A panic does not look at what these operations leave. -/
def panicsBy (Q : Exit → Act → World → Prop) : List Oper → Prop
  | [] => True
  | o :: l => (∀ c v a w, Q (.panic c) (Act.put a o.dst v) w → Q (.panic c) a w) ∧ panicsBy Q l

theorem panicsBy_nil {Q : Exit → Act → World → Prop} : panicsBy Q [] := trivial
theorem panicsBy_cons {Q : Exit → Act → World → Prop} {o : Oper} {l : List Oper} (h : ∀ c v a w, Q (.panic c) (Act.put a o.dst v) w → Q (.panic c) a w) (k : panicsBy Q l) : panicsBy Q (o :: l) := ⟨h, k⟩

theorem wpAny_of_seqIdx {Q : Exit → Act → World → Prop} : ∀ (qs : List Nat) (ls : Array Bool) (a : Act) (w : World), (∀ q ∈ qs, q < ops.size) → seqIdxB md ops qs ls = true → wpList P ops Q (opsAt ops qs) a w → wpAny P md ops Q qs.length ls a w
  | [], _, _, _, _, hB, h => ⟨by simpa [seqIdxB] using hB, h⟩
  | k :: qs, ls, a, w, hq, hB, h => by
    obtain ⟨o, ho⟩ : ∃ o, ops[k]? = some o := ⟨_, Array.getElem?_eq_getElem (hq k (List.mem_cons_self))⟩
    have e : opsAt ops (k :: qs) = o :: opsAt ops qs := by simp [opsAt, ho]
    rw [e] at h
    simp only [seqIdxB, Bool.and_eq_true, decide_eq_true_eq] at hB
    refine ⟨fun h1 => (by rw [hB.1] at h1; cases h1), fun i hi => ?_⟩
    rw [hB.1] at hi
    have hik : i = k := by simpa using hi
    subst hik
    have hw : wpOp P ops Q i (wpList P ops Q (opsAt ops qs)) a w := by unfold wpOp; simp only [ho]; exact h
    exact wpOp_mono (fun a' w' h' => wpAny_of_seqIdx qs _ a' w' (fun q h => hq q (List.mem_cons_of_mem _ h)) hB.2 h') hw

theorem wpAny_of_pure {Q : Exit → Act → World → Prop} (hsel : Region.noSelect ops = true) {qs : List Nat} (hq : ∀ q ∈ qs, q < ops.size) {w : World} :
    ∀ (ps : List Nat) (ls : Array Bool) (a : Act), panicsBy Q (opsAt ops ps) → (∀ p ∈ ps, p < ops.size) → pureIdxB md ops qs ps ls = true → wpPure P ops (fun a' => wpList P ops Q (opsAt ops qs) a' w) (opsAt ops ps) a → wpAny P md ops Q (ps.length + qs.length) ls a w
  | [], ls, a, _, _, hB, h => by
    simp only [List.length_nil, Nat.zero_add]
    exact wpAny_of_seqIdx qs ls a w hq hB h
  | i :: ps, ls, a, hQ, hp, hB, h => by
    obtain ⟨o, ho⟩ : ∃ o, ops[i]? = some o := ⟨_, Array.getElem?_eq_getElem (hp i (List.mem_cons_self))⟩
    have e : opsAt ops (i :: ps) = o :: opsAt ops ps := by simp [opsAt, ho]
    rw [e] at h hQ
    obtain ⟨v, hy, hk⟩ := h
    simp only [pureIdxB, Bool.and_eq_true] at hB
    rw [List.length_cons, Nat.add_right_comm]
    exact wpAny_take ho hsel hB.1.2 hB.1.1 (fun c a w => hQ.1 c v a w) hy (wpAny_of_pure hsel hq ps _ _ hQ.2 (fun p h => hp p (List.mem_cons_of_mem _ h)) hB.2 hk)

/-- The closed conditions of the rule. -/
def pureB (md : Region.Mode) (ops : Array Oper) (ps qs : List Nat) : Bool :=
  Region.noSelect ops && decide (ps.length + qs.length = ops.size) && ps.all (fun i => decide (i < ops.size)) && qs.all (fun i => decide (i < ops.size)) && pureIdxB md ops qs ps (Array.replicate ops.size false)

/-- THE RULE. -/
theorem wp_region_pure {id : Nat} {Q : Exit → Act → World → Prop} {a : Act} {w : World} {l : List Oper} (ps qs : List Nat) (hm : P.follows .mixedOrders = true) (hB : pureB .any l.toArray ps qs = true)
    (hQ : panicsBy Q (opsAt l.toArray ps))
    (h : wpPure P l.toArray (fun a' => wpList P l.toArray Q (opsAt l.toArray qs) a' w.drew) (opsAt l.toArray ps) a) : (Code.region id l.toArray true).wp P Q a w := by
  simp only [pureB, Bool.and_eq_true, decide_eq_true_eq, List.all_eq_true] at hB
  obtain ⟨⟨⟨⟨hsel, hn⟩, hp⟩, hq⟩, hi⟩ := hB
  refine wp_region_any hm ?_
  have R := wpAny_of_pure (md := .any) hsel hq ps _ a hQ hp hi h
  rwa [hn] at R
end

end Go.Proofs.Ytbnjbnjhpccomaa
