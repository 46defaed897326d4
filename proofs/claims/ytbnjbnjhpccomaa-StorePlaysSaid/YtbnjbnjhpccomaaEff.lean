/-
  A region whose order is open: its first operations are quiet in a class of worlds; then one comes that waits for all of them, whatever it does; those behind it read no memory, in whatever order they stand. Nothing of the program is read here.
-/
import Derived.Test.YtbnjbnjhpccomaaPure
import Derived.Lib.Hide
namespace Go.Proofs.Ytbnjbnjhpccomaa
open Go Go.RowKit

section
variable {P : Program} {ops : Array Oper} {md : Region.Mode} {C : World → Prop}

/-- Each operation of the tail, but the first, waits for one of the tail. -/
def chainW (md : Region.Mode) (ops : Array Oper) (n : Nat) : Bool :=
  (List.range ops.size).all fun t => decide (t ≤ n) || (List.range t).any fun e => decide (n ≤ e) && Region.waitsFor md ops t e

theorem tailWaitsW {n k0 : Nat} (hs : sinkFrom md ops k0 n = true) (hc : chainW md ops n = true) : TailWaits md ops n k0 := by
  intro ls inv i hk hi hun t ht hr
  obtain ⟨_, ot, hot, hall⟩ := mem_ready.1 hr
  have hts : t < ops.size := (Array.getElem?_eq_some_iff.1 hot).1
  rcases Nat.lt_or_ge n t with hlt | hge
  · have h1 := List.all_eq_true.1 hc t (List.mem_range.2 hts)
    rw [decide_eq_false (by omega), Bool.false_or] at h1
    obtain ⟨e0, he0, h2⟩ := List.any_eq_true.1 h1
    rw [Bool.and_eq_true, decide_eq_true_eq] at h2
    have he1 := List.mem_range.1 he0
    obtain ⟨o', ho', e, he, hb, hon⟩ := Region.waitsFor_spec h2.2
    obtain rfl : o' = ot := Option.some.inj (ho'.symm.trans hot)
    have h3 := hall e he hb
    rw [hon, getD_both (inv.tail e0 (by omega) (by omega))] at h3
    exact Bool.noConfusion h3
  · obtain rfl : t = n := by omega
    have key : ∀ d i, t - i ≤ d → k0 ≤ i → i < t → ls.getD i true = false → False := by
      intro d
      induction d with
      | zero => intro i h1 _ h3; omega
      | succ d ih =>
        intro i h1 h2 h3 hun
        have h4 := List.all_eq_true.1 hs i (List.mem_range.2 h3)
        rw [decide_eq_false (by omega), Bool.false_or] at h4
        obtain ⟨j, hj, hj2⟩ := List.any_eq_true.1 h4
        rw [Bool.and_eq_true, decide_eq_true_eq] at hj2
        have hjt := List.mem_range.1 hj
        obtain ⟨oj, hoj, e, he, hb, hon⟩ := Region.waitsFor_spec hj2.2
        rcases Nat.lt_or_ge j t with hjl | hjg
        · cases hl : ls.getD j false with
          | true =>
            have h5 := inv.closed j oj hoj hl e he hb
            rw [hon, getD_both hun] at h5
            exact Bool.noConfusion h5
          | false => exact ih j (by omega) (by omega) hjl (getD_in (by rw [inv.size]; omega) hl)
        · obtain rfl : j = t := by omega
          obtain rfl : oj = ot := Option.some.inj (hoj.symm.trans hot)
          have h5 := hall e he hb
          rw [hon, getD_both hun] at h5
          exact Bool.noConfusion h5
    exact key (t - i) i (Nat.le_refl _) hk hi hun

/-- Behind the head: the one, then the others. -/
def tailE (md : Region.Mode) (ops : Array Oper) (n : Nat) (ls : Array Bool) : Bool :=
  decide (Region.ready md ops ls = [n]) && pureIdxB md ops [] (List.range' (n + 1) (ops.size - (n + 1))) (ls.setIfInBounds n true)
def lexHeadE (md : Region.Mode) (ops : Array Oper) (n : Nat) : Nat → Nat → Array Bool → Bool
  | 0, _, ls => tailE md ops n ls
  | f + 1, k, ls => (Region.ready md ops ls).contains k && Region.free md ops ls k && lexHeadE md ops n f (k + 1) (ls.setIfInBounds k true)

theorem headQ.lexE {n k0 : Nat} {G : Act → Prop} (hsel : Region.noSelect ops = true) (ht : TailWaits md ops n k0) (l : List Oper) :
    ∀ (k : Nat) (ls : Array Bool) (a : Act), k0 ≤ k → (∀ j, j < l.length → l[j]? = ops[k + j]?) → k + l.length = n → HeadInv md ops n ls →
      lexHeadE md ops n l.length k ls = true → wpQuiet P ops C G l a →
      headQ P md ops C n (fun ls' a' => tailE md ops n ls' = true ∧ G a') l.length ls a := by
  induction l with
  | nil =>
    intro k ls a _ _ hk _ hB h
    exact ⟨hB, h⟩
  | cons o l ih =>
    intro k ls a hk0 hl hk inv hB h
    have h0 : ops[k]? = some o := (hl 0 (Nat.succ_pos _)).symm
    simp only [List.length_cons, lexHeadE, Bool.and_eq_true] at hB hk
    have hkn : k < n := by omega
    have hr : k ∈ Region.ready md ops ls := by simpa using hB.1.1
    obtain ⟨v, hy, hK⟩ := yieldsIn_of_qOp (K := wpQuiet P ops C G l) h0 (by unfold qOp; rw [h0]; exact h)
    refine headQ.first h0 (Region.noSelect_spec hsel) ht hk0 hkn (fun ls' _ hL j hj => ?_) l.length ls a inv (Region.free_spec h0 hB.1.2) hr hy ?_
    · have h1 := hL.1
      simp only [tailE, Bool.and_eq_true, decide_eq_true_eq] at h1
      rw [h1.1] at hj
      have : j = n := by simpa using hj
      omega
    refine ih (k + 1) _ _ (by omega) (fun j hj => ?_) (by omega) (inv.set hr hkn) hB.2 hK
    have := hl (j + 1) (Nat.succ_lt_succ hj)
    rw [Nat.add_right_comm, Nat.add_assoc]
    simpa using this

/-- The closed conditions of the rule. -/
def effB (md : Region.Mode) (ops : Array Oper) (n : Nat) : Bool :=
  Region.noSelect ops && decide (n < ops.size) && sinkFrom md ops 0 n && chainW md ops n && lexHeadE md ops n n 0 (Array.replicate ops.size false)

theorem opsAt_range (l : List Oper) : ∀ (m n : Nat), n + m = l.length → opsAt l.toArray (List.range' n m) = l.drop n := by
  intro m
  induction m with
  | zero => intro n h; simp [opsAt, List.drop_of_length_le (show l.length ≤ n by omega)]
  | succ m ih =>
    intro n h
    have h1 := ih (n + 1) (by omega)
    rw [List.range'_succ, List.drop_eq_getElem_cons (by omega : n < l.length)]
    unfold opsAt at *
    rw [List.filterMap_cons, h1]
    simp [show n < l.length by omega]

/-- THE RULE. -/
theorem wp_region_quiet_effect {id : Nat} {Q : Exit → Act → World → Prop} {a : Act} {w : World} {l : List Oper} (n : Nat) (on : Oper) (hon : l[n]? = some on) (hm : P.follows .mixedOrders = true) (hB : effB .any l.toArray n = true)
    (hC : C { w with drawn := w.drawn + 1 }) (hQ : panicsBy Q (l.drop (n + 1)))
    (h : wpQuiet P l.toArray C (fun a' => ∀ w', C w' → ∀ K : Act → World → Prop, Hid (∀ a w, wpPure P l.toArray (fun a'' => Q .normal a'' w) (l.drop (n + 1)) a → K a w) →
      if Region.wanted on (yielded l.toArray a'.tmps) = true then Oper.wp P on a' w' K Q else K (a'.put on.dst undef) w') (l.take n) a) : (Code.region id l.toArray true).wp P Q a w := by
  simp only [effB, Bool.and_eq_true, decide_eq_true_eq] at hB
  obtain ⟨⟨⟨⟨hsel, hn⟩, hs⟩, hc⟩, hlex⟩ := hB
  have hn' : n < l.length := by simpa using hn
  have ht : (l.take n).length = n := by rw [List.length_take]; omega
  have inv0 : HeadInv .any l.toArray n (Array.replicate l.toArray.size false) :=
    ⟨by simp, fun j oj _ hl => by rw [getD_replicate_false] at hl; exact Bool.noConfusion hl, fun t _ h2 => getD_in (by simpa using h2) (getD_replicate_false _ _)⟩
  have H := headQ.lexE (md := .any) (k0 := 0) hsel (tailWaitsW hs hc) (l.take n) 0 _ a (Nat.zero_le _) (fun j hj => by rw [ht] at hj; simp [hj]) (by omega) inv0 (by rw [ht]; exact hlex) h
  refine wp_region_any hm ?_
  have hop : opsAt l.toArray (List.range' (n + 1) (l.toArray.size - (n + 1))) = l.drop (n + 1) := opsAt_range l _ _ (by simp; omega)
  have R := headQ.any (Q := Q) (g := l.toArray.size - n) (fun ls a' w' hw hL => by
    obtain ⟨hT, hG⟩ := hL
    simp only [tailE, Bool.and_eq_true, decide_eq_true_eq] at hT
    have hG' := hG w' hw
    rw [show l.toArray.size - n = (l.toArray.size - (n + 1)) + 1 by omega]
    refine ⟨fun h1 => (by rw [hT.1] at h1; cases h1), fun i hi => ?_⟩
    rw [hT.1] at hi
    have hin : i = n := by simpa using hi
    subst hin
    refine wpOp_step (by simpa using hon) fun K hK => hG' K (Lib.hid fun a2 w2 h2 => hK a2 w2 ?_)
    have := wpAny_of_pure (md := .any) (Q := Q) (w := w2) hsel (qs := []) (fun _ h => by cases h) (List.range' (i + 1) (l.toArray.size - (i + 1))) (ls.setIfInBounds i true) a2 (by rw [hop]; exact hQ) (fun p hp => by
      have := List.mem_range'_1.1 hp
      omega) hT.2 (by rw [hop]; exact h2)
    simpa using this) _ _ _ _ hC H
  rwa [ht, Nat.add_sub_cancel' (Nat.le_of_lt hn)] at R
end

end Go.Proofs.Ytbnjbnjhpccomaa
