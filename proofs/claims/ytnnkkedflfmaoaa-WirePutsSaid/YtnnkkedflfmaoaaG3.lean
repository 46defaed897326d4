/-
  Texts of this proof, one behind the other: Quiet.
-/
import Derived.Deep.Quiet
import Derived.BigQuiet
import Derived.StillTail
import Derived.WalkKit
/-
  A region whose order is open: its first operations are quiet in a class of worlds, what stands behind them comes last, one after another. One walk in the order of the text serves every order. Nothing of the program is read here.
-/
namespace Go.Proofs.Ytnnkkedflfmaoaa
open Go Go.RowKit

section
variable {P : Program} {ops : Array Oper} {md : Region.Mode} {C : World → Prop}

/-- For 'f' more picks only operations below 'n' come up, each quiet in the class; then 'L'. -/
def headQ (P : Program) (md : Region.Mode) (ops : Array Oper) (C : World → Prop) (n : Nat) (L : Array Bool → Act → Prop) : Nat → Array Bool → Act → Prop
  | 0, ls, a => L ls a
  | f + 1, ls, a => Region.ready md ops ls ≠ [] ∧ ∀ i ∈ Region.ready md ops ls, i < n ∧ qOp P ops C i (headQ P md ops C n L f (ls.setIfInBounds i true)) a

theorem headQ.any {n g : Nat} {L : Array Bool → Act → Prop} {Q : Exit → Act → World → Prop} (hL : ∀ ls a w, C w → L ls a → wpAny P md ops Q g ls a w) (f : Nat) :
    ∀ (ls : Array Bool) (a : Act) (w : World), C w → headQ P md ops C n L f ls a → wpAny P md ops Q (f + g) ls a w := by
  induction f with
  | zero => intro ls a w hw h; rw [Nat.zero_add]; exact hL _ _ _ hw h
  | succ f ih =>
    intro ls a w hw ⟨hne, h⟩
    rw [Nat.add_right_comm]
    exact ⟨fun h0 => (hne h0).elim, fun i hi => wpOp_of_qOp hw (fun a' w' hw' hq => ih _ a' w' hw' hq) (h i hi).2⟩

/-- While an operation of the head, from number k0 on, is still to come, none of the tail can come up. -/
def TailWaits (md : Region.Mode) (ops : Array Oper) (n k0 : Nat) : Prop :=
  ∀ ls, HeadInv md ops n ls → ∀ i, k0 ≤ i → i < n → ls.getD i true = false → ∀ t, n ≤ t → t ∉ Region.ready md ops ls

/-- Every operation of the head from number k0 on is waited for by a later one, at most the tail's first. -/
def sinkFrom (md : Region.Mode) (ops : Array Oper) (k0 n : Nat) : Bool :=
  (List.range n).all fun i => decide (i < k0) || (List.range (n + 1)).any fun j => decide (i < j) && Region.waitsFor md ops j i

theorem tailWaits_of {n k0 : Nat} (hs : sinkFrom md ops k0 n = true) (hc : Region.chainB md ops n = true) : TailWaits md ops n k0 := by
  intro ls inv i hk hi hun t ht hr
  obtain ⟨_, ot, hot, hall⟩ := mem_ready.1 hr
  have hts : t < ops.size := (Array.getElem?_eq_some_iff.1 hot).1
  rcases Nat.lt_or_ge n t with hlt | hge
  · have h1 := List.all_eq_true.1 hc t (List.mem_range.2 hts)
    rw [decide_eq_false (by omega), Bool.false_or] at h1
    obtain ⟨o', ho', e, he, hb, hon⟩ := Region.waitsFor_spec h1
    obtain rfl : o' = ot := Option.some.inj (ho'.symm.trans hot)
    have h2 := hall e he hb
    rw [hon, getD_both (inv.tail (t - 1) (by omega) (by omega))] at h2
    exact Bool.noConfusion h2
  · obtain rfl : t = n := by omega
    -- the greatest pending one of the head
    have key : ∀ d i, t - i ≤ d → k0 ≤ i → i < t → ls.getD i true = false → False := by
      intro d
      induction d with
      | zero => intro i h1 _ h3; omega
      | succ d ih =>
        intro i h1 h2 h3 hun
        have h4 := List.all_eq_true.1 hs i (List.mem_range.2 h3)
        rw [decide_eq_false (by omega), Bool.false_or] at h4
        obtain ⟨j, hj, hj2⟩ := List.any_eq_true.1 h4
        rw [Bool.and_eq_true, decide_eq_true_eq] at hj2
        have hjt := List.mem_range.1 hj
        obtain ⟨oj, hoj, e, he, hb, hon⟩ := Region.waitsFor_spec hj2.2
        rcases Nat.lt_or_ge j t with hjl | hjg
        · cases hl : ls.getD j false with
          | true =>
            have h5 := inv.closed j oj hoj hl e he hb
            rw [hon, getD_both hun] at h5
            exact Bool.noConfusion h5
          | false => exact ih j (by omega) (by omega) hjl (getD_in (by rw [inv.size]; omega) hl)
        · obtain rfl : j = t := by omega
          obtain rfl : oj = ot := Option.some.inj (hoj.symm.trans hot)
          have h5 := hall e he hb
          rw [hon, getD_both hun] at h5
          exact Bool.noConfusion h5
    exact key (t - i) i (Nat.le_refl _) hk hi hun

/-- No operation of the tail can come up while one of the head is still to come. -/
theorem below_tail {n i j k0 : Nat} {ls : Array Bool} (ht : TailWaits md ops n k0) (inv : HeadInv md ops n ls) (hk : k0 ≤ i)
    (hi : i < n) (hr : i ∈ Region.ready md ops ls) (hj : j ∈ Region.ready md ops ls) : j < n :=
  Nat.lt_of_not_le fun hle => ht ls inv i hk hi (mem_ready.1 hr).1 j hle hj

theorem headQ.first {n i : Nat} {oi : Oper} {v : Value} {L : Array Bool → Act → Prop} (hi : ops[i]? = some oi) (hsel : ∀ (j : Nat) (o : Oper) cs b, ops[j]? = some o → o.op ≠ .select cs b)
    {k0 : Nat} (ht : TailWaits md ops n k0) (hk0 : k0 ≤ i) (hin : i < n) (hend : ∀ ls a, L ls a → ∀ j ∈ Region.ready md ops ls, n ≤ j) (f : Nat) :
    ∀ (ls : Array Bool) (a : Act), HeadInv md ops n ls →
      (∀ j oj, ops[j]? = some oj → j ≠ i → ls.getD j true = false → (∀ e ∈ oj.after, Region.binds md e = true → e.on ≠ i) → oi.apart ops oj = true) →
      i ∈ Region.ready md ops ls → YieldsIn P ops C oi v a →
      headQ P md ops C n L f (ls.setIfInBounds i true) (a.put oi.dst v) → headQ P md ops C n L (f + 1) ls a := by
  induction f with
  | zero =>
    intro ls a inv _ hr hy H
    refine ⟨List.ne_nil_of_mem hr, fun j hj => ⟨below_tail ht inv hk0 hin hr hj, ?_⟩⟩
    rcases Classical.em (j = i) with rfl | hne
    · exact hy.qOp hi H
    · have h1 := hend _ _ H j (ready_mono hj hne)
      have h2 := below_tail ht inv hk0 hin hr hj
      omega
  | succ f ih =>
    intro ls a inv hfree hr hy H
    refine ⟨List.ne_nil_of_mem hr, fun j hj => ⟨below_tail ht inv hk0 hin hr hj, ?_⟩⟩
    rcases Classical.em (j = i) with rfl | hne
    · exact hy.qOp hi H
    have hjn := below_tail ht inv hk0 hin hr hj
    obtain ⟨hjl, oj, hoj, hw⟩ := mem_ready.1 hj
    have hno : ∀ e ∈ oj.after, Region.binds md e = true → e.on ≠ i := by
      intro e he hb heq
      have h1 := hw e he hb
      rw [heq, getD_both (mem_ready.1 hr).1] at h1
      exact Bool.noConfusion h1
    have hq := qOp_put hoj (hfree j oj hoj hne hjl hno) (fun cs b => hsel i oi cs b hi) (fun cs b => hsel j oj cs b hoj) hy ((H.2 j (ready_mono hj hne)).2)
    refine qOp_mono (fun a' h3 => ih _ a' (inv.set hj hjn) ?_ (ready_mono hr (Ne.symm hne)) h3.1 (by rw [Array.setIfInBounds_comm _ _ hne]; exact h3.2)) hq
    intro k ok hk hki hkl hkn
    refine hfree k ok hk hki ?_ hkn
    rcases Classical.em (j = k) with rfl | hjk
    · exact hjl
    · rwa [getD_set_ne true hjk] at hkl

theorem headQ.lex {n g k0 : Nat} {G : Act → Prop} (hsel : Region.noSelect ops = true) (ht : TailWaits md ops n k0) (l : List Oper) :
    ∀ (k : Nat) (ls : Array Bool) (a : Act), k0 ≤ k → (∀ j, j < l.length → l[j]? = ops[k + j]?) → k + l.length = n → HeadInv md ops n ls →
      Region.lexHead md ops g l.length k ls = true → wpQuiet P ops C G l a →
      headQ P md ops C n (fun ls' a' => Region.seqB md ops g n ls' = true ∧ G a') l.length ls a := by
  induction l with
  | nil =>
    intro k ls a _ _ hk _ hB h
    obtain rfl : k = n := hk
    exact ⟨hB, h⟩
  | cons o l ih =>
    intro k ls a hk0 hl hk inv hB h
    have h0 : ops[k]? = some o := (hl 0 (Nat.succ_pos _)).symm
    simp only [List.length_cons, Region.lexHead, Bool.and_eq_true] at hB hk
    have hkn : k < n := by omega
    have hr : k ∈ Region.ready md ops ls := by simpa using hB.1.1
    obtain ⟨v, hy, hK⟩ := yieldsIn_of_qOp (K := wpQuiet P ops C G l) h0 (by unfold qOp; rw [h0]; exact h)
    refine headQ.first h0 (Region.noSelect_spec hsel) ht hk0 hkn (fun _ _ hL => seqB_ready hL.1) l.length ls a inv (Region.free_spec h0 hB.1.2) hr hy ?_
    refine ih (k + 1) _ _ (by omega) (fun j hj => ?_) (by omega) (inv.set hr hkn) hB.2 hK
    have := hl (j + 1) (Nat.succ_lt_succ hj)
    rw [Nat.add_right_comm, Nat.add_assoc]
    simpa using this

/-- THE RULE: 'n' operations that are quiet in the class come in whatever order; those behind them, which wait for them, come one after another, from any world of the class. -/
theorem wp_region_quiet_tail {id : Nat} {Q : Exit → Act → World → Prop} {a : Act} {w : World} {l : List Oper} (n : Nat) (hm : P.follows .mixedOrders = true) (hB : Region.lexTailB .any l.toArray n = true)
    (hC : C { w with drawn := w.drawn + 1 })
    (h : wpQuiet P l.toArray C (fun a' => ∀ w', C w' → wpList P l.toArray Q (l.drop n) a' w') (l.take n) a) : (Code.region id l.toArray true).wp P Q a w := by
  simp only [Region.lexTailB, Bool.and_eq_true, decide_eq_true_eq] at hB
  obtain ⟨⟨⟨⟨hsel, hn⟩, hs⟩, hc⟩, hlex⟩ := hB
  have hn' : n < l.length := by simpa using hn
  have ht : (l.take n).length = n := by rw [List.length_take]; omega
  have inv0 : HeadInv .any l.toArray n (Array.replicate l.toArray.size false) :=
    ⟨by simp, fun j oj _ hl => by rw [getD_replicate_false] at hl; exact Bool.noConfusion hl, fun t _ h2 => getD_in (by simpa using h2) (getD_replicate_false _ _)⟩
  have H := headQ.lex (md := .any) (g := l.toArray.size - n) (k0 := 0) hsel (fun ls inv i _ hi hun => tail_waits hs hc hn inv _ i rfl hi hun) (l.take n) 0 _ a (Nat.zero_le _) (fun j hj => by rw [ht] at hj; simp [hj]) (by omega) inv0 (by rw [ht]; exact hlex) h
  refine wp_region_any hm ?_
  have R := headQ.any (Q := Q) (g := l.toArray.size - n) (fun ls a' w' hw hL => by
    have := wpAny_of_seq (md := .any) (Q' := Q) (l.drop n) n ls a' w' (fun j => by simp [List.getElem?_drop]) (by simpa using hL.1) (hL.2 w' hw)
    simpa using this) _ _ _ _ hC H
  rwa [ht, Nat.add_sub_cancel' (Nat.le_of_lt hn)] at R

/-- The closed conditions of the next rule. -/
def moveTailB (md : Region.Mode) (ops : Array Oper) (n : Nat) : Bool :=
  Region.noSelect ops && decide (n < ops.size) && decide (1 ≤ n) && sinkFrom md ops 1 n && Region.chainB md ops n &&
    (Region.ready md ops (Array.replicate ops.size false)).contains 0 && Region.free md ops (Array.replicate ops.size false) 0 &&
    Region.lexHead md ops (ops.size - n) (n - 1) 1 ((Array.replicate ops.size false).setIfInBounds 0 true)

/-- THE RULE where the first operation is a move that only the tail waits for ('x = append(x, ..)'): it is taken first. -/
theorem wp_region_move_tail {id : Nat} {Q : Exit → Act → World → Prop} {a : Act} {w : World} {o0 : Oper} {l : List Oper} (n : Nat) (x : Operand) (hx : o0.op = .move x) (hgd : o0.guard = none)
    (hm : P.follows .mixedOrders = true) (hB : moveTailB .any (o0 :: l).toArray (n + 1) = true) (hQ : ∀ c v a w, Q (.panic c) (a.put o0.dst v) w → Q (.panic c) a w)
    (hC : C { w with drawn := w.drawn + 1 })
    (h : wpQuiet P (o0 :: l).toArray C (fun a' => ∀ w', C w' → wpList P (o0 :: l).toArray Q (l.drop n) a' w') (l.take n) (a.put o0.dst (a.eval x))) : (Code.region id (o0 :: l).toArray true).wp P Q a w := by
  simp only [moveTailB, Bool.and_eq_true, decide_eq_true_eq] at hB
  obtain ⟨⟨⟨⟨⟨⟨⟨hsel, hn⟩, _⟩, hs⟩, hc⟩, hr⟩, hf⟩, hlex⟩ := hB
  have hn' : n < l.length := by simpa using hn
  have ht : (l.take n).length = n := by rw [List.length_take]; omega
  have inv0 : HeadInv .any (o0 :: l).toArray (n + 1) (Array.replicate (o0 :: l).toArray.size false) :=
    ⟨by simp, fun j oj _ hl => by rw [getD_replicate_false] at hl; exact Bool.noConfusion hl, fun t _ h2 => getD_in (by simpa using h2) (getD_replicate_false _ _)⟩
  have hr' : 0 ∈ Region.ready .any (o0 :: l).toArray (Array.replicate (o0 :: l).toArray.size false) := by simpa using hr
  have inv1 := inv0.set hr' (Nat.succ_pos _)
  have H := headQ.lex (md := .any) (g := (o0 :: l).toArray.size - (n + 1)) (k0 := 1) hsel (tailWaits_of hs hc) (l.take n) 1 _ (a.put o0.dst (a.eval x)) (Nat.le_refl _)
    (fun j hj => by rw [ht] at hj; simp [hj, Nat.add_comm 1 j]) (by omega) inv1 (by rw [ht]; simpa using hlex) h
  refine wp_region_any hm ?_
  have R := headQ.any (Q := Q) (g := (o0 :: l).toArray.size - (n + 1)) (fun ls a' w' hw hL => by
    have := wpAny_of_seq (md := .any) (Q' := Q) (l.drop n) (n + 1) ls a' w' (fun j => by simp [List.getElem?_drop, Nat.add_right_comm]) (by simpa using hL.1) (hL.2 w' hw)
    simpa using this) _ _ _ _ hC H
  rw [ht, show n + ((o0 :: l).toArray.size - (n + 1)) = l.length by simp; omega] at R
  have hy : Yields P (o0 :: l).toArray o0 (a.eval x) a := .inl ⟨by simp [Region.wanted, hgd], fun w => BigFrame.run_move x hx w⟩
  have F := wpAny_take (md := .any) (i := 0) (oi := o0) (fuel := l.length) rfl hsel hf hr (fun c a w => hQ c _ a w) hy R
  simpa using F

/-- A region all of whose operations are quiet in the class. -/
theorem wp_region_quiet_all {id : Nat} {Q : Exit → Act → World → Prop} {a : Act} {w : World} {l : List Oper} (hm : P.follows .mixedOrders = true) (hB : Region.lexB .any l.toArray = true)
    (hC : C { w with drawn := w.drawn + 1 }) (h : wpQuiet P l.toArray C (fun a' => ∀ w', C w' → Q .normal a' w') l a) : (Code.region id l.toArray true).wp P Q a w :=
  wp_region_quiet hm hB hC (by simpa using h)

/-- The same, where the head's operations and callees only read. -/
theorem wp_region_draws_tail {id : Nat} {Q : Exit → Act → World → Prop} {a : Act} {w : World} {l : List Oper} (n : Nat) (hm : P.follows .mixedOrders = true) (hB : Region.lexTailB .any l.toArray n = true)
    (h : wpQuiet P l.toArray (fun w' => ∃ k, w' = w.drewN k) (fun a' => ∀ w', (∃ k, w' = w.drewN k) → wpList P l.toArray Q (l.drop n) a' w') (l.take n) a) : (Code.region id l.toArray true).wp P Q a w :=
  wp_region_quiet_tail n hm hB ⟨1, rfl⟩ h
end

theorem setCell_drewN (w : World) (n : Nat) (a : Addr) (v : Value) : (w.drewN n).setCell a v = (w.setCell a v).drewN n := rfl
theorem alloc_drewN (w : World) (n : Nat) (o : Obj) : (w.drewN n).alloc o = (w.alloc o).drewN n := rfl
theorem below_drewN {B n : Nat} {a w : World} (h : Below B a w) : Below B a (w.drewN n) := ⟨h.os, h.tape, h.output, h.size, h.block⟩

/-- The worlds in which what stood in W stands as it did. -/
def Sub (W : World) : Type := { x : World // Below W.heap.size W x }
instance (W : World) : Nonempty (Sub W) := ⟨⟨W, Below.refl _ _⟩⟩
/-- The class of these worlds. -/
def InSub (W : World) (w' : World) : Prop := ∃ u : Sub W, w' = u.1
theorem InSub.drew (W : World) : InSub W { W with drawn := W.drawn + 1 } := ⟨⟨W.drew, (Below.refl _ _).drew⟩, rfl⟩
theorem InSub.of {W w : World} (h : Below W.heap.size W w) : InSub W w := ⟨⟨w, h⟩, rfl⟩

theorem subSame {P : Program} {f : FuncId} {args : Array Value} {W : World} {u : Sub W} {v : Value} (h : Calls P f args u.1 fun e w' => e = .returned v ∧ u.1 = w') :
    Calls P f args u.1 fun e w'' => e = .returned v ∧ ∃ x : Sub W, w'' = x.1 := h.mono fun _ _ ⟨he, hw⟩ => ⟨he, u, hw.symm⟩

theorem subBelow {P : Program} {f : FuncId} {args : Array Value} {W : World} {u : Sub W} {v : Value} (h : Calls P f args u.1 fun e w' => e = .returned v ∧ Below u.1.heap.size u.1 w') :
    Calls P f args u.1 fun e w'' => e = .returned v ∧ ∃ x : Sub W, w'' = x.1 := h.mono fun _ w' ⟨he, hw⟩ => ⟨he, ⟨w', u.2.trans (hw.mono u.2.size)⟩, rfl⟩

end Go.Proofs.Ytnnkkedflfmaoaa
