/-
  Texts of this proof, one behind the other: Quiet, Mem, Arr, UniqM.
-/
import Derived.Deep.Quiet
import Derived.BigQuiet
import Derived.StillTail
import Derived.WalkKit
import Derived.Laws.OwnMore
import Derived.Maps.AppendAt
import Derived.Laws.AppendOwnNone
import Derived.Test.YtipocmbplcdmjaaGreatDoorProg
import Derived.Outline
import Derived.RegionTactic
import Derived.ChangeAlike
import Derived.Handy
import Derived.StillTailTactics
import Derived.Deep.RegionHeld3
import Derived.KernelRfl
import Derived.Lib.Hide
/-
  A region whose order is open: its first operations are quiet in a class of worlds, what stands behind them comes last, one after another. One walk in the order of the text serves every order. Nothing of the program is read here.
-/
namespace Go.Proofs.YtipocmbplcdmjaaGreatDoor
open Go Go.RowKit

section
variable {P : Program} {ops : Array Oper} {md : Region.Mode} {C : World → Prop}

/-- For 'f' more picks only operations below 'n' come up, each quiet in the class; then 'L'. -/
def headQ (P : Program) (md : Region.Mode) (ops : Array Oper) (C : World → Prop) (n : Nat) (L : Array Bool → Act → Prop) : Nat → Array Bool → Act → Prop
  | 0, ls, a => L ls a
  | f + 1, ls, a => Region.ready md ops ls ≠ [] ∧ ∀ i ∈ Region.ready md ops ls, i < n ∧ qOp P ops C i (headQ P md ops C n L f (ls.setIfInBounds i true)) a

theorem headQ.any {n g : Nat} {L : Array Bool → Act → Prop} {Q : Exit → Act → World → Prop} (hL : ∀ ls a w, C w → L ls a → wpAny P md ops Q g ls a w) (f : Nat) :
    ∀ (ls : Array Bool) (a : Act) (w : World), C w → headQ P md ops C n L f ls a → wpAny P md ops Q (f + g) ls a w := by
  induction f with
  | zero => intro ls a w hw h; rw [Nat.zero_add]; exact hL _ _ _ hw h
  | succ f ih =>
    intro ls a w hw ⟨hne, h⟩
    rw [Nat.add_right_comm]
    exact ⟨fun h0 => (hne h0).elim, fun i hi => wpOp_of_qOp hw (fun a' w' hw' hq => ih _ a' w' hw' hq) (h i hi).2⟩

/-- While an operation of the head, from number k0 on, is still to come, none of the tail can come up. -/
def TailWaits (md : Region.Mode) (ops : Array Oper) (n k0 : Nat) : Prop :=
  ∀ ls, HeadInv md ops n ls → ∀ i, k0 ≤ i → i < n → ls.getD i true = false → ∀ t, n ≤ t → t ∉ Region.ready md ops ls

/-- Every operation of the head from number k0 on is waited for by a later one, at most the tail's first. -/
def sinkFrom (md : Region.Mode) (ops : Array Oper) (k0 n : Nat) : Bool :=
  (List.range n).all fun i => decide (i < k0) || (List.range (n + 1)).any fun j => decide (i < j) && Region.waitsFor md ops j i

theorem tailWaits_of {n k0 : Nat} (hs : sinkFrom md ops k0 n = true) (hc : Region.chainB md ops n = true) : TailWaits md ops n k0 := by
  intro ls inv i hk hi hun t ht hr
  obtain ⟨_, ot, hot, hall⟩ := mem_ready.1 hr
  have hts : t < ops.size := (Array.getElem?_eq_some_iff.1 hot).1
  rcases Nat.lt_or_ge n t with hlt | hge
  · have h1 := List.all_eq_true.1 hc t (List.mem_range.2 hts)
    rw [decide_eq_false (by omega), Bool.false_or] at h1
    obtain ⟨o', ho', e, he, hb, hon⟩ := Region.waitsFor_spec h1
    obtain rfl : o' = ot := Option.some.inj (ho'.symm.trans hot)
    have h2 := hall e he hb
    rw [hon, getD_both (inv.tail (t - 1) (by omega) (by omega))] at h2
    exact Bool.noConfusion h2
  · obtain rfl : t = n := by omega
    -- the greatest pending one of the head
    have key : ∀ d i, t - i ≤ d → k0 ≤ i → i < t → ls.getD i true = false → False := by
      intro d
      induction d with
      | zero => intro i h1 _ h3; omega
      | succ d ih =>
        intro i h1 h2 h3 hun
        have h4 := List.all_eq_true.1 hs i (List.mem_range.2 h3)
        rw [decide_eq_false (by omega), Bool.false_or] at h4
        obtain ⟨j, hj, hj2⟩ := List.any_eq_true.1 h4
        rw [Bool.and_eq_true, decide_eq_true_eq] at hj2
        have hjt := List.mem_range.1 hj
        obtain ⟨oj, hoj, e, he, hb, hon⟩ := Region.waitsFor_spec hj2.2
        rcases Nat.lt_or_ge j t with hjl | hjg
        · cases hl : ls.getD j false with
          | true =>
            have h5 := inv.closed j oj hoj hl e he hb
            rw [hon, getD_both hun] at h5
            exact Bool.noConfusion h5
          | false => exact ih j (by omega) (by omega) hjl (getD_in (by rw [inv.size]; omega) hl)
        · obtain rfl : j = t := by omega
          obtain rfl : oj = ot := Option.some.inj (hoj.symm.trans hot)
          have h5 := hall e he hb
          rw [hon, getD_both hun] at h5
          exact Bool.noConfusion h5
    exact key (t - i) i (Nat.le_refl _) hk hi hun

/-- No operation of the tail can come up while one of the head is still to come. -/
theorem below_tail {n i j k0 : Nat} {ls : Array Bool} (ht : TailWaits md ops n k0) (inv : HeadInv md ops n ls) (hk : k0 ≤ i)
    (hi : i < n) (hr : i ∈ Region.ready md ops ls) (hj : j ∈ Region.ready md ops ls) : j < n :=
  Nat.lt_of_not_le fun hle => ht ls inv i hk hi (mem_ready.1 hr).1 j hle hj

theorem headQ.first {n i : Nat} {oi : Oper} {v : Value} {L : Array Bool → Act → Prop} (hi : ops[i]? = some oi) (hsel : ∀ (j : Nat) (o : Oper) cs b, ops[j]? = some o → o.op ≠ .select cs b)
    {k0 : Nat} (ht : TailWaits md ops n k0) (hk0 : k0 ≤ i) (hin : i < n) (hend : ∀ ls a, L ls a → ∀ j ∈ Region.ready md ops ls, n ≤ j) (f : Nat) :
    ∀ (ls : Array Bool) (a : Act), HeadInv md ops n ls →
      (∀ j oj, ops[j]? = some oj → j ≠ i → ls.getD j true = false → (∀ e ∈ oj.after, Region.binds md e = true → e.on ≠ i) → oi.apart ops oj = true) →
      i ∈ Region.ready md ops ls → YieldsIn P ops C oi v a →
      headQ P md ops C n L f (ls.setIfInBounds i true) (a.put oi.dst v) → headQ P md ops C n L (f + 1) ls a := by
  induction f with
  | zero =>
    intro ls a inv _ hr hy H
    refine ⟨List.ne_nil_of_mem hr, fun j hj => ⟨below_tail ht inv hk0 hin hr hj, ?_⟩⟩
    rcases Classical.em (j = i) with rfl | hne
    · exact hy.qOp hi H
    · have h1 := hend _ _ H j (ready_mono hj hne)
      have h2 := below_tail ht inv hk0 hin hr hj
      omega
  | succ f ih =>
    intro ls a inv hfree hr hy H
    refine ⟨List.ne_nil_of_mem hr, fun j hj => ⟨below_tail ht inv hk0 hin hr hj, ?_⟩⟩
    rcases Classical.em (j = i) with rfl | hne
    · exact hy.qOp hi H
    have hjn := below_tail ht inv hk0 hin hr hj
    obtain ⟨hjl, oj, hoj, hw⟩ := mem_ready.1 hj
    have hno : ∀ e ∈ oj.after, Region.binds md e = true → e.on ≠ i := by
      intro e he hb heq
      have h1 := hw e he hb
      rw [heq, getD_both (mem_ready.1 hr).1] at h1
      exact Bool.noConfusion h1
    have hq := qOp_put hoj (hfree j oj hoj hne hjl hno) (fun cs b => hsel i oi cs b hi) (fun cs b => hsel j oj cs b hoj) hy ((H.2 j (ready_mono hj hne)).2)
    refine qOp_mono (fun a' h3 => ih _ a' (inv.set hj hjn) ?_ (ready_mono hr (Ne.symm hne)) h3.1 (by rw [Array.setIfInBounds_comm _ _ hne]; exact h3.2)) hq
    intro k ok hk hki hkl hkn
    refine hfree k ok hk hki ?_ hkn
    rcases Classical.em (j = k) with rfl | hjk
    · exact hjl
    · rwa [getD_set_ne true hjk] at hkl

theorem headQ.lex {n g k0 : Nat} {G : Act → Prop} (hsel : Region.noSelect ops = true) (ht : TailWaits md ops n k0) (l : List Oper) :
    ∀ (k : Nat) (ls : Array Bool) (a : Act), k0 ≤ k → (∀ j, j < l.length → l[j]? = ops[k + j]?) → k + l.length = n → HeadInv md ops n ls →
      Region.lexHead md ops g l.length k ls = true → wpQuiet P ops C G l a →
      headQ P md ops C n (fun ls' a' => Region.seqB md ops g n ls' = true ∧ G a') l.length ls a := by
  induction l with
  | nil =>
    intro k ls a _ _ hk _ hB h
    obtain rfl : k = n := hk
    exact ⟨hB, h⟩
  | cons o l ih =>
    intro k ls a hk0 hl hk inv hB h
    have h0 : ops[k]? = some o := (hl 0 (Nat.succ_pos _)).symm
    simp only [List.length_cons, Region.lexHead, Bool.and_eq_true] at hB hk
    have hkn : k < n := by omega
    have hr : k ∈ Region.ready md ops ls := by simpa using hB.1.1
    obtain ⟨v, hy, hK⟩ := yieldsIn_of_qOp (K := wpQuiet P ops C G l) h0 (by unfold qOp; rw [h0]; exact h)
    refine headQ.first h0 (Region.noSelect_spec hsel) ht hk0 hkn (fun _ _ hL => seqB_ready hL.1) l.length ls a inv (Region.free_spec h0 hB.1.2) hr hy ?_
    refine ih (k + 1) _ _ (by omega) (fun j hj => ?_) (by omega) (inv.set hr hkn) hB.2 hK
    have := hl (j + 1) (Nat.succ_lt_succ hj)
    rw [Nat.add_right_comm, Nat.add_assoc]
    simpa using this

/-- THE RULE: 'n' operations that are quiet in the class come in whatever order; those behind them, which wait for them, come one after another, from any world of the class. -/
theorem wp_region_quiet_tail {id : Nat} {Q : Exit → Act → World → Prop} {a : Act} {w : World} {l : List Oper} (n : Nat) (hm : P.follows .mixedOrders = true) (hB : Region.lexTailB .any l.toArray n = true)
    (hC : C { w with drawn := w.drawn + 1 })
    (h : wpQuiet P l.toArray C (fun a' => ∀ w', C w' → wpList P l.toArray Q (l.drop n) a' w') (l.take n) a) : (Code.region id l.toArray true).wp P Q a w := by
  simp only [Region.lexTailB, Bool.and_eq_true, decide_eq_true_eq] at hB
  obtain ⟨⟨⟨⟨hsel, hn⟩, hs⟩, hc⟩, hlex⟩ := hB
  have hn' : n < l.length := by simpa using hn
  have ht : (l.take n).length = n := by rw [List.length_take]; omega
  have inv0 : HeadInv .any l.toArray n (Array.replicate l.toArray.size false) :=
    ⟨by simp, fun j oj _ hl => by rw [getD_replicate_false] at hl; exact Bool.noConfusion hl, fun t _ h2 => getD_in (by simpa using h2) (getD_replicate_false _ _)⟩
  have H := headQ.lex (md := .any) (g := l.toArray.size - n) (k0 := 0) hsel (fun ls inv i _ hi hun => tail_waits hs hc hn inv _ i rfl hi hun) (l.take n) 0 _ a (Nat.zero_le _) (fun j hj => by rw [ht] at hj; simp [hj]) (by omega) inv0 (by rw [ht]; exact hlex) h
  refine wp_region_any hm ?_
  have R := headQ.any (Q := Q) (g := l.toArray.size - n) (fun ls a' w' hw hL => by
    have := wpAny_of_seq (md := .any) (Q' := Q) (l.drop n) n ls a' w' (fun j => by simp [List.getElem?_drop]) (by simpa using hL.1) (hL.2 w' hw)
    simpa using this) _ _ _ _ hC H
  rwa [ht, Nat.add_sub_cancel' (Nat.le_of_lt hn)] at R

/-- The closed conditions of the next rule. -/
def moveTailB (md : Region.Mode) (ops : Array Oper) (n : Nat) : Bool :=
  Region.noSelect ops && decide (n < ops.size) && decide (1 ≤ n) && sinkFrom md ops 1 n && Region.chainB md ops n &&
    (Region.ready md ops (Array.replicate ops.size false)).contains 0 && Region.free md ops (Array.replicate ops.size false) 0 &&
    Region.lexHead md ops (ops.size - n) (n - 1) 1 ((Array.replicate ops.size false).setIfInBounds 0 true)

/-- THE RULE where the first operation is a move that only the tail waits for ('x = append(x, ..)'): it is taken first. -/
theorem wp_region_move_tail {id : Nat} {Q : Exit → Act → World → Prop} {a : Act} {w : World} {o0 : Oper} {l : List Oper} (n : Nat) (x : Operand) (hx : o0.op = .move x) (hgd : o0.guard = none)
    (hm : P.follows .mixedOrders = true) (hB : moveTailB .any (o0 :: l).toArray (n + 1) = true) (hQ : ∀ c v a w, Q (.panic c) (a.put o0.dst v) w → Q (.panic c) a w)
    (hC : C { w with drawn := w.drawn + 1 })
    (h : wpQuiet P (o0 :: l).toArray C (fun a' => ∀ w', C w' → wpList P (o0 :: l).toArray Q (l.drop n) a' w') (l.take n) (a.put o0.dst (a.eval x))) : (Code.region id (o0 :: l).toArray true).wp P Q a w := by
  simp only [moveTailB, Bool.and_eq_true, decide_eq_true_eq] at hB
  obtain ⟨⟨⟨⟨⟨⟨⟨hsel, hn⟩, _⟩, hs⟩, hc⟩, hr⟩, hf⟩, hlex⟩ := hB
  have hn' : n < l.length := by simpa using hn
  have ht : (l.take n).length = n := by rw [List.length_take]; omega
  have inv0 : HeadInv .any (o0 :: l).toArray (n + 1) (Array.replicate (o0 :: l).toArray.size false) :=
    ⟨by simp, fun j oj _ hl => by rw [getD_replicate_false] at hl; exact Bool.noConfusion hl, fun t _ h2 => getD_in (by simpa using h2) (getD_replicate_false _ _)⟩
  have hr' : 0 ∈ Region.ready .any (o0 :: l).toArray (Array.replicate (o0 :: l).toArray.size false) := by simpa using hr
  have inv1 := inv0.set hr' (Nat.succ_pos _)
  have H := headQ.lex (md := .any) (g := (o0 :: l).toArray.size - (n + 1)) (k0 := 1) hsel (tailWaits_of hs hc) (l.take n) 1 _ (a.put o0.dst (a.eval x)) (Nat.le_refl _)
    (fun j hj => by rw [ht] at hj; simp [hj, Nat.add_comm 1 j]) (by omega) inv1 (by rw [ht]; simpa using hlex) h
  refine wp_region_any hm ?_
  have R := headQ.any (Q := Q) (g := (o0 :: l).toArray.size - (n + 1)) (fun ls a' w' hw hL => by
    have := wpAny_of_seq (md := .any) (Q' := Q) (l.drop n) (n + 1) ls a' w' (fun j => by simp [List.getElem?_drop, Nat.add_right_comm]) (by simpa using hL.1) (hL.2 w' hw)
    simpa using this) _ _ _ _ hC H
  rw [ht, show n + ((o0 :: l).toArray.size - (n + 1)) = l.length by simp; omega] at R
  have hy : Yields P (o0 :: l).toArray o0 (a.eval x) a := .inl ⟨by simp [Region.wanted, hgd], fun w => BigFrame.run_move x hx w⟩
  have F := wpAny_take (md := .any) (i := 0) (oi := o0) (fuel := l.length) rfl hsel hf hr (fun c a w => hQ c _ a w) hy R
  simpa using F

/-- A region all of whose operations are quiet in the class. -/
theorem wp_region_quiet_all {id : Nat} {Q : Exit → Act → World → Prop} {a : Act} {w : World} {l : List Oper} (hm : P.follows .mixedOrders = true) (hB : Region.lexB .any l.toArray = true)
    (hC : C { w with drawn := w.drawn + 1 }) (h : wpQuiet P l.toArray C (fun a' => ∀ w', C w' → Q .normal a' w') l a) : (Code.region id l.toArray true).wp P Q a w :=
  wp_region_quiet hm hB hC (by simpa using h)

/-- The same, where the head's operations and callees only read. -/
theorem wp_region_draws_tail {id : Nat} {Q : Exit → Act → World → Prop} {a : Act} {w : World} {l : List Oper} (n : Nat) (hm : P.follows .mixedOrders = true) (hB : Region.lexTailB .any l.toArray n = true)
    (h : wpQuiet P l.toArray (fun w' => ∃ k, w' = w.drewN k) (fun a' => ∀ w', (∃ k, w' = w.drewN k) → wpList P l.toArray Q (l.drop n) a' w') (l.take n) a) : (Code.region id l.toArray true).wp P Q a w :=
  wp_region_quiet_tail n hm hB ⟨1, rfl⟩ h
end

theorem setCell_drewN (w : World) (n : Nat) (a : Addr) (v : Value) : (w.drewN n).setCell a v = (w.setCell a v).drewN n := rfl
theorem alloc_drewN (w : World) (n : Nat) (o : Obj) : (w.drewN n).alloc o = (w.alloc o).drewN n := rfl
theorem below_drewN {B n : Nat} {a w : World} (h : Below B a w) : Below B a (w.drewN n) := ⟨h.os, h.tape, h.output, h.size, h.block⟩

/-- The worlds in which what stood in W stands as it did. -/
def Sub (W : World) : Type := { x : World // Below W.heap.size W x }
instance (W : World) : Nonempty (Sub W) := ⟨⟨W, Below.refl _ _⟩⟩
/-- The class of these worlds. -/
def InSub (W : World) (w' : World) : Prop := ∃ u : Sub W, w' = u.1
theorem InSub.drew (W : World) : InSub W { W with drawn := W.drawn + 1 } := ⟨⟨W.drew, (Below.refl _ _).drew⟩, rfl⟩

theorem subSame {P : Program} {f : FuncId} {args : Array Value} {W : World} {u : Sub W} {v : Value} (h : Calls P f args u.1 fun e w' => e = .returned v ∧ u.1 = w') :
    Calls P f args u.1 fun e w'' => e = .returned v ∧ ∃ x : Sub W, w'' = x.1 := h.mono fun _ _ ⟨he, hw⟩ => ⟨he, u, hw.symm⟩

theorem subBelow {P : Program} {f : FuncId} {args : Array Value} {W : World} {u : Sub W} {v : Value} (h : Calls P f args u.1 fun e w' => e = .returned v ∧ Below u.1.heap.size u.1 w') :
    Calls P f args u.1 fun e w'' => e = .returned v ∧ ∃ x : Sub W, w'' = x.1 := h.mono fun _ w' ⟨he, hw⟩ => ⟨he, ⟨w', u.2.trans (hw.mono u.2.size)⟩, rfl⟩

end Go.Proofs.YtipocmbplcdmjaaGreatDoor

/-
  Memory by footprints: which blocks a step may write, in which blocks a thing lies; slices that are somebody's own, of whatever elements. Nothing of the program is read here.
-/
namespace Go.Proofs.YtipocmbplcdmjaaGreatDoor
open Go Go.RowKit

/-- Of what stood in w only the blocks F may have turned. -/
structure Keeps (F : Nat → Prop) (w w' : World) : Prop where
  os : w'.os = w.os
  tape : w'.tape = w.tape
  output : w'.output = w.output
  size : w.heap.size ≤ w'.heap.size
  block : ∀ k, k < w.heap.size → ¬ F k → w'.heap[k]? = w.heap[k]?

/-- F' lies in F and in what was made since w. -/
def Within (w : World) (F F' : Nat → Prop) : Prop := ∀ k, F' k → F k ∨ w.heap.size ≤ k

/-- No block. -/
def noBlock (_ : Nat) : Prop := False

theorem Within.refl (w : World) (F : Nat → Prop) : Within w F F := fun _ h => .inl h
theorem Within.trans {a b : World} {F G H : Nat → Prop} (h : Within a F G) (k : Within b G H) (hs : a.heap.size ≤ b.heap.size) : Within a F H := fun i hi =>
  (k i hi).elim (fun h1 => h i h1) (fun h1 => .inr (Nat.le_trans hs h1))

theorem Keeps.refl (F : Nat → Prop) (w : World) : Keeps F w w := ⟨rfl, rfl, rfl, Nat.le_refl _, fun _ _ _ => rfl⟩
theorem Keeps.mono {F G : Nat → Prop} {w w' : World} (h : Keeps F w w') (hs : ∀ k, F k → G k) : Keeps G w w' :=
  ⟨h.os, h.tape, h.output, h.size, fun k hk hn => h.block k hk (fun e => hn (hs k e))⟩
theorem Keeps.trans {F G : Nat → Prop} {a b c : World} (h : Keeps F a b) (k : Keeps G b c) (hs : Within a F G) : Keeps F a c :=
  ⟨k.os.trans h.os, k.tape.trans h.tape, k.output.trans h.output, Nat.le_trans h.size k.size, fun i hi hn =>
    (k.block i (Nat.lt_of_lt_of_le hi h.size) (fun e => (hs i e).elim hn (fun h1 => by omega))).trans (h.block i hi hn)⟩
theorem Keeps.of_below {w w' : World} (h : Below w.heap.size w w') (F : Nat → Prop) : Keeps F w w' := ⟨h.os, h.tape, h.output, h.size, fun k hk _ => h.block k hk⟩
theorem Keeps.below {F : Nat → Prop} {w w' : World} (h : Keeps F w w') {B : Nat} (hB : B ≤ w.heap.size) (hF : ∀ k, F k → B ≤ k) : Below B w w' :=
  ⟨h.os, h.tape, h.output, h.size, fun k hk => h.block k (by omega) (fun e => by have := hF k e; omega)⟩
theorem Keeps.of_grown {F : Nat → Prop} {w w' : World} {row : Option Nat} (h : w.grownBy w' row) (hF : ∀ k, row = some k → F k) : Keeps F w w' :=
  ⟨h.os, h.tape, h.output, h.size, fun k hk hn => h.block k hk (fun e => hn (hF k e.symm))⟩
theorem Keeps.of_setCell (F : Nat → Prop) (w : World) (p : Addr) (u : Value) (hF : F p.block) : Keeps F w (w.setCell p u) :=
  ⟨rfl, rfl, rfl, by simp [World.setCell], fun k _ hn => Below.heap_setCell _ _ _ _ (fun e => hn (e ▸ hF))⟩
theorem Keeps.of_alloc (F : Nat → Prop) (w : World) (o : Obj) : Keeps F w (w.alloc o) := ⟨rfl, rfl, rfl, by simp, fun k hk _ => Below.heap_alloc _ _ _ hk⟩
theorem Keeps.of_drew (F : Nat → Prop) (w : World) : Keeps F w w.drew := ⟨rfl, rfl, rfl, Nat.le_refl _, fun _ _ _ => rfl⟩
/-- One step more that stays within F. -/
theorem Keeps.and {F : Nat → Prop} {a b c : World} (h : Keeps F a b) (k : Keeps F b c) : Keeps F a c := h.trans k (Within.refl _ _)

/-- A kind of elements: their cells. -/
structure Enc (P : Program) (α : Type) where
  slice : TypeId
  elem : TypeId
  size : Nat
  bytes : Nat
  cells : α → List Value
  zero : Value
  und : P.underlying slice = some (.slice elem)
  info : ∃ i, P.info? elem = some i ∧ i.zero = some zero ∧ i.size = size ∧ i.bytes = bytes
  zsize : zero.cells.size = size
  pos : 0 < size
  few : bytes ≤ 1000
  len : ∀ a, (cells a).length = size
  one : ∀ a, ∀ u ∈ cells a, u.oneCell' = true

section
variable {P : Program} {α : Type}

/-- The cells of a list of elements. -/
def Enc.all (E : Enc P α) (l : List α) : List Value := l.flatMap E.cells

theorem Enc.all_length (E : Enc P α) (l : List α) : (E.all l).length = l.length * E.size := by
  unfold Enc.all
  induction l with
  | nil => simp
  | cons a l ih => simp [ih, E.len, Nat.add_mul]; omega

theorem Enc.all_append (E : Enc P α) (l k : List α) : E.all (l ++ k) = E.all l ++ E.all k := by simp [Enc.all]

theorem Enc.all_one (E : Enc P α) (l : List α) : ∀ u ∈ E.all l, u.oneCell' = true := by
  intro u hu
  obtain ⟨a, _, h⟩ := List.mem_flatMap.1 hu
  exact E.one a u h

theorem Enc.all_get (E : Enc P α) (l : List α) : ∀ (i : Nat) (h : i < l.length) (j : Nat), j < E.size → (E.all l)[i * E.size + j]? = (E.cells l[i])[j]? := by
  induction l with
  | nil => intro i h; cases h
  | cons a l ih =>
    intro i h j hj
    have hl := E.len a
    cases i with
    | zero =>
      show (E.cells a ++ E.all l)[0 * E.size + j]? = (E.cells a)[j]?
      rw [Nat.zero_mul, Nat.zero_add, List.getElem?_append_left (by omega)]
    | succ i =>
      have hi : i < l.length := by simpa using h
      have := ih i hi j hj
      show (E.cells a ++ E.all l)[(i + 1) * E.size + j]? = (E.cells l[i])[j]?
      rw [List.getElem?_append_right (by rw [hl, Nat.add_mul]; omega), ← this]
      congr 1
      rw [hl, Nat.add_mul]; omega

theorem Enc.all_take (E : Enc P α) (l : List α) (n : Nat) (hn : n ≤ l.length) : E.all (l.take n) = (E.all l).take (n * E.size) := by
  have h : E.all l = E.all (l.take n) ++ E.all (l.drop n) := by rw [← E.all_append, List.take_append_drop]
  rw [h, List.take_left' (by rw [E.all_length, List.length_take, Nat.min_eq_left hn])]

/-- A slice of somebody's own that holds these elements. -/
def Owns (E : Enc P α) (w : World) (v : Value) (l : List α) : Prop := w.ownsRow 0 E.elem E.size v l.length (E.all l)

/-- A slice that reads as these elements. -/
def Reads (E : Enc P α) (w : World) (v : Value) (l : List α) : Prop :=
  (v = .slice none 0 0 ∧ l = []) ∨ ∃ ad cap, v = .slice (some ad) l.length cap ∧ ∀ j u, (E.all l)[j]? = some u → w.cell? (ad.add j) = some u

variable {E : Enc P α} {w w' : World} {v : Value} {l : List α}

theorem Reads.keep (h : Reads E w v l) (hb : Below w.heap.size w w') : Reads E w' v l := by
  rcases h with h | ⟨ad, cap, rfl, hc⟩
  · exact .inl h
  · refine .inr ⟨ad, cap, rfl, fun j u hj => ?_⟩
    have h1 := hc j u hj
    rw [hb.cell (p := ad.add j) (block_lt_of_cell h1)]
    exact h1

theorem Reads.form (h : Reads E w v l) : ∃ a cap, v = .slice a l.length cap := by
  rcases h with ⟨rfl, rfl⟩ | ⟨ad, cap, rfl, _⟩
  · exact ⟨none, 0, rfl⟩
  · exact ⟨_, _, rfl⟩

/-- An element of it, cell by cell. -/
theorem Reads.at {a : Option Addr} {cap : Nat} (h : Reads E w (.slice a l.length cap) l) (i : Nat) (hi : i < l.length) : ∃ ad, a = some ad ∧ ∀ j, j < E.size → w.cell? (ad.add (i * E.size + j)) = (E.cells l[i])[j]? := by
  rcases h with ⟨_, rfl⟩ | ⟨ad, cap', hv, hc⟩
  · cases hi
  · refine ⟨ad, by injection hv, fun j hj => ?_⟩
    have h1 := E.all_get l i hi j hj
    have hj2 : j < (E.cells l[i]).length := by rw [E.len]; exact hj
    rw [List.getElem?_eq_getElem hj2] at h1 ⊢
    exact hc _ _ h1

theorem Owns.reads (h : Owns E w v l) : Reads E w v l := by
  obtain ⟨h1, ⟨rfl, h2⟩ | ⟨g, cap, cur, rfl, hr⟩⟩ := h
  · exact .inl ⟨rfl, List.length_eq_zero_iff.1 h2⟩
  · have h := World.ownsRow.cells (w := w) (base := 0) (e := E.elem) (size := E.size) (v := .slice (some ⟨g, 0, none⟩) l.length cap) (n := l.length) (xs := E.all l) ⟨h1, .inr ⟨g, cap, cur, rfl, hr⟩⟩ (g := g) rfl
    exact .inr ⟨⟨g, 0, none⟩, cap, rfl, h⟩

theorem Owns.nil (E : Enc P α) (w : World) : Owns E w (.slice none 0 0) [] := ⟨by simp [Enc.all], .inl ⟨rfl, rfl⟩⟩

theorem Owns.block (h : Owns E w v l) (hb : ∀ g, v.ownBlock = some g → w'.heap[g]? = w.heap[g]?) : Owns E w' v l := by
  obtain ⟨h1, h2 | ⟨g, cap, cur, rfl, h3, h4, h5⟩⟩ := h
  · exact ⟨h1, .inl h2⟩
  · exact ⟨h1, .inr ⟨g, cap, cur, rfl, h3, (hb g rfl).trans h4, h5⟩⟩

theorem Owns.lt (h : Owns E w v l) (g : Nat) (hg : v.ownBlock = some g) : g < w.heap.size := (World.ownsRow.lt h g hg).2
theorem Owns.keep (h : Owns E w v l) {F : Nat → Prop} (hb : Keeps F w w') (hF : ∀ g, v.ownBlock = some g → ¬ F g) : Owns E w' v l :=
  h.block fun g hg => hb.block g (h.lt g hg) (hF g hg)
theorem Owns.alloc (h : Owns E w v l) (o : Obj) : Owns E (w.alloc o) v l := h.block fun g hg => heap_alloc_old _ _ (h.lt g hg)

/-- Its shape; what its cells hold; they may be written. -/
theorem Owns.form (h : Owns E w v l) : ∃ a cap, v = .slice a l.length cap ∧ l.length ≤ cap ∧ cap ≤ maxLen ∧ (a = none → cap = 0) ∧ ∀ ad, a = some ad → ∃ g, ad = ⟨g, 0, none⟩ ∧ v.ownBlock = some g ∧ (∀ j, w.frozen? ⟨g, j, none⟩ = false) ∧
    ∀ i (hi : i < l.length) j, j < E.size → w.cell? ⟨g, i * E.size + j, none⟩ = (E.cells l[i])[j]? := by
  obtain ⟨h1, ⟨rfl, h2⟩ | ⟨g, cap, cur, rfl, h3, h4, h5, h6, h7⟩⟩ := h
  · exact ⟨none, 0, by rw [h2], by omega, Nat.zero_le _, fun _ => rfl, fun ad h => by cases h⟩
  · refine ⟨some ⟨g, 0, none⟩, cap, rfl, h5, h6, (fun h => by cases h), fun ad he => ?_⟩
    cases he
    have H : w.ownsRow 0 E.elem E.size (.slice (some ⟨g, 0, none⟩) l.length cap) l.length (E.all l) := ⟨h1, .inr ⟨g, cap, cur, rfl, h3, h4, h5, h6, h7⟩⟩
    refine ⟨g, rfl, rfl, H.frozenAt, fun i hi j hj => ?_⟩
    have hlt : i * E.size + j < l.length * E.size := by
      have : (i + 1) * E.size ≤ l.length * E.size := Nat.mul_le_mul_right _ hi
      rw [Nat.add_mul] at this; omega
    rw [World.ownsRow.cellAt H _ hlt, E.all_get l i hi j hj]

/-- Its first n elements. -/
theorem Owns.take {a : Option Addr} {cap n : Nat} (h : Owns E w (.slice a l.length cap) l) (hn : n ≤ l.length) : Owns E w (.slice a n cap) (l.take n) := by
  have hl : (l.take n).length = n := by rw [List.length_take, Nat.min_eq_left hn]
  obtain ⟨h1, ⟨hv, h2⟩ | ⟨g, cap', cur, hv, h3, h4, h5, h6, h7, h8⟩⟩ := h
  · injection hv with ha _ hc
    obtain rfl : n = 0 := by omega
    subst ha hc
    exact ⟨by simp [Enc.all], .inl ⟨rfl, by simp⟩⟩
  · injection hv with ha _ hc
    subst ha hc
    refine ⟨by rw [E.all_length], .inr ⟨g, cap, cur, by rw [hl], h3, h4, by omega, h6, h7, ?_⟩⟩
    rw [hl, E.all_take l n hn, ← h8, List.take_take, Nat.min_eq_left (Nat.mul_le_mul_right _ hn)]

/-- One of its elements, of one cell, written. -/
theorem Owns.put {g cap i : Nat} {a : α} {u : Value} (h : Owns E w (.slice (some ⟨g, 0, none⟩) l.length cap) l) (hs : E.size = 1) (hu : E.cells a = [u]) (hi : i < l.length) :
    Owns E (w.setCell ⟨g, i, none⟩ u) (.slice (some ⟨g, 0, none⟩) l.length cap) (l.set i a) := by
  have h1 := (World.ownsRow.stored h i u).1
  have e : E.all (l.set i a) = (E.all l).set i u := by
    refine List.ext_getElem? fun j => ?_
    rcases Nat.lt_or_ge j l.length with hj | hj
    · have h2 := E.all_get (l.set i a) j (by simpa using hj) 0 (by omega)
      have h3 := E.all_get l j hj 0 (by omega)
      rw [hs, Nat.mul_one, Nat.add_zero] at h2 h3
      rw [h2, List.getElem?_set]
      split
      · rename_i he; subst he; simp [hu, E.all_length, hs, hi]
      · rename_i he; rw [h3, List.getElem_set_ne he]
    · rw [List.getElem?_eq_none (by rw [E.all_length, List.length_set, hs]; omega), List.getElem?_eq_none (by rw [List.length_set, E.all_length, hs]; omega)]
  unfold Owns
  rw [List.length_set, e]
  exact h1

/-- A slice that was just made of one element. -/
theorem Reads.one (E : Enc P α) (w : World) (a : α) (cs : Array Value) (hcs : cs.toList = E.cells a) (b : Nat) (hb : b = w.heap.size) : Reads E (w.alloc (.cells cs E.elem)) (.slice (some ⟨b, 0, none⟩) 1 1) [a] := by
  subst hb
  refine .inr ⟨⟨w.heap.size, 0, none⟩, 1, rfl, fun j u hj => ?_⟩
  rw [show (⟨w.heap.size, 0, none⟩ : Addr).add j = ⟨w.heap.size, j, none⟩ by simp [Addr.add]; omega, cell_of_row _ _ _ _ _ _ (heap_alloc_new _ _)]
  simp only [Enc.all, List.flatMap_cons, List.flatMap_nil, List.append_nil] at hj
  rw [← hj, ← hcs]
  simp

/-- append(x, y...), x somebody's own. -/
theorem wpList_append_owns {ops : Array Oper} {rest : List Oper} {o : Oper} {a : Act} {w : World} {Q : Exit → Act → World → Prop} (E : Enc P α) (hgd : o.guard = none) (s x : Operand)
    (ho : o.op = .call { callee := .builtin .append, args := #[s, x], argTypes := #[E.slice, E.slice] })
    (v y : Value) (l k : List α) (hs : a.eval s = v) (hown : Owns E w v l) (hx : a.eval x = y) (hsrc : Reads E w y k)
    (hn : l.length + k.length ≤ 1000000)
    (h : ∀ v' w', Owns E w' v' (l ++ k) → w.grownBy w' v.ownBlock → (v'.ownBlock = v.ownBlock ∨ v'.ownBlock = some w.heap.size) → wpList P ops Q rest (a.put o.dst v') w') : wpList P ops Q (o :: rest) a w := by
  obtain ⟨i, hi, hz, hsz, hby⟩ := E.info
  have hfew := E.few
  rcases hsrc with ⟨rfl, rfl⟩ | ⟨ad, cap, rfl, hc⟩
  · refine wpList_append_own_none hgd s x _ ho 0 E.elem i E.size E.und hi v l.length (E.all l) hs hown hx ?_
    refine h v w (by rw [List.append_nil]; exact hown) ⟨rfl, rfl, rfl, Nat.le_refl _, fun _ _ _ => rfl⟩ (.inl rfl)
  · have hb : (l.length + k.length) * E.bytes ≤ 1000000 * 1000 := Nat.mul_le_mul hn hfew
    refine wpList_append_own_at w hgd s x _ ho 0 E.elem i _ E.size E.bytes E.und hi hz hsz hby E.zsize E.pos v l.length (E.all l) hs hown ad k.length cap (E.all k) hx (E.all_length k) hc (E.all_one k) (by unfold maxLen; omega) (by omega) (Nat.zero_le _) ?_
    intro v' w' h1 h2 _ h4
    exact h v' w' (by unfold Owns; rw [List.length_append, E.all_append]; exact h1) h2 h4
end

end Go.Proofs.YtipocmbplcdmjaaGreatDoor

/-
  Slices of numbers and of bools.
-/
namespace Go.Proofs.YtipocmbplcdmjaaGreatDoor
open Go Go.RowKit

theorem info_of (P : Program) (t : TypeId) (z : Value) (s n : Nat) (h : (P.info? t).map (fun i => (i.zero, i.size, i.bytes)) = some (some z, s, n)) : ∃ i, P.info? t = some i ∧ i.zero = some z ∧ i.size = s ∧ i.bytes = n := by
  obtain ⟨i, hi, h0, h1, h2⟩ := info_parts h
  exact ⟨i, hi, h0, h1, h2⟩

/-- Numbers. -/
def encI : Enc Tryz.prog Int where
  slice := 23
  elem := 3
  size := 1
  bytes := 8
  cells n := [.int .i64 n]
  zero := .int .i64 0
  und := Tryz.underlying23
  info := info_of _ _ _ _ _ (by kernel_rfl)
  zsize := rfl
  pos := by decide
  few := by decide
  len _ := rfl
  one _ u h := by cases List.mem_singleton.1 h; rfl

theorem Owns.intAt {w : World} {g cap : Nat} {l : List Int} (h : Owns encI w (.slice (some ⟨g, 0, none⟩) l.length cap) l) (i : Nat) (hi : i < l.length) : w.cell? ⟨g, i, none⟩ = some (.int .i64 l[i]) := by
  obtain ⟨a, c, hv, _, _, _, H⟩ := h.form
  injection hv with ha _ hc
  obtain ⟨g', e, _, _, hcell⟩ := H ⟨g, 0, none⟩ ha.symm
  cases e
  have := hcell i hi 0 (by decide)
  simpa [encI] using this

theorem appendI {ops : Array Oper} {rest : List Oper} {o : Oper} {a : Act} {w : World} {Q : Exit → Act → World → Prop} (hgd : o.guard = none) (s x : Operand)
    (ho : o.op = .call { callee := .builtin .append, args := #[s, x], argTypes := #[23, 23] })
    (v y : Value) (l k : List Int) (hs : a.eval s = v) (hown : Owns encI w v l) (hx : a.eval x = y) (hsrc : Reads encI w y k) (hn : l.length + k.length ≤ 1000000)
    (h : ∀ v' w', Owns encI w' v' (l ++ k) → w.grownBy w' v.ownBlock → (v'.ownBlock = v.ownBlock ∨ v'.ownBlock = some w.heap.size) → wpList Tryz.prog ops Q rest (a.put o.dst v') w') : wpList Tryz.prog ops Q (o :: rest) a w :=
  wpList_append_owns encI hgd s x ho v y l k hs hown hx hsrc hn h

theorem oneI (w : World) (n : Int) (b : Nat) (hb : b = w.heap.size := by rfl) : Reads encI (w.alloc (.cells #[.int .i64 n] 3)) (.slice (some ⟨b, 0, none⟩) 1 1) [n] := Reads.one encI w n _ rfl b hb

/-- Bools. -/
def encB : Enc Tryz.prog Bool where
  slice := 101
  elem := 4
  size := 1
  bytes := 1
  cells n := [.bool n]
  zero := .bool false
  und := Tryz.underlying101
  info := info_of _ _ _ _ _ (by kernel_rfl)
  zsize := rfl
  pos := by decide
  few := by decide
  len _ := rfl
  one _ u h := by cases List.mem_singleton.1 h; rfl

theorem Owns.boolAt {w : World} {g cap : Nat} {l : List Bool} (h : Owns encB w (.slice (some ⟨g, 0, none⟩) l.length cap) l) (i : Nat) (hi : i < l.length) : w.cell? ⟨g, i, none⟩ = some (.bool l[i]) := by
  obtain ⟨a, c, hv, _, _, _, H⟩ := h.form
  injection hv with ha _ hc
  obtain ⟨g', e, _, _, hcell⟩ := H ⟨g, 0, none⟩ ha.symm
  cases e
  have := hcell i hi 0 (by decide)
  simpa [encB] using this

theorem appendB {ops : Array Oper} {rest : List Oper} {o : Oper} {a : Act} {w : World} {Q : Exit → Act → World → Prop} (hgd : o.guard = none) (s x : Operand)
    (ho : o.op = .call { callee := .builtin .append, args := #[s, x], argTypes := #[101, 101] })
    (v y : Value) (l k : List Bool) (hs : a.eval s = v) (hown : Owns encB w v l) (hx : a.eval x = y) (hsrc : Reads encB w y k) (hn : l.length + k.length ≤ 1000000)
    (h : ∀ v' w', Owns encB w' v' (l ++ k) → w.grownBy w' v.ownBlock → (v'.ownBlock = v.ownBlock ∨ v'.ownBlock = some w.heap.size) → wpList Tryz.prog ops Q rest (a.put o.dst v') w') : wpList Tryz.prog ops Q (o :: rest) a w :=
  wpList_append_owns encB hgd s x ho v y l k hs hown hx hsrc hn h

theorem oneB (w : World) (n : Bool) (b : Nat) (hb : b = w.heap.size := by rfl) : Reads encB (w.alloc (.cells #[.bool n] 4)) (.slice (some ⟨b, 0, none⟩) 1 1) [n] := Reads.one encB w n _ rfl b hb

theorem Owns.free {P : Program} {α : Type} {E : Enc P α} {w : World} {g n cap : Nat} {l : List α} (h : Owns E w (.slice (some ⟨g, 0, none⟩) n cap) l) (j : Nat) : w.frozen? ⟨g, j, none⟩ = false := by
  obtain ⟨a, c, hv, _, _, _, H⟩ := h.form
  injection hv with ha _ hc
  obtain ⟨g', e, _, hf, _⟩ := H ⟨g, 0, none⟩ ha.symm
  cases e
  exact hf j

theorem Owns.some {P : Program} {α : Type} {E : Enc P α} {w : World} {v : Value} {l : List α} (h : Owns E w v l) (hl : 0 < l.length) : ∃ g cap, v = .slice (some ⟨g, 0, none⟩) l.length cap ∧ l.length ≤ cap ∧ cap ≤ maxLen := by
  obtain ⟨a, c, rfl, h1, h2, h3, H⟩ := h.form
  cases a with
  | none => have := h3 rfl; omega
  | some ad => obtain ⟨g, rfl, _⟩ := H ad rfl; exact ⟨g, c, rfl, h1, h2⟩

/-- A slice of numbers of somebody's own, made since w. -/
structure WRel (w : World) (out : List Int) (v : Value) (wr : World) : Prop where
  own : Owns encI wr v out
  new : ∀ g, v.ownBlock = some g → w.heap.size ≤ g
  below : Below w.heap.size w wr

theorem WRel.keep' {w W W' : World} {l : List Int} {v : Value} (h : WRel w l v W) (hb : Below W.heap.size W W') : WRel w l v W' :=
  ⟨h.own.block fun g hg => hb.block g (h.own.lt g hg), h.new, h.below.trans (hb.mono h.below.size)⟩

theorem Reads.intAt {w : World} {a : Option Addr} {cap : Nat} {l : List Int} (h : Reads encI w (.slice a l.length cap) l) (i : Nat) (hi : i < l.length) : ∃ ad, a = some ad ∧ w.cell? (ad.add i) = some (.int .i64 l[i]) := by
  obtain ⟨ad, rfl, H⟩ := h.at i hi
  have := H 0 (by decide)
  exact ⟨ad, rfl, by simpa [encI] using this⟩

end Go.Proofs.YtipocmbplcdmjaaGreatDoor

/-
  Mathematics of a table with places in a ring: each entry lies at its home, or behind it with no empty place between. Searching, laying, emptying with moving up, laying anew. Nothing of the program is read here.
-/
namespace Go.Proofs.YtipocmbplcdmjaaGreatDoor

/-- A pair, and what stands for it. -/
abbrev Ent := (Int × Int) × Int

/-- What lies in the places. -/
def content (T : List (Option Ent)) : List Ent := T.filterMap id

theorem content_set_some (e : Ent) : ∀ (T : List (Option Ent)) (i : Nat), T[i]? = some none → (content (T.set i (some e))).Perm (e :: content T) := by
  intro T
  induction T with
  | nil => intro i h; simp at h
  | cons a T ih =>
    intro i h
    cases i with
    | zero =>
      simp at h
      subst h
      simp [content]
    | succ i =>
      have h1 := ih i (by simpa using h)
      cases a with
      | none => simpa [content] using h1
      | some x =>
        show (x :: content (T.set i (some e))).Perm (e :: x :: content T)
        exact (h1.cons x).trans (List.Perm.swap e x _)

theorem content_set_none {T : List (Option Ent)} {i : Nat} {e : Ent} (h : T[i]? = some (some e)) : (content T).Perm (e :: content (T.set i none)) := by
  have hi : i < T.length := (List.getElem?_eq_some_iff.1 h).1
  have h1 := content_set_some e (T.set i none) i (by simp [hi])
  rw [List.set_set] at h1
  have h2 : T.set i (some e) = T := by
    refine List.ext_getElem? fun j => ?_
    rw [List.getElem?_set]
    split
    · rename_i hj; subst hj; exact h.symm
    · rfl
  rwa [h2] at h1

theorem mem_content {T : List (Option Ent)} {e : Ent} : e ∈ content T ↔ ∃ i : Nat, T[i]? = some (some e) := by
  simp only [content, List.mem_filterMap, id]
  constructor
  · rintro ⟨a, ha, rfl⟩
    obtain ⟨i, hi, h⟩ := List.getElem_of_mem ha
    exact ⟨i, by rw [List.getElem?_eq_getElem hi, h]⟩
  · rintro ⟨i, hi⟩
    exact ⟨some e, List.mem_of_getElem? hi, rfl⟩

theorem content_le (T : List (Option Ent)) : (content T).length ≤ T.length := List.length_filterMap_le _ _

theorem exists_empty (T : List (Option Ent)) (h : (content T).length < T.length) : ∃ i : Nat, T[i]? = some none := by
  induction T with
  | nil => simp at h
  | cons a T ih =>
    cases a with
    | none => exact ⟨0, rfl⟩
    | some x =>
      obtain ⟨i, hi⟩ := ih (by simpa [content] using h)
      exact ⟨i + 1, by simpa using hi⟩

theorem content_append (T S : List (Option Ent)) : content (T ++ S) = content T ++ content S := by simp [content]
theorem content_replicate (n : Nat) : content (List.replicate n none) = [] := by
  induction n with
  | zero => rfl
  | succ n ih => rw [List.replicate_succ]; exact ih

/-- No two of these are of one pair. -/
def Apart (L : List Ent) : Prop := (L.map (·.1)).Nodup

theorem Apart.perm {L K : List Ent} (h : Apart L) (p : L.Perm K) : Apart K := (p.map _).nodup_iff.1 h
theorem Apart.eq {L : List Ent} (h : Apart L) : ∀ {a b : Ent}, a ∈ L → b ∈ L → a.1 = b.1 → a = b := by
  induction L with
  | nil => intro a b ha; cases ha
  | cons x L ih =>
    intro a b ha hb e
    simp only [Apart, List.map_cons, List.nodup_cons, List.mem_map, not_exists, not_and] at h
    rcases List.mem_cons.1 ha with ha1 | ha1
    · rcases List.mem_cons.1 hb with hb1 | hb1
      · rw [ha1, hb1]
      · subst ha1; exact absurd e.symm (h.1 b hb1)
    · rcases List.mem_cons.1 hb with hb1 | hb1
      · subst hb1; exact absurd e (h.1 a ha1)
      · exact ih h.2 ha1 hb1 e

/-- Of one pair there is one place. -/
theorem Apart.place {T : List (Option Ent)} (h : Apart (content T)) {i j : Nat} {a b : Ent} (hi : T[i]? = some (some a)) (hj : T[j]? = some (some b)) (e : a.1 = b.1) : i = j := by
  refine Classical.byContradiction fun hn => ?_
  have h1 := h.perm (content_set_none hi)
  have hb : b ∈ content (T.set i none) := mem_content.2 ⟨j, by rw [List.getElem?_set_ne hn]; exact hj⟩
  simp only [Apart, List.map_cons, List.nodup_cons, List.mem_map, not_exists, not_and] at h1
  exact h1.1 b hb e.symm

/-- So many places on, round the end. -/
def onBy (n a c : Nat) : Nat := if a + c < n then a + c else a + c - n
/-- How far it is from one place on to another, round the end. -/
def dist (n a b : Nat) : Nat := if a ≤ b then b - a else b + n - a

theorem onBy_lt {n a c : Nat} (ha : a < n) (hc : c ≤ n) : onBy n a c < n := by unfold onBy; split <;> omega
theorem dist_lt {n a b : Nat} (ha : a < n) (hb : b < n) : dist n a b < n := by unfold dist; split <;> omega
theorem onBy_dist {n a b : Nat} (ha : a < n) (hb : b < n) : onBy n a (dist n a b) = b := by
  unfold dist onBy; split <;> split <;> omega
theorem dist_onBy {n a c : Nat} (ha : a < n) (hc : c < n) : dist n a (onBy n a c) = c := by
  unfold dist onBy; split <;> split <;> omega
theorem onBy_zero {n a : Nat} (ha : a < n) : onBy n a 0 = a := by unfold onBy; split <;> omega
theorem onBy_onBy {n a c d : Nat} (ha : a < n) (h : c + d < n) : onBy n (onBy n a c) d = onBy n a (c + d) := by
  unfold onBy; split <;> split <;> (try split) <;> omega
theorem onBy_succ {n a c : Nat} (ha : a < n) (h : c + 1 < n) : onBy n (onBy n a c) 1 = onBy n a (c + 1) := onBy_onBy ha h
/-- What is on the way. -/
theorem dist_on {n h p c g : Nat} (hh : h < n) (hp : p < n) (hc : c ≤ dist n h p) (e : onBy n h c = g) : dist n h p = c + dist n g p := by
  subst e
  have h1 := dist_lt hh hp
  revert hc h1
  unfold dist onBy
  split <;> split <;> (try split) <;> omega
theorem dist_way {n h g i : Nat} (hh : h < n) (hg : g < n) (_hi : i < n) (hle : dist n g i ≤ dist n h i) : dist n h i = dist n h g + dist n g i := by
  revert hle
  unfold dist
  split <;> split <;> (try split) <;> omega
theorem dist_next {n i j : Nat} (hi : i < n) (hj : j < n) (hne : i ≠ j) : dist n i j = dist n (onBy n i 1) j + 1 := by
  unfold dist onBy
  split <;> split <;> split <;> omega
theorem dist_pos {n i j : Nat} (hi : i < n) (_hj : j < n) (hne : i ≠ j) : 1 ≤ dist n i j := by unfold dist; split <;> omega
theorem dist_self (n i : Nat) : dist n i i = 0 := by simp [dist]

/-- As a number's remainder: what a mask makes. -/
theorem onBy_mod {n a : Nat} (ha : a < n) : (a + 1) % n = onBy n a 1 := by
  unfold onBy
  split
  · exact Nat.mod_eq_of_lt ‹_›
  · rw [show a + 1 = n by omega, Nat.mod_self, Nat.sub_self]
theorem dist_mod {n a b : Nat} (ha : a < n) (hb : b < n) : ((b : Int) - (a : Int)) % (n : Int) = (dist n a b : Nat) := by
  unfold dist
  split
  · rw [Int.emod_eq_of_lt (by omega) (by omega)]; omega
  · rw [← Int.add_emod_right, Int.emod_eq_of_lt (by omega) (by omega)]; omega

/-- A table: its entries, each behind its home with no empty place between. -/
structure TInv (n : Nat) (h : Int × Int → Nat) (T : List (Option Ent)) (L : List Ent) : Prop where
  len : T.length = n
  home : ∀ k, h k < n
  perm : (content T).Perm L
  apart : Apart L
  chain : ∀ i e, T[i]? = some (some e) → ∀ c, c < dist n (h e.1) i → T[onBy n (h e.1) c]? ≠ some none

/-- Where a search for a pair ends: so far behind its home. -/
structure Found (n : Nat) (h : Int × Int → Nat) (T : List (Option Ent)) (k : Int × Int) (c : Nat) : Prop where
  lt : c < n
  before : ∀ d, d < c → ∃ e : Ent, T[onBy n (h k) d]? = some (some e) ∧ e.1 ≠ k
  stop : T[onBy n (h k) c]? = some none ∨ ∃ e : Ent, T[onBy n (h k) c]? = some (some e) ∧ e.1 = k

section
variable {n : Nat} {h : Int × Int → Nat} {T : List (Option Ent)} {L : List Ent}

theorem place_get {T : List (Option Ent)} {i : Nat} (hi : i < T.length) : T[i]? = some none ∨ ∃ e, T[i]? = some (some e) := by
  rw [List.getElem?_eq_getElem hi]
  cases T[i] with
  | none => exact .inl rfl
  | some e => exact .inr ⟨e, rfl⟩

theorem found_exists (hl : T.length = n) (hh : ∀ k, h k < n) (hlt : (content T).length < n) (k : Int × Int) : ∃ c, Found n h T k c := by
  obtain ⟨j, hj⟩ := exists_empty T (by omega)
  have hjn : j < n := by have := (List.getElem?_eq_some_iff.1 hj).1; omega
  have key : ∀ m c, (∀ d, d < c → ∃ e : Ent, T[onBy n (h k) d]? = some (some e) ∧ e.1 ≠ k) → c ≤ dist n (h k) j → dist n (h k) j - c = m → ∃ c, Found n h T k c := by
    intro m
    induction m with
    | zero =>
      intro c hb hc hm
      have : c = dist n (h k) j := by omega
      exact ⟨c, by have := dist_lt (hh k) hjn; omega, hb, .inl (by rw [this, onBy_dist (hh k) hjn]; exact hj)⟩
    | succ m ih =>
      intro c hb hc hm
      have hcn : c < n := by have := dist_lt (hh k) hjn; omega
      rcases place_get (T := T) (i := onBy n (h k) c) (by rw [hl]; exact onBy_lt (hh k) (by omega)) with h1 | ⟨e, h1⟩
      · exact ⟨c, hcn, hb, .inl h1⟩
      · by_cases he : e.1 = k
        · exact ⟨c, hcn, hb, .inr ⟨e, h1, he⟩⟩
        · refine ih (c + 1) (fun d hd => ?_) (by omega) (by omega)
          by_cases hdc : d = c
          · subst hdc; exact ⟨e, h1, he⟩
          · exact hb d (by omega)
  exact key _ 0 (fun d hd => by omega) (Nat.zero_le _) rfl

theorem TInv.lt (H : TInv n h T L) {i : Nat} {a : Option Ent} (hi : T[i]? = some a) : i < n := by
  have := (List.getElem?_eq_some_iff.1 hi).1
  rw [H.len] at this
  exact this

theorem TInv.mem (H : TInv n h T L) {e : Ent} : e ∈ L ↔ ∃ i : Nat, T[i]? = some (some e) := by rw [← mem_content]; exact H.perm.mem_iff.symm

theorem TInv.apartC (H : TInv n h T L) : Apart (content T) := H.apart.perm H.perm.symm

/-- A pair that is there is found. -/
theorem TInv.found (H : TInv n h T L) {e : Ent} (he : e ∈ L) {c : Nat} (F : Found n h T e.1 c) : T[onBy n (h e.1) c]? = some (some e) := by
  obtain ⟨i, hi⟩ := H.mem.1 he
  have hin := H.lt hi
  have hd := dist_lt (H.home e.1) hin
  have e1 : onBy n (h e.1) (dist n (h e.1) i) = i := onBy_dist (H.home e.1) hin
  rcases Nat.lt_trichotomy c (dist n (h e.1) i) with hc | hc | hc
  · rcases F.stop with h1 | ⟨x, h1, hx⟩
    · exact absurd h1 (H.chain i e hi c hc)
    · have := H.apartC.place h1 hi hx
      rw [this]; exact hi
  · rw [hc, e1]; exact hi
  · obtain ⟨x, h1, hx⟩ := F.before _ hc
    rw [e1, hi] at h1
    injection h1 with h1; injection h1 with h1
    exact absurd (by rw [h1]) hx

/-- What a search ends at. -/
theorem TInv.search (H : TInv n h T L) {k : Int × Int} {c : Nat} (F : Found n h T k c) :
    (T[onBy n (h k) c]? = some none ∧ ∀ e ∈ L, e.1 ≠ k) ∨ ∃ e ∈ L, e.1 = k ∧ T[onBy n (h k) c]? = some (some e) := by
  rcases F.stop with h1 | ⟨e, h1, he⟩
  · refine .inl ⟨h1, fun e he hk => ?_⟩
    subst hk
    rw [H.found he F] at h1
    cases h1
  · exact .inr ⟨e, H.mem.2 ⟨_, h1⟩, he, h1⟩

/-- Laid where the search ended. -/
theorem TInv.put (H : TInv n h T L) {e : Ent} {c : Nat} (F : Found n h T e.1 c) (hno : T[onBy n (h e.1) c]? = some none) : TInv n h (T.set (onBy n (h e.1) c) (some e)) (L ++ [e]) := by
  have hfree : ∀ x ∈ L, x.1 ≠ e.1 := by
    rcases H.search F with ⟨_, h1⟩ | ⟨x, _, _, h1⟩
    · exact h1
    · rw [hno] at h1; cases h1
  have hp : (content (T.set (onBy n (h e.1) c) (some e))).Perm (L ++ [e]) :=
    (content_set_some e T _ hno).trans ((H.perm.cons e).trans (by have := List.perm_append_comm (l₁ := [e]) (l₂ := L); simpa using this))
  refine ⟨by rw [List.length_set]; exact H.len, H.home, hp, ?_, ?_⟩
  · have : Apart (e :: L) := by
      simp only [Apart, List.map_cons, List.nodup_cons, List.mem_map, not_exists, not_and]
      exact ⟨fun x hx hk => hfree x hx hk, H.apart⟩
    exact this.perm (by have := List.perm_append_comm (l₁ := [e]) (l₂ := L); simpa using this)
  · intro i x hi d hd hne
    rw [List.getElem?_set] at hne
    split at hne
    · split at hne
      · cases hne
      · cases hne
    · rename_i hn
      rw [List.getElem?_set] at hi
      split at hi
      · rename_i hie
        split at hi
        · injection hi with hi; injection hi with hi
          subst hi hie
          rw [dist_onBy (H.home _) F.lt] at hd
          obtain ⟨y, hy, _⟩ := F.before d hd
          rw [hy] at hne; cases hne
        · cases hi
      · exact H.chain i x hi d hd hne

/-- A table of none. -/
theorem TInv.bare (n : Nat) (h : Int × Int → Nat) (hh : ∀ k, h k < n) : TInv n h (List.replicate n none) [] :=
  ⟨List.length_replicate, hh, by rw [content_replicate], List.nodup_nil, fun i e hi => by
    rw [List.getElem?_replicate] at hi; split at hi <;> cases hi⟩
end

/-- While what is behind a gap is moved up: U is the table with the gap at g empty, and so many places behind it have been looked at. -/
structure Gap (n : Nat) (h : Int × Int → Nat) (U : List (Option Ent)) (L : List Ent) (g q j : Nat) : Prop where
  len : U.length = n
  home : ∀ k, h k < n
  perm : (content U).Perm L
  apart : Apart L
  gap : U[g]? = some none
  far : U[j]? = some none
  ne : g ≠ j
  pos : 1 ≤ q
  full : ∀ c, 1 ≤ c → c < q → U[onBy n g c]? ≠ some none
  chain : ∀ p e, U[p]? = some (some e) → ∀ c, c < dist n (h e.1) p → U[onBy n (h e.1) c]? = some none → onBy n (h e.1) c = g ∧ q ≤ dist n g p

section
variable {n : Nat} {h : Int × Int → Nat} {T U : List (Option Ent)} {L : List Ent} {g q j : Nat}

theorem Gap.ltg (G : Gap n h U L g q j) : g < n := by have := (List.getElem?_eq_some_iff.1 G.gap).1; rw [G.len] at this; exact this
theorem Gap.ltj (G : Gap n h U L g q j) : j < n := by have := (List.getElem?_eq_some_iff.1 G.far).1; rw [G.len] at this; exact this
theorem Gap.le (G : Gap n h U L g q j) : q ≤ dist n g j := by
  have h1 := dist_pos G.ltg G.ltj G.ne
  refine Nat.le_of_not_lt fun hlt => G.full _ h1 hlt ?_
  rw [onBy_dist G.ltg G.ltj]; exact G.far
theorem Gap.lt (G : Gap n h U L g q j) : q < n := Nat.lt_of_le_of_lt G.le (dist_lt G.ltg G.ltj)
theorem Gap.at_lt (G : Gap n h U L g q j) : onBy n g q < n := onBy_lt G.ltg (Nat.le_of_lt G.lt)
theorem Gap.at_ne (G : Gap n h U L g q j) : onBy n g q ≠ g := fun e => by
  have h1 := dist_onBy G.ltg G.lt
  rw [e, dist_self] at h1
  have := G.pos
  omega

/-- The gap as it begins. -/
theorem TInv.gap (H : TInv n h T L) {K : List Ent} {i j : Nat} {e : Ent} (hi : T[i]? = some (some e)) (hj : T[j]? = some none) (hK : L.Perm (e :: K)) : Gap n h (T.set i none) K i 1 j := by
  have hin := H.lt hi
  have hne : i ≠ j := fun h1 => by subst h1; rw [hi] at hj; cases hj
  refine ⟨by rw [List.length_set]; exact H.len, H.home, ?_, ?_, by simp [H.len, hin], by rw [List.getElem?_set_ne hne]; exact hj, hne, Nat.le_refl _, fun c h1 h2 => by omega, ?_⟩
  · have h1 := ((content_set_none hi).symm.trans H.perm).trans hK
    exact h1.cons_inv
  · have h1 := H.apart.perm hK
    simp only [Apart, List.map_cons, List.nodup_cons] at h1
    exact h1.2
  · intro p x hp c hc hno
    have hpi : i ≠ p := fun h1 => by subst h1; simp [H.len, hin] at hp
    rw [List.getElem?_set_ne hpi] at hp
    have hpn := H.lt hp
    refine ⟨?_, dist_pos hin hpn hpi⟩
    refine Classical.byContradiction fun hn => ?_
    rw [List.getElem?_set_ne (fun h1 => hn h1.symm)] at hno
    exact H.chain p x hp c hc hno

/-- It ends at an empty place. -/
theorem Gap.ends (G : Gap n h U L g q j) (he : U[onBy n g q]? = some none) : TInv n h U L := by
  refine ⟨G.len, G.home, G.perm, G.apart, fun p e hp c hc hno => ?_⟩
  have hpn : p < n := by have := (List.getElem?_eq_some_iff.1 hp).1; rw [G.len] at this; exact this
  obtain ⟨h1, h2⟩ := G.chain p e hp c hc hno
  have hq : q ≠ dist n g p := fun e1 => by
    rw [e1, onBy_dist G.ltg hpn, hp] at he; cases he
  have h3 := dist_on (G.home e.1) hpn (Nat.le_of_lt hc) h1
  have h4 := dist_lt (G.home e.1) hpn
  have h5 : onBy n (h e.1) (c + q) = onBy n g q := by rw [← h1, onBy_onBy (G.home e.1) (by omega)]
  obtain ⟨h6, _⟩ := G.chain p e hp (c + q) (by omega) (by rw [h5]; exact he)
  rw [h5] at h6
  exact G.at_ne h6

/-- One that stays. -/
theorem Gap.stay (G : Gap n h U L g q j) {e : Ent} (he : U[onBy n g q]? = some (some e)) (hs : dist n (h e.1) (onBy n g q) < dist n g (onBy n g q)) : Gap n h U L g (q + 1) j := by
  refine ⟨G.len, G.home, G.perm, G.apart, G.gap, G.far, G.ne, by omega, fun c h1 h2 => ?_, fun p x hp c hc hno => ?_⟩
  · by_cases hcq : c = q
    · subst hcq; rw [he]; intro h; cases h
    · exact G.full c h1 (by omega)
  · have hpn : p < n := by have := (List.getElem?_eq_some_iff.1 hp).1; rw [G.len] at this; exact this
    obtain ⟨h1, h2⟩ := G.chain p x hp c hc hno
    refine ⟨h1, Nat.lt_of_le_of_ne h2 fun e1 => ?_⟩
    have hpq : onBy n g q = p := by rw [e1, onBy_dist G.ltg hpn]
    rw [hpq] at he hs
    rw [hp] at he
    injection he with he; injection he with he
    subst he
    have h3 := dist_on (G.home x.1) hpn (Nat.le_of_lt hc) h1
    omega

/-- One that is moved up. -/
theorem Gap.move (G : Gap n h U L g q j) {e : Ent} (he : U[onBy n g q]? = some (some e)) (hs : dist n g (onBy n g q) ≤ dist n (h e.1) (onBy n g q)) : Gap n h ((U.set g (some e)).set (onBy n g q) none) L (onBy n g q) 1 j := by
  have hin := G.at_lt
  have hne := G.at_ne
  have hlen := G.len
  have hij : onBy n g q ≠ j := fun h1 => by rw [h1, G.far] at he; cases he
  generalize hi : onBy n g q = i at *
  refine ⟨by simpa using G.len, G.home, ?_, G.apart, by simp [hlen, hin], ?_, hij, Nat.le_refl _, fun c h1 h2 => by omega, ?_⟩
  · rw [List.set_comm _ _ (fun h1 => hne h1.symm)]
    have h1 := content_set_some e (U.set i none) g (by rw [List.getElem?_set_ne hne]; exact G.gap)
    exact (h1.trans (content_set_none he).symm).trans G.perm
  · rw [List.getElem?_set_ne hij, List.getElem?_set_ne G.ne]; exact G.far
  · intro p x hp c hc hno
    have hip : i ≠ p := fun h1 => by subst h1; simp [hlen, hin] at hp
    have hpn : p < n := by have := (List.getElem?_eq_some_iff.1 hp).1; simp [hlen] at this; exact this
    refine ⟨?_, dist_pos hin hpn hip⟩
    refine Classical.byContradiction fun hn => ?_
    rw [List.getElem?_set_ne (fun h1 => hn h1.symm)] at hno
    have hng : g ≠ onBy n (h x.1) c := fun h1 => by rw [← h1] at hno; simp [hlen, G.ltg] at hno
    rw [List.getElem?_set_ne hng] at hno
    rw [List.getElem?_set_ne hip] at hp
    by_cases hpg : g = p
    · subst hpg
      rw [List.getElem?_set_self (by rw [hlen]; exact G.ltg)] at hp
      injection hp with hp; injection hp with hp
      subst hp
      have h1 := dist_way (G.home e.1) G.ltg hin hs
      exact hng (G.chain i e he c (by omega) hno).1.symm
    · rw [List.getElem?_set_ne hpg] at hp
      exact hng (G.chain p x hp c hc hno).1.symm
end

/-- The document's table: pairs in the order in which they were put, and how many places. -/
structure TS where
  L : List Ent
  slots : Nat

namespace TS
def get (s : TS) (k : Int × Int) : Int × Bool := match s.L.find? (fun e => e.1 == k) with | some e => (e.2, true) | none => (0, false)
def put (s : TS) (e : Ent) : TS := if (s.get e.1).2 then s else ⟨s.L ++ [e], if s.L.length + 1 > s.slots / 2 then 2 * s.slots else s.slots⟩
def putB (s : TS) (k : Int × Int) : Bool := !(s.get k).2
def drop (s : TS) (k : Int × Int) : TS := ⟨s.L.filter (fun e => e.1 != k), s.slots⟩
def dropB (s : TS) (k : Int × Int) : Bool := (s.get k).2
/-- It is one that can be: each pair once; half of the places are in use at most. -/
structure Ok (s : TS) : Prop where
  apart : Apart s.L
  half : 2 * s.L.length ≤ s.slots
  pow : ∃ k, s.slots = 2 ^ k
  least : 8 ≤ s.slots
end TS

theorem TS.get_no {s : TS} {k : Int × Int} (h : ∀ e ∈ s.L, e.1 ≠ k) : s.get k = (0, false) := by
  have : s.L.find? (fun e => e.1 == k) = none := List.find?_eq_none.2 (fun e he => by simpa using h e he)
  simp [TS.get, this]
theorem TS.get_yes {s : TS} (ap : Apart s.L) {e : Ent} (he : e ∈ s.L) : s.get e.1 = (e.2, true) := by
  cases h : s.L.find? (fun x => x.1 == e.1) with
  | none => exact absurd (List.find?_eq_none.1 h e he) (by simp)
  | some x =>
    have h1 : x.1 = e.1 := by simpa using List.find?_some h
    have h2 := ap.eq (List.mem_of_find?_eq_some h) he h1
    simp [TS.get, h, h2]

theorem filter_no {L : List Ent} {k : Int × Int} (h : ∀ e ∈ L, e.1 ≠ k) : L.filter (fun e => e.1 != k) = L :=
  List.filter_eq_self.2 fun e he => by simpa using h e he

theorem filter_yes : ∀ {L : List Ent}, Apart L → ∀ {e : Ent}, e ∈ L → L.Perm (e :: L.filter (fun x => x.1 != e.1)) := by
  intro L
  induction L with
  | nil => intro _ e he; cases he
  | cons x L ih =>
    intro ap e he
    have h1 := ap
    simp only [Apart, List.map_cons, List.nodup_cons, List.mem_map, not_exists, not_and] at h1
    rcases List.mem_cons.1 he with rfl | hm
    · have : L.filter (fun y => y.1 != e.1) = L := filter_no fun y hy hk => h1.1 y hy hk
      simp [this]
    · have hne : x.1 ≠ e.1 := fun hk => h1.1 e hm hk.symm
      have hb : (x.1 != e.1) = true := by simpa using hne
      rw [List.filter_cons, if_pos hb]
      exact ((ih h1.2 hm).cons x).trans (List.Perm.swap e x _)

end Go.Proofs.YtipocmbplcdmjaaGreatDoor
