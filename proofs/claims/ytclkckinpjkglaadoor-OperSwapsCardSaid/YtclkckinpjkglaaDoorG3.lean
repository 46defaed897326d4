/-
  Texts of this proof, one behind the other: Quiet, Mem, Arr.
-/
import Derived.Deep.Quiet
import Derived.BigQuiet
import Derived.StillTail
import Derived.WalkKit
import Derived.Laws.OwnMore
import Derived.Maps.AppendAt
import Derived.Laws.AppendOwnNone
import Derived.Test.YtclkckinpjkglaaDoorProg
import Derived.Outline
import Derived.RegionTactic
import Derived.ChangeAlike
import Derived.Handy
import Derived.StillTailTactics
import Derived.Deep.RegionHeld3
import Derived.KernelRfl
import Derived.Lib.Hide
/-
  A region whose order is open: its first operations are quiet in a class of worlds, what stands behind them comes last, one after another. One walk in the order of the text serves every order. Nothing of the program is read here.
-/
namespace Go.Proofs.YtclkckinpjkglaaDoor
open Go Go.RowKit

section
variable {P : Program} {ops : Array Oper} {md : Region.Mode} {C : World → Prop}

/-- For 'f' more picks only operations below 'n' come up, each quiet in the class; then 'L'. -/
def headQ (P : Program) (md : Region.Mode) (ops : Array Oper) (C : World → Prop) (n : Nat) (L : Array Bool → Act → Prop) : Nat → Array Bool → Act → Prop
  | 0, ls, a => L ls a
  | f + 1, ls, a => Region.ready md ops ls ≠ [] ∧ ∀ i ∈ Region.ready md ops ls, i < n ∧ qOp P ops C i (headQ P md ops C n L f (ls.setIfInBounds i true)) a

theorem headQ.any {n g : Nat} {L : Array Bool → Act → Prop} {Q : Exit → Act → World → Prop} (hL : ∀ ls a w, C w → L ls a → wpAny P md ops Q g ls a w) (f : Nat) :
    ∀ (ls : Array Bool) (a : Act) (w : World), C w → headQ P md ops C n L f ls a → wpAny P md ops Q (f + g) ls a w := by
  induction f with
  | zero => intro ls a w hw h; rw [Nat.zero_add]; exact hL _ _ _ hw h
  | succ f ih =>
    intro ls a w hw ⟨hne, h⟩
    rw [Nat.add_right_comm]
    exact ⟨fun h0 => (hne h0).elim, fun i hi => wpOp_of_qOp hw (fun a' w' hw' hq => ih _ a' w' hw' hq) (h i hi).2⟩

/-- While an operation of the head, from number k0 on, is still to come, none of the tail can come up. -/
def TailWaits (md : Region.Mode) (ops : Array Oper) (n k0 : Nat) : Prop :=
  ∀ ls, HeadInv md ops n ls → ∀ i, k0 ≤ i → i < n → ls.getD i true = false → ∀ t, n ≤ t → t ∉ Region.ready md ops ls

/-- Every operation of the head from number k0 on is waited for by a later one, at most the tail's first. -/
def sinkFrom (md : Region.Mode) (ops : Array Oper) (k0 n : Nat) : Bool :=
  (List.range n).all fun i => decide (i < k0) || (List.range (n + 1)).any fun j => decide (i < j) && Region.waitsFor md ops j i

theorem tailWaits_of {n k0 : Nat} (hs : sinkFrom md ops k0 n = true) (hc : Region.chainB md ops n = true) : TailWaits md ops n k0 := by
  intro ls inv i hk hi hun t ht hr
  obtain ⟨_, ot, hot, hall⟩ := mem_ready.1 hr
  have hts : t < ops.size := (Array.getElem?_eq_some_iff.1 hot).1
  rcases Nat.lt_or_ge n t with hlt | hge
  · have h1 := List.all_eq_true.1 hc t (List.mem_range.2 hts)
    rw [decide_eq_false (by omega), Bool.false_or] at h1
    obtain ⟨o', ho', e, he, hb, hon⟩ := Region.waitsFor_spec h1
    obtain rfl : o' = ot := Option.some.inj (ho'.symm.trans hot)
    have h2 := hall e he hb
    rw [hon, getD_both (inv.tail (t - 1) (by omega) (by omega))] at h2
    exact Bool.noConfusion h2
  · obtain rfl : t = n := by omega
    -- the greatest pending one of the head
    have key : ∀ d i, t - i ≤ d → k0 ≤ i → i < t → ls.getD i true = false → False := by
      intro d
      induction d with
      | zero => intro i h1 _ h3; omega
      | succ d ih =>
        intro i h1 h2 h3 hun
        have h4 := List.all_eq_true.1 hs i (List.mem_range.2 h3)
        rw [decide_eq_false (by omega), Bool.false_or] at h4
        obtain ⟨j, hj, hj2⟩ := List.any_eq_true.1 h4
        rw [Bool.and_eq_true, decide_eq_true_eq] at hj2
        have hjt := List.mem_range.1 hj
        obtain ⟨oj, hoj, e, he, hb, hon⟩ := Region.waitsFor_spec hj2.2
        rcases Nat.lt_or_ge j t with hjl | hjg
        · cases hl : ls.getD j false with
          | true =>
            have h5 := inv.closed j oj hoj hl e he hb
            rw [hon, getD_both hun] at h5
            exact Bool.noConfusion h5
          | false => exact ih j (by omega) (by omega) hjl (getD_in (by rw [inv.size]; omega) hl)
        · obtain rfl : j = t := by omega
          obtain rfl : oj = ot := Option.some.inj (hoj.symm.trans hot)
          have h5 := hall e he hb
          rw [hon, getD_both hun] at h5
          exact Bool.noConfusion h5
    exact key (t - i) i (Nat.le_refl _) hk hi hun

/-- No operation of the tail can come up while one of the head is still to come. -/
theorem below_tail {n i j k0 : Nat} {ls : Array Bool} (ht : TailWaits md ops n k0) (inv : HeadInv md ops n ls) (hk : k0 ≤ i)
    (hi : i < n) (hr : i ∈ Region.ready md ops ls) (hj : j ∈ Region.ready md ops ls) : j < n :=
  Nat.lt_of_not_le fun hle => ht ls inv i hk hi (mem_ready.1 hr).1 j hle hj

theorem headQ.first {n i : Nat} {oi : Oper} {v : Value} {L : Array Bool → Act → Prop} (hi : ops[i]? = some oi) (hsel : ∀ (j : Nat) (o : Oper) cs b, ops[j]? = some o → o.op ≠ .select cs b)
    {k0 : Nat} (ht : TailWaits md ops n k0) (hk0 : k0 ≤ i) (hin : i < n) (hend : ∀ ls a, L ls a → ∀ j ∈ Region.ready md ops ls, n ≤ j) (f : Nat) :
    ∀ (ls : Array Bool) (a : Act), HeadInv md ops n ls →
      (∀ j oj, ops[j]? = some oj → j ≠ i → ls.getD j true = false → (∀ e ∈ oj.after, Region.binds md e = true → e.on ≠ i) → oi.apart ops oj = true) →
      i ∈ Region.ready md ops ls → YieldsIn P ops C oi v a →
      headQ P md ops C n L f (ls.setIfInBounds i true) (a.put oi.dst v) → headQ P md ops C n L (f + 1) ls a := by
  induction f with
  | zero =>
    intro ls a inv _ hr hy H
    refine ⟨List.ne_nil_of_mem hr, fun j hj => ⟨below_tail ht inv hk0 hin hr hj, ?_⟩⟩
    rcases Classical.em (j = i) with rfl | hne
    · exact hy.qOp hi H
    · have h1 := hend _ _ H j (ready_mono hj hne)
      have h2 := below_tail ht inv hk0 hin hr hj
      omega
  | succ f ih =>
    intro ls a inv hfree hr hy H
    refine ⟨List.ne_nil_of_mem hr, fun j hj => ⟨below_tail ht inv hk0 hin hr hj, ?_⟩⟩
    rcases Classical.em (j = i) with rfl | hne
    · exact hy.qOp hi H
    have hjn := below_tail ht inv hk0 hin hr hj
    obtain ⟨hjl, oj, hoj, hw⟩ := mem_ready.1 hj
    have hno : ∀ e ∈ oj.after, Region.binds md e = true → e.on ≠ i := by
      intro e he hb heq
      have h1 := hw e he hb
      rw [heq, getD_both (mem_ready.1 hr).1] at h1
      exact Bool.noConfusion h1
    have hq := qOp_put hoj (hfree j oj hoj hne hjl hno) (fun cs b => hsel i oi cs b hi) (fun cs b => hsel j oj cs b hoj) hy ((H.2 j (ready_mono hj hne)).2)
    refine qOp_mono (fun a' h3 => ih _ a' (inv.set hj hjn) ?_ (ready_mono hr (Ne.symm hne)) h3.1 (by rw [Array.setIfInBounds_comm _ _ hne]; exact h3.2)) hq
    intro k ok hk hki hkl hkn
    refine hfree k ok hk hki ?_ hkn
    rcases Classical.em (j = k) with rfl | hjk
    · exact hjl
    · rwa [getD_set_ne true hjk] at hkl

theorem headQ.lex {n g k0 : Nat} {G : Act → Prop} (hsel : Region.noSelect ops = true) (ht : TailWaits md ops n k0) (l : List Oper) :
    ∀ (k : Nat) (ls : Array Bool) (a : Act), k0 ≤ k → (∀ j, j < l.length → l[j]? = ops[k + j]?) → k + l.length = n → HeadInv md ops n ls →
      Region.lexHead md ops g l.length k ls = true → wpQuiet P ops C G l a →
      headQ P md ops C n (fun ls' a' => Region.seqB md ops g n ls' = true ∧ G a') l.length ls a := by
  induction l with
  | nil =>
    intro k ls a _ _ hk _ hB h
    obtain rfl : k = n := hk
    exact ⟨hB, h⟩
  | cons o l ih =>
    intro k ls a hk0 hl hk inv hB h
    have h0 : ops[k]? = some o := (hl 0 (Nat.succ_pos _)).symm
    simp only [List.length_cons, Region.lexHead, Bool.and_eq_true] at hB hk
    have hkn : k < n := by omega
    have hr : k ∈ Region.ready md ops ls := by simpa using hB.1.1
    obtain ⟨v, hy, hK⟩ := yieldsIn_of_qOp (K := wpQuiet P ops C G l) h0 (by unfold qOp; rw [h0]; exact h)
    refine headQ.first h0 (Region.noSelect_spec hsel) ht hk0 hkn (fun _ _ hL => seqB_ready hL.1) l.length ls a inv (Region.free_spec h0 hB.1.2) hr hy ?_
    refine ih (k + 1) _ _ (by omega) (fun j hj => ?_) (by omega) (inv.set hr hkn) hB.2 hK
    have := hl (j + 1) (Nat.succ_lt_succ hj)
    rw [Nat.add_right_comm, Nat.add_assoc]
    simpa using this

/-- THE RULE: 'n' operations that are quiet in the class come in whatever order; those behind them, which wait for them, come one after another, from any world of the class. -/
theorem wp_region_quiet_tail {id : Nat} {Q : Exit → Act → World → Prop} {a : Act} {w : World} {l : List Oper} (n : Nat) (hm : P.follows .mixedOrders = true) (hB : Region.lexTailB .any l.toArray n = true)
    (hC : C { w with drawn := w.drawn + 1 })
    (h : wpQuiet P l.toArray C (fun a' => ∀ w', C w' → wpList P l.toArray Q (l.drop n) a' w') (l.take n) a) : (Code.region id l.toArray true).wp P Q a w := by
  simp only [Region.lexTailB, Bool.and_eq_true, decide_eq_true_eq] at hB
  obtain ⟨⟨⟨⟨hsel, hn⟩, hs⟩, hc⟩, hlex⟩ := hB
  have hn' : n < l.length := by simpa using hn
  have ht : (l.take n).length = n := by rw [List.length_take]; omega
  have inv0 : HeadInv .any l.toArray n (Array.replicate l.toArray.size false) :=
    ⟨by simp, fun j oj _ hl => by rw [getD_replicate_false] at hl; exact Bool.noConfusion hl, fun t _ h2 => getD_in (by simpa using h2) (getD_replicate_false _ _)⟩
  have H := headQ.lex (md := .any) (g := l.toArray.size - n) (k0 := 0) hsel (fun ls inv i _ hi hun => tail_waits hs hc hn inv _ i rfl hi hun) (l.take n) 0 _ a (Nat.zero_le _) (fun j hj => by rw [ht] at hj; simp [hj]) (by omega) inv0 (by rw [ht]; exact hlex) h
  refine wp_region_any hm ?_
  have R := headQ.any (Q := Q) (g := l.toArray.size - n) (fun ls a' w' hw hL => by
    have := wpAny_of_seq (md := .any) (Q' := Q) (l.drop n) n ls a' w' (fun j => by simp [List.getElem?_drop]) (by simpa using hL.1) (hL.2 w' hw)
    simpa using this) _ _ _ _ hC H
  rwa [ht, Nat.add_sub_cancel' (Nat.le_of_lt hn)] at R

/-- The closed conditions of the next rule. -/
def moveTailB (md : Region.Mode) (ops : Array Oper) (n : Nat) : Bool :=
  Region.noSelect ops && decide (n < ops.size) && decide (1 ≤ n) && sinkFrom md ops 1 n && Region.chainB md ops n &&
    (Region.ready md ops (Array.replicate ops.size false)).contains 0 && Region.free md ops (Array.replicate ops.size false) 0 &&
    Region.lexHead md ops (ops.size - n) (n - 1) 1 ((Array.replicate ops.size false).setIfInBounds 0 true)

/-- THE RULE where the first operation is a move that only the tail waits for ('x = append(x, ..)'): it is taken first. -/
theorem wp_region_move_tail {id : Nat} {Q : Exit → Act → World → Prop} {a : Act} {w : World} {o0 : Oper} {l : List Oper} (n : Nat) (x : Operand) (hx : o0.op = .move x) (hgd : o0.guard = none)
    (hm : P.follows .mixedOrders = true) (hB : moveTailB .any (o0 :: l).toArray (n + 1) = true) (hQ : ∀ c v a w, Q (.panic c) (a.put o0.dst v) w → Q (.panic c) a w)
    (hC : C { w with drawn := w.drawn + 1 })
    (h : wpQuiet P (o0 :: l).toArray C (fun a' => ∀ w', C w' → wpList P (o0 :: l).toArray Q (l.drop n) a' w') (l.take n) (a.put o0.dst (a.eval x))) : (Code.region id (o0 :: l).toArray true).wp P Q a w := by
  simp only [moveTailB, Bool.and_eq_true, decide_eq_true_eq] at hB
  obtain ⟨⟨⟨⟨⟨⟨⟨hsel, hn⟩, _⟩, hs⟩, hc⟩, hr⟩, hf⟩, hlex⟩ := hB
  have hn' : n < l.length := by simpa using hn
  have ht : (l.take n).length = n := by rw [List.length_take]; omega
  have inv0 : HeadInv .any (o0 :: l).toArray (n + 1) (Array.replicate (o0 :: l).toArray.size false) :=
    ⟨by simp, fun j oj _ hl => by rw [getD_replicate_false] at hl; exact Bool.noConfusion hl, fun t _ h2 => getD_in (by simpa using h2) (getD_replicate_false _ _)⟩
  have hr' : 0 ∈ Region.ready .any (o0 :: l).toArray (Array.replicate (o0 :: l).toArray.size false) := by simpa using hr
  have inv1 := inv0.set hr' (Nat.succ_pos _)
  have H := headQ.lex (md := .any) (g := (o0 :: l).toArray.size - (n + 1)) (k0 := 1) hsel (tailWaits_of hs hc) (l.take n) 1 _ (a.put o0.dst (a.eval x)) (Nat.le_refl _)
    (fun j hj => by rw [ht] at hj; simp [hj, Nat.add_comm 1 j]) (by omega) inv1 (by rw [ht]; simpa using hlex) h
  refine wp_region_any hm ?_
  have R := headQ.any (Q := Q) (g := (o0 :: l).toArray.size - (n + 1)) (fun ls a' w' hw hL => by
    have := wpAny_of_seq (md := .any) (Q' := Q) (l.drop n) (n + 1) ls a' w' (fun j => by simp [List.getElem?_drop, Nat.add_right_comm]) (by simpa using hL.1) (hL.2 w' hw)
    simpa using this) _ _ _ _ hC H
  rw [ht, show n + ((o0 :: l).toArray.size - (n + 1)) = l.length by simp; omega] at R
  have hy : Yields P (o0 :: l).toArray o0 (a.eval x) a := .inl ⟨by simp [Region.wanted, hgd], fun w => BigFrame.run_move x hx w⟩
  have F := wpAny_take (md := .any) (i := 0) (oi := o0) (fuel := l.length) rfl hsel hf hr (fun c a w => hQ c _ a w) hy R
  simpa using F

/-- A region all of whose operations are quiet in the class. -/
theorem wp_region_quiet_all {id : Nat} {Q : Exit → Act → World → Prop} {a : Act} {w : World} {l : List Oper} (hm : P.follows .mixedOrders = true) (hB : Region.lexB .any l.toArray = true)
    (hC : C { w with drawn := w.drawn + 1 }) (h : wpQuiet P l.toArray C (fun a' => ∀ w', C w' → Q .normal a' w') l a) : (Code.region id l.toArray true).wp P Q a w :=
  wp_region_quiet hm hB hC (by simpa using h)

/-- The same, where the head's operations and callees only read. -/
theorem wp_region_draws_tail {id : Nat} {Q : Exit → Act → World → Prop} {a : Act} {w : World} {l : List Oper} (n : Nat) (hm : P.follows .mixedOrders = true) (hB : Region.lexTailB .any l.toArray n = true)
    (h : wpQuiet P l.toArray (fun w' => ∃ k, w' = w.drewN k) (fun a' => ∀ w', (∃ k, w' = w.drewN k) → wpList P l.toArray Q (l.drop n) a' w') (l.take n) a) : (Code.region id l.toArray true).wp P Q a w :=
  wp_region_quiet_tail n hm hB ⟨1, rfl⟩ h
end

theorem setCell_drewN (w : World) (n : Nat) (a : Addr) (v : Value) : (w.drewN n).setCell a v = (w.setCell a v).drewN n := rfl
theorem alloc_drewN (w : World) (n : Nat) (o : Obj) : (w.drewN n).alloc o = (w.alloc o).drewN n := rfl
theorem below_drewN {B n : Nat} {a w : World} (h : Below B a w) : Below B a (w.drewN n) := ⟨h.os, h.tape, h.output, h.size, h.block⟩

/-- The worlds in which what stood in W stands as it did. -/
def Sub (W : World) : Type := { x : World // Below W.heap.size W x }
instance (W : World) : Nonempty (Sub W) := ⟨⟨W, Below.refl _ _⟩⟩
/-- The class of these worlds. -/
def InSub (W : World) (w' : World) : Prop := ∃ u : Sub W, w' = u.1
theorem InSub.drew (W : World) : InSub W { W with drawn := W.drawn + 1 } := ⟨⟨W.drew, (Below.refl _ _).drew⟩, rfl⟩
theorem InSub.of {W w : World} (h : Below W.heap.size W w) : InSub W w := ⟨⟨w, h⟩, rfl⟩

theorem subSame {P : Program} {f : FuncId} {args : Array Value} {W : World} {u : Sub W} {v : Value} (h : Calls P f args u.1 fun e w' => e = .returned v ∧ u.1 = w') :
    Calls P f args u.1 fun e w'' => e = .returned v ∧ ∃ x : Sub W, w'' = x.1 := h.mono fun _ _ ⟨he, hw⟩ => ⟨he, u, hw.symm⟩

theorem subBelow {P : Program} {f : FuncId} {args : Array Value} {W : World} {u : Sub W} {v : Value} (h : Calls P f args u.1 fun e w' => e = .returned v ∧ Below u.1.heap.size u.1 w') :
    Calls P f args u.1 fun e w'' => e = .returned v ∧ ∃ x : Sub W, w'' = x.1 := h.mono fun _ w' ⟨he, hw⟩ => ⟨he, ⟨w', u.2.trans (hw.mono u.2.size)⟩, rfl⟩

end Go.Proofs.YtclkckinpjkglaaDoor

/-
  Memory by footprints: which blocks a step may write, in which blocks a thing lies; slices that are somebody's own, of whatever elements. Nothing of the program is read here.
-/
namespace Go.Proofs.YtclkckinpjkglaaDoor
open Go Go.RowKit

/-- Of what stood in w only the blocks F may have turned. -/
structure Keeps (F : Nat → Prop) (w w' : World) : Prop where
  os : w'.os = w.os
  tape : w'.tape = w.tape
  output : w'.output = w.output
  size : w.heap.size ≤ w'.heap.size
  block : ∀ k, k < w.heap.size → ¬ F k → w'.heap[k]? = w.heap[k]?

/-- F' lies in F and in what was made since w. -/
def Within (w : World) (F F' : Nat → Prop) : Prop := ∀ k, F' k → F k ∨ w.heap.size ≤ k

/-- No block. -/
def noBlock (_ : Nat) : Prop := False

theorem Within.refl (w : World) (F : Nat → Prop) : Within w F F := fun _ h => .inl h
theorem Within.trans {a b : World} {F G H : Nat → Prop} (h : Within a F G) (k : Within b G H) (hs : a.heap.size ≤ b.heap.size) : Within a F H := fun i hi =>
  (k i hi).elim (fun h1 => h i h1) (fun h1 => .inr (Nat.le_trans hs h1))

theorem Keeps.refl (F : Nat → Prop) (w : World) : Keeps F w w := ⟨rfl, rfl, rfl, Nat.le_refl _, fun _ _ _ => rfl⟩
theorem Keeps.mono {F G : Nat → Prop} {w w' : World} (h : Keeps F w w') (hs : ∀ k, F k → G k) : Keeps G w w' :=
  ⟨h.os, h.tape, h.output, h.size, fun k hk hn => h.block k hk (fun e => hn (hs k e))⟩
theorem Keeps.trans {F G : Nat → Prop} {a b c : World} (h : Keeps F a b) (k : Keeps G b c) (hs : Within a F G) : Keeps F a c :=
  ⟨k.os.trans h.os, k.tape.trans h.tape, k.output.trans h.output, Nat.le_trans h.size k.size, fun i hi hn =>
    (k.block i (Nat.lt_of_lt_of_le hi h.size) (fun e => (hs i e).elim hn (fun h1 => by omega))).trans (h.block i hi hn)⟩
theorem Keeps.of_below {w w' : World} (h : Below w.heap.size w w') (F : Nat → Prop) : Keeps F w w' := ⟨h.os, h.tape, h.output, h.size, fun k hk _ => h.block k hk⟩
theorem Keeps.below {F : Nat → Prop} {w w' : World} (h : Keeps F w w') {B : Nat} (hB : B ≤ w.heap.size) (hF : ∀ k, F k → B ≤ k) : Below B w w' :=
  ⟨h.os, h.tape, h.output, h.size, fun k hk => h.block k (by omega) (fun e => by have := hF k e; omega)⟩
theorem Keeps.of_grown {F : Nat → Prop} {w w' : World} {row : Option Nat} (h : w.grownBy w' row) (hF : ∀ k, row = some k → F k) : Keeps F w w' :=
  ⟨h.os, h.tape, h.output, h.size, fun k hk hn => h.block k hk (fun e => hn (hF k e.symm))⟩
theorem Keeps.of_setCell (F : Nat → Prop) (w : World) (p : Addr) (u : Value) (hF : F p.block) : Keeps F w (w.setCell p u) :=
  ⟨rfl, rfl, rfl, by simp [World.setCell], fun k _ hn => Below.heap_setCell _ _ _ _ (fun e => hn (e ▸ hF))⟩
theorem Keeps.of_alloc (F : Nat → Prop) (w : World) (o : Obj) : Keeps F w (w.alloc o) := ⟨rfl, rfl, rfl, by simp, fun k hk _ => Below.heap_alloc _ _ _ hk⟩
theorem Keeps.of_drew (F : Nat → Prop) (w : World) : Keeps F w w.drew := ⟨rfl, rfl, rfl, Nat.le_refl _, fun _ _ _ => rfl⟩
/-- One step more that stays within F. -/
theorem Keeps.and {F : Nat → Prop} {a b c : World} (h : Keeps F a b) (k : Keeps F b c) : Keeps F a c := h.trans k (Within.refl _ _)

/-- A kind of elements: their cells. -/
structure Enc (P : Program) (α : Type) where
  slice : TypeId
  elem : TypeId
  size : Nat
  bytes : Nat
  cells : α → List Value
  zero : Value
  und : P.underlying slice = some (.slice elem)
  info : ∃ i, P.info? elem = some i ∧ i.zero = some zero ∧ i.size = size ∧ i.bytes = bytes
  zsize : zero.cells.size = size
  pos : 0 < size
  few : bytes ≤ 1000
  len : ∀ a, (cells a).length = size
  one : ∀ a, ∀ u ∈ cells a, u.oneCell' = true

section
variable {P : Program} {α : Type}

/-- The cells of a list of elements. -/
def Enc.all (E : Enc P α) (l : List α) : List Value := l.flatMap E.cells

theorem Enc.all_length (E : Enc P α) (l : List α) : (E.all l).length = l.length * E.size := by
  unfold Enc.all
  induction l with
  | nil => simp
  | cons a l ih => simp [ih, E.len, Nat.add_mul]; omega

theorem Enc.all_append (E : Enc P α) (l k : List α) : E.all (l ++ k) = E.all l ++ E.all k := by simp [Enc.all]

theorem Enc.all_one (E : Enc P α) (l : List α) : ∀ u ∈ E.all l, u.oneCell' = true := by
  intro u hu
  obtain ⟨a, _, h⟩ := List.mem_flatMap.1 hu
  exact E.one a u h

theorem Enc.all_get (E : Enc P α) (l : List α) : ∀ (i : Nat) (h : i < l.length) (j : Nat), j < E.size → (E.all l)[i * E.size + j]? = (E.cells l[i])[j]? := by
  induction l with
  | nil => intro i h; cases h
  | cons a l ih =>
    intro i h j hj
    have hl := E.len a
    cases i with
    | zero =>
      show (E.cells a ++ E.all l)[0 * E.size + j]? = (E.cells a)[j]?
      rw [Nat.zero_mul, Nat.zero_add, List.getElem?_append_left (by omega)]
    | succ i =>
      have hi : i < l.length := by simpa using h
      have := ih i hi j hj
      show (E.cells a ++ E.all l)[(i + 1) * E.size + j]? = (E.cells l[i])[j]?
      rw [List.getElem?_append_right (by rw [hl, Nat.add_mul]; omega), ← this]
      congr 1
      rw [hl, Nat.add_mul]; omega

theorem Enc.all_take (E : Enc P α) (l : List α) (n : Nat) (hn : n ≤ l.length) : E.all (l.take n) = (E.all l).take (n * E.size) := by
  have h : E.all l = E.all (l.take n) ++ E.all (l.drop n) := by rw [← E.all_append, List.take_append_drop]
  rw [h, List.take_left' (by rw [E.all_length, List.length_take, Nat.min_eq_left hn])]

/-- A slice of somebody's own that holds these elements. -/
def Owns (E : Enc P α) (w : World) (v : Value) (l : List α) : Prop := w.ownsRow 0 E.elem E.size v l.length (E.all l)

/-- A slice that reads as these elements. -/
def Reads (E : Enc P α) (w : World) (v : Value) (l : List α) : Prop :=
  (v = .slice none 0 0 ∧ l = []) ∨ ∃ ad cap, v = .slice (some ad) l.length cap ∧ ∀ j u, (E.all l)[j]? = some u → w.cell? (ad.add j) = some u

variable {E : Enc P α} {w w' : World} {v : Value} {l : List α}

theorem Reads.keep (h : Reads E w v l) (hb : Below w.heap.size w w') : Reads E w' v l := by
  rcases h with h | ⟨ad, cap, rfl, hc⟩
  · exact .inl h
  · refine .inr ⟨ad, cap, rfl, fun j u hj => ?_⟩
    have h1 := hc j u hj
    rw [hb.cell (p := ad.add j) (block_lt_of_cell h1)]
    exact h1

theorem Reads.form (h : Reads E w v l) : ∃ a cap, v = .slice a l.length cap := by
  rcases h with ⟨rfl, rfl⟩ | ⟨ad, cap, rfl, _⟩
  · exact ⟨none, 0, rfl⟩
  · exact ⟨_, _, rfl⟩

/-- An element of it, cell by cell. -/
theorem Reads.at {a : Option Addr} {cap : Nat} (h : Reads E w (.slice a l.length cap) l) (i : Nat) (hi : i < l.length) : ∃ ad, a = some ad ∧ ∀ j, j < E.size → w.cell? (ad.add (i * E.size + j)) = (E.cells l[i])[j]? := by
  rcases h with ⟨_, rfl⟩ | ⟨ad, cap', hv, hc⟩
  · cases hi
  · refine ⟨ad, by injection hv, fun j hj => ?_⟩
    have h1 := E.all_get l i hi j hj
    have hj2 : j < (E.cells l[i]).length := by rw [E.len]; exact hj
    rw [List.getElem?_eq_getElem hj2] at h1 ⊢
    exact hc _ _ h1

theorem Owns.reads (h : Owns E w v l) : Reads E w v l := by
  obtain ⟨h1, ⟨rfl, h2⟩ | ⟨g, cap, cur, rfl, hr⟩⟩ := h
  · exact .inl ⟨rfl, List.length_eq_zero_iff.1 h2⟩
  · have h := World.ownsRow.cells (w := w) (base := 0) (e := E.elem) (size := E.size) (v := .slice (some ⟨g, 0, none⟩) l.length cap) (n := l.length) (xs := E.all l) ⟨h1, .inr ⟨g, cap, cur, rfl, hr⟩⟩ (g := g) rfl
    exact .inr ⟨⟨g, 0, none⟩, cap, rfl, h⟩

theorem Owns.nil (E : Enc P α) (w : World) : Owns E w (.slice none 0 0) [] := ⟨by simp [Enc.all], .inl ⟨rfl, rfl⟩⟩

theorem Owns.block (h : Owns E w v l) (hb : ∀ g, v.ownBlock = some g → w'.heap[g]? = w.heap[g]?) : Owns E w' v l := by
  obtain ⟨h1, h2 | ⟨g, cap, cur, rfl, h3, h4, h5⟩⟩ := h
  · exact ⟨h1, .inl h2⟩
  · exact ⟨h1, .inr ⟨g, cap, cur, rfl, h3, (hb g rfl).trans h4, h5⟩⟩

theorem Owns.lt (h : Owns E w v l) (g : Nat) (hg : v.ownBlock = some g) : g < w.heap.size := (World.ownsRow.lt h g hg).2
theorem Owns.keep (h : Owns E w v l) {F : Nat → Prop} (hb : Keeps F w w') (hF : ∀ g, v.ownBlock = some g → ¬ F g) : Owns E w' v l :=
  h.block fun g hg => hb.block g (h.lt g hg) (hF g hg)
theorem Owns.alloc (h : Owns E w v l) (o : Obj) : Owns E (w.alloc o) v l := h.block fun g hg => heap_alloc_old _ _ (h.lt g hg)

/-- Its shape; what its cells hold; they may be written. -/
theorem Owns.form (h : Owns E w v l) : ∃ a cap, v = .slice a l.length cap ∧ l.length ≤ cap ∧ cap ≤ maxLen ∧ (a = none → cap = 0) ∧ ∀ ad, a = some ad → ∃ g, ad = ⟨g, 0, none⟩ ∧ v.ownBlock = some g ∧ (∀ j, w.frozen? ⟨g, j, none⟩ = false) ∧
    ∀ i (hi : i < l.length) j, j < E.size → w.cell? ⟨g, i * E.size + j, none⟩ = (E.cells l[i])[j]? := by
  obtain ⟨h1, ⟨rfl, h2⟩ | ⟨g, cap, cur, rfl, h3, h4, h5, h6, h7⟩⟩ := h
  · exact ⟨none, 0, by rw [h2], by omega, Nat.zero_le _, fun _ => rfl, fun ad h => by cases h⟩
  · refine ⟨some ⟨g, 0, none⟩, cap, rfl, h5, h6, (fun h => by cases h), fun ad he => ?_⟩
    cases he
    have H : w.ownsRow 0 E.elem E.size (.slice (some ⟨g, 0, none⟩) l.length cap) l.length (E.all l) := ⟨h1, .inr ⟨g, cap, cur, rfl, h3, h4, h5, h6, h7⟩⟩
    refine ⟨g, rfl, rfl, H.frozenAt, fun i hi j hj => ?_⟩
    have hlt : i * E.size + j < l.length * E.size := by
      have : (i + 1) * E.size ≤ l.length * E.size := Nat.mul_le_mul_right _ hi
      rw [Nat.add_mul] at this; omega
    rw [World.ownsRow.cellAt H _ hlt, E.all_get l i hi j hj]

/-- Its first n elements. -/
theorem Owns.take {a : Option Addr} {cap n : Nat} (h : Owns E w (.slice a l.length cap) l) (hn : n ≤ l.length) : Owns E w (.slice a n cap) (l.take n) := by
  have hl : (l.take n).length = n := by rw [List.length_take, Nat.min_eq_left hn]
  obtain ⟨h1, ⟨hv, h2⟩ | ⟨g, cap', cur, hv, h3, h4, h5, h6, h7, h8⟩⟩ := h
  · injection hv with ha _ hc
    obtain rfl : n = 0 := by omega
    subst ha hc
    exact ⟨by simp [Enc.all], .inl ⟨rfl, by simp⟩⟩
  · injection hv with ha _ hc
    subst ha hc
    refine ⟨by rw [E.all_length], .inr ⟨g, cap, cur, by rw [hl], h3, h4, by omega, h6, h7, ?_⟩⟩
    rw [hl, E.all_take l n hn, ← h8, List.take_take, Nat.min_eq_left (Nat.mul_le_mul_right _ hn)]

/-- One of its elements, of one cell, written. -/
theorem Owns.put {g cap i : Nat} {a : α} {u : Value} (h : Owns E w (.slice (some ⟨g, 0, none⟩) l.length cap) l) (hs : E.size = 1) (hu : E.cells a = [u]) (hi : i < l.length) :
    Owns E (w.setCell ⟨g, i, none⟩ u) (.slice (some ⟨g, 0, none⟩) l.length cap) (l.set i a) := by
  have h1 := (World.ownsRow.stored h i u).1
  have e : E.all (l.set i a) = (E.all l).set i u := by
    refine List.ext_getElem? fun j => ?_
    rcases Nat.lt_or_ge j l.length with hj | hj
    · have h2 := E.all_get (l.set i a) j (by simpa using hj) 0 (by omega)
      have h3 := E.all_get l j hj 0 (by omega)
      rw [hs, Nat.mul_one, Nat.add_zero] at h2 h3
      rw [h2, List.getElem?_set]
      split
      · rename_i he; subst he; simp [hu, E.all_length, hs, hi]
      · rename_i he; rw [h3, List.getElem_set_ne he]
    · rw [List.getElem?_eq_none (by rw [E.all_length, List.length_set, hs]; omega), List.getElem?_eq_none (by rw [List.length_set, E.all_length, hs]; omega)]
  unfold Owns
  rw [List.length_set, e]
  exact h1

/-- A slice that was just made of one element. -/
theorem Reads.one (E : Enc P α) (w : World) (a : α) (cs : Array Value) (hcs : cs.toList = E.cells a) (b : Nat) (hb : b = w.heap.size) : Reads E (w.alloc (.cells cs E.elem)) (.slice (some ⟨b, 0, none⟩) 1 1) [a] := by
  subst hb
  refine .inr ⟨⟨w.heap.size, 0, none⟩, 1, rfl, fun j u hj => ?_⟩
  rw [show (⟨w.heap.size, 0, none⟩ : Addr).add j = ⟨w.heap.size, j, none⟩ by simp [Addr.add]; omega, cell_of_row _ _ _ _ _ _ (heap_alloc_new _ _)]
  simp only [Enc.all, List.flatMap_cons, List.flatMap_nil, List.append_nil] at hj
  rw [← hj, ← hcs]
  simp

/-- append(x, y...), x somebody's own. -/
theorem wpList_append_owns {ops : Array Oper} {rest : List Oper} {o : Oper} {a : Act} {w : World} {Q : Exit → Act → World → Prop} (E : Enc P α) (hgd : o.guard = none) (s x : Operand)
    (ho : o.op = .call { callee := .builtin .append, args := #[s, x], argTypes := #[E.slice, E.slice] })
    (v y : Value) (l k : List α) (hs : a.eval s = v) (hown : Owns E w v l) (hx : a.eval x = y) (hsrc : Reads E w y k)
    (hn : l.length + k.length ≤ 1000000)
    (h : ∀ v' w', Owns E w' v' (l ++ k) → w.grownBy w' v.ownBlock → (v'.ownBlock = v.ownBlock ∨ v'.ownBlock = some w.heap.size) → wpList P ops Q rest (a.put o.dst v') w') : wpList P ops Q (o :: rest) a w := by
  obtain ⟨i, hi, hz, hsz, hby⟩ := E.info
  have hfew := E.few
  rcases hsrc with ⟨rfl, rfl⟩ | ⟨ad, cap, rfl, hc⟩
  · refine wpList_append_own_none hgd s x _ ho 0 E.elem i E.size E.und hi v l.length (E.all l) hs hown hx ?_
    refine h v w (by rw [List.append_nil]; exact hown) ⟨rfl, rfl, rfl, Nat.le_refl _, fun _ _ _ => rfl⟩ (.inl rfl)
  · have hb : (l.length + k.length) * E.bytes ≤ 1000000 * 1000 := Nat.mul_le_mul hn hfew
    refine wpList_append_own_at w hgd s x _ ho 0 E.elem i _ E.size E.bytes E.und hi hz hsz hby E.zsize E.pos v l.length (E.all l) hs hown ad k.length cap (E.all k) hx (E.all_length k) hc (E.all_one k) (by unfold maxLen; omega) (by omega) (Nat.zero_le _) ?_
    intro v' w' h1 h2 _ h4
    exact h v' w' (by unfold Owns; rw [List.length_append, E.all_append]; exact h1) h2 h4
end

end Go.Proofs.YtclkckinpjkglaaDoor

/-
  Slices of numbers and of bools.
-/
namespace Go.Proofs.YtclkckinpjkglaaDoor
open Go Go.RowKit

theorem info_of (P : Program) (t : TypeId) (z : Value) (s n : Nat) (h : (P.info? t).map (fun i => (i.zero, i.size, i.bytes)) = some (some z, s, n)) : ∃ i, P.info? t = some i ∧ i.zero = some z ∧ i.size = s ∧ i.bytes = n := by
  obtain ⟨i, hi, h0, h1, h2⟩ := info_parts h
  exact ⟨i, hi, h0, h1, h2⟩

/-- Numbers. -/
def encI : Enc Tryd.prog Int where
  slice := 71
  elem := 3
  size := 1
  bytes := 8
  cells n := [.int .i64 n]
  zero := .int .i64 0
  und := Tryd.underlying71
  info := info_of _ _ _ _ _ (by kernel_rfl)
  zsize := rfl
  pos := by decide
  few := by decide
  len _ := rfl
  one _ u h := by cases List.mem_singleton.1 h; rfl

theorem Owns.intAt {w : World} {g cap : Nat} {l : List Int} (h : Owns encI w (.slice (some ⟨g, 0, none⟩) l.length cap) l) (i : Nat) (hi : i < l.length) : w.cell? ⟨g, i, none⟩ = some (.int .i64 l[i]) := by
  obtain ⟨a, c, hv, _, _, _, H⟩ := h.form
  injection hv with ha _ hc
  obtain ⟨g', e, _, _, hcell⟩ := H ⟨g, 0, none⟩ ha.symm
  cases e
  have := hcell i hi 0 (by decide)
  simpa [encI] using this

theorem appendI {ops : Array Oper} {rest : List Oper} {o : Oper} {a : Act} {w : World} {Q : Exit → Act → World → Prop} (hgd : o.guard = none) (s x : Operand)
    (ho : o.op = .call { callee := .builtin .append, args := #[s, x], argTypes := #[71, 71] })
    (v y : Value) (l k : List Int) (hs : a.eval s = v) (hown : Owns encI w v l) (hx : a.eval x = y) (hsrc : Reads encI w y k) (hn : l.length + k.length ≤ 1000000)
    (h : ∀ v' w', Owns encI w' v' (l ++ k) → w.grownBy w' v.ownBlock → (v'.ownBlock = v.ownBlock ∨ v'.ownBlock = some w.heap.size) → wpList Tryd.prog ops Q rest (a.put o.dst v') w') : wpList Tryd.prog ops Q (o :: rest) a w :=
  wpList_append_owns encI hgd s x ho v y l k hs hown hx hsrc hn h

theorem oneI (w : World) (n : Int) (b : Nat) (hb : b = w.heap.size := by rfl) : Reads encI (w.alloc (.cells #[.int .i64 n] 3)) (.slice (some ⟨b, 0, none⟩) 1 1) [n] := Reads.one encI w n _ rfl b hb

/-- Bools. -/
def encB : Enc Tryd.prog Bool where
  slice := 70
  elem := 4
  size := 1
  bytes := 1
  cells n := [.bool n]
  zero := .bool false
  und := Tryd.underlying70
  info := info_of _ _ _ _ _ (by kernel_rfl)
  zsize := rfl
  pos := by decide
  few := by decide
  len _ := rfl
  one _ u h := by cases List.mem_singleton.1 h; rfl

theorem Owns.boolAt {w : World} {g cap : Nat} {l : List Bool} (h : Owns encB w (.slice (some ⟨g, 0, none⟩) l.length cap) l) (i : Nat) (hi : i < l.length) : w.cell? ⟨g, i, none⟩ = some (.bool l[i]) := by
  obtain ⟨a, c, hv, _, _, _, H⟩ := h.form
  injection hv with ha _ hc
  obtain ⟨g', e, _, _, hcell⟩ := H ⟨g, 0, none⟩ ha.symm
  cases e
  have := hcell i hi 0 (by decide)
  simpa [encB] using this

theorem appendB {ops : Array Oper} {rest : List Oper} {o : Oper} {a : Act} {w : World} {Q : Exit → Act → World → Prop} (hgd : o.guard = none) (s x : Operand)
    (ho : o.op = .call { callee := .builtin .append, args := #[s, x], argTypes := #[70, 70] })
    (v y : Value) (l k : List Bool) (hs : a.eval s = v) (hown : Owns encB w v l) (hx : a.eval x = y) (hsrc : Reads encB w y k) (hn : l.length + k.length ≤ 1000000)
    (h : ∀ v' w', Owns encB w' v' (l ++ k) → w.grownBy w' v.ownBlock → (v'.ownBlock = v.ownBlock ∨ v'.ownBlock = some w.heap.size) → wpList Tryd.prog ops Q rest (a.put o.dst v') w') : wpList Tryd.prog ops Q (o :: rest) a w :=
  wpList_append_owns encB hgd s x ho v y l k hs hown hx hsrc hn h

theorem oneB (w : World) (n : Bool) (b : Nat) (hb : b = w.heap.size := by rfl) : Reads encB (w.alloc (.cells #[.bool n] 4)) (.slice (some ⟨b, 0, none⟩) 1 1) [n] := Reads.one encB w n _ rfl b hb

theorem Owns.free {P : Program} {α : Type} {E : Enc P α} {w : World} {g n cap : Nat} {l : List α} (h : Owns E w (.slice (some ⟨g, 0, none⟩) n cap) l) (j : Nat) : w.frozen? ⟨g, j, none⟩ = false := by
  obtain ⟨a, c, hv, _, _, _, H⟩ := h.form
  injection hv with ha _ hc
  obtain ⟨g', e, _, hf, _⟩ := H ⟨g, 0, none⟩ ha.symm
  cases e
  exact hf j

theorem Owns.some {P : Program} {α : Type} {E : Enc P α} {w : World} {v : Value} {l : List α} (h : Owns E w v l) (hl : 0 < l.length) : ∃ g cap, v = .slice (some ⟨g, 0, none⟩) l.length cap ∧ l.length ≤ cap ∧ cap ≤ maxLen := by
  obtain ⟨a, c, rfl, h1, h2, h3, H⟩ := h.form
  cases a with
  | none => have := h3 rfl; omega
  | some ad => obtain ⟨g, rfl, _⟩ := H ad rfl; exact ⟨g, c, rfl, h1, h2⟩

/-- A slice of numbers of somebody's own, made since w. -/
structure WRel (w : World) (out : List Int) (v : Value) (wr : World) : Prop where
  own : Owns encI wr v out
  new : ∀ g, v.ownBlock = some g → w.heap.size ≤ g
  below : Below w.heap.size w wr

theorem WRel.keep' {w W W' : World} {l : List Int} {v : Value} (h : WRel w l v W) (hb : Below W.heap.size W W') : WRel w l v W' :=
  ⟨h.own.block fun g hg => hb.block g (h.own.lt g hg), h.new, h.below.trans (hb.mono h.below.size)⟩

theorem Reads.intAt {w : World} {a : Option Addr} {cap : Nat} {l : List Int} (h : Reads encI w (.slice a l.length cap) l) (i : Nat) (hi : i < l.length) : ∃ ad, a = some ad ∧ w.cell? (ad.add i) = some (.int .i64 l[i]) := by
  obtain ⟨ad, rfl, H⟩ := h.at i hi
  have := H 0 (by decide)
  exact ⟨ad, rfl, by simpa [encI] using this⟩

end Go.Proofs.YtclkckinpjkglaaDoor
