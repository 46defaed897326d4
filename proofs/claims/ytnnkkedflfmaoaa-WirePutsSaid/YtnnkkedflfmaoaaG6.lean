/-
  Texts of this proof, one behind the other: WireW, WireP.
-/
import Derived.Test.YtnnkkedflfmaoaaG5
import Derived.Deep.CutRange
import Derived.ChangeKeysEq
/-
  Walks of package wire: a part, the parts of a request, the parts of an answer.
-/
namespace Go.Proofs.Ytnnkkedflfmaoaa
open Go Go.RowKit

set_option maxRecDepth 100000 in
set_option maxHeartbeats 4000000 in
theorem wireMay (p : Prt) (n : Nat) (w : World) :
    Calls Try.prog 28 #[.agg #[.int .i64 p.pl, .int .i64 p.wide, .int .u64 p.lo, .int .u64 p.hi], .int .u64 n] w fun e w' => e = .returned (.bool (p.ok n)) ∧ Below w.heap.size w w' := by
  unfold Prt.ok
  obtain ⟨pl, wide, lo, hi⟩ := p
  dsimp only
  by_cases h : lo ≤ n
  · have h' : (lo : Int) ≤ (n : Int) := by omega
    rw [decide_eq_true h, Bool.true_and]
    go_enter Try.func28, Try.ntmps28
    go_wp2
    all_goals go_ret
    all_goals refine ⟨?_, by go_grown⟩
    all_goals first | rfl | (congr 2; simp) | skip
  · have h' : ¬ (lo : Int) ≤ (n : Int) := by omega
    rw [decide_eq_false h, Bool.false_and]
    go_enter Try.func28, Try.ntmps28
    go_wp2
    all_goals go_ret
    all_goals refine ⟨?_, by go_grown⟩
    all_goals first | rfl | (congr 2; simp) | skip

set_option maxRecDepth 100000 in
set_option maxHeartbeats 4000000 in
theorem wireAnswer (w : World) :
    Calls Try.prog 24 #[] w fun e w' => ∃ v, e = .returned v ∧ RC encP w' v answerP ∧ Below w.heap.size w w' := by
  go_enter Try.func24, Try.ntmps24
  go_wp2
  go_ret
  exact ⟨_, rfl, ⟨Reads.made encP w answerP _ rfl _ _ rfl rfl, fun a n c e => by injection e; omega⟩, by go_grown⟩

theorem HoldsP.new (w : World) (p : Prt) (b : Nat) (hb : b = w.heap.size) : HoldsP (w.alloc (.cells #[.int .i64 p.pl, .int .i64 p.wide, .int .u64 p.lo, .int .u64 p.hi] 66)) b p := by
  subst hb
  exact heap_alloc_new _ _
theorem HoldsP.later {w : World} {b : Nat} {p : Prt} (h : HoldsP w b p) (o : Obj) : HoldsP (w.alloc o) b p := (heap_alloc_old _ _ h.lt).trans h

set_option maxRecDepth 100000 in
set_option maxHeartbeats 16000000 in
theorem wireNamed (op : Int) (w : World) :
    Calls Try.prog 29 #[.int .i64 op] w fun e w' => ∃ v, e = .returned v ∧ Reads encP w' v (named op.toNat) ∧ Below w.heap.size w w' := by
  have hA : HoldsP (((((w.alloc (.cells #[.int .i64 2, .int .i64 8, .int .u64 0, .int .u64 18446744073709551615] 66)).alloc (.cells #[.int .i64 3, .int .i64 8, .int .u64 0, .int .u64 18446744073709551615] 66)).alloc (.cells #[.int .i64 4, .int .i64 8, .int .u64 0, .int .u64 18446744073709551615] 66)).alloc (.cells #[.int .i64 5, .int .i64 1, .int .u64 0, .int .u64 7] 66)).alloc (.cells #[.int .i64 6, .int .i64 1, .int .u64 0, .int .u64 1] 66)) w.heap.size pA := ((((HoldsP.new w pA _ (by simp)).later _).later _).later _).later _
  have hB : HoldsP (((((w.alloc (.cells #[.int .i64 2, .int .i64 8, .int .u64 0, .int .u64 18446744073709551615] 66)).alloc (.cells #[.int .i64 3, .int .i64 8, .int .u64 0, .int .u64 18446744073709551615] 66)).alloc (.cells #[.int .i64 4, .int .i64 8, .int .u64 0, .int .u64 18446744073709551615] 66)).alloc (.cells #[.int .i64 5, .int .i64 1, .int .u64 0, .int .u64 7] 66)).alloc (.cells #[.int .i64 6, .int .i64 1, .int .u64 0, .int .u64 1] 66)) (w.heap.size + 1) pB := (((HoldsP.new (w.alloc (.cells #[.int .i64 2, .int .i64 8, .int .u64 0, .int .u64 18446744073709551615] 66)) pB _ (by simp)).later _).later _).later _
  have hC : HoldsP (((((w.alloc (.cells #[.int .i64 2, .int .i64 8, .int .u64 0, .int .u64 18446744073709551615] 66)).alloc (.cells #[.int .i64 3, .int .i64 8, .int .u64 0, .int .u64 18446744073709551615] 66)).alloc (.cells #[.int .i64 4, .int .i64 8, .int .u64 0, .int .u64 18446744073709551615] 66)).alloc (.cells #[.int .i64 5, .int .i64 1, .int .u64 0, .int .u64 7] 66)).alloc (.cells #[.int .i64 6, .int .i64 1, .int .u64 0, .int .u64 1] 66)) (w.heap.size + 2) pC := ((HoldsP.new ((w.alloc (.cells #[.int .i64 2, .int .i64 8, .int .u64 0, .int .u64 18446744073709551615] 66)).alloc (.cells #[.int .i64 3, .int .i64 8, .int .u64 0, .int .u64 18446744073709551615] 66)) pC _ (by simp)).later _).later _
  have hN : HoldsP (((((w.alloc (.cells #[.int .i64 2, .int .i64 8, .int .u64 0, .int .u64 18446744073709551615] 66)).alloc (.cells #[.int .i64 3, .int .i64 8, .int .u64 0, .int .u64 18446744073709551615] 66)).alloc (.cells #[.int .i64 4, .int .i64 8, .int .u64 0, .int .u64 18446744073709551615] 66)).alloc (.cells #[.int .i64 5, .int .i64 1, .int .u64 0, .int .u64 7] 66)).alloc (.cells #[.int .i64 6, .int .i64 1, .int .u64 0, .int .u64 1] 66)) (w.heap.size + 3) pN := (HoldsP.new (((w.alloc (.cells #[.int .i64 2, .int .i64 8, .int .u64 0, .int .u64 18446744073709551615] 66)).alloc (.cells #[.int .i64 3, .int .i64 8, .int .u64 0, .int .u64 18446744073709551615] 66)).alloc (.cells #[.int .i64 4, .int .i64 8, .int .u64 0, .int .u64 18446744073709551615] 66)) pN _ (by simp)).later _
  have hT : HoldsP (((((w.alloc (.cells #[.int .i64 2, .int .i64 8, .int .u64 0, .int .u64 18446744073709551615] 66)).alloc (.cells #[.int .i64 3, .int .i64 8, .int .u64 0, .int .u64 18446744073709551615] 66)).alloc (.cells #[.int .i64 4, .int .i64 8, .int .u64 0, .int .u64 18446744073709551615] 66)).alloc (.cells #[.int .i64 5, .int .i64 1, .int .u64 0, .int .u64 7] 66)).alloc (.cells #[.int .i64 6, .int .i64 1, .int .u64 0, .int .u64 1] 66)) (w.heap.size + 4) pT := HoldsP.new ((((w.alloc (.cells #[.int .i64 2, .int .i64 8, .int .u64 0, .int .u64 18446744073709551615] 66)).alloc (.cells #[.int .i64 3, .int .i64 8, .int .u64 0, .int .u64 18446744073709551615] 66)).alloc (.cells #[.int .i64 4, .int .i64 8, .int .u64 0, .int .u64 18446744073709551615] 66)).alloc (.cells #[.int .i64 5, .int .i64 1, .int .u64 0, .int .u64 7] 66)) pT _ (by simp)
  have hV : Below w.heap.size w (((((w.alloc (.cells #[.int .i64 2, .int .i64 8, .int .u64 0, .int .u64 18446744073709551615] 66)).alloc (.cells #[.int .i64 3, .int .i64 8, .int .u64 0, .int .u64 18446744073709551615] 66)).alloc (.cells #[.int .i64 4, .int .i64 8, .int .u64 0, .int .u64 18446744073709551615] 66)).alloc (.cells #[.int .i64 5, .int .i64 1, .int .u64 0, .int .u64 7] 66)).alloc (.cells #[.int .i64 6, .int .i64 1, .int .u64 0, .int .u64 1] 66)) := by go_grown
  go_enter Try.func29, Try.ntmps29
  go_upto_region 6 with (fail)
  generalize (((((w.alloc (.cells #[.int .i64 2, .int .i64 8, .int .u64 0, .int .u64 18446744073709551615] 66)).alloc (.cells #[.int .i64 3, .int .i64 8, .int .u64 0, .int .u64 18446744073709551615] 66)).alloc (.cells #[.int .i64 4, .int .i64 8, .int .u64 0, .int .u64 18446744073709551615] 66)).alloc (.cells #[.int .i64 5, .int .i64 1, .int .u64 0, .int .u64 7] 66)).alloc (.cells #[.int .i64 6, .int .i64 1, .int .u64 0, .int .u64 1] 66)) = V at *
  have hs := hV.size
  obtain ⟨cA0, cA1, cA2, cA3⟩ := hA.cells
  obtain ⟨cB0, cB1, cB2, cB3⟩ := hB.cells
  obtain ⟨cC0, cC1, cC2, cC3⟩ := hC.cells
  obtain ⟨cN0, cN1, cN2, cN3⟩ := hN.cells
  obtain ⟨cT0, cT1, cT2, cT3⟩ := hT.cells
  simp only [pA, pB, pC, pN, pT] at cA0 cA1 cA2 cA3 cB0 cB1 cB2 cB3 cC0 cC1 cC2 cC3 cN0 cN1 cN2 cN3 cT0 cT1 cT2 cT3
  clear hA hB hC hN hT
  by_cases ho : 1 ≤ op ∧ op ≤ 21
  · rcases (by omega : op = 1 ∨ op = 2 ∨ op = 3 ∨ op = 4 ∨ op = 5 ∨ op = 6 ∨ op = 7 ∨ op = 8 ∨ op = 9 ∨ op = 10 ∨ op = 11 ∨ op = 12 ∨ op = 13 ∨ op = 14 ∨ op = 15 ∨ op = 16 ∨ op = 17 ∨ op = 18 ∨ op = 19 ∨ op = 20 ∨ op = 21) with rfl | rfl | rfl | rfl | rfl | rfl | rfl | rfl | rfl | rfl | rfl | rfl | rfl | rfl | rfl | rfl | rfl | rfl | rfl | rfl | rfl
    all_goals clear ho
    all_goals go_wp2
    all_goals go_ret
    all_goals refine ⟨_, rfl, ?_, ?_⟩
    all_goals first
      | exact hV
      | exact hV.alloc hs _
      | exact Reads.made encP V _ _ rfl _ _ rfl rfl
      | exact .inl ⟨rfl, rfl⟩
  · have e0 : named op.toNat = [] := by
      rcases Int.lt_or_le op 1 with h | h
      · rw [show op.toNat = 0 by omega]; rfl
      · exact named_over _ (by omega)
    have HE := Lib.hid e0
    have H2 : ∀ k : Int, 1 ≤ k → k ≤ 21 → (op == k) = false := fun k h1 h2 => by rw [beq_eq_false_iff_ne]; omega
    have n1 : (op == 1) = false := H2 _ (by decide) (by decide)
    have n3 : (op == 3) = false := H2 _ (by decide) (by decide)
    have n4 : (op == 4) = false := H2 _ (by decide) (by decide)
    have n5 : (op == 5) = false := H2 _ (by decide) (by decide)
    have n6 : (op == 6) = false := H2 _ (by decide) (by decide)
    have n7 : (op == 7) = false := H2 _ (by decide) (by decide)
    have n8 : (op == 8) = false := H2 _ (by decide) (by decide)
    have n9 : (op == 9) = false := H2 _ (by decide) (by decide)
    have n10 : (op == 10) = false := H2 _ (by decide) (by decide)
    have n11 : (op == 11) = false := H2 _ (by decide) (by decide)
    have n12 : (op == 12) = false := H2 _ (by decide) (by decide)
    have n13 : (op == 13) = false := H2 _ (by decide) (by decide)
    have n14 : (op == 14) = false := H2 _ (by decide) (by decide)
    have n15 : (op == 15) = false := H2 _ (by decide) (by decide)
    have n16 : (op == 16) = false := H2 _ (by decide) (by decide)
    have n17 : (op == 17) = false := H2 _ (by decide) (by decide)
    have n18 : (op == 18) = false := H2 _ (by decide) (by decide)
    have n19 : (op == 19) = false := H2 _ (by decide) (by decide)
    have n20 : (op == 20) = false := H2 _ (by decide) (by decide)
    clear ho e0 H2
    go_wp2
    go_ret
    exact ⟨_, rfl, by rw [HE.out]; exact .inl ⟨rfl, rfl⟩, hV⟩

set_option maxRecDepth 100000 in
set_option maxHeartbeats 4000000 in
theorem wireRequest (op : Int) (w : World) :
    Calls Try.prog 19 #[.int .i64 op] w fun e w' => ∃ v, e = .returned v ∧ RC encP w' v (request op.toNat) ∧ Below w.heap.size w w' := by
  have hN : headP.length + (named op.toNat).length ≤ 1000000 := by
    have := named_few op.toNat
    have : headP.length = 2 := rfl
    omega
  go_enter Try.func19, Try.ntmps19
  go_wp2_with fail
  refine (wireNamed op _).mono ?_
  rintro e w1 ⟨v, rfl, hv, hb⟩
  have h0 := (Owns.made encP w headP _ rfl _ rfl (by decide)).block (w' := w1) (fun g hg => hb.block g (by cases hg; simp))
  have R : NRel encP w headP _ w1 := ⟨h0, fun g hg => by cases hg; exact Nat.le_refl _, (by go_grown : Below w.heap.size w _).trans (hb.mono (by simp))⟩
  clear hb
  go_wp2_with (at_builtin; refine wpList_append_owns encP rfl (.tmp 5) (.tmp 7) rfl _ _ headP (named op.toNat) rfl h0 rfl hv hN ?_; intro v' w2 hown hgr hat)
  go_ret
  have R2 := R.grow hown hgr hat
  exact ⟨_, rfl, R2.own.rc, R2.below⟩

end Go.Proofs.Ytnnkkedflfmaoaa

/-
  Walks of package wire: put.
-/
namespace Go.Proofs.Ytnnkkedflfmaoaa
open Go Go.RowKit

theorem equal_n7 (d : Nat) (m : NF) (w : World) : (Op.equalIn (d + 1 + 1) 54 (.agg #[.int .u64 (m 0), .int .u64 (m 1), .int .u64 (m 2), .int .u64 (m 3), .int .u64 (m 4), .int .u64 (m 5), .int .u64 (m 6)]) (.agg #[.int .u64 0, .int .u64 0, .int .u64 0, .int .u64 0, .int .u64 0, .int .u64 0, .int .u64 0])).run Try.prog w = .ok (decide m.none7) w := by
  obtain ⟨i, hi⟩ : ∃ i, Try.prog.info? 22 = some i := info_of_underlying Try.underlying22
  rw [run_equalIn_array w (d + 1) _ _ Try.underlying54 hi]
  have hc : Try.prog.cellsOf 22 = 1 := by kernel_rfl
  have hr : List.range 7 = [0, 1, 2, 3, 4, 5, 6] := rfl
  rw [hc, hr]
  have e : decide m.none7 = (((m 0 : Int) == 0) && (((m 1 : Int) == 0) && (((m 2 : Int) == 0) && (((m 3 : Int) == 0) && (((m 4 : Int) == 0) && (((m 5 : Int) == 0) && ((m 6 : Int) == 0))))))) := by
    rw [Bool.eq_iff_iff]
    simp only [decide_eq_true_eq, Bool.and_eq_true, beq_iff_eq]
    constructor
    · intro h
      have h0 := h 0 (by decide)
      have h1 := h 1 (by decide)
      have h2 := h 2 (by decide)
      have h3 := h 3 (by decide)
      have h4 := h 4 (by decide)
      have h5 := h 5 (by decide)
      have h6 := h 6 (by decide)
      omega
    · rintro ⟨h0, h1, h2, h3, h4, h5, h6⟩ i hi
      rcases (by omega : i = 0 ∨ i = 1 ∨ i = 2 ∨ i = 3 ∨ i = 4 ∨ i = 5 ∨ i = 6) with rfl | rfl | rfl | rfl | rfl | rfl | rfl <;> omega
  rw [e]
  clear e
  generalize ((m 0 : Nat) : Int) = a0
  generalize ((m 1 : Nat) : Int) = a1
  generalize ((m 2 : Nat) : Int) = a2
  generalize ((m 3 : Nat) : Int) = a3
  generalize ((m 4 : Nat) : Int) = a4
  generalize ((m 5 : Nat) : Int) = a5
  generalize ((m 6 : Nat) : Int) = a6
  have hq : ∀ (w : World) (a b : Int), (Op.equalIn (d + 1) 22 (.int .u64 a) (.int .u64 b)).run Try.prog w = .ok (a == b) w := fun w a b => run_equalIn_int w d _ _ _ _ _ Try.underlying22
  by_cases h0 : a0 = 0
  · by_cases h1 : a1 = 0
    · by_cases h2 : a2 = 0
      · by_cases h3 : a3 = 0
        · by_cases h4 : a4 = 0
          · by_cases h5 : a5 = 0
            · by_cases h6 : a6 = 0
              · simp [Op.eqItems, part, go_sem, hq, h0, h1, h2, h3, h4, h5, h6]
              · simp [Op.eqItems, part, go_sem, hq, h0, h1, h2, h3, h4, h5, h6]
            · simp [Op.eqItems, part, go_sem, hq, h0, h1, h2, h3, h4, h5]
          · simp [Op.eqItems, part, go_sem, hq, h0, h1, h2, h3, h4]
        · simp [Op.eqItems, part, go_sem, hq, h0, h1, h2, h3]
      · simp [Op.eqItems, part, go_sem, hq, h0, h1, h2]
    · simp [Op.eqItems, part, go_sem, hq, h0, h1]
  · simp [Op.eqItems, part, go_sem, hq, h0]

theorem neq_n7 (m : NF) (w : World) : (binOp .neq 54 (.agg #[.int .u64 (m 0), .int .u64 (m 1), .int .u64 (m 2), .int .u64 (m 3), .int .u64 (m 4), .int .u64 (m 5), .int .u64 (m 6)]) (.agg #[.int .u64 0, .int .u64 0, .int .u64 0, .int .u64 0, .int .u64 0, .int .u64 0, .int .u64 0])).run Try.prog w = .ok (.bool !(decide m.none7)) w := by
  rw [run_neq_struct, equal_n7 9998 m w]
  rfl
theorem guard_n7 (op : BinOp) (x y : Operand) (a b : Array Value) (w : World) : (eqGuard op 54 x y (.agg a) (.agg b)).run Try.prog w = .ok () w :=
  run_eqGuard_agg w op _ x y _ _ (by kernel_rfl)

/-- Where put stands. -/
structure PutR (w : World) (b : Nat) (m : NF) (acc : List Nat) (vo : Value) (wr : World) : Prop where
  nums : HoldsN7 wr b m
  own : Owns encY wr vo acc
  new : ∀ g, vo.ownBlock = some g → w.heap.size ≤ g ∧ g ≠ b
  low : w.heap.size ≤ b
  below : Below w.heap.size w wr

section
variable {w wr w' : World} {b bp : Nat} {m : NF} {acc : List Nat} {vo : Value} {p : Prt}

theorem PutR.sub (h : PutR w b m acc vo wr) (hb : Below wr.heap.size wr w') : PutR w b m acc vo w' :=
  ⟨h.nums.below hb, h.own.block fun g hg => hb.block g (h.own.lt g hg), h.new, h.low, h.below.trans (hb.mono h.below.size)⟩
theorem PutR.set (h : PutR w b m acc vo wr) {i : Nat} (hi : i < 7) (v : Nat) : PutR w b (m.put i v) acc vo (wr.setCell ⟨b, i, none⟩ (.int .u64 v)) :=
  have hK : Keeps (only b) wr (wr.setCell ⟨b, i, none⟩ (.int .u64 v)) := Keeps.of_setCell _ _ _ _ rfl
  ⟨h.nums.set hi v, h.own.keep hK fun g hg e => (h.new g hg).2 e, h.new, h.low, h.below.trans (hK.below h.below.size fun k hk => by rw [hk]; exact h.low)⟩

/-- .. within a part's bytes. -/
structure PutI (w : World) (b : Nat) (m : NF) (bp : Nat) (p : Prt) (acc : List Nat) (vo : Value) (wr : World) : Prop where
  r : PutR w b m acc vo wr
  part : HoldsP wr bp p
  apart : ∀ g, vo.ownBlock = some g → g ≠ bp
  lowp : w.heap.size ≤ bp

theorem PutI.sub (h : PutI w b m bp p acc vo wr) (hb : Below wr.heap.size wr w') : PutI w b m bp p acc vo w' := ⟨h.r.sub hb, h.part.below hb, h.apart, h.lowp⟩
theorem PutI.push (h : PutI w b m bp p acc vo wr) (o : Obj) {w2 : World} {v' : Value} {l : List Nat} (hown : Owns encY w2 v' l) (hgr : (wr.alloc o).grownBy w2 vo.ownBlock) (hat : v'.ownBlock = vo.ownBlock ∨ v'.ownBlock = some (wr.alloc o).heap.size) :
    PutI w b m bp p l v' w2 := by
  have hb : Below wr.heap.size wr (wr.alloc o) := by go_grown
  have h1 := h.sub hb
  have hK : Keeps (fun k => vo.ownBlock = some k) (wr.alloc o) w2 := Keeps.of_grown hgr fun k e => e
  have hn := h1.r.nums.lt
  have hp := h1.part.lt
  refine ⟨⟨h1.r.nums.keep hK (fun e => (h.r.new _ e).2 rfl), hown, fun g hg => ?_, h.r.low, h1.r.below.trans (hK.below h1.r.below.size fun k hk => (h.r.new k hk).1)⟩, h1.part.keep hK (fun e => h.apart _ e rfl), fun g hg => ?_, h.lowp⟩
  · rcases hat with hat | hat
    · exact h.r.new g (hat ▸ hg)
    · rw [hat] at hg; injection hg with hg; have := h1.r.below.size; omega
  · rcases hat with hat | hat
    · exact h.apart g (hat ▸ hg)
    · rw [hat] at hg; injection hg with hg; omega
end

/-- What put tells. -/
def PutPost (o : Option (List Nat)) (w : World) (r x : Value) (w' : World) : Prop :=
  match o with
  | some b => x = .nilIface ∧ NRel encY w b r w'
  | none => r = .slice none 0 0 ∧ x = .iface 59 (.int .i64 1) ∧ Below w.heap.size w w'

set_option maxRecDepth 100000 in
set_option maxHeartbeats 16000000 in
theorem wirePut (f : List Prt) (v : Value) (n : NF) (w : World) (hv : RC encP w v f) (hf : Form f) (hl : f.length ≤ 10) :
    Calls Try.prog 18 #[v, .agg #[.int .u64 (n 0), .int .u64 (n 1), .int .u64 (n 2), .int .u64 (n 3), .int .u64 (n 4), .int .u64 (n 5), .int .u64 (n 6)]] w fun e w' => ∃ r x, e = .returned (.tuple #[r, x]) ∧ PutPost (putN f n) w r x w' := by
  obtain ⟨a, cap, rfl, hcap⟩ := hv.form
  have hN := Lib.hid (HoldsN7.made w n)
  have HV := Lib.hid hv.reads
  have hP : ∀ o, o = putN f n → putN f n = o := fun o e => e.symm
  generalize hO : putN f n = O
  replace hO := Lib.hid hO
  clear hv hcap hP
  go_enter Try.func18, Try.ntmps18
  go_wp2
  go_loopw [6, 12] (fun vo i wr => ∃ (k : Nat) (m : NF) (acc : List Nat), i = .int .i64 k ∧ k ≤ f.length ∧ Hid (putGo (f.drop k) m acc = putGo f n []) ∧ acc.length ≤ 8 * k ∧ PutR w w.heap.size m acc vo wr) (fun _ i _ => f.length - (intOf i).toNat)
  case atStart => exact ⟨0, n, [], rfl, by omega, rfl, by simp, ⟨hN.out, Owns.nil _ _, (fun g h => by cases h), Nat.le_refl _, by go_grown⟩⟩
  case round =>
    obtain ⟨k, m, acc, rfl, hk, hg, ha, R⟩ := hrel
    by_cases hlt : k < f.length
    · have hk0 : (0 : Int) ≤ (k : Int) := by omega
      have hk1 : (k : Int) < (f.length : Int) := by omega
      obtain ⟨ad, rfl, q0, q1, q2, q3⟩ := (HV.out.keep R.below).partAt k hlt
      have hp7 := hf.few _ (List.getElem_mem hlt)
      have hp8 := hf.wide _ (List.getElem_mem hlt)
      have hdr := Lib.hid (List.drop_eq_getElem_cons hlt)
      generalize f[k] = p at *
      have hbV : Below wr.heap.size wr (wr.alloc (.cells #[.int .i64 p.pl, .int .i64 p.wide, .int .u64 p.lo, .int .u64 p.hi] 66)) := by go_grown
      have hI : PutI w w.heap.size m wr.heap.size p acc _ _ := ⟨R.sub hbV, HoldsP.new wr p _ rfl, fun g hg => by have := R.own.lt g hg; omega, R.below.size⟩
      clear R hbV
      have hI := Lib.hid hI
      go_upto_region 5 with (fail)
      generalize wr.alloc (.cells #[.int .i64 p.pl, .int .i64 p.wide, .int .u64 p.lo, .int .u64 p.hi] 66) = V at *
      generalize wr.heap.size = bp at *
      have c0 : ∀ u : Sub V, u.1.cell? ⟨bp, 0, none⟩ = some (.int .i64 p.pl) ∧ u.1.cell? ⟨bp, 1, none⟩ = some (.int .i64 p.wide) ∧ u.1.cell? ⟨bp, 2, none⟩ = some (.int .u64 p.lo) ∧ u.1.cell? ⟨bp, 3, none⟩ = some (.int .u64 p.hi) := fun u => (hI.out.part.below u.2).cells
      have c1 : ∀ u : Sub V, u.1.cell? ⟨bp, 0, none⟩ = some (.int .i64 p.pl) := fun u => (c0 u).1
      have c2 : ∀ u : Sub V, u.1.cell? ⟨bp, 1, none⟩ = some (.int .i64 p.wide) := fun u => (c0 u).2.1
      have c3 : ∀ u : Sub V, u.1.cell? ⟨bp, 2, none⟩ = some (.int .u64 p.lo) := fun u => (c0 u).2.2.1
      have c4 : ∀ u : Sub V, u.1.cell? ⟨bp, 3, none⟩ = some (.int .u64 p.hi) := fun u => (c0 u).2.2.2
      have cn : ∀ u : Sub V, u.1.cell? ⟨w.heap.size, p.pl, none⟩ = some (.int .u64 (m p.pl)) := fun u => (hI.out.r.nums.below u.2).cell _ hp7
      have hM : ∀ u : Sub V, Calls Try.prog 28 #[.agg #[.int .i64 p.pl, .int .i64 p.wide, .int .u64 p.lo, .int .u64 p.hi], .int .u64 (m p.pl)] u.1 fun e w'' => e = .returned (.bool (p.ok (m p.pl))) ∧ ∃ x : Sub V, w'' = x.1 := fun u => subBelow (wireMay p (m p.pl) u.1)
      have hq0 : (0 : Int) ≤ (p.pl : Int) := by omega
      have hq1 : (p.pl : Int) < 7 := by omega
      clear c0
      by_cases hok : p.ok (m p.pl) = true
      · rw [hok] at hM
        have HG := Lib.hid (show putGo (f.drop (k + 1)) (m.put p.pl 0) (acc ++ highB p.wide (m p.pl)) = putGo f n [] by rw [← hg, hdr.out, putGo, if_pos hok])
        clear hg hdr hok
        refine wp_region_quiet_all (C := fun w' => ∃ u : Sub V, w' = u.1) (by kernel_rfl) (by kernel_rfl) (InSub.drew V) ?_
        iterate 5 (go_big_quiet_step (fail))
        go_big_quiet_step (exact hM _)
        go_big_quiet_step (fail)
        refine wpQuiet_nil ?_
        intro w' hw'
        obtain ⟨u, rfl⟩ := hw'
        have d1 := c2 u
        have HI := Lib.hid (hI.out.sub u.2)
        have hwu := u.2.size
        clear c1 c2 c3 c4 cn hM hI
        generalize u.1 = U at *
        go_wp2
        go_loopw [6, 9] (fun vi i wi => ∃ (j : Nat) (acc' : List Nat), j ≤ p.wide ∧ i = .int .i64 ((j : Int) - 1) ∧ Hid (acc' ++ highB j (m p.pl) = acc ++ highB p.wide (m p.pl)) ∧ PutI w w.heap.size m bp p acc' vi wi) (fun _ i _ => (intOf i + 1).toNat)
        case atStart => exact ⟨p.wide, acc, by omega, rfl, rfl, HI.out⟩
        case round =>
          obtain ⟨j, acc', hj, rfl, he, R⟩ := hrel
          clear HI
          cases j with
          | zero =>
            have d0 := R.part.cells.1
            have dn := R.r.nums.free p.pl
            have dm := R.r.nums.cell p.pl hp7
            obtain rfl : acc' = acc ++ highB p.wide (m p.pl) := by rw [← he, highB, List.append_nil]
            have hlen : (acc ++ highB p.wide (m p.pl)).length ≤ 8 * (k + 1) := by rw [List.length_append, highB_length]; omega
            clear he
            have R2 := Lib.hid (R.r.set hp7 0)
            clear R
            have e1 : ((0 : Nat) : Int) - 1 = -1 := rfl
            rw [e1]
            go_wp2
            exact ⟨⟨k + 1, m.put p.pl 0, _, by go_num, by omega, HG.out, hlen, R2.out⟩, by simp [intOf]; omega⟩
          | succ j =>
            have e1 : ((j + 1 : Nat) : Int) - 1 = (j : Int) := by omega
            rw [e1]
            obtain ⟨d0, d1, _, _⟩ := R.part.cells
            have dn := R.r.nums.cell p.pl hp7
            have hj8 : j < 8 := by omega
            have hln : acc'.length + [m p.pl / 256 ^ j % 256].length ≤ 1000000 := by
              have := congrArg List.length he
              rw [List.length_append, List.length_append, highB_length, highB_length] at this
              rw [List.length_singleton]
              omega
            have eV : ((m p.pl / 256 ^ j % 256 : Nat) : Int) = (m p.pl : Int) / 2 ^ (8 * j) % 256 := by
              rw [Int.natCast_emod, Int.natCast_ediv, Int.natCast_pow, Int.pow_mul]
              rfl
            have hsrc : Reads encY (wr.alloc (.cells #[.int .u8 ((m p.pl : Int) / 2 ^ (8 * j) % 256)] 5)) (.slice (some ⟨wr.heap.size, 0, none⟩) 1 1) [m p.pl / 256 ^ j % 256] := by
              rw [← eV]
              exact Reads.one encY wr _ _ rfl _ rfl
            have hA := R.r.own.alloc (.cells #[.int .u8 ((m p.pl : Int) / 2 ^ (8 * j) % 256)] 5)
            have he2 : Hid ((acc' ++ [m p.pl / 256 ^ j % 256]) ++ highB j (m p.pl) = acc ++ highB p.wide (m p.pl)) := by
              rw [List.append_assoc]
              exact he
            clear eV he
            have HR := Lib.hid R
            replace HG := Lib.hid HG
            replace he2 := Lib.hid he2
            clear R
            generalize m p.pl / 256 ^ j % 256 = y at *
            generalize m p.pl = x at *
            go_wp2_with (at_builtin; refine appendY rfl (.tmp 31) (.tmp 40) rfl _ _ acc' [y] rfl hA rfl hsrc hln ?_; intro v' w2 hown hgr hat)
            exact ⟨⟨j, _, by omega, by go_num, he2.out, HR.out.push _ hown hgr hat⟩, by simp [intOf]⟩
      · rw [Bool.eq_false_iff.2 hok] at hM
        have HO := Lib.hid (show O = none by rw [← hO.out, putN, ← hg, hdr.out, putGo, if_neg hok]; rfl)
        clear hg hdr hok
        refine wp_region_quiet_all (C := fun w' => ∃ u : Sub V, w' = u.1) (by kernel_rfl) (by kernel_rfl) (InSub.drew V) ?_
        iterate 5 (go_big_quiet_step (fail))
        go_big_quiet_step (exact hM _)
        go_big_quiet_step (fail)
        refine wpQuiet_nil ?_
        intro w' hw'
        obtain ⟨u, rfl⟩ := hw'
        have HI := Lib.hid ((hI.out.sub u.2).r.below)
        clear c1 c2 c3 c4 cn hM hI
        generalize u.1 = U at *
        go_wp2
        go_ret2
        exact ⟨_, _, rfl, by rw [HO.out]; exact ⟨rfl, rfl, HI.out⟩⟩
    · obtain rfl : k = f.length := by omega
      rw [List.drop_length, putGo] at hg
      have c0 := R.nums.cell 0 (by decide)
      have c1 := R.nums.cell 1 (by decide)
      have c2 := R.nums.cell 2 (by decide)
      have c3 := R.nums.cell 3 (by decide)
      have c4 := R.nums.cell 4 (by decide)
      have c5 := R.nums.cell 5 (by decide)
      have c6 := R.nums.cell 6 (by decide)
      have g1 := guard_n7
      have hne := fun W => neq_n7 m W
      have heq := fun W => equal_n7 9998 m W
      have HR := Lib.hid (show NRel encY w acc _ wr from ⟨R.own, fun g h => (R.new g h).1, R.below⟩)
      clear R
      by_cases h7 : m.none7
      · have HO := Lib.hid (show O = some acc by rw [← hO.out, putN, ← hg]; exact if_pos h7)
        rw [decide_eq_true h7] at hne heq
        clear hg h7
        go_wp2
        go_ret2
        exact ⟨_, _, rfl, by rw [HO.out]; exact ⟨rfl, HR.out⟩⟩
      · have HO := Lib.hid (show O = none by rw [← hO.out, putN, ← hg]; exact if_neg h7)
        rw [decide_eq_false h7] at hne heq
        clear hg h7
        go_wp2
        go_ret2
        exact ⟨_, _, rfl, by rw [HO.out]; exact ⟨rfl, rfl, HR.out.below⟩⟩

end Go.Proofs.Ytnnkkedflfmaoaa
