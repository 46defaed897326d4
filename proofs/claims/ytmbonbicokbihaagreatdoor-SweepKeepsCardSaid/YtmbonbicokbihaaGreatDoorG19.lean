/-
  Texts of this proof, one behind the other: Math2c, CofW, Cof.
-/
import Derived.Test.YtmbonbicokbihaaGreatDoorG18
import Derived.Test.YtmbonbicokbihaaGreatDoorG16
import Derived.Test.YtmbonbicokbihaaGreatDoorG4
/-
  Plain mathematics of package cof: a variable set, by words; the count by words; the support from below.
-/
namespace Go.Proofs.YtmbonbicokbihaaGreatDoor
open Go Go.RowKit

theorem wd_test (f : Fn) (i j : Nat) (hj : j < 64) : (wd f i).testBit j = f.getLsbD (64 * i + j) := by
  rw [wd_bit f (64 * i + j), Nat.testBit_eq_decide_div_mod_eq, show (64 * i + j) / 64 = i by omega, show (64 * i + j) % 64 = j by omega]

theorem wd_eq {f : Fn} {i x : Nat} (hx : x < 18446744073709551616) (h : ∀ j, j < 64 → x.testBit j = f.getLsbD (64 * i + j)) : wd f i = x := by
  refine Nat.eq_of_testBit_eq fun j => ?_
  rcases Nat.lt_or_ge j 64 with hj | hj
  · rw [wd_test f i j hj, h j hj]
  · have h64 : (2 : Nat) ^ 64 ≤ 2 ^ j := Nat.pow_le_pow_right (by decide) hj
    rw [Nat.testBit_lt_two_pow (Nat.lt_of_lt_of_le (wd_lt f i) h64), Nat.testBit_lt_two_pow (Nat.lt_of_lt_of_le hx h64)]

theorem row_high (i j v : Nat) (hv : v < 6) : (64 * i + j).testBit v = j.testBit v := by
  rw [Nat.testBit_eq_decide_div_mod_eq, Nat.testBit_eq_decide_div_mod_eq]
  rcases (by omega : v = 0 ∨ v = 1 ∨ v = 2 ∨ v = 3 ∨ v = 4 ∨ v = 5) with rfl | rfl | rfl | rfl | rfl | rfl <;> simp <;> omega

theorem rowF_eq (x m : Nat) (b : Bool) : rowF x m b = if x.testBit m then (if b then x else x - 2 ^ m) else (if b then x + 2 ^ m else x) := by
  unfold rowF
  rw [Nat.testBit_eq_decide_div_mod_eq]
  by_cases h : x / 2 ^ m % 2 = 1
  · have h2 : 2 ^ m ≤ x := by
      rcases Nat.lt_or_ge x (2 ^ m) with h' | h'
      · rw [Nat.div_eq_of_lt h'] at h; omega
      · exact h'
    rw [if_pos h, decide_eq_true h, if_pos rfl]
    cases b
    · rw [if_neg (by decide), if_neg (by decide)]; rfl
    · rw [if_pos rfl, if_pos rfl]; omega
  · rw [if_neg h, decide_eq_false h]
    cases b <;> rfl

/-- Bits of a row, moved by a variable's weight. -/
theorem test_move (j v : Nat) (hj : j < 64) (hv : v < 6) :
    (j.testBit v = true → 2 ^ v ≤ j ∧ (j - 2 ^ v).testBit v = false) ∧ (j.testBit v = false → j + 2 ^ v < 64 ∧ (j + 2 ^ v).testBit v = true) ∧ (j.testBit v = true → j + 2 ^ v < 64 → (j + 2 ^ v).testBit v = false) ∧ (j.testBit v = false → 2 ^ v ≤ j → (j - 2 ^ v).testBit v = true) := by
  have H : ∀ j : Fin 64, ∀ v : Fin 6, (((j : Nat).testBit v = true → 2 ^ (v : Nat) ≤ (j : Nat) ∧ ((j : Nat) - 2 ^ (v : Nat)).testBit v = false) ∧ ((j : Nat).testBit v = false → (j : Nat) + 2 ^ (v : Nat) < 64 ∧ ((j : Nat) + 2 ^ (v : Nat)).testBit v = true) ∧ ((j : Nat).testBit v = true → (j : Nat) + 2 ^ (v : Nat) < 64 → ((j : Nat) + 2 ^ (v : Nat)).testBit v = false) ∧ ((j : Nat).testBit v = false → 2 ^ (v : Nat) ≤ (j : Nat) → ((j : Nat) - 2 ^ (v : Nat)).testBit v = true)) := by decide +kernel
  exact H ⟨j, hj⟩ ⟨v, hv⟩

/-- A word of a function with a low variable set to true: what is kept, and the same moved down. -/
theorem cof_in_true (f : Fn) (v i : Nat) (hv : v < 6) (hi : i < 4) : wd (cofF f v true) i = wd (f &&& varF v) i ||| wd (f &&& varF v) i / 2 ^ 2 ^ v := by
  have hx := wd_lt (f &&& varF v) i
  refine wd_eq ?_ fun j hj => ?_
  · exact Nat.or_lt_two_pow (n := 64) hx (Nat.lt_of_le_of_lt (Nat.div_le_self _ _) hx)
  · obtain ⟨t1, t2, t3, _⟩ := test_move j v hj hv
    have hr : 64 * i + j < 256 := by omega
    rw [cofF_bit _ _ _ _ hr, rowF_eq, row_high i j v hv, Nat.testBit_or, Nat.testBit_div_two_pow, wd_test _ _ _ hj, BitVec.getLsbD_and, var_bit _ _ hr, row_high i j v hv]
    cases hb : j.testBit v
    · obtain ⟨a1, a2⟩ := t2 hb
      have hr2 : 64 * i + (j + 2 ^ v) < 256 := by omega
      rw [wd_test _ _ _ a1, BitVec.getLsbD_and, var_bit _ _ hr2, row_high i _ v hv, a2]
      simp [Nat.add_assoc]
    · simp only [if_true, Bool.and_true]
      by_cases h64 : j + 2 ^ v < 64
      · have a2 := t3 hb h64
        have hr2 : 64 * i + (j + 2 ^ v) < 256 := by omega
        rw [wd_test _ _ _ h64, BitVec.getLsbD_and, var_bit _ _ hr2, row_high i _ v hv, a2]
        simp
      · have h64' : (2 : Nat) ^ 64 ≤ 2 ^ (j + 2 ^ v) := Nat.pow_le_pow_right (by decide) (by omega)
        rw [Nat.testBit_lt_two_pow (Nat.lt_of_lt_of_le hx h64')]
        simp

/-- The same to false: moved up. -/
theorem cof_in_false (f : Fn) (v i : Nat) (hv : v < 6) (hi : i < 4) : wd (cofF f v false) i = wd (f &&& ~~~varF v) i ||| (wd (f &&& ~~~varF v) i * 2 ^ 2 ^ v) % 18446744073709551616 := by
  have hx := wd_lt (f &&& ~~~varF v) i
  refine wd_eq ?_ fun j hj => ?_
  · exact Nat.or_lt_two_pow (n := 64) hx (Nat.mod_lt _ (by decide))
  · obtain ⟨t1, t2, _, t4⟩ := test_move j v hj hv
    have hr : 64 * i + j < 256 := by omega
    rw [cofF_bit _ _ _ _ hr, rowF_eq, row_high i j v hv, Nat.testBit_or, show (18446744073709551616 : Nat) = 2 ^ 64 by decide, Nat.testBit_mod_two_pow, Nat.testBit_mul_two_pow, wd_test _ _ _ hj, BitVec.getLsbD_and, BitVec.getLsbD_not, var_bit _ _ hr, row_high i j v hv, decide_eq_true hr, decide_eq_true hj]
    cases hb : j.testBit v
    · simp only [Bool.false_eq_true, if_false, Bool.not_false, Bool.and_true, Bool.true_and]
      by_cases h64 : 2 ^ v ≤ j
      · have a2 := t4 hb h64
        have hjs : j - 2 ^ v < 64 := Nat.lt_of_le_of_lt (Nat.sub_le _ _) hj
        have hr2 : 64 * i + (j - 2 ^ v) < 256 := by clear a2; omega
        rw [wd_test _ _ _ hjs, BitVec.getLsbD_and, BitVec.getLsbD_not, var_bit _ _ hr2, row_high i _ v hv, a2]
        simp
      · simp [h64]
    · obtain ⟨a1, a2⟩ := t1 hb
      have hjs : j - 2 ^ v < 64 := Nat.lt_of_le_of_lt (Nat.sub_le _ _) hj
      have hr2 : 64 * i + (j - 2 ^ v) < 256 := by clear a2; omega
      rw [wd_test _ _ _ hjs, BitVec.getLsbD_and, BitVec.getLsbD_not, var_bit _ _ hr2, row_high i _ v hv, a2, decide_eq_true hr2, decide_eq_true a1, ← Nat.add_sub_assoc a1]
      simp

/-- A word of a function with a high variable set is another word. -/
theorem cof_of (f : Fn) (v : Nat) (b : Bool) (i k : Nat) (hi : i < 4) (hk : ∀ j : Fin 64, rowF (64 * i + j) v b = 64 * k + j) : wd (cofF f v b) i = wd f k :=
  wd_eq (wd_lt f k) fun j hj => by
    rw [wd_test _ _ _ hj, cofF_bit _ _ _ _ (by omega)]
    exact congrArg _ (hk ⟨j, hj⟩).symm

theorem cof_of_words (f : Fn) :
    (wd (cofF f 6 true) 0 = wd f 1 ∧ wd (cofF f 6 true) 1 = wd f 1 ∧ wd (cofF f 6 true) 2 = wd f 3 ∧ wd (cofF f 6 true) 3 = wd f 3) ∧
    (wd (cofF f 6 false) 0 = wd f 0 ∧ wd (cofF f 6 false) 1 = wd f 0 ∧ wd (cofF f 6 false) 2 = wd f 2 ∧ wd (cofF f 6 false) 3 = wd f 2) ∧
    (wd (cofF f 7 true) 0 = wd f 2 ∧ wd (cofF f 7 true) 1 = wd f 3 ∧ wd (cofF f 7 true) 2 = wd f 2 ∧ wd (cofF f 7 true) 3 = wd f 3) ∧
    (wd (cofF f 7 false) 0 = wd f 0 ∧ wd (cofF f 7 false) 1 = wd f 1 ∧ wd (cofF f 7 false) 2 = wd f 0 ∧ wd (cofF f 7 false) 3 = wd f 1) := by
  refine ⟨⟨?_, ?_, ?_, ?_⟩, ⟨?_, ?_, ?_, ?_⟩, ⟨?_, ?_, ?_, ?_⟩, ⟨?_, ?_, ?_, ?_⟩⟩ <;> exact cof_of f _ _ _ _ (by decide) (by decide +kernel)

/-- Depends: whether both are unlike. -/
theorem dep_iff (f : Fn) (v : Int) : (!(cofAny f v false == cofAny f v true)) = depAny f v := by
  unfold depAny cofAny
  split
  · rename_i hv
    have hm : v.toNat < 8 := by omega
    generalize v.toNat = m at hm
    cases hd : depF f m
    · have h : ∀ x, x < 256 → shows f m x = false := fun x hx => by
        cases hs : shows f m x
        · rfl
        · rw [depF_true hx hs] at hd; exact Bool.noConfusion hd
      have e : cofF f m false = cofF f m true := fn_ext fun x hx => by
        rw [cofF_bit _ _ _ _ hx, cofF_bit _ _ _ _ hx]
        have h0 := h (rowF x m false) (rowF_lt _ _ _ hx hm)
        have hb := rowF_test x m false m hx hm hm
        rw [if_pos rfl, Nat.testBit_eq_decide_div_mod_eq] at hb
        have hz : rowF x m false / 2 ^ m % 2 = 0 := by
          rw [decide_eq_false_iff_not] at hb; omega
        unfold shows at h0
        rw [decide_eq_true hz, Bool.true_and] at h0
        have e2 : rowF x m false + 2 ^ m = rowF x m true := by
          unfold rowF; simp
        rw [e2] at h0
        simpa using h0
      rw [e]
      simp
    · obtain ⟨x, hx, hs⟩ := List.any_eq_true.1 hd
      have hx' := List.mem_range.1 hx
      unfold shows at hs
      rw [Bool.and_eq_true, decide_eq_true_eq] at hs
      have h2 : ¬ x / 2 ^ m % 2 = 1 := by omega
      have e1 : rowF x m false = x := by unfold rowF; rw [if_neg h2, if_neg (by decide)]; rfl
      have e2 : rowF x m true = x + 2 ^ m := by unfold rowF; rw [if_neg h2, if_pos rfl]
      have hne : ¬ cofF f m false = cofF f m true := fun e => by
        have h3 := congrArg (fun g : Fn => g.getLsbD x) e
        simp only [cofF_bit _ _ _ _ hx', e1, e2] at h3
        rw [h3] at hs
        simp at hs
      simp [hne]
  · simp

/-- The support of the variables below n. -/
def supTo (f : Fn) : Nat → Nat
  | 0 => 0
  | n + 1 => supTo f n + (if depF f n then 2 ^ n else 0)

theorem supTo_lt (f : Fn) (n : Nat) : supTo f n < 2 ^ n := by
  induction n with
  | zero => simp [supTo]
  | succ n ih => simp only [supTo]; rw [Nat.pow_succ]; split <;> omega

theorem supTo_eq (f : Fn) : supTo f 8 = supF f := by
  simp only [supTo, supF, supFrom]
  generalize depF f 0 = d0
  generalize depF f 1 = d1
  generalize depF f 2 = d2
  generalize depF f 3 = d3
  generalize depF f 4 = d4
  generalize depF f 5 = d5
  generalize depF f 6 = d6
  generalize depF f 7 = d7
  revert d0 d1 d2 d3 d4 d5 d6 d7
  decide

theorem cntF_word (f : Fn) (i k : Nat) (hk : k ≤ 64) : cntF f (64 * i + k) = cntF f (64 * i) + bitSum (wd f i) k := by
  induction k with
  | zero => rfl
  | succ k ih =>
    rw [← Nat.add_assoc, cntF, ih (by omega), bitSum, ← wd_test f i k (by omega), Nat.testBit_eq_decide_div_mod_eq]
    have : wd f i / 2 ^ k % 2 = 0 ∨ wd f i / 2 ^ k % 2 = 1 := by omega
    rcases this with h | h <;> simp [h] <;> omega

theorem cntF_words (f : Fn) : cntF f 256 = bitSum (wd f 0) 64 + bitSum (wd f 1) 64 + bitSum (wd f 2) 64 + bitSum (wd f 3) 64 := by
  have h0 : cntF f 64 = 0 + bitSum (wd f 0) 64 := cntF_word f 0 64 (by decide)
  have h1 : cntF f 128 = cntF f 64 + bitSum (wd f 1) 64 := cntF_word f 1 64 (by decide)
  have h2 : cntF f 192 = cntF f 128 + bitSum (wd f 2) 64 := cntF_word f 2 64 (by decide)
  have h3 : cntF f 256 = cntF f 192 + bitSum (wd f 3) 64 := cntF_word f 3 64 (by decide)
  omega

end Go.Proofs.YtmbonbicokbihaaGreatDoor

/-
  Walks of package cof: by words.
-/
namespace Go.Proofs.YtmbonbicokbihaaGreatDoor
open Go Go.RowKit
attribute [local go_sem] run_eql_fv run_neq_fv run_guard_fv setCell_drewN alloc_drewN

theorem bits_or_0_1 : bits .or .i64 0 1 = 1 := by decide +kernel
theorem bits_or_0_2 : bits .or .i64 0 2 = 2 := by decide +kernel
theorem bits_or_1_1 : bits .or .i64 1 1 = 1 := by decide +kernel
theorem bits_or_1_2 : bits .or .i64 1 2 = 3 := by decide +kernel
theorem bits_or_2_1 : bits .or .i64 2 1 = 3 := by decide +kernel
theorem bits_or_2_2 : bits .or .i64 2 2 = 2 := by decide +kernel
theorem bits_or_3_1 : bits .or .i64 3 1 = 3 := by decide +kernel
theorem bits_or_3_2 : bits .or .i64 3 2 = 3 := by decide +kernel
theorem bits_an_0_1 : bits .andNot .i64 0 1 = 0 := by decide +kernel
theorem bits_an_0_2 : bits .andNot .i64 0 2 = 0 := by decide +kernel
theorem bits_an_1_1 : bits .andNot .i64 1 1 = 0 := by decide +kernel
theorem bits_an_1_2 : bits .andNot .i64 1 2 = 1 := by decide +kernel
theorem bits_an_2_1 : bits .andNot .i64 2 1 = 2 := by decide +kernel
theorem bits_an_2_2 : bits .andNot .i64 2 2 = 0 := by decide +kernel
theorem bits_an_3_1 : bits .andNot .i64 3 1 = 2 := by decide +kernel
theorem bits_an_3_2 : bits .andNot .i64 3 2 = 1 := by decide +kernel
attribute [local go_sem] bits_or_0_1 bits_or_0_2 bits_or_1_1 bits_or_1_2 bits_or_2_1 bits_or_2_2 bits_or_3_1 bits_or_3_2 bits_an_0_1 bits_an_0_2 bits_an_1_1 bits_an_1_2 bits_an_2_1 bits_an_2_2 bits_an_3_1 bits_an_3_2

/-- Block b is a variable that holds four words. -/
def Has4 (w : World) (b : Nat) (x0 x1 x2 x3 : Int) : Prop := w.heap[b]? = some (.cells #[.int .u64 x0, .int .u64 x1, .int .u64 x2, .int .u64 x3] 34 (0, 0))

theorem Holds.has4 {w : World} {b : Nat} {f : Fn} (h : Holds w b f) : Has4 w b (wd f 0) (wd f 1) (wd f 2) (wd f 3) := h
theorem Has4.cells {w : World} {b : Nat} {x0 x1 x2 x3 : Int} (h : Has4 w b x0 x1 x2 x3) :
    w.cell? ⟨b, 0, none⟩ = some (.int .u64 x0) ∧ w.cell? ⟨b, 1, none⟩ = some (.int .u64 x1) ∧ w.cell? ⟨b, 2, none⟩ = some (.int .u64 x2) ∧ w.cell? ⟨b, 3, none⟩ = some (.int .u64 x3) :=
  ⟨cell_of_row _ _ _ _ _ _ h, cell_of_row _ _ _ _ _ _ h, cell_of_row _ _ _ _ _ _ h, cell_of_row _ _ _ _ _ _ h⟩
theorem Has4.free {w : World} {b : Nat} {x0 x1 x2 x3 : Int} (h : Has4 w b x0 x1 x2 x3) :
    w.frozen? ⟨b, 0, none⟩ = false ∧ w.frozen? ⟨b, 1, none⟩ = false ∧ w.frozen? ⟨b, 2, none⟩ = false ∧ w.frozen? ⟨b, 3, none⟩ = false :=
  ⟨frozen_of_row _ _ _ _ _ h, frozen_of_row _ _ _ _ _ h, frozen_of_row _ _ _ _ _ h, frozen_of_row _ _ _ _ _ h⟩
theorem Has4.set0 {w : World} {b : Nat} {x0 x1 x2 x3 : Int} (h : Has4 w b x0 x1 x2 x3) (y : Int) : Has4 (w.setCell ⟨b, 0, none⟩ (.int .u64 y)) b y x1 x2 x3 := heap_setCell_same _ _ _ _ _ _ h
theorem Has4.set1 {w : World} {b : Nat} {x0 x1 x2 x3 : Int} (h : Has4 w b x0 x1 x2 x3) (y : Int) : Has4 (w.setCell ⟨b, 1, none⟩ (.int .u64 y)) b x0 y x2 x3 := heap_setCell_same _ _ _ _ _ _ h
theorem Has4.set2 {w : World} {b : Nat} {x0 x1 x2 x3 : Int} (h : Has4 w b x0 x1 x2 x3) (y : Int) : Has4 (w.setCell ⟨b, 2, none⟩ (.int .u64 y)) b x0 x1 y x3 := heap_setCell_same _ _ _ _ _ _ h
theorem Has4.set3 {w : World} {b : Nat} {x0 x1 x2 x3 : Int} (h : Has4 w b x0 x1 x2 x3) (y : Int) : Has4 (w.setCell ⟨b, 3, none⟩ (.int .u64 y)) b x0 x1 x2 y := heap_setCell_same _ _ _ _ _ _ h
theorem Has4.drewN {w : World} {b n : Nat} {x0 x1 x2 x3 : Int} (h : Has4 w b x0 x1 x2 x3) : Has4 (w.drewN n) b x0 x1 x2 x3 := h
theorem Holds.drewN {w : World} {b n : Nat} {f : Fn} (h : Holds w b f) : Holds (w.drewN n) b f := h
theorem Holds.other1 {w : World} {b c i : Nat} {f : Fn} {x : Value} (h : Holds w b f) (hne : b ≠ c) : Holds (w.setCell ⟨c, i, none⟩ x) b f := by
  unfold Holds; rw [heap_setCell_other _ _ _ _ hne]; exact h

set_option maxHeartbeats 1000000 in
theorem cofOf (f : Fn) (v : Nat) (b : Bool) (w : World) (hv : v = 6 ∨ v = 7) :
    Calls Tryz.prog 41 #[fv f, .int .i64 v, .bool b] w fun e w' => e = .returned (fv (cofF f v b)) ∧ Below w.heap.size w w' := by
  obtain ⟨⟨a0, a1, a2, a3⟩, ⟨b0, b1, b2, b3⟩, ⟨c0, c1, c2, c3⟩, ⟨d0, d1, d2, d3⟩⟩ := cof_of_words f
  rcases hv with rfl | rfl <;> cases b <;> simp only [fv, a0, a1, a2, a3, b0, b1, b2, b3, c0, c1, c2, c3, d0, d1, d2, d3] <;> clear a0 a1 a2 a3 b0 b1 b2 b3 c0 c1 c2 c3 d0 d1 d2 d3
  all_goals
    go_enter Tryz.func41, Tryz.ntmps41
    go_wp2
    refine wp_loop_rounds 5 ?_
    iterate 4 (rw [rounds_succ]; go_wp2)
    rw [rounds_succ]
    go_wp2
    exact bodyPost_ret (v := _) (by simp [results, Tryz.results41, go_sem]) rfl ⟨rfl, by go_grown⟩

theorem or_shr (f k : Fn) (v i : Nat) (hk : k = f &&& varF v) (hv : v < 6) (hi : i < 4) : bits .or .u64 (wd k i) ((wd k i : Int) / 2 ^ 2 ^ v) = (wd (cofF f v true) i : Nat) := by
  subst hk
  have hx := wd_lt (f &&& varF v) i
  rw [show ((wd (f &&& varF v) i : Int) / 2 ^ 2 ^ v) = ((wd (f &&& varF v) i / 2 ^ 2 ^ v : Nat) : Int) by simp, bits_or_u64_nat _ _ hx (Nat.lt_of_le_of_lt (Nat.div_le_self _ _) hx), cof_in_true f v i hv hi]

theorem or_shl (f k : Fn) (v i : Nat) (hk : k = f &&& ~~~varF v) (hv : v < 6) (hi : i < 4) : bits .or .u64 (wd k i) (IntKind.u64.wrap ((wd k i : Int) * 2 ^ 2 ^ v)) = (wd (cofF f v false) i : Nat) := by
  subst hk
  have hx := wd_lt (f &&& ~~~varF v) i
  have e : IntKind.u64.wrap ((wd (f &&& ~~~varF v) i : Int) * 2 ^ 2 ^ v) = ((wd (f &&& ~~~varF v) i * 2 ^ 2 ^ v % 18446744073709551616 : Nat) : Int) := by
    rw [IntKind.wrap_u64]
    simp
  rw [e, bits_or_u64_nat _ _ hx (Nat.mod_lt _ (by decide)), cof_in_false f v i hv hi]

set_option maxRecDepth 100000 in
set_option maxHeartbeats 4000000 in
theorem cofInTrue (f : Fn) (v : Nat) (w : World) (hl : LowW w) (hv : v < 6) :
    Calls Tryz.prog 40 #[fv f, .int .i64 v, .bool true] w fun e w' => e = .returned (fv (cofF f v true)) ∧ Below w.heap.size w w' := by
  have Hl := Lib.hid hl
  have hp := hl.pos
  clear hl
  have hv0 : (0 : Int) ≤ v := by omega
  have hv1 : (v : Int) < 6 := by omega
  have hvar : varAny (v : Int) = varF v := by rw [varAny, if_pos (by omega), Int.toNat_natCast]
  have Hv := Lib.hid hvar
  have hs : wrap64 (2 ^ v) = ((2 ^ v : Nat) : Int) ∧ (2 : Nat) ^ v ≤ 32 := by
    rcases (by omega : v = 0 ∨ v = 1 ∨ v = 2 ∨ v = 3 ∨ v = 4 ∨ v = 5) with rfl | rfl | rfl | rfl | rfl | rfl <;> decide +kernel
  obtain ⟨hs, hs32⟩ := hs
  have hsn : 0 ≤ wrap64 (2 ^ v) ∧ wrap64 (2 ^ v) ≤ 32 := by rw [hs]; exact ⟨Int.natCast_nonneg _, Int.ofNat_le.2 hs32⟩
  have Hs := Lib.hid (show (wrap64 (2 ^ v)).toNat = 2 ^ v by rw [hs]; exact Int.toNat_natCast _)
  clear hvar hs hs32
  simp only [fv]
  go_enter Tryz.func40, Tryz.ntmps40
  go_wp2
  have hb : Below w.heap.size w ((w.alloc (.cells #[.int .u64 (wd f 0), .int .u64 (wd f 1), .int .u64 (wd f 2), .int .u64 (wd f 3)] 34)).alloc (.cells #[.int .u64 0, .int .u64 0, .int .u64 0, .int .u64 0] 34)) := by go_grown
  have h0 : Holds ((w.alloc (.cells #[.int .u64 (wd f 0), .int .u64 (wd f 1), .int .u64 (wd f 2), .int .u64 (wd f 3)] 34)).alloc (.cells #[.int .u64 0, .int .u64 0, .int .u64 0, .int .u64 0] 34)) w.heap.size f := (Holds.new _ _ _).alloc _
  have h1 : Holds ((w.alloc (.cells #[.int .u64 (wd f 0), .int .u64 (wd f 1), .int .u64 (wd f 2), .int .u64 (wd f 3)] 34)).alloc (.cells #[.int .u64 0, .int .u64 0, .int .u64 0, .int .u64 0] 34)) (w.heap.size + 1) 0#256 := Holds.new0 _ _
  generalize (w.alloc (.cells #[.int .u64 (wd f 0), .int .u64 (wd f 1), .int .u64 (wd f 2), .int .u64 (wd f 3)] 34)).alloc (.cells #[.int .u64 0, .int .u64 0, .int .u64 0, .int .u64 0] 34) = W at *
  have HL : Hid (∀ x, Below W.heap.size W x → LowW x) := Lib.hid fun x hx => Hl.out.keep (hb.trans (hx.mono hb.size))
  refine wp_region_alloc_tail 4 _ (.cells #[.int .u64 0, .int .u64 0, .int .u64 0, .int .u64 0] 34) (by kernel_rfl) (by kernel_rfl) rfl (fun a w => by simp [go_sem]; done) ?_
  apply Exists.intro
  refine ⟨fun V hV => ?_, ?_⟩
  · have c0 : ∀ u : Sub V, u.1.cell? ⟨w.heap.size, 0, none⟩ = some (.int .u64 (wd f 0)) := fun u => ((h0.keep hV h0.lt).sub u).cells.1
    have c1 : ∀ u : Sub V, u.1.cell? ⟨w.heap.size, 1, none⟩ = some (.int .u64 (wd f 1)) := fun u => ((h0.keep hV h0.lt).sub u).cells.2.1
    have c2 : ∀ u : Sub V, u.1.cell? ⟨w.heap.size, 2, none⟩ = some (.int .u64 (wd f 2)) := fun u => ((h0.keep hV h0.lt).sub u).cells.2.2.1
    have c3 : ∀ u : Sub V, u.1.cell? ⟨w.heap.size, 3, none⟩ = some (.int .u64 (wd f 3)) := fun u => ((h0.keep hV h0.lt).sub u).cells.2.2.2
    have hlV : ∀ u : Sub V, LowW u.1 := fun u => HL.out _ (hV.trans (u.2.mono hV.size))
    simp only [List.take_succ_cons, List.take_zero]
    iterate 2 (go_big_quiet_step (fail))
    go_big_quiet_step (exact sub_below (tabVar v _ (hlV _)))
    go_big_quiet_step (exact sub_below (tabAnd f (varAny v) _))
    exact wpQuiet_nil rfl
  intro B V hV hB hz
  have k1 := h1.keep hV h1.lt
  have kb := hb.trans (hV.mono hb.size)
  have kz : Holds V B 0#256 := by unfold Holds; rw [hz]; simp [wd]
  rw [Hv.out]
  have hne : w.heap.size + 1 ≠ B := by have := h1.lt; omega
  have hBw : w.heap.size ≤ B := by have := h1.lt; omega
  clear h0 h1 hb hV hB hz HL
  obtain ⟨c0, c1, c2, c3⟩ := kz.cells
  obtain ⟨z0, z1, z2, z3⟩ := kz.free
  simp only [List.drop_succ_cons, List.drop_zero]
  generalize hk : f &&& varF v = k
  have Hk := Lib.hid hk.symm
  clear hk
  simp only [fv]
  go_wp2
  have kk := kz.set4 k
  have kr := k1.other4 (x0 := .int .u64 (wd k 0)) (x1 := .int .u64 (wd k 1)) (x2 := .int .u64 (wd k 2)) (x3 := .int .u64 (wd k 3)) hne
  have kw := below_set4 (x0 := .int .u64 (wd k 0)) (x1 := .int .u64 (wd k 1)) (x2 := .int .u64 (wd k 2)) (x3 := .int .u64 (wd k 3)) kb hBw
  clear c0 c1 c2 c3 z0 z1 z2 z3 kz k1 kb
  generalize (((V.setCell ⟨B, 0, none⟩ (.int .u64 (wd k 0))).setCell ⟨B, 1, none⟩ (.int .u64 (wd k 1))).setCell ⟨B, 2, none⟩ (.int .u64 (wd k 2))).setCell ⟨B, 3, none⟩ (.int .u64 (wd k 3)) = U0 at *
  generalize wrap64 (2 ^ v) = s at *
  replace kk := kk.has4
  obtain ⟨c0, c1, c2, c3⟩ := kk.cells
  obtain ⟨z0, z1, z2, z3⟩ := kk.free
  refine wp_loop_rounds 5 ?_
  rw [rounds_succ]
  go_wp2
  refine wp_region_draws_tail 9 (by kernel_rfl) (by kernel_rfl) ?_
  simp only [List.take_succ_cons, List.take_zero, List.drop_succ_cons, List.drop_zero]
  iterate 9 (go_big_quiet_step (fail))
  refine wpQuiet_nil ?_
  intro w' hw'
  obtain ⟨nq, hw''⟩ := hw'
  subst hw''
  go_wp2
  replace kk := (kk.set0 (bits .or .u64 (wd k 0) ((wd k 0 : Int) / 2 ^ s.toNat))).drewN (n := nq)
  replace kr := (kr.other1 (i := 0) (x := .int .u64 (bits .or .u64 (wd k 0) ((wd k 0 : Int) / 2 ^ s.toNat))) hne).drewN (n := nq)
  replace kw := below_drewN (n := nq) (kw.setCell (p := ⟨B, 0, none⟩) hBw (.int .u64 (bits .or .u64 (wd k 0) ((wd k 0 : Int) / 2 ^ s.toNat))))
  clear c0 c1 c2 c3 z0 z1 z2 z3
  generalize (U0.setCell ⟨B, 0, none⟩ (.int .u64 (bits .or .u64 (wd k 0) ((wd k 0 : Int) / 2 ^ s.toNat)))).drewN nq = U1 at *
  obtain ⟨c0, c1, c2, c3⟩ := kk.cells
  obtain ⟨z0, z1, z2, z3⟩ := kk.free
  rw [rounds_succ]
  go_wp2
  refine wp_region_draws_tail 9 (by kernel_rfl) (by kernel_rfl) ?_
  simp only [List.take_succ_cons, List.take_zero, List.drop_succ_cons, List.drop_zero]
  iterate 9 (go_big_quiet_step (fail))
  refine wpQuiet_nil ?_
  intro w' hw'
  obtain ⟨nq, hw''⟩ := hw'
  subst hw''
  go_wp2
  replace kk := (kk.set1 (bits .or .u64 (wd k 1) ((wd k 1 : Int) / 2 ^ s.toNat))).drewN (n := nq)
  replace kr := (kr.other1 (i := 1) (x := .int .u64 (bits .or .u64 (wd k 1) ((wd k 1 : Int) / 2 ^ s.toNat))) hne).drewN (n := nq)
  replace kw := below_drewN (n := nq) (kw.setCell (p := ⟨B, 1, none⟩) hBw (.int .u64 (bits .or .u64 (wd k 1) ((wd k 1 : Int) / 2 ^ s.toNat))))
  clear c0 c1 c2 c3 z0 z1 z2 z3
  generalize (U1.setCell ⟨B, 1, none⟩ (.int .u64 (bits .or .u64 (wd k 1) ((wd k 1 : Int) / 2 ^ s.toNat)))).drewN nq = U2 at *
  obtain ⟨c0, c1, c2, c3⟩ := kk.cells
  obtain ⟨z0, z1, z2, z3⟩ := kk.free
  rw [rounds_succ]
  go_wp2
  refine wp_region_draws_tail 9 (by kernel_rfl) (by kernel_rfl) ?_
  simp only [List.take_succ_cons, List.take_zero, List.drop_succ_cons, List.drop_zero]
  iterate 9 (go_big_quiet_step (fail))
  refine wpQuiet_nil ?_
  intro w' hw'
  obtain ⟨nq, hw''⟩ := hw'
  subst hw''
  go_wp2
  replace kk := (kk.set2 (bits .or .u64 (wd k 2) ((wd k 2 : Int) / 2 ^ s.toNat))).drewN (n := nq)
  replace kr := (kr.other1 (i := 2) (x := .int .u64 (bits .or .u64 (wd k 2) ((wd k 2 : Int) / 2 ^ s.toNat))) hne).drewN (n := nq)
  replace kw := below_drewN (n := nq) (kw.setCell (p := ⟨B, 2, none⟩) hBw (.int .u64 (bits .or .u64 (wd k 2) ((wd k 2 : Int) / 2 ^ s.toNat))))
  clear c0 c1 c2 c3 z0 z1 z2 z3
  generalize (U2.setCell ⟨B, 2, none⟩ (.int .u64 (bits .or .u64 (wd k 2) ((wd k 2 : Int) / 2 ^ s.toNat)))).drewN nq = U3 at *
  obtain ⟨c0, c1, c2, c3⟩ := kk.cells
  obtain ⟨z0, z1, z2, z3⟩ := kk.free
  rw [rounds_succ]
  go_wp2
  refine wp_region_draws_tail 9 (by kernel_rfl) (by kernel_rfl) ?_
  simp only [List.take_succ_cons, List.take_zero, List.drop_succ_cons, List.drop_zero]
  iterate 9 (go_big_quiet_step (fail))
  refine wpQuiet_nil ?_
  intro w' hw'
  obtain ⟨nq, hw''⟩ := hw'
  subst hw''
  go_wp2
  replace kk := (kk.set3 (bits .or .u64 (wd k 3) ((wd k 3 : Int) / 2 ^ s.toNat))).drewN (n := nq)
  replace kr := (kr.other1 (i := 3) (x := .int .u64 (bits .or .u64 (wd k 3) ((wd k 3 : Int) / 2 ^ s.toNat))) hne).drewN (n := nq)
  replace kw := below_drewN (n := nq) (kw.setCell (p := ⟨B, 3, none⟩) hBw (.int .u64 (bits .or .u64 (wd k 3) ((wd k 3 : Int) / 2 ^ s.toNat))))
  clear c0 c1 c2 c3 z0 z1 z2 z3
  generalize (U3.setCell ⟨B, 3, none⟩ (.int .u64 (bits .or .u64 (wd k 3) ((wd k 3 : Int) / 2 ^ s.toNat)))).drewN nq = U4 at *
  obtain ⟨c0, c1, c2, c3⟩ := kk.cells
  obtain ⟨z0, z1, z2, z3⟩ := kk.free
  rw [rounds_succ]
  obtain ⟨d0, d1, d2, d3⟩ := kr.cells
  obtain ⟨y0, y1, y2, y3⟩ := kr.free
  go_wp2
  clear c0 c1 c2 c3 z0 z1 z2 z3 d0 d1 d2 d3 y0 y1 y2 y3
  have e0 := or_shr f k v 0 Hk.out hv (by decide)
  have e1 := or_shr f k v 1 Hk.out hv (by decide)
  have e2 := or_shr f k v 2 Hk.out hv (by decide)
  have e3 := or_shr f k v 3 Hk.out hv (by decide)
  rw [Hs.out, e0, e1, e2, e3]
  exact bodyPost_ret (ret_holds Tryz.results40 rfl (kr.set4 (cofF f v true))) rfl ⟨rfl, below_set4 kw (by omega)⟩

set_option maxRecDepth 100000 in
set_option maxHeartbeats 4000000 in
theorem cofInFalse (f : Fn) (v : Nat) (w : World) (hl : LowW w) (hv : v < 6) :
    Calls Tryz.prog 40 #[fv f, .int .i64 v, .bool false] w fun e w' => e = .returned (fv (cofF f v false)) ∧ Below w.heap.size w w' := by
  have Hl := Lib.hid hl
  have hp := hl.pos
  clear hl
  have hv0 : (0 : Int) ≤ v := by omega
  have hv1 : (v : Int) < 6 := by omega
  have hvar : varAny (v : Int) = varF v := by rw [varAny, if_pos (by omega), Int.toNat_natCast]
  have Hv := Lib.hid hvar
  have hs : wrap64 (2 ^ v) = ((2 ^ v : Nat) : Int) ∧ (2 : Nat) ^ v ≤ 32 := by
    rcases (by omega : v = 0 ∨ v = 1 ∨ v = 2 ∨ v = 3 ∨ v = 4 ∨ v = 5) with rfl | rfl | rfl | rfl | rfl | rfl <;> decide +kernel
  obtain ⟨hs, hs32⟩ := hs
  have hsn : 0 ≤ wrap64 (2 ^ v) ∧ wrap64 (2 ^ v) ≤ 32 := by rw [hs]; exact ⟨Int.natCast_nonneg _, Int.ofNat_le.2 hs32⟩
  have Hs := Lib.hid (show (wrap64 (2 ^ v)).toNat = 2 ^ v by rw [hs]; exact Int.toNat_natCast _)
  clear hvar hs hs32
  simp only [fv]
  go_enter Tryz.func40, Tryz.ntmps40
  go_wp2
  have hb : Below w.heap.size w ((w.alloc (.cells #[.int .u64 (wd f 0), .int .u64 (wd f 1), .int .u64 (wd f 2), .int .u64 (wd f 3)] 34)).alloc (.cells #[.int .u64 0, .int .u64 0, .int .u64 0, .int .u64 0] 34)) := by go_grown
  have h0 : Holds ((w.alloc (.cells #[.int .u64 (wd f 0), .int .u64 (wd f 1), .int .u64 (wd f 2), .int .u64 (wd f 3)] 34)).alloc (.cells #[.int .u64 0, .int .u64 0, .int .u64 0, .int .u64 0] 34)) w.heap.size f := (Holds.new _ _ _).alloc _
  have h1 : Holds ((w.alloc (.cells #[.int .u64 (wd f 0), .int .u64 (wd f 1), .int .u64 (wd f 2), .int .u64 (wd f 3)] 34)).alloc (.cells #[.int .u64 0, .int .u64 0, .int .u64 0, .int .u64 0] 34)) (w.heap.size + 1) 0#256 := Holds.new0 _ _
  generalize (w.alloc (.cells #[.int .u64 (wd f 0), .int .u64 (wd f 1), .int .u64 (wd f 2), .int .u64 (wd f 3)] 34)).alloc (.cells #[.int .u64 0, .int .u64 0, .int .u64 0, .int .u64 0] 34) = W at *
  have HL : Hid (∀ x, Below W.heap.size W x → LowW x) := Lib.hid fun x hx => Hl.out.keep (hb.trans (hx.mono hb.size))
  refine wp_region_alloc_tail 5 _ (.cells #[.int .u64 0, .int .u64 0, .int .u64 0, .int .u64 0] 34) (by kernel_rfl) (by kernel_rfl) rfl (fun a w => by simp [go_sem]; done) ?_
  apply Exists.intro
  refine ⟨fun V hV => ?_, ?_⟩
  · have c0 : ∀ u : Sub V, u.1.cell? ⟨w.heap.size, 0, none⟩ = some (.int .u64 (wd f 0)) := fun u => ((h0.keep hV h0.lt).sub u).cells.1
    have c1 : ∀ u : Sub V, u.1.cell? ⟨w.heap.size, 1, none⟩ = some (.int .u64 (wd f 1)) := fun u => ((h0.keep hV h0.lt).sub u).cells.2.1
    have c2 : ∀ u : Sub V, u.1.cell? ⟨w.heap.size, 2, none⟩ = some (.int .u64 (wd f 2)) := fun u => ((h0.keep hV h0.lt).sub u).cells.2.2.1
    have c3 : ∀ u : Sub V, u.1.cell? ⟨w.heap.size, 3, none⟩ = some (.int .u64 (wd f 3)) := fun u => ((h0.keep hV h0.lt).sub u).cells.2.2.2
    have hlV : ∀ u : Sub V, LowW u.1 := fun u => HL.out _ (hV.trans (u.2.mono hV.size))
    simp only [List.take_succ_cons, List.take_zero]
    iterate 2 (go_big_quiet_step (fail))
    go_big_quiet_step (exact sub_below (tabVar v _ (hlV _)))
    go_big_quiet_step (exact sub_below (tabNot (varAny v) _))
    go_big_quiet_step (exact sub_below (tabAnd f (~~~varAny v) _))
    exact wpQuiet_nil rfl
  intro B V hV hB hz
  have k1 := h1.keep hV h1.lt
  have kb := hb.trans (hV.mono hb.size)
  have kz : Holds V B 0#256 := by unfold Holds; rw [hz]; simp [wd]
  rw [Hv.out]
  have hne : w.heap.size + 1 ≠ B := by have := h1.lt; omega
  have hBw : w.heap.size ≤ B := by have := h1.lt; omega
  clear h0 h1 hb hV hB hz HL
  obtain ⟨c0, c1, c2, c3⟩ := kz.cells
  obtain ⟨z0, z1, z2, z3⟩ := kz.free
  simp only [List.drop_succ_cons, List.drop_zero]
  generalize hk : f &&& ~~~varF v = k
  have Hk := Lib.hid hk.symm
  clear hk
  simp only [fv]
  go_wp2
  have kk := kz.set4 k
  have kr := k1.other4 (x0 := .int .u64 (wd k 0)) (x1 := .int .u64 (wd k 1)) (x2 := .int .u64 (wd k 2)) (x3 := .int .u64 (wd k 3)) hne
  have kw := below_set4 (x0 := .int .u64 (wd k 0)) (x1 := .int .u64 (wd k 1)) (x2 := .int .u64 (wd k 2)) (x3 := .int .u64 (wd k 3)) kb hBw
  clear c0 c1 c2 c3 z0 z1 z2 z3 kz k1 kb
  generalize (((V.setCell ⟨B, 0, none⟩ (.int .u64 (wd k 0))).setCell ⟨B, 1, none⟩ (.int .u64 (wd k 1))).setCell ⟨B, 2, none⟩ (.int .u64 (wd k 2))).setCell ⟨B, 3, none⟩ (.int .u64 (wd k 3)) = U0 at *
  generalize wrap64 (2 ^ v) = s at *
  replace kk := kk.has4
  obtain ⟨c0, c1, c2, c3⟩ := kk.cells
  obtain ⟨z0, z1, z2, z3⟩ := kk.free
  refine wp_loop_rounds 5 ?_
  rw [rounds_succ]
  go_wp2
  refine wp_region_draws_tail 9 (by kernel_rfl) (by kernel_rfl) ?_
  simp only [List.take_succ_cons, List.take_zero, List.drop_succ_cons, List.drop_zero]
  iterate 9 (go_big_quiet_step (fail))
  refine wpQuiet_nil ?_
  intro w' hw'
  obtain ⟨nq, hw''⟩ := hw'
  subst hw''
  go_wp2
  replace kk := (kk.set0 (bits .or .u64 (wd k 0) (IntKind.u64.wrap ((wd k 0 : Int) * 2 ^ s.toNat)))).drewN (n := nq)
  replace kr := (kr.other1 (i := 0) (x := .int .u64 (bits .or .u64 (wd k 0) (IntKind.u64.wrap ((wd k 0 : Int) * 2 ^ s.toNat)))) hne).drewN (n := nq)
  replace kw := below_drewN (n := nq) (kw.setCell (p := ⟨B, 0, none⟩) hBw (.int .u64 (bits .or .u64 (wd k 0) (IntKind.u64.wrap ((wd k 0 : Int) * 2 ^ s.toNat)))))
  clear c0 c1 c2 c3 z0 z1 z2 z3
  generalize (U0.setCell ⟨B, 0, none⟩ (.int .u64 (bits .or .u64 (wd k 0) (IntKind.u64.wrap ((wd k 0 : Int) * 2 ^ s.toNat))))).drewN nq = U1 at *
  obtain ⟨c0, c1, c2, c3⟩ := kk.cells
  obtain ⟨z0, z1, z2, z3⟩ := kk.free
  rw [rounds_succ]
  go_wp2
  refine wp_region_draws_tail 9 (by kernel_rfl) (by kernel_rfl) ?_
  simp only [List.take_succ_cons, List.take_zero, List.drop_succ_cons, List.drop_zero]
  iterate 9 (go_big_quiet_step (fail))
  refine wpQuiet_nil ?_
  intro w' hw'
  obtain ⟨nq, hw''⟩ := hw'
  subst hw''
  go_wp2
  replace kk := (kk.set1 (bits .or .u64 (wd k 1) (IntKind.u64.wrap ((wd k 1 : Int) * 2 ^ s.toNat)))).drewN (n := nq)
  replace kr := (kr.other1 (i := 1) (x := .int .u64 (bits .or .u64 (wd k 1) (IntKind.u64.wrap ((wd k 1 : Int) * 2 ^ s.toNat)))) hne).drewN (n := nq)
  replace kw := below_drewN (n := nq) (kw.setCell (p := ⟨B, 1, none⟩) hBw (.int .u64 (bits .or .u64 (wd k 1) (IntKind.u64.wrap ((wd k 1 : Int) * 2 ^ s.toNat)))))
  clear c0 c1 c2 c3 z0 z1 z2 z3
  generalize (U1.setCell ⟨B, 1, none⟩ (.int .u64 (bits .or .u64 (wd k 1) (IntKind.u64.wrap ((wd k 1 : Int) * 2 ^ s.toNat))))).drewN nq = U2 at *
  obtain ⟨c0, c1, c2, c3⟩ := kk.cells
  obtain ⟨z0, z1, z2, z3⟩ := kk.free
  rw [rounds_succ]
  go_wp2
  refine wp_region_draws_tail 9 (by kernel_rfl) (by kernel_rfl) ?_
  simp only [List.take_succ_cons, List.take_zero, List.drop_succ_cons, List.drop_zero]
  iterate 9 (go_big_quiet_step (fail))
  refine wpQuiet_nil ?_
  intro w' hw'
  obtain ⟨nq, hw''⟩ := hw'
  subst hw''
  go_wp2
  replace kk := (kk.set2 (bits .or .u64 (wd k 2) (IntKind.u64.wrap ((wd k 2 : Int) * 2 ^ s.toNat)))).drewN (n := nq)
  replace kr := (kr.other1 (i := 2) (x := .int .u64 (bits .or .u64 (wd k 2) (IntKind.u64.wrap ((wd k 2 : Int) * 2 ^ s.toNat)))) hne).drewN (n := nq)
  replace kw := below_drewN (n := nq) (kw.setCell (p := ⟨B, 2, none⟩) hBw (.int .u64 (bits .or .u64 (wd k 2) (IntKind.u64.wrap ((wd k 2 : Int) * 2 ^ s.toNat)))))
  clear c0 c1 c2 c3 z0 z1 z2 z3
  generalize (U2.setCell ⟨B, 2, none⟩ (.int .u64 (bits .or .u64 (wd k 2) (IntKind.u64.wrap ((wd k 2 : Int) * 2 ^ s.toNat))))).drewN nq = U3 at *
  obtain ⟨c0, c1, c2, c3⟩ := kk.cells
  obtain ⟨z0, z1, z2, z3⟩ := kk.free
  rw [rounds_succ]
  go_wp2
  refine wp_region_draws_tail 9 (by kernel_rfl) (by kernel_rfl) ?_
  simp only [List.take_succ_cons, List.take_zero, List.drop_succ_cons, List.drop_zero]
  iterate 9 (go_big_quiet_step (fail))
  refine wpQuiet_nil ?_
  intro w' hw'
  obtain ⟨nq, hw''⟩ := hw'
  subst hw''
  go_wp2
  replace kk := (kk.set3 (bits .or .u64 (wd k 3) (IntKind.u64.wrap ((wd k 3 : Int) * 2 ^ s.toNat)))).drewN (n := nq)
  replace kr := (kr.other1 (i := 3) (x := .int .u64 (bits .or .u64 (wd k 3) (IntKind.u64.wrap ((wd k 3 : Int) * 2 ^ s.toNat)))) hne).drewN (n := nq)
  replace kw := below_drewN (n := nq) (kw.setCell (p := ⟨B, 3, none⟩) hBw (.int .u64 (bits .or .u64 (wd k 3) (IntKind.u64.wrap ((wd k 3 : Int) * 2 ^ s.toNat)))))
  clear c0 c1 c2 c3 z0 z1 z2 z3
  generalize (U3.setCell ⟨B, 3, none⟩ (.int .u64 (bits .or .u64 (wd k 3) (IntKind.u64.wrap ((wd k 3 : Int) * 2 ^ s.toNat))))).drewN nq = U4 at *
  obtain ⟨c0, c1, c2, c3⟩ := kk.cells
  obtain ⟨z0, z1, z2, z3⟩ := kk.free
  rw [rounds_succ]
  obtain ⟨d0, d1, d2, d3⟩ := kr.cells
  obtain ⟨y0, y1, y2, y3⟩ := kr.free
  go_wp2
  clear c0 c1 c2 c3 z0 z1 z2 z3 d0 d1 d2 d3 y0 y1 y2 y3
  have e0 := or_shl f k v 0 Hk.out hv (by decide)
  have e1 := or_shl f k v 1 Hk.out hv (by decide)
  have e2 := or_shl f k v 2 Hk.out hv (by decide)
  have e3 := or_shl f k v 3 Hk.out hv (by decide)
  rw [Hs.out, e0, e1, e2, e3]
  exact bodyPost_ret (ret_holds Tryz.results40 rfl (kr.set4 (cofF f v false))) rfl ⟨rfl, below_set4 kw (by omega)⟩

end Go.Proofs.YtmbonbicokbihaaGreatDoor

/-
  Walks of package cof.
-/
namespace Go.Proofs.YtmbonbicokbihaaGreatDoor
open Go Go.RowKit
attribute [local go_sem] run_eql_fv run_neq_fv run_guard_fv

theorem cofIn (f : Fn) (v : Nat) (b : Bool) (w : World) (hl : LowW w) (hv : v < 6) :
    Calls Tryz.prog 40 #[fv f, .int .i64 v, .bool b] w fun e w' => e = .returned (fv (cofF f v b)) ∧ Below w.heap.size w w' := by
  cases b
  · exact cofInFalse f v w hl hv
  · exact cofInTrue f v w hl hv

set_option maxRecDepth 100000 in
set_option maxHeartbeats 1000000 in
theorem cofCof (f : Fn) (v : Int) (b : Bool) (w : World) (hl : LowW w) :
    Calls Tryz.prog 20 #[fv f, .int .i64 v, .bool b] w fun e w' => e = .returned (fv (cofAny f v b)) ∧ Below w.heap.size w w' := by
  by_cases hv : 0 ≤ v ∧ v < 8
  · obtain ⟨m, rfl⟩ := Int.eq_ofNat_of_zero_le hv.1
    have hm0 : (0 : Int) ≤ m := hv.1
    have hm8 : (m : Int) < 8 := hv.2
    have e : cofAny f (m : Int) b = cofF f m b := by rw [cofAny, if_pos hv, Int.toNat_natCast]
    rw [e]
    clear e hv
    have hk : Holds ((w.alloc (.cells #[.int .u64 (wd f 0), .int .u64 (wd f 1), .int .u64 (wd f 2), .int .u64 (wd f 3)] 34)).alloc (.cells #[.int .u64 0, .int .u64 0, .int .u64 0, .int .u64 0] 34)) (w.heap.size + 1) 0#256 := Holds.new0 _ _
    have Hk := Lib.hid hk
    have Hl : Hid (LowW ((w.alloc (.cells #[.int .u64 (wd f 0), .int .u64 (wd f 1), .int .u64 (wd f 2), .int .u64 (wd f 3)] 34)).alloc (.cells #[.int .u64 0, .int .u64 0, .int .u64 0, .int .u64 0] 34))) := Lib.hid (hl.keep (by go_grown))
    clear hk hl
    by_cases h6 : (m : Int) < 6
    · simp only [fv]
      go_enter Tryz.func20, Tryz.ntmps20
      go_wp2_with fail
      refine (cofIn f m b _ Hl.out (by omega)).mono ?_
      generalize hg : cofF f m b = g
      have Hg := Lib.hid hg
      clear hg
      rintro e w1 ⟨rfl, hb1⟩
      have k := Hk.out.keep hb1 (by simp)
      have hb2 : Below w.heap.size w w1 := below_from hb1 (by go_grown)
      clear hb1 Hk Hl
      obtain ⟨c0, c1, c2, c3⟩ := k.cells
      obtain ⟨z0, z1, z2, z3⟩ := k.free
      simp only [fv]
      go_wp2
      exact bodyPost_ret (ret_holds Tryz.results20 rfl (k.set4 g)) rfl ⟨by rw [Hg.out]; rfl, below_set4 hb2 (by omega)⟩
    · have h6' : (6 : Int) ≤ m := by omega
      simp only [fv]
      go_enter Tryz.func20, Tryz.ntmps20
      go_wp2_with fail
      refine (cofOf f m b _ (by omega)).mono ?_
      generalize hg : cofF f m b = g
      have Hg := Lib.hid hg
      clear hg
      rintro e w1 ⟨rfl, hb1⟩
      have k := Hk.out.keep hb1 (by simp)
      have hb2 : Below w.heap.size w w1 := below_from hb1 (by go_grown)
      clear hb1 Hk Hl
      obtain ⟨c0, c1, c2, c3⟩ := k.cells
      obtain ⟨z0, z1, z2, z3⟩ := k.free
      simp only [fv]
      go_wp2
      exact bodyPost_ret (ret_holds Tryz.results20 rfl (k.set4 g)) rfl ⟨by rw [Hg.out]; rfl, below_set4 hb2 (by omega)⟩
  · have e : cofAny f v b = f := by rw [cofAny, if_neg hv]
    rw [e]
    clear e
    simp only [fv]
    go_enter Tryz.func20, Tryz.ntmps20
    go_wp2
    all_goals exact bodyPost_ret (v := .agg #[.int .u64 (wd f 0), .int .u64 (wd f 1), .int .u64 (wd f 2), .int .u64 (wd f 3)]) (by simp [results, Tryz.results20, go_sem]) rfl ⟨rfl, by go_grown⟩




set_option maxRecDepth 100000 in
set_option maxHeartbeats 1000000 in
theorem cofDepends (f : Fn) (v : Int) (w : World) (hl : LowW w) :
    Calls Tryz.prog 38 #[fv f, .int .i64 v] w fun e w' => e = .returned (.bool (depAny f v)) ∧ Below w.heap.size w w' := by
  rw [← dep_iff f v]
  simp only [fv]
  go_enter Tryz.func38, Tryz.ntmps38
  go_wp2
  have h0 : Holds (w.alloc (.cells #[.int .u64 (wd f 0), .int .u64 (wd f 1), .int .u64 (wd f 2), .int .u64 (wd f 3)] 34)) w.heap.size f := Holds.new _ _ _
  have hb : Below w.heap.size w (w.alloc (.cells #[.int .u64 (wd f 0), .int .u64 (wd f 1), .int .u64 (wd f 2), .int .u64 (wd f 3)] 34)) := by go_grown
  generalize (w.alloc (.cells #[.int .u64 (wd f 0), .int .u64 (wd f 1), .int .u64 (wd f 2), .int .u64 (wd f 3)] 34)) = W at *
  have c0 : ∀ u : Sub W, u.1.cell? ⟨w.heap.size, 0, none⟩ = some (.int .u64 (wd f 0)) := fun u => (h0.sub u).cells.1
  have c1 : ∀ u : Sub W, u.1.cell? ⟨w.heap.size, 1, none⟩ = some (.int .u64 (wd f 1)) := fun u => (h0.sub u).cells.2.1
  have c2 : ∀ u : Sub W, u.1.cell? ⟨w.heap.size, 2, none⟩ = some (.int .u64 (wd f 2)) := fun u => (h0.sub u).cells.2.2.1
  have c3 : ∀ u : Sub W, u.1.cell? ⟨w.heap.size, 3, none⟩ = some (.int .u64 (wd f 3)) := fun u => (h0.sub u).cells.2.2.2
  have hlW : ∀ u : Sub W, LowW u.1 := fun u => hl.keep (hb.trans (u.2.mono hb.size))
  refine wp_region_quiet_all (C := fun w' => ∃ u : Sub W, w' = u.1) (by kernel_rfl) (by kernel_rfl) (InSub.drew W) ?_
  iterate 2 (go_big_quiet_step (fail))
  go_big_quiet_step (exact sub_below (cofCof f v false _ (hlW _)))
  iterate 2 (go_big_quiet_step (fail))
  go_big_quiet_step (exact sub_below (cofCof f v true _ (hlW _)))
  iterate 2 (go_big_quiet_step (fail))
  refine wpQuiet_nil ?_
  clear c0 c1 c2 c3 hlW
  intro w' hw'
  obtain ⟨u, rfl⟩ := hw'
  have hb2 := hb.trans (u.2.mono hb.size)
  generalize u.1 = w1 at *
  go_wp2
  go_ret
  exact ⟨rfl, hb2⟩



end Go.Proofs.YtmbonbicokbihaaGreatDoor
