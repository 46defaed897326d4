/-
  Plain mathematics of package cof: a variable set, by words; the count by words; the support from below.
-/
import Derived.Test.YtgccgjeehggagaaDoorOnes
namespace Go.Proofs.YtgccgjeehggagaaDoor
open Go Go.RowKit

theorem wd_test (f : Fn) (i j : Nat) (hj : j < 64) : (wd f i).testBit j = f.getLsbD (64 * i + j) := by
  rw [wd_bit f (64 * i + j), Nat.testBit_eq_decide_div_mod_eq, show (64 * i + j) / 64 = i by omega, show (64 * i + j) % 64 = j by omega]

theorem wd_eq {f : Fn} {i x : Nat} (hx : x < 18446744073709551616) (h : ∀ j, j < 64 → x.testBit j = f.getLsbD (64 * i + j)) : wd f i = x := by
  refine Nat.eq_of_testBit_eq fun j => ?_
  rcases Nat.lt_or_ge j 64 with hj | hj
  · rw [wd_test f i j hj, h j hj]
  · have h64 : (2 : Nat) ^ 64 ≤ 2 ^ j := Nat.pow_le_pow_right (by decide) hj
    rw [Nat.testBit_lt_two_pow (Nat.lt_of_lt_of_le (wd_lt f i) h64), Nat.testBit_lt_two_pow (Nat.lt_of_lt_of_le hx h64)]

theorem row_high (i j v : Nat) (hv : v < 6) : (64 * i + j).testBit v = j.testBit v := by
  rw [Nat.testBit_eq_decide_div_mod_eq, Nat.testBit_eq_decide_div_mod_eq]
  rcases (by omega : v = 0 ∨ v = 1 ∨ v = 2 ∨ v = 3 ∨ v = 4 ∨ v = 5) with rfl | rfl | rfl | rfl | rfl | rfl <;> simp <;> omega

theorem rowF_eq (x m : Nat) (b : Bool) : rowF x m b = if x.testBit m then (if b then x else x - 2 ^ m) else (if b then x + 2 ^ m else x) := by
  unfold rowF
  rw [Nat.testBit_eq_decide_div_mod_eq]
  by_cases h : x / 2 ^ m % 2 = 1
  · have h2 : 2 ^ m ≤ x := by
      rcases Nat.lt_or_ge x (2 ^ m) with h' | h'
      · rw [Nat.div_eq_of_lt h'] at h; omega
      · exact h'
    rw [if_pos h, decide_eq_true h, if_pos rfl]
    cases b
    · rw [if_neg (by decide), if_neg (by decide)]; rfl
    · rw [if_pos rfl, if_pos rfl]; omega
  · rw [if_neg h, decide_eq_false h]
    cases b <;> rfl

/-- Bits of a row, moved by a variable's weight. -/
theorem test_move (j v : Nat) (hj : j < 64) (hv : v < 6) :
    (j.testBit v = true → 2 ^ v ≤ j ∧ (j - 2 ^ v).testBit v = false) ∧ (j.testBit v = false → j + 2 ^ v < 64 ∧ (j + 2 ^ v).testBit v = true) ∧ (j.testBit v = true → j + 2 ^ v < 64 → (j + 2 ^ v).testBit v = false) ∧ (j.testBit v = false → 2 ^ v ≤ j → (j - 2 ^ v).testBit v = true) := by
  have H : ∀ j : Fin 64, ∀ v : Fin 6, (((j : Nat).testBit v = true → 2 ^ (v : Nat) ≤ (j : Nat) ∧ ((j : Nat) - 2 ^ (v : Nat)).testBit v = false) ∧ ((j : Nat).testBit v = false → (j : Nat) + 2 ^ (v : Nat) < 64 ∧ ((j : Nat) + 2 ^ (v : Nat)).testBit v = true) ∧ ((j : Nat).testBit v = true → (j : Nat) + 2 ^ (v : Nat) < 64 → ((j : Nat) + 2 ^ (v : Nat)).testBit v = false) ∧ ((j : Nat).testBit v = false → 2 ^ (v : Nat) ≤ (j : Nat) → ((j : Nat) - 2 ^ (v : Nat)).testBit v = true)) := by decide +kernel
  exact H ⟨j, hj⟩ ⟨v, hv⟩

/-- A word of a function with a low variable set to true: what is kept, and the same moved down. -/
theorem cof_in_true (f : Fn) (v i : Nat) (hv : v < 6) (hi : i < 4) : wd (cofF f v true) i = wd (f &&& varF v) i ||| wd (f &&& varF v) i / 2 ^ 2 ^ v := by
  have hx := wd_lt (f &&& varF v) i
  refine wd_eq ?_ fun j hj => ?_
  · exact Nat.or_lt_two_pow (n := 64) hx (Nat.lt_of_le_of_lt (Nat.div_le_self _ _) hx)
  · obtain ⟨t1, t2, t3, _⟩ := test_move j v hj hv
    have hr : 64 * i + j < 256 := by omega
    rw [cofF_bit _ _ _ _ hr, rowF_eq, row_high i j v hv, Nat.testBit_or, Nat.testBit_div_two_pow, wd_test _ _ _ hj, BitVec.getLsbD_and, var_bit _ _ hr, row_high i j v hv]
    cases hb : j.testBit v
    · obtain ⟨a1, a2⟩ := t2 hb
      have hr2 : 64 * i + (j + 2 ^ v) < 256 := by omega
      rw [wd_test _ _ _ a1, BitVec.getLsbD_and, var_bit _ _ hr2, row_high i _ v hv, a2]
      simp [Nat.add_assoc]
    · simp only [if_true, Bool.and_true]
      by_cases h64 : j + 2 ^ v < 64
      · have a2 := t3 hb h64
        have hr2 : 64 * i + (j + 2 ^ v) < 256 := by omega
        rw [wd_test _ _ _ h64, BitVec.getLsbD_and, var_bit _ _ hr2, row_high i _ v hv, a2]
        simp
      · have h64' : (2 : Nat) ^ 64 ≤ 2 ^ (j + 2 ^ v) := Nat.pow_le_pow_right (by decide) (by omega)
        rw [Nat.testBit_lt_two_pow (Nat.lt_of_lt_of_le hx h64')]
        simp

/-- The same to false: moved up. -/
theorem cof_in_false (f : Fn) (v i : Nat) (hv : v < 6) (hi : i < 4) : wd (cofF f v false) i = wd (f &&& ~~~varF v) i ||| (wd (f &&& ~~~varF v) i * 2 ^ 2 ^ v) % 18446744073709551616 := by
  have hx := wd_lt (f &&& ~~~varF v) i
  refine wd_eq ?_ fun j hj => ?_
  · exact Nat.or_lt_two_pow (n := 64) hx (Nat.mod_lt _ (by decide))
  · obtain ⟨t1, t2, _, t4⟩ := test_move j v hj hv
    have hr : 64 * i + j < 256 := by omega
    rw [cofF_bit _ _ _ _ hr, rowF_eq, row_high i j v hv, Nat.testBit_or, show (18446744073709551616 : Nat) = 2 ^ 64 by decide, Nat.testBit_mod_two_pow, Nat.testBit_mul_two_pow, wd_test _ _ _ hj, BitVec.getLsbD_and, BitVec.getLsbD_not, var_bit _ _ hr, row_high i j v hv, decide_eq_true hr, decide_eq_true hj]
    cases hb : j.testBit v
    · simp only [Bool.false_eq_true, if_false, Bool.not_false, Bool.and_true, Bool.true_and]
      by_cases h64 : 2 ^ v ≤ j
      · have a2 := t4 hb h64
        have hjs : j - 2 ^ v < 64 := Nat.lt_of_le_of_lt (Nat.sub_le _ _) hj
        have hr2 : 64 * i + (j - 2 ^ v) < 256 := by clear a2; omega
        rw [wd_test _ _ _ hjs, BitVec.getLsbD_and, BitVec.getLsbD_not, var_bit _ _ hr2, row_high i _ v hv, a2]
        simp
      · simp [h64]
    · obtain ⟨a1, a2⟩ := t1 hb
      have hjs : j - 2 ^ v < 64 := Nat.lt_of_le_of_lt (Nat.sub_le _ _) hj
      have hr2 : 64 * i + (j - 2 ^ v) < 256 := by clear a2; omega
      rw [wd_test _ _ _ hjs, BitVec.getLsbD_and, BitVec.getLsbD_not, var_bit _ _ hr2, row_high i _ v hv, a2, decide_eq_true hr2, decide_eq_true a1, ← Nat.add_sub_assoc a1]
      simp

/-- A word of a function with a high variable set is another word. -/
theorem cof_of (f : Fn) (v : Nat) (b : Bool) (i k : Nat) (hi : i < 4) (hk : ∀ j : Fin 64, rowF (64 * i + j) v b = 64 * k + j) : wd (cofF f v b) i = wd f k :=
  wd_eq (wd_lt f k) fun j hj => by
    rw [wd_test _ _ _ hj, cofF_bit _ _ _ _ (by omega)]
    exact congrArg _ (hk ⟨j, hj⟩).symm

theorem cof_of_words (f : Fn) :
    (wd (cofF f 6 true) 0 = wd f 1 ∧ wd (cofF f 6 true) 1 = wd f 1 ∧ wd (cofF f 6 true) 2 = wd f 3 ∧ wd (cofF f 6 true) 3 = wd f 3) ∧
    (wd (cofF f 6 false) 0 = wd f 0 ∧ wd (cofF f 6 false) 1 = wd f 0 ∧ wd (cofF f 6 false) 2 = wd f 2 ∧ wd (cofF f 6 false) 3 = wd f 2) ∧
    (wd (cofF f 7 true) 0 = wd f 2 ∧ wd (cofF f 7 true) 1 = wd f 3 ∧ wd (cofF f 7 true) 2 = wd f 2 ∧ wd (cofF f 7 true) 3 = wd f 3) ∧
    (wd (cofF f 7 false) 0 = wd f 0 ∧ wd (cofF f 7 false) 1 = wd f 1 ∧ wd (cofF f 7 false) 2 = wd f 0 ∧ wd (cofF f 7 false) 3 = wd f 1) := by
  refine ⟨⟨?_, ?_, ?_, ?_⟩, ⟨?_, ?_, ?_, ?_⟩, ⟨?_, ?_, ?_, ?_⟩, ⟨?_, ?_, ?_, ?_⟩⟩ <;> exact cof_of f _ _ _ _ (by decide) (by decide +kernel)

/-- Depends: whether both are unlike. -/
theorem dep_iff (f : Fn) (v : Int) : (!(cofAny f v false == cofAny f v true)) = depAny f v := by
  unfold depAny cofAny
  split
  · rename_i hv
    have hm : v.toNat < 8 := by omega
    generalize v.toNat = m at hm
    cases hd : depF f m
    · have h : ∀ x, x < 256 → shows f m x = false := fun x hx => by
        cases hs : shows f m x
        · rfl
        · rw [depF_true hx hs] at hd; exact Bool.noConfusion hd
      have e : cofF f m false = cofF f m true := fn_ext fun x hx => by
        rw [cofF_bit _ _ _ _ hx, cofF_bit _ _ _ _ hx]
        have h0 := h (rowF x m false) (rowF_lt _ _ _ hx hm)
        have hb := rowF_test x m false m hx hm hm
        rw [if_pos rfl, Nat.testBit_eq_decide_div_mod_eq] at hb
        have hz : rowF x m false / 2 ^ m % 2 = 0 := by
          rw [decide_eq_false_iff_not] at hb; omega
        unfold shows at h0
        rw [decide_eq_true hz, Bool.true_and] at h0
        have e2 : rowF x m false + 2 ^ m = rowF x m true := by
          unfold rowF; simp
        rw [e2] at h0
        simpa using h0
      rw [e]
      simp
    · obtain ⟨x, hx, hs⟩ := List.any_eq_true.1 hd
      have hx' := List.mem_range.1 hx
      unfold shows at hs
      rw [Bool.and_eq_true, decide_eq_true_eq] at hs
      have h2 : ¬ x / 2 ^ m % 2 = 1 := by omega
      have e1 : rowF x m false = x := by unfold rowF; rw [if_neg h2, if_neg (by decide)]; rfl
      have e2 : rowF x m true = x + 2 ^ m := by unfold rowF; rw [if_neg h2, if_pos rfl]
      have hne : ¬ cofF f m false = cofF f m true := fun e => by
        have h3 := congrArg (fun g : Fn => g.getLsbD x) e
        simp only [cofF_bit _ _ _ _ hx', e1, e2] at h3
        rw [h3] at hs
        simp at hs
      simp [hne]
  · simp

/-- The support of the variables below n. -/
def supTo (f : Fn) : Nat → Nat
  | 0 => 0
  | n + 1 => supTo f n + (if depF f n then 2 ^ n else 0)

theorem supTo_lt (f : Fn) (n : Nat) : supTo f n < 2 ^ n := by
  induction n with
  | zero => simp [supTo]
  | succ n ih => simp only [supTo]; rw [Nat.pow_succ]; split <;> omega

theorem supTo_eq (f : Fn) : supTo f 8 = supF f := by
  simp only [supTo, supF, supFrom]
  generalize depF f 0 = d0
  generalize depF f 1 = d1
  generalize depF f 2 = d2
  generalize depF f 3 = d3
  generalize depF f 4 = d4
  generalize depF f 5 = d5
  generalize depF f 6 = d6
  generalize depF f 7 = d7
  revert d0 d1 d2 d3 d4 d5 d6 d7
  decide

theorem cntF_word (f : Fn) (i k : Nat) (hk : k ≤ 64) : cntF f (64 * i + k) = cntF f (64 * i) + bitSum (wd f i) k := by
  induction k with
  | zero => rfl
  | succ k ih =>
    rw [← Nat.add_assoc, cntF, ih (by omega), bitSum, ← wd_test f i k (by omega), Nat.testBit_eq_decide_div_mod_eq]
    have : wd f i / 2 ^ k % 2 = 0 ∨ wd f i / 2 ^ k % 2 = 1 := by omega
    rcases this with h | h <;> simp [h] <;> omega

theorem cntF_words (f : Fn) : cntF f 256 = bitSum (wd f 0) 64 + bitSum (wd f 1) 64 + bitSum (wd f 2) 64 + bitSum (wd f 3) 64 := by
  have h0 : cntF f 64 = 0 + bitSum (wd f 0) 64 := cntF_word f 0 64 (by decide)
  have h1 : cntF f 128 = cntF f 64 + bitSum (wd f 1) 64 := cntF_word f 1 64 (by decide)
  have h2 : cntF f 192 = cntF f 128 + bitSum (wd f 2) 64 := cntF_word f 2 64 (by decide)
  have h3 : cntF f 256 = cntF f 192 + bitSum (wd f 3) 64 := cntF_word f 3 64 (by decide)
  omega

end Go.Proofs.YtgccgjeehggagaaDoor
