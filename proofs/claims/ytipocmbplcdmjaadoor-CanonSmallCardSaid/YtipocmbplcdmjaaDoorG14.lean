/-
  Texts of this proof, one behind the other: TabAt, TabVar, Ones, Math2c, Ref, RefC.
-/
import Derived.Test.YtipocmbplcdmjaaDoorG13
import Derived.Test.YtipocmbplcdmjaaDoorG11
/-
  Walks of tab.At and of the document's At.
-/
namespace Go.Proofs.YtipocmbplcdmjaaDoor
open Go Go.RowKit

theorem cell_fv (w : World) (f : Fn) (t : TypeId) (i : Nat) (hi : i < 4) :
    (w.alloc (.cells #[.int .u64 (wd f 0), .int .u64 (wd f 1), .int .u64 (wd f 2), .int .u64 (wd f 3)] t)).cell? ⟨w.heap.size, i, none⟩ = some (.int .u64 (wd f i)) := by
  rw [cell_of_row _ _ _ _ _ _ (heap_alloc_new _ _)]
  rcases (by omega : i = 0 ∨ i = 1 ∨ i = 2 ∨ i = 3) with rfl | rfl | rfl | rfl <;> rfl

set_option maxHeartbeats 400000 in
theorem tabAt (f : Fn) (x : Int) (w : World) :
    Calls Tryd.prog 45 #[fv f, .int .i64 x] w fun e w' => e = .returned (.bool (atF f x)) ∧ Below w.heap.size w w' := by
  simp only [fv]
  by_cases hx : 0 ≤ x ∧ x < 256
  · obtain ⟨k, rfl⟩ := Int.eq_ofNat_of_zero_le hx.1
    have hk : k < 256 := by omega
    have hc := cell_fv w f 35 (k / 64) (by omega)
    have hi0 : (0 : Int) ≤ (k : Int) / 64 := by omega
    have hi1 : (k : Int) / 64 < 4 := by omega
    go_enter Tryd.func45, Tryd.ntmps45
    go_wp2
    go_ret
    exact ⟨ret_bool (atF_and f k hk), by go_grown⟩
  · go_enter Tryd.func45, Tryd.ntmps45
    go_wp2
    all_goals
      go_ret
      exact ⟨ret_bool (atF_out f x hx).symm, by go_grown⟩

set_option maxHeartbeats 400000 in
theorem refAt (f : Fn) (x : Int) (w : World) :
    Calls Tryd.prog 67 #[fv f, .int .i64 x] w fun e w' => e = .returned (.bool (atF f x)) ∧ Below w.heap.size w w' := by
  simp only [fv]
  by_cases hx : 0 ≤ x ∧ x < 256
  · obtain ⟨k, rfl⟩ := Int.eq_ofNat_of_zero_le hx.1
    have hk : k < 256 := by omega
    have hc := cell_fv w f 35 (k / 64) (by omega)
    have hi0 : (0 : Int) ≤ (k : Int) / 64 := by omega
    have hi1 : (k : Int) / 64 < 4 := by omega
    go_enter Tryd.func67, Tryd.ntmps67
    go_wp2
    go_ret
    exact ⟨ret_bool (atF_tmod f k hk), by go_grown⟩
  · go_enter Tryd.func67, Tryd.ntmps67
    go_wp2
    all_goals
      go_ret
      exact ⟨ret_bool (atF_out f x hx).symm, by go_grown⟩

end Go.Proofs.YtipocmbplcdmjaaDoor

/-
  Walks of tab.varWord and tab.Var.
-/
namespace Go.Proofs.YtipocmbplcdmjaaDoor
open Go Go.RowKit

/-- The table of the first six variables' words lies where it was laid. -/

def LowW (w : World) : Prop := ∀ i : Nat, i < 6 → w.cell? ⟨0, i, none⟩ = some (.int .u64 (lowV i))

theorem LowW.pos {w : World} (h : LowW w) : 0 < w.heap.size := block_lt_of_cell (h 0 (by decide))

theorem LowW.keep {w w' : World} (h : LowW w) (hb : Below w.heap.size w w') : LowW w' := fun i hi => by
  rw [hb.cell (p := ⟨0, i, none⟩) h.pos]; exact h i hi

set_option maxHeartbeats 400000 in
theorem varWord_low (v i : Nat) (w : World) (hl : LowW w) (hv : v < 6) (hi : i < 4) :
    Calls Tryd.prog 56 #[.int .i64 v, .int .i64 i] w fun e w' => e = .returned (.int .u64 (wd (varF v) i)) ∧ w = w' := by
  have hc := hl v hv
  rw [lowV_eq v i hv hi] at hc
  have h0 : (0 : Int) ≤ (v : Int) := by omega
  have h6 : (v : Int) < 6 := by omega
  clear hl
  go_enter Tryd.func56, Tryd.ntmps56
  go_wp2
  go_ret
  exact ⟨rfl, rfl⟩

theorem varWord_six (i : Nat) (w : World) (hi : i < 4) :
    Calls Tryd.prog 56 #[.int .i64 6, .int .i64 i] w fun e w' => e = .returned (.int .u64 (wd (varF 6) i)) ∧ w = w' := by
  obtain ⟨e0, e1, e2, e3⟩ := wd_var6
  rcases (by omega : i = 0 ∨ i = 1 ∨ i = 2 ∨ i = 3) with rfl | rfl | rfl | rfl
  all_goals
    simp only [e0, e1, e2, e3]
    clear e0 e1 e2 e3
    go_enter Tryd.func56, Tryd.ntmps56
    go_wp2
    go_ret
    exact ⟨rfl, rfl⟩

theorem varWord_seven (i : Nat) (w : World) (hi : i < 4) :
    Calls Tryd.prog 56 #[.int .i64 7, .int .i64 i] w fun e w' => e = .returned (.int .u64 (wd (varF 7) i)) ∧ w = w' := by
  obtain ⟨e0, e1, e2, e3⟩ := wd_var7
  rcases (by omega : i = 0 ∨ i = 1 ∨ i = 2 ∨ i = 3) with rfl | rfl | rfl | rfl
  all_goals
    simp only [e0, e1, e2, e3]
    clear e0 e1 e2 e3
    go_enter Tryd.func56, Tryd.ntmps56
    go_wp2
    go_ret
    exact ⟨rfl, rfl⟩

theorem varWord_any (v i : Nat) (w : World) (hl : LowW w) (hv : v < 8) (hi : i < 4) :
    Calls Tryd.prog 56 #[.int .i64 v, .int .i64 i] w fun e w' => e = .returned (.int .u64 (wd (varF v) i)) ∧ w = w' := by
  rcases (by omega : v < 6 ∨ v = 6 ∨ v = 7) with h | rfl | rfl
  · exact varWord_low v i w hl h hi
  · exact varWord_six i w hi
  · exact varWord_seven i w hi

set_option maxHeartbeats 400000 in
theorem tabVar (v : Int) (w : World) (hl : LowW w) :
    Calls Tryd.prog 34 #[.int .i64 v] w fun e w' => e = .returned (fv (varAny v)) ∧ Below w.heap.size w w' := by
  have Hl := Lib.hid hl
  have hp := hl.pos
  clear hl
  by_cases hv : 0 ≤ v ∧ v < 8
  · obtain ⟨k, rfl⟩ := Int.eq_ofNat_of_zero_le hv.1
    have hk : k < 8 := by omega
    have e : varAny (k : Int) = varF k := by rw [varAny, if_pos hv, Int.toNat_natCast]
    rw [e]
    clear e
    simp only [fv]
    go_enter Tryd.func34, Tryd.ntmps34
    go_wp2
    refine wp_loop_rounds 5 ?_
    rw [rounds_succ]
    go_wp2_with fail
    refine (varWord_any k 0 _ (Hl.out.keep (by go_grown)) hk (by decide)).mono ?_
    rintro e w1 ⟨rfl, rfl⟩
    go_wp2
    rw [rounds_succ]
    go_wp2_with fail
    refine (varWord_any k 1 _ (Hl.out.keep (by go_grown)) hk (by decide)).mono ?_
    rintro e w1 ⟨rfl, rfl⟩
    go_wp2
    rw [rounds_succ]
    go_wp2_with fail
    refine (varWord_any k 2 _ (Hl.out.keep (by go_grown)) hk (by decide)).mono ?_
    rintro e w1 ⟨rfl, rfl⟩
    go_wp2
    rw [rounds_succ]
    go_wp2_with fail
    refine (varWord_any k 3 _ (Hl.out.keep (by go_grown)) hk (by decide)).mono ?_
    rintro e w1 ⟨rfl, rfl⟩
    go_wp2
    rw [rounds_succ]
    go_wp2
    exact bodyPost_ret (v := .agg #[.int .u64 (wd (varF k) 0), .int .u64 (wd (varF k) 1), .int .u64 (wd (varF k) 2), .int .u64 (wd (varF k) 3)]) (by simp [results, Tryd.results34, go_sem]) rfl ⟨rfl, by go_grown⟩
  · have e : varAny v = 0#256 := by rw [varAny, if_neg hv]
    rw [e, fv_zero]
    clear e
    go_enter Tryd.func34, Tryd.ntmps34
    go_wp2
    all_goals exact bodyPost_ret (v := .agg #[.int .u64 0, .int .u64 0, .int .u64 0, .int .u64 0]) (by simp [results, Tryd.results34, go_sem]) rfl ⟨rfl, by go_grown⟩

end Go.Proofs.YtipocmbplcdmjaaDoor

/-
  Walk of math/bits.OnesCount64: how many bits of a word are set.
-/
namespace Go.Proofs.YtipocmbplcdmjaaDoor
open Go Go.RowKit

end Go.Proofs.YtipocmbplcdmjaaDoor

/-
  Plain mathematics of package cof: a variable set, by words; the count by words; the support from below.
-/
namespace Go.Proofs.YtipocmbplcdmjaaDoor
open Go Go.RowKit

theorem wd_test (f : Fn) (i j : Nat) (hj : j < 64) : (wd f i).testBit j = f.getLsbD (64 * i + j) := by
  rw [wd_bit f (64 * i + j), Nat.testBit_eq_decide_div_mod_eq, show (64 * i + j) / 64 = i by omega, show (64 * i + j) % 64 = j by omega]

theorem wd_eq {f : Fn} {i x : Nat} (hx : x < 18446744073709551616) (h : ∀ j, j < 64 → x.testBit j = f.getLsbD (64 * i + j)) : wd f i = x := by
  refine Nat.eq_of_testBit_eq fun j => ?_
  rcases Nat.lt_or_ge j 64 with hj | hj
  · rw [wd_test f i j hj, h j hj]
  · have h64 : (2 : Nat) ^ 64 ≤ 2 ^ j := Nat.pow_le_pow_right (by decide) hj
    rw [Nat.testBit_lt_two_pow (Nat.lt_of_lt_of_le (wd_lt f i) h64), Nat.testBit_lt_two_pow (Nat.lt_of_lt_of_le hx h64)]

theorem row_high (i j v : Nat) (hv : v < 6) : (64 * i + j).testBit v = j.testBit v := by
  rw [Nat.testBit_eq_decide_div_mod_eq, Nat.testBit_eq_decide_div_mod_eq]
  rcases (by omega : v = 0 ∨ v = 1 ∨ v = 2 ∨ v = 3 ∨ v = 4 ∨ v = 5) with rfl | rfl | rfl | rfl | rfl | rfl <;> simp <;> omega

theorem rowF_eq (x m : Nat) (b : Bool) : rowF x m b = if x.testBit m then (if b then x else x - 2 ^ m) else (if b then x + 2 ^ m else x) := by
  unfold rowF
  rw [Nat.testBit_eq_decide_div_mod_eq]
  by_cases h : x / 2 ^ m % 2 = 1
  · have h2 : 2 ^ m ≤ x := by
      rcases Nat.lt_or_ge x (2 ^ m) with h' | h'
      · rw [Nat.div_eq_of_lt h'] at h; omega
      · exact h'
    rw [if_pos h, decide_eq_true h, if_pos rfl]
    cases b
    · rw [if_neg (by decide), if_neg (by decide)]; rfl
    · rw [if_pos rfl, if_pos rfl]; omega
  · rw [if_neg h, decide_eq_false h]
    cases b <;> rfl

/-- Bits of a row, moved by a variable's weight. -/
theorem test_move (j v : Nat) (hj : j < 64) (hv : v < 6) :
    (j.testBit v = true → 2 ^ v ≤ j ∧ (j - 2 ^ v).testBit v = false) ∧ (j.testBit v = false → j + 2 ^ v < 64 ∧ (j + 2 ^ v).testBit v = true) ∧ (j.testBit v = true → j + 2 ^ v < 64 → (j + 2 ^ v).testBit v = false) ∧ (j.testBit v = false → 2 ^ v ≤ j → (j - 2 ^ v).testBit v = true) := by
  have H : ∀ j : Fin 64, ∀ v : Fin 6, (((j : Nat).testBit v = true → 2 ^ (v : Nat) ≤ (j : Nat) ∧ ((j : Nat) - 2 ^ (v : Nat)).testBit v = false) ∧ ((j : Nat).testBit v = false → (j : Nat) + 2 ^ (v : Nat) < 64 ∧ ((j : Nat) + 2 ^ (v : Nat)).testBit v = true) ∧ ((j : Nat).testBit v = true → (j : Nat) + 2 ^ (v : Nat) < 64 → ((j : Nat) + 2 ^ (v : Nat)).testBit v = false) ∧ ((j : Nat).testBit v = false → 2 ^ (v : Nat) ≤ (j : Nat) → ((j : Nat) - 2 ^ (v : Nat)).testBit v = true)) := by decide +kernel
  exact H ⟨j, hj⟩ ⟨v, hv⟩

/-- A word of a function with a low variable set to true: what is kept, and the same moved down. -/
theorem cof_in_true (f : Fn) (v i : Nat) (hv : v < 6) (hi : i < 4) : wd (cofF f v true) i = wd (f &&& varF v) i ||| wd (f &&& varF v) i / 2 ^ 2 ^ v := by
  have hx := wd_lt (f &&& varF v) i
  refine wd_eq ?_ fun j hj => ?_
  · exact Nat.or_lt_two_pow (n := 64) hx (Nat.lt_of_le_of_lt (Nat.div_le_self _ _) hx)
  · obtain ⟨t1, t2, t3, _⟩ := test_move j v hj hv
    have hr : 64 * i + j < 256 := by omega
    rw [cofF_bit _ _ _ _ hr, rowF_eq, row_high i j v hv, Nat.testBit_or, Nat.testBit_div_two_pow, wd_test _ _ _ hj, BitVec.getLsbD_and, var_bit _ _ hr, row_high i j v hv]
    cases hb : j.testBit v
    · obtain ⟨a1, a2⟩ := t2 hb
      have hr2 : 64 * i + (j + 2 ^ v) < 256 := by omega
      rw [wd_test _ _ _ a1, BitVec.getLsbD_and, var_bit _ _ hr2, row_high i _ v hv, a2]
      simp [Nat.add_assoc]
    · simp only [if_true, Bool.and_true]
      by_cases h64 : j + 2 ^ v < 64
      · have a2 := t3 hb h64
        have hr2 : 64 * i + (j + 2 ^ v) < 256 := by omega
        rw [wd_test _ _ _ h64, BitVec.getLsbD_and, var_bit _ _ hr2, row_high i _ v hv, a2]
        simp
      · have h64' : (2 : Nat) ^ 64 ≤ 2 ^ (j + 2 ^ v) := Nat.pow_le_pow_right (by decide) (by omega)
        rw [Nat.testBit_lt_two_pow (Nat.lt_of_lt_of_le hx h64')]
        simp

/-- The same to false: moved up. -/
theorem cof_in_false (f : Fn) (v i : Nat) (hv : v < 6) (hi : i < 4) : wd (cofF f v false) i = wd (f &&& ~~~varF v) i ||| (wd (f &&& ~~~varF v) i * 2 ^ 2 ^ v) % 18446744073709551616 := by
  have hx := wd_lt (f &&& ~~~varF v) i
  refine wd_eq ?_ fun j hj => ?_
  · exact Nat.or_lt_two_pow (n := 64) hx (Nat.mod_lt _ (by decide))
  · obtain ⟨t1, t2, _, t4⟩ := test_move j v hj hv
    have hr : 64 * i + j < 256 := by omega
    rw [cofF_bit _ _ _ _ hr, rowF_eq, row_high i j v hv, Nat.testBit_or, show (18446744073709551616 : Nat) = 2 ^ 64 by decide, Nat.testBit_mod_two_pow, Nat.testBit_mul_two_pow, wd_test _ _ _ hj, BitVec.getLsbD_and, BitVec.getLsbD_not, var_bit _ _ hr, row_high i j v hv, decide_eq_true hr, decide_eq_true hj]
    cases hb : j.testBit v
    · simp only [Bool.false_eq_true, if_false, Bool.not_false, Bool.and_true, Bool.true_and]
      by_cases h64 : 2 ^ v ≤ j
      · have a2 := t4 hb h64
        have hjs : j - 2 ^ v < 64 := Nat.lt_of_le_of_lt (Nat.sub_le _ _) hj
        have hr2 : 64 * i + (j - 2 ^ v) < 256 := by clear a2; omega
        rw [wd_test _ _ _ hjs, BitVec.getLsbD_and, BitVec.getLsbD_not, var_bit _ _ hr2, row_high i _ v hv, a2]
        simp
      · simp [h64]
    · obtain ⟨a1, a2⟩ := t1 hb
      have hjs : j - 2 ^ v < 64 := Nat.lt_of_le_of_lt (Nat.sub_le _ _) hj
      have hr2 : 64 * i + (j - 2 ^ v) < 256 := by clear a2; omega
      rw [wd_test _ _ _ hjs, BitVec.getLsbD_and, BitVec.getLsbD_not, var_bit _ _ hr2, row_high i _ v hv, a2, decide_eq_true hr2, decide_eq_true a1, ← Nat.add_sub_assoc a1]
      simp

/-- A word of a function with a high variable set is another word. -/
theorem cof_of (f : Fn) (v : Nat) (b : Bool) (i k : Nat) (hi : i < 4) (hk : ∀ j : Fin 64, rowF (64 * i + j) v b = 64 * k + j) : wd (cofF f v b) i = wd f k :=
  wd_eq (wd_lt f k) fun j hj => by
    rw [wd_test _ _ _ hj, cofF_bit _ _ _ _ (by omega)]
    exact congrArg _ (hk ⟨j, hj⟩).symm

theorem cof_of_words (f : Fn) :
    (wd (cofF f 6 true) 0 = wd f 1 ∧ wd (cofF f 6 true) 1 = wd f 1 ∧ wd (cofF f 6 true) 2 = wd f 3 ∧ wd (cofF f 6 true) 3 = wd f 3) ∧
    (wd (cofF f 6 false) 0 = wd f 0 ∧ wd (cofF f 6 false) 1 = wd f 0 ∧ wd (cofF f 6 false) 2 = wd f 2 ∧ wd (cofF f 6 false) 3 = wd f 2) ∧
    (wd (cofF f 7 true) 0 = wd f 2 ∧ wd (cofF f 7 true) 1 = wd f 3 ∧ wd (cofF f 7 true) 2 = wd f 2 ∧ wd (cofF f 7 true) 3 = wd f 3) ∧
    (wd (cofF f 7 false) 0 = wd f 0 ∧ wd (cofF f 7 false) 1 = wd f 1 ∧ wd (cofF f 7 false) 2 = wd f 0 ∧ wd (cofF f 7 false) 3 = wd f 1) := by
  refine ⟨⟨?_, ?_, ?_, ?_⟩, ⟨?_, ?_, ?_, ?_⟩, ⟨?_, ?_, ?_, ?_⟩, ⟨?_, ?_, ?_, ?_⟩⟩ <;> exact cof_of f _ _ _ _ (by decide) (by decide +kernel)

/-- Depends: whether both are unlike. -/
theorem dep_iff (f : Fn) (v : Int) : (!(cofAny f v false == cofAny f v true)) = depAny f v := by
  unfold depAny cofAny
  split
  · rename_i hv
    have hm : v.toNat < 8 := by omega
    generalize v.toNat = m at hm
    cases hd : depF f m
    · have h : ∀ x, x < 256 → shows f m x = false := fun x hx => by
        cases hs : shows f m x
        · rfl
        · rw [depF_true hx hs] at hd; exact Bool.noConfusion hd
      have e : cofF f m false = cofF f m true := fn_ext fun x hx => by
        rw [cofF_bit _ _ _ _ hx, cofF_bit _ _ _ _ hx]
        have h0 := h (rowF x m false) (rowF_lt _ _ _ hx hm)
        have hb := rowF_test x m false m hx hm hm
        rw [if_pos rfl, Nat.testBit_eq_decide_div_mod_eq] at hb
        have hz : rowF x m false / 2 ^ m % 2 = 0 := by
          rw [decide_eq_false_iff_not] at hb; omega
        unfold shows at h0
        rw [decide_eq_true hz, Bool.true_and] at h0
        have e2 : rowF x m false + 2 ^ m = rowF x m true := by
          unfold rowF; simp
        rw [e2] at h0
        simpa using h0
      rw [e]
      simp
    · obtain ⟨x, hx, hs⟩ := List.any_eq_true.1 hd
      have hx' := List.mem_range.1 hx
      unfold shows at hs
      rw [Bool.and_eq_true, decide_eq_true_eq] at hs
      have h2 : ¬ x / 2 ^ m % 2 = 1 := by omega
      have e1 : rowF x m false = x := by unfold rowF; rw [if_neg h2, if_neg (by decide)]; rfl
      have e2 : rowF x m true = x + 2 ^ m := by unfold rowF; rw [if_neg h2, if_pos rfl]
      have hne : ¬ cofF f m false = cofF f m true := fun e => by
        have h3 := congrArg (fun g : Fn => g.getLsbD x) e
        simp only [cofF_bit _ _ _ _ hx', e1, e2] at h3
        rw [h3] at hs
        simp at hs
      simp [hne]
  · simp

end Go.Proofs.YtipocmbplcdmjaaDoor

/-
  Walks of the document's put, Bit and Const.
-/
namespace Go.Proofs.YtipocmbplcdmjaaDoor
open Go Go.RowKit

set_option maxHeartbeats 400000 in
theorem refPut (f : Fn) (k : Nat) (b : Bool) (w : World) (hk : k < 256) :
    Calls Tryd.prog 66 #[fv f, .int .i64 k, .bool b] w fun e w' => e = .returned (fv (putF f k b)) ∧ Below w.heap.size w w' := by
  cases b with
  | false =>
    have e : putF f k false = f := by simp [putF]
    rw [e]
    clear e
    simp only [fv]
    go_enter Tryd.func66, Tryd.ntmps66
    go_wp2
    exact bodyPost_ret (v := .agg #[.int .u64 (wd f 0), .int .u64 (wd f 1), .int .u64 (wd f 2), .int .u64 (wd f 3)]) (by simp [results, Tryd.results66, go_sem]) rfl ⟨rfl, by go_grown⟩
  | true =>
    simp only [fv]
    have h0 : (0 : Int) ≤ (k : Int) := by omega
    have h1 : (k : Int) < 256 := by omega
    rcases (by omega : k / 64 = 0 ∨ k / 64 = 1 ∨ k / 64 = 2 ∨ k / 64 = 3) with hq | hq | hq | hq
    · have hqi : (k : Int) / 64 = 0 := by omega
      have Hq := Lib.hid hq
      go_enter Tryd.func66, Tryd.ntmps66
      go_wp2
      exact bodyPost_ret (v := .agg #[.int .u64 (bits .or .u64 (wd f 0) (IntKind.u64.wrap (2 ^ (k % 64)))), .int .u64 (wd f 1), .int .u64 (wd f 2), .int .u64 (wd f 3)])
        (by simp [results, Tryd.results66, go_sem]) rfl ⟨by rw [put_same f k 0 Hq.out (by decide), put_other f k 0 1 Hq.out (by decide) (by decide), put_other f k 0 2 Hq.out (by decide) (by decide), put_other f k 0 3 Hq.out (by decide) (by decide)], by go_grown⟩
    · have hqi : (k : Int) / 64 = 1 := by omega
      have Hq := Lib.hid hq
      go_enter Tryd.func66, Tryd.ntmps66
      go_wp2
      exact bodyPost_ret (v := .agg #[.int .u64 (wd f 0), .int .u64 (bits .or .u64 (wd f 1) (IntKind.u64.wrap (2 ^ (k % 64)))), .int .u64 (wd f 2), .int .u64 (wd f 3)])
        (by simp [results, Tryd.results66, go_sem]) rfl ⟨by rw [put_same f k 1 Hq.out (by decide), put_other f k 1 0 Hq.out (by decide) (by decide), put_other f k 1 2 Hq.out (by decide) (by decide), put_other f k 1 3 Hq.out (by decide) (by decide)], by go_grown⟩
    · have hqi : (k : Int) / 64 = 2 := by omega
      have Hq := Lib.hid hq
      go_enter Tryd.func66, Tryd.ntmps66
      go_wp2
      exact bodyPost_ret (v := .agg #[.int .u64 (wd f 0), .int .u64 (wd f 1), .int .u64 (bits .or .u64 (wd f 2) (IntKind.u64.wrap (2 ^ (k % 64)))), .int .u64 (wd f 3)])
        (by simp [results, Tryd.results66, go_sem]) rfl ⟨by rw [put_same f k 2 Hq.out (by decide), put_other f k 2 0 Hq.out (by decide) (by decide), put_other f k 2 1 Hq.out (by decide) (by decide), put_other f k 2 3 Hq.out (by decide) (by decide)], by go_grown⟩
    · have hqi : (k : Int) / 64 = 3 := by omega
      have Hq := Lib.hid hq
      go_enter Tryd.func66, Tryd.ntmps66
      go_wp2
      exact bodyPost_ret (v := .agg #[.int .u64 (wd f 0), .int .u64 (wd f 1), .int .u64 (wd f 2), .int .u64 (bits .or .u64 (wd f 3) (IntKind.u64.wrap (2 ^ (k % 64))))])
        (by simp [results, Tryd.results66, go_sem]) rfl ⟨by rw [put_same f k 3 Hq.out (by decide), put_other f k 3 0 Hq.out (by decide) (by decide), put_other f k 3 1 Hq.out (by decide) (by decide), put_other f k 3 2 Hq.out (by decide) (by decide)], by go_grown⟩

/-- Block b is a variable that holds the function f. -/

def Holds (w : World) (b : Nat) (f : Fn) : Prop :=
  w.heap[b]? = some (.cells #[.int .u64 (wd f 0), .int .u64 (wd f 1), .int .u64 (wd f 2), .int .u64 (wd f 3)] 35 (0, 0))

theorem Holds.lt {w : World} {b : Nat} {f : Fn} (h : Holds w b f) : b < w.heap.size := by
  rcases Nat.lt_or_ge b w.heap.size with h' | h'
  · exact h'
  · unfold Holds at h; rw [Array.getElem?_eq_none h'] at h; cases h

theorem Holds.keep {w w' : World} {b B : Nat} {f : Fn} (h : Holds w b f) (hb : Below B w w') (hB : b < B) : Holds w' b f := by
  unfold Holds; rw [hb.block b hB]; exact h

theorem Holds.cells {w : World} {b : Nat} {f : Fn} (h : Holds w b f) :
    w.cell? ⟨b, 0, none⟩ = some (.int .u64 (wd f 0)) ∧ w.cell? ⟨b, 1, none⟩ = some (.int .u64 (wd f 1)) ∧ w.cell? ⟨b, 2, none⟩ = some (.int .u64 (wd f 2)) ∧ w.cell? ⟨b, 3, none⟩ = some (.int .u64 (wd f 3)) :=
  ⟨cell_of_row _ _ _ _ _ _ h, cell_of_row _ _ _ _ _ _ h, cell_of_row _ _ _ _ _ _ h, cell_of_row _ _ _ _ _ _ h⟩

theorem Holds.free {w : World} {b : Nat} {f : Fn} (h : Holds w b f) :
    w.frozen? ⟨b, 0, none⟩ = false ∧ w.frozen? ⟨b, 1, none⟩ = false ∧ w.frozen? ⟨b, 2, none⟩ = false ∧ w.frozen? ⟨b, 3, none⟩ = false :=
  ⟨frozen_of_row _ _ _ _ _ h, frozen_of_row _ _ _ _ _ h, frozen_of_row _ _ _ _ _ h, frozen_of_row _ _ _ _ _ h⟩

theorem Holds.set4 {w : World} {b : Nat} {f : Fn} (h : Holds w b f) (g : Fn) :
    Holds ((((w.setCell ⟨b, 0, none⟩ (.int .u64 (wd g 0))).setCell ⟨b, 1, none⟩ (.int .u64 (wd g 1))).setCell ⟨b, 2, none⟩ (.int .u64 (wd g 2))).setCell ⟨b, 3, none⟩ (.int .u64 (wd g 3))) b g :=
  heap_setCell_same _ _ _ _ _ _ (heap_setCell_same _ _ _ _ _ _ (heap_setCell_same _ _ _ _ _ _ (heap_setCell_same _ _ _ _ _ _ h)))

theorem Holds.other4 {w : World} {b c : Nat} {f : Fn} {x0 x1 x2 x3 : Value} (h : Holds w b f) (hne : b ≠ c) :
    Holds ((((w.setCell ⟨c, 0, none⟩ x0).setCell ⟨c, 1, none⟩ x1).setCell ⟨c, 2, none⟩ x2).setCell ⟨c, 3, none⟩ x3) b f := by
  unfold Holds
  rw [heap_setCell_other _ _ _ _ hne, heap_setCell_other _ _ _ _ hne, heap_setCell_other _ _ _ _ hne, heap_setCell_other _ _ _ _ hne]
  exact h

theorem Holds.new (w : World) (f : Fn) (b : Nat) (hb : b = w.heap.size := by simp) : Holds (w.alloc (.cells #[.int .u64 (wd f 0), .int .u64 (wd f 1), .int .u64 (wd f 2), .int .u64 (wd f 3)] 35)) b f := by
  subst hb
  exact heap_alloc_new _ _

theorem Holds.new0 (w : World) (b : Nat) (hb : b = w.heap.size := by simp) : Holds (w.alloc (.cells #[.int .u64 0, .int .u64 0, .int .u64 0, .int .u64 0] 35)) b 0#256 := by
  subst hb
  have h := heap_alloc_new w (.cells #[.int .u64 0, .int .u64 0, .int .u64 0, .int .u64 0] 35)
  unfold Holds
  rw [h]
  simp [wd]

theorem Holds.alloc {w : World} {b : Nat} {f : Fn} (h : Holds w b f) (o : Obj) : Holds (w.alloc o) b f := by
  unfold Holds; rw [heap_alloc_old _ _ h.lt]; exact h

end Go.Proofs.YtipocmbplcdmjaaDoor

/-
  Walks of the document's Const, Var, Ite.
-/
namespace Go.Proofs.YtipocmbplcdmjaaDoor
open Go Go.RowKit

theorem ret_holds {fn : Func} {p : Tmp} {tmps : Array Value} {w : World} {b : Nat} {f : Fn} (h : fn.results = #[.cell p 35]) (hp : tmps.getD p undef = .pointer (some ⟨b, 0, none⟩)) (hh : Holds w b f) :
    (results fn tmps).run Tryd.prog w = .ok (fv f) w :=
  results_cell_row h tmps w b _ _ _ _ hp hh Tryd.underlying35 rfl (by kernel_rfl)

theorem sub_same {P : Program} {f : FuncId} {args : Array Value} {W : World} {u : Sub W} {v : Value} (h : Calls P f args u.1 fun e w' => e = .returned v ∧ u.1 = w') :
    Calls P f args u.1 fun e w'' => e = .returned v ∧ ∃ x : Sub W, w'' = x.1 := h.mono fun _ _ ⟨he, hw⟩ => ⟨he, u, hw.symm⟩

theorem sub_below {P : Program} {f : FuncId} {args : Array Value} {W : World} {u : Sub W} {v : Value} (h : Calls P f args u.1 fun e w' => e = .returned v ∧ Below u.1.heap.size u.1 w') :
    Calls P f args u.1 fun e w'' => e = .returned v ∧ ∃ x : Sub W, w'' = x.1 := h.mono fun _ w' ⟨he, hw⟩ => ⟨he, ⟨w', u.2.trans (hw.mono u.2.size)⟩, rfl⟩

/-- The same, in any world in which what stood in wr stands as it did. -/

theorem Holds.sub {wr : World} {b : Nat} {f : Fn} (h : Holds wr b f) (u : Sub wr) : Holds u.1 b f := h.keep u.2 h.lt

end Go.Proofs.YtipocmbplcdmjaaDoor
