/-
  Plain mathematics of layer 2's own law: what follows of a variable set.
-/
import Derived.Test.YtgccgjeehggagaaDoorRef4
namespace Go.Proofs.YtgccgjeehggagaaDoor
open Go Go.RowKit

theorem rowF_test (x m : Nat) (b : Bool) (j : Nat) (hx : x < 256) (hm : m < 8) (hj : j < 8) : (rowF x m b).testBit j = if j = m then b else x.testBit j := by
  have H : ∀ x : Fin 256, ∀ m : Fin 8, ∀ b : Bool, ∀ j : Fin 8, (rowF x m b).testBit j = if (j : Nat) = m then b else (x : Nat).testBit j := by decide +kernel
  exact H ⟨x, hx⟩ ⟨m, hm⟩ b ⟨j, hj⟩

theorem row_ext {x y : Nat} (hx : x < 256) (hy : y < 256) (h : ∀ j, j < 8 → x.testBit j = y.testBit j) : x = y := by
  refine Nat.eq_of_testBit_eq fun j => ?_
  rcases Nat.lt_or_ge j 8 with hj | hj
  · exact h j hj
  · have h8 : (2 : Nat) ^ 8 ≤ 2 ^ j := Nat.pow_le_pow_right (by decide) hj
    rw [Nat.testBit_lt_two_pow (Nat.lt_of_lt_of_le hx h8), Nat.testBit_lt_two_pow (Nat.lt_of_lt_of_le hy h8)]

theorem rowF_self (x m : Nat) (hx : x < 256) (hm : m < 8) : rowF x m (x.testBit m) = x :=
  row_ext (rowF_lt _ _ _ hx hm) hx fun j hj => by
    rw [rowF_test _ _ _ _ hx hm hj]
    split
    · rename_i h; rw [h]
    · rfl

theorem rowF_rowF (x m n : Nat) (b c : Bool) (hx : x < 256) (hm : m < 8) (hn : n < 8) (h : m ≠ n) : rowF (rowF x m b) n c = rowF (rowF x n c) m b :=
  row_ext (rowF_lt _ _ _ (rowF_lt _ _ _ hx hm) hn) (rowF_lt _ _ _ (rowF_lt _ _ _ hx hn) hm) fun j hj => by
    rw [rowF_test _ _ _ _ (rowF_lt _ _ _ hx hm) hn hj, rowF_test _ _ _ _ (rowF_lt _ _ _ hx hn) hm hj, rowF_test _ _ _ _ hx hm hj, rowF_test _ _ _ _ hx hn hj]
    by_cases h1 : j = m
    · rw [if_pos h1, if_neg (by omega), if_pos h1]
    · rw [if_neg h1, if_neg h1]

theorem rowF_twice (x m : Nat) (b c : Bool) (hx : x < 256) (hm : m < 8) : rowF (rowF x m b) m c = rowF x m c :=
  row_ext (rowF_lt _ _ _ (rowF_lt _ _ _ hx hm) hm) (rowF_lt _ _ _ hx hm) fun j hj => by
    rw [rowF_test _ _ _ _ (rowF_lt _ _ _ hx hm) hm hj, rowF_test _ _ _ _ hx hm hj, rowF_test _ _ _ _ hx hm hj]
    split <;> rfl

theorem rowF_up (x m : Nat) (b : Bool) (hm : m < 8) (h : x / 2 ^ m % 2 = 0) : rowF (x + 2 ^ m) m b = rowF x m b := by
  have h1 : (x + 2 ^ m) / 2 ^ m % 2 = 1 := by rcases pow8 hm with e | e | e | e | e | e | e | e <;> rw [e] at h ⊢ <;> omega
  have h2 : ¬ x / 2 ^ m % 2 = 1 := by omega
  unfold rowF
  rw [if_pos h1, if_neg h2, Nat.add_sub_cancel]

/-- With a variable set a function doesn't depend on it. -/
theorem dep_cofF (f : Fn) (m : Nat) (b : Bool) (hm : m < 8) : depF (cofF f m b) m = false := depF_false fun x hx => by
  unfold shows
  by_cases h : x / 2 ^ m % 2 = 0
  · have hx2 : x + 2 ^ m < 256 := by rcases pow8 hm with e | e | e | e | e | e | e | e <;> rw [e] at h ⊢ <;> omega
    rw [cofF_bit _ _ _ _ hx, cofF_bit _ _ _ _ hx2, rowF_up x m b hm h]
    simp
  · rw [decide_eq_false h, Bool.false_and]

theorem dep_cof (f : Fn) (v : Int) (b : Bool) : depAny (cofAny f v b) v = false := by
  unfold depAny cofAny
  split
  · exact dep_cofF f v.toNat b (by omega)
  · rfl

theorem var_bit (m x : Nat) (hx : x < 256) : (varF m).getLsbD x = x.testBit m := by rw [varF, ofRow_bit _ _ hx]

/-- Ite by a variable of both is the function. -/
theorem ite_cof (f : Fn) (v : Int) (hv : 0 ≤ v ∧ v < 8) : (varAny v &&& cofAny f v true ||| ~~~(varAny v) &&& cofAny f v false) = f := by
  unfold varAny cofAny
  rw [if_pos hv, if_pos hv, if_pos hv]
  have hm : v.toNat < 8 := by omega
  refine fn_ext fun x hx => ?_
  rw [BitVec.getLsbD_or, BitVec.getLsbD_and, BitVec.getLsbD_and, BitVec.getLsbD_not, var_bit _ _ hx, cofF_bit _ _ _ _ hx, cofF_bit _ _ _ _ hx, decide_eq_true hx]
  have h := rowF_self x v.toNat hx hm
  cases hb : x.testBit v.toNat
  · rw [hb] at h; rw [h]; simp
  · rw [hb] at h; rw [h]; simp

theorem ite_same' (v f : Fn) : (v &&& f ||| ~~~v &&& f) = f := fn_ext fun x hx => by
  simp [hx]; cases v[x] <;> simp

/-- Compose by itself. -/
theorem comp_self (f : Fn) (v : Int) : compF f v (varAny v) = f := by
  unfold compF
  by_cases hv : 0 ≤ v ∧ v < 8
  · exact ite_cof f v hv
  · unfold cofAny; rw [if_neg hv, if_neg hv]; exact ite_same' _ _

/-- Compose by a constant. -/
theorem comp_const (f : Fn) (v : Int) (b : Bool) : compF f v (if b then BitVec.allOnes 256 else 0#256) = cofAny f v b := by
  unfold compF
  refine fn_ext fun x hx => ?_
  rw [BitVec.getLsbD_or, BitVec.getLsbD_and, BitVec.getLsbD_and, BitVec.getLsbD_not, decide_eq_true hx]
  cases b
  · rw [if_neg (by decide), BitVec.getLsbD_zero]; simp
  · rw [if_pos rfl, BitVec.getLsbD_allOnes, decide_eq_true hx]; simp

/-- Whatever is so for both is so for one. -/
theorem all_some (f : Fn) (v : Int) : ((cofAny f v false &&& cofAny f v true) &&& ~~~(cofAny f v false ||| cofAny f v true)) = 0#256 := fn_ext fun x hx => by
  simp [hx]
  intro h1 h2
  simp [h1]

/-- Two variables may be set in any order. -/
theorem cof_cof (f : Fn) (v w : Int) (b c : Bool) (h : v ≠ w) : cofAny (cofAny f v b) w c = cofAny (cofAny f w c) v b := by
  unfold cofAny
  by_cases hv : 0 ≤ v ∧ v < 8
  · by_cases hw : 0 ≤ w ∧ w < 8
    · rw [if_pos hv, if_pos hw, if_pos hw, if_pos hv]
      refine fn_ext fun x hx => ?_
      have hm : v.toNat < 8 := by omega
      have hn : w.toNat < 8 := by omega
      rw [cofF_bit _ _ _ _ hx, cofF_bit _ _ _ _ hx, cofF_bit _ _ _ _ (rowF_lt _ _ _ hx hn), cofF_bit _ _ _ _ (rowF_lt _ _ _ hx hm), rowF_rowF x v.toNat w.toNat b c hx hm hn (by omega)]
    · rw [if_neg hw, if_neg hw]
  · rw [if_neg hv, if_neg hv]

theorem cntF_eq (f : Fn) (n : Nat) : cntF f n = (List.range n).countP (fun x => f.getLsbD x) := by
  induction n with
  | zero => rfl
  | succ n ih => rw [cntF, ih, List.range_succ, List.countP_append, List.countP_cons, List.countP_nil, Nat.zero_add]

theorem countP_sum (l : List Nat) (p q r s : Nat → Bool) (h : ∀ x ∈ l, (p x).toNat + (q x).toNat = (r x).toNat + (s x).toNat) :
    l.countP p + l.countP q = l.countP r + l.countP s := by
  induction l with
  | nil => rfl
  | cons a l ih =>
    have h1 := h a (List.mem_cons_self ..)
    have h2 := ih fun x hx => h x (List.mem_cons_of_mem _ hx)
    simp only [List.countP_cons]
    revert h1
    cases p a <;> cases q a <;> cases r a <;> cases s a <;> simp <;> omega

/-- Row x with variable m turned. -/
def flipR (m x : Nat) : Nat := rowF x m (!x.testBit m)

theorem flip_perm (m : Nat) (hm : m < 8) : ((List.range 256).map (flipR m)).Perm (List.range 256) := by
  have H : ∀ m : Fin 8, (((List.range 256).map (flipR m)).isPerm (List.range 256)) = true := by decide +kernel
  exact List.isPerm_iff.1 (H ⟨m, hm⟩)

/-- Both halves count what the whole does. -/
theorem count_halves (f : Fn) (v : Int) (hv : 0 ≤ v ∧ v < 8) : cntF (cofAny f v true) 256 + cntF (cofAny f v false) 256 = 2 * cntF f 256 := by
  unfold cofAny
  rw [if_pos hv, if_pos hv, cntF_eq, cntF_eq, cntF_eq]
  have hm : v.toNat < 8 := by omega
  have e := (flip_perm v.toNat hm).countP_eq (fun x => f.getLsbD x)
  rw [List.countP_map] at e
  rw [countP_sum (List.range 256) _ _ (fun x => f.getLsbD x) ((fun x => f.getLsbD x) ∘ flipR v.toNat) ?_, e]
  · omega
  · intro x hx
    have hx' := List.mem_range.1 hx
    rw [cofF_bit _ _ _ _ hx', cofF_bit _ _ _ _ hx']
    have h := rowF_self x v.toNat hx' hm
    show _ = _ + (f.getLsbD (rowF x v.toNat (!x.testBit v.toNat))).toNat
    cases hb : x.testBit v.toNat
    · rw [hb] at h; simp only [Bool.not_false]; rw [h, Nat.add_comm]
    · rw [hb] at h; simp only [Bool.not_true]; rw [h]

end Go.Proofs.YtgccgjeehggagaaDoor
