/-
  Texts of this proof, one behind the other: MathVar, Math2, Math2b, Math3, Math3b, Math3c, Math3e.
-/
import Derived.Test.YtipocmbplcdmjaaGreatDoorG11
/-
  Plain mathematics: the variables as functions, their words; what putting row after row comes to.
-/
namespace Go.Proofs.YtipocmbplcdmjaaGreatDoor
open Go Go.RowKit

/-- The number whose bits below n are P's. -/
def rowNat (P : Nat → Bool) : Nat → Nat
  | 0 => 0
  | n + 1 => if P n then rowNat P n + 2 ^ n else rowNat P n

theorem rowNat_lt (P : Nat → Bool) (n : Nat) : rowNat P n < 2 ^ n := by
  induction n with
  | zero => simp [rowNat]
  | succ n ih => simp only [rowNat]; rw [Nat.pow_succ]; split <;> omega

theorem rowNat_bit (P : Nat → Bool) (n k : Nat) : (rowNat P n).testBit k = (decide (k < n) && P k) := by
  induction n with
  | zero => simp [rowNat]
  | succ n ih =>
    simp only [rowNat]
    have hlt := rowNat_lt P n
    split
    · rename_i hp
      rw [Nat.add_comm]
      rcases Nat.lt_trichotomy k n with h | h | h
      · rw [Nat.testBit_two_pow_add_gt h, ih]
        simp [h, Nat.lt_succ_of_lt h]
      · subst h
        rw [Nat.testBit_two_pow_add_eq, Nat.testBit_lt_two_pow hlt]
        simp [hp]
      · have h2 : 2 ^ n + rowNat P n < 2 ^ k :=
          Nat.lt_of_lt_of_le (by rw [Nat.pow_succ]; omega) (Nat.pow_le_pow_right (by decide) (Nat.succ_le_of_lt h))
        rw [Nat.testBit_lt_two_pow h2]
        have : ¬ k < n + 1 := by omega
        simp [this]
    · rename_i hp
      rw [ih, Bool.eq_iff_iff]
      simp
      intro hk
      constructor
      · intro h; omega
      · intro h
        rcases Nat.lt_or_ge k n with h' | h'
        · exact h'
        · obtain rfl : k = n := by omega
          exact absurd hk hp

/-- The function whose value in row x is P x. -/
def ofRow (P : Nat → Bool) : Fn := BitVec.ofNat 256 (rowNat P 256)

theorem ofRow_bit (P : Nat → Bool) (k : Nat) (hk : k < 256) : (ofRow P).getLsbD k = P k := by
  unfold ofRow
  rw [BitVec.getLsbD_ofNat, rowNat_bit]
  simp [hk]

/-- Variable v. -/
def varF (v : Nat) : Fn := ofRow (fun x => x.testBit v)

/-- Any number as a variable. -/
def varAny (v : Int) : Fn := if 0 ≤ v ∧ v < 8 then varF v.toNat else 0#256

/-- The words of the first six variables. -/
def lowV : Nat → Int
  | 0 => 12297829382473034410
  | 1 => 14757395258967641292
  | 2 => 17361641481138401520
  | 3 => 18374966859414961920
  | 4 => 18446462603027742720
  | _ => 18446744069414584320

theorem lowV_eq (v i : Nat) (hv : v < 6) (hi : i < 4) : lowV v = (wd (varF v) i : Nat) := by
  have H : ∀ v : Fin 6, ∀ i : Fin 4, lowV v = (wd (varF v) i : Nat) := by decide +kernel
  exact H ⟨v, hv⟩ ⟨i, hi⟩

theorem wd_var6 : wd (varF 6) 0 = 0 ∧ wd (varF 6) 1 = 18446744073709551615 ∧ wd (varF 6) 2 = 0 ∧ wd (varF 6) 3 = 18446744073709551615 := by decide +kernel
theorem wd_var7 : wd (varF 7) 0 = 0 ∧ wd (varF 7) 1 = 0 ∧ wd (varF 7) 2 = 18446744073709551615 ∧ wd (varF 7) 3 = 18446744073709551615 := by decide +kernel

theorem fn_ext {f g : Fn} (h : ∀ k, k < 256 → f.getLsbD k = g.getLsbD k) : f = g := BitVec.eq_of_getLsbD_eq fun k hk => h k hk

/-- What has been put when the rows below n have been. -/
def upTo (P : Nat → Bool) (n : Nat) : Fn := ofRow (fun x => decide (x < n) && P x)

theorem upTo_zero (P : Nat → Bool) : upTo P 0 = 0#256 := fn_ext fun k hk => by rw [upTo, ofRow_bit _ _ hk]; simp
theorem upTo_all (P : Nat → Bool) : upTo P 256 = ofRow P := fn_ext fun k hk => by rw [upTo, ofRow_bit _ _ hk, ofRow_bit _ _ hk]; simp [hk]

/-- f with b put in row k. -/
def putF (f : Fn) (k : Nat) (b : Bool) : Fn := if b then f ||| (1#256 <<< k) else f

theorem putF_bit (f : Fn) (k j : Nat) (b : Bool) (hj : j < 256) : (putF f k b).getLsbD j = (f.getLsbD j || (b && decide (j = k))) := by
  unfold putF
  cases b with
  | false => simp
  | true =>
    simp only [if_true, BitVec.getLsbD_or, BitVec.getLsbD_shiftLeft, BitVec.getLsbD_one, Bool.true_and]
    by_cases h : j = k
    · subst h; simp [hj]
    · have : ¬ (j - k = 0 ∧ k ≤ j) := by omega
      by_cases h2 : j < k
      · simp [h, h2]
      · have h3 : ¬ (j - k = 0) := by omega
        simp [h, h2, h3]

theorem upTo_put (P : Nat → Bool) (n : Nat) (b : Bool) (hb : b = P n) : putF (upTo P n) n b = upTo P (n + 1) := fn_ext fun k hk => by
  subst hb
  rw [putF_bit _ _ _ _ hk, upTo, upTo, ofRow_bit _ _ hk, ofRow_bit _ _ hk, Bool.eq_iff_iff]
  simp
  constructor
  · rintro (⟨h1, h2⟩ | ⟨h1, rfl⟩)
    · exact ⟨by omega, h2⟩
    · exact ⟨by omega, h1⟩
  · rintro ⟨h1, h2⟩
    rcases Nat.lt_or_ge k n with h | h
    · exact .inl ⟨h, h2⟩
    · obtain rfl : k = n := by omega
      exact .inr ⟨h2, rfl⟩

/-- One word of it. -/
theorem wd_put (f : Fn) (k i : Nat) (hi : i < 4) : wd (putF f k true) i = if i = k / 64 then wd f i ||| 2 ^ (k % 64) else wd f i := by
  have e : ∀ j, j < 64 → ((putF f k true).extractLsb' (64 * i) 64).getLsbD j = (if i = k / 64 then (f.extractLsb' (64 * i) 64) ||| (1#64 <<< (k % 64)) else f.extractLsb' (64 * i) 64).getLsbD j := by
    intro j hj
    rw [BitVec.getLsbD_extractLsb', putF_bit _ _ _ _ (by omega)]
    by_cases h : i = k / 64
    · rw [if_pos h, BitVec.getLsbD_or, BitVec.getLsbD_extractLsb', BitVec.getLsbD_shiftLeft, BitVec.getLsbD_one]
      simp only [hj, decide_true, Bool.true_and]
      congr 1
      rw [Bool.eq_iff_iff]
      simp
      omega
    · rw [if_neg h, BitVec.getLsbD_extractLsb']
      have : ¬ (64 * i + j = k) := by omega
      simp [hj, this]
  have e2 := BitVec.eq_of_getLsbD_eq e
  unfold wd
  rw [e2]
  by_cases h : i = k / 64
  · rw [if_pos h, if_pos h, BitVec.toNat_or, BitVec.toNat_shiftLeft, BitVec.toNat_one (by decide), Nat.shiftLeft_eq, Nat.one_mul, Nat.mod_eq_of_lt]
    exact Nat.pow_lt_pow_right (by decide) (Nat.mod_lt _ (by decide))
  · rw [if_neg h, if_neg h]

theorem put_same (f : Fn) (k q : Nat) (hq : k / 64 = q) (h4 : q < 4) : bits .or .u64 (wd f q) (IntKind.u64.wrap (2 ^ (k % 64))) = (wd (putF f k true) q : Nat) := by
  have hp : (2 : Nat) ^ (k % 64) < 18446744073709551616 := by
    have : (2 : Nat) ^ (k % 64) < 2 ^ 64 := Nat.pow_lt_pow_right (by decide) (Nat.mod_lt _ (by decide))
    simpa using this
  have e : IntKind.u64.wrap (2 ^ (k % 64)) = ((2 ^ (k % 64) : Nat) : Int) := by
    rw [IntKind.wrap_u64]
    have : ((2 : Int) ^ (k % 64)) = ((2 ^ (k % 64) : Nat) : Int) := by simp
    rw [this]
    clear this
    generalize (2 : Nat) ^ (k % 64) = y at hp
    omega
  rw [e, bits_or_u64_nat _ _ (wd_lt f q) hp, wd_put f k q h4, if_pos hq.symm]

theorem put_other (f : Fn) (k q i : Nat) (hq : k / 64 = q) (hi : i < 4) (hne : i ≠ q) : wd (putF f k true) i = wd f i := by
  rw [wd_put f k i hi, if_neg (by omega)]

theorem bit_div (k v : Nat) : ((k / 2 ^ v : Nat) % 2 == 1) = k.testBit v := by
  rw [Nat.testBit_eq_decide_div_mod_eq]; rfl

end Go.Proofs.YtipocmbplcdmjaaGreatDoor

/-
  Plain mathematics of layer 2: a variable set, on which a function depends, in how many rows it is true.
-/
namespace Go.Proofs.YtipocmbplcdmjaaGreatDoor
open Go Go.RowKit

/-- Row x with variable m set to b. -/
def rowF (x m : Nat) (b : Bool) : Nat := (if x / 2 ^ m % 2 = 1 then x - 2 ^ m else x) + (if b then 2 ^ m else 0)

theorem pow8 {m : Nat} (h : m < 8) : 2 ^ m = 1 ∨ 2 ^ m = 2 ∨ 2 ^ m = 4 ∨ 2 ^ m = 8 ∨ 2 ^ m = 16 ∨ 2 ^ m = 32 ∨ 2 ^ m = 64 ∨ 2 ^ m = 128 := by
  rcases (by omega : m = 0 ∨ m = 1 ∨ m = 2 ∨ m = 3 ∨ m = 4 ∨ m = 5 ∨ m = 6 ∨ m = 7) with rfl | rfl | rfl | rfl | rfl | rfl | rfl | rfl <;> decide

theorem rowF_lt (x m : Nat) (b : Bool) (hx : x < 256) (hm : m < 8) : rowF x m b < 256 := by
  unfold rowF
  rcases pow8 hm with h | h | h | h | h | h | h | h <;> rw [h] <;> cases b <;> simp <;> split <;> omega

/-- The function with variable m set to b. -/
def cofF (f : Fn) (m : Nat) (b : Bool) : Fn := ofRow fun x => f.getLsbD (rowF x m b)

/-- The same for any number. -/
def cofAny (f : Fn) (v : Int) (b : Bool) : Fn := if 0 ≤ v ∧ v < 8 then cofF f v.toNat b else f

theorem cofF_bit (f : Fn) (m : Nat) (b : Bool) (k : Nat) (hk : k < 256) : (cofF f m b).getLsbD k = f.getLsbD (rowF k m b) := ofRow_bit _ _ hk

/-- Does row x show that f depends on variable m? -/
def shows (f : Fn) (m x : Nat) : Bool := decide (x / 2 ^ m % 2 = 0) && (f.getLsbD x != f.getLsbD (x + 2 ^ m))

/-- Does f depend on variable m? -/
def depF (f : Fn) (m : Nat) : Bool := (List.range 256).any (shows f m)

/-- The same for any number. -/
def depAny (f : Fn) (v : Int) : Bool := if 0 ≤ v ∧ v < 8 then depF f v.toNat else false

theorem depF_true {f : Fn} {m x : Nat} (hx : x < 256) (h : shows f m x = true) : depF f m = true := List.any_eq_true.2 ⟨x, List.mem_range.2 hx, h⟩
theorem depF_false {f : Fn} {m : Nat} (h : ∀ x, x < 256 → shows f m x = false) : depF f m = false := by
  rw [depF, List.any_eq_false]
  intro x hx
  rw [h x (List.mem_range.1 hx)]
  decide

/-- 2 to the power of all variables from j on, from which f depends, as the sum of 2 ^ (v - j). -/
def supFrom (f : Fn) : Nat → Nat → Nat
  | 0, _ => 0
  | n + 1, j => 2 * supFrom f n (j + 1) + (if depF f j then 1 else 0)

/-- The support. -/
def supF (f : Fn) : Nat := supFrom f 8 0

end Go.Proofs.YtipocmbplcdmjaaGreatDoor

/-
  Plain mathematics of layer 2's own law: what follows of a variable set.
-/
namespace Go.Proofs.YtipocmbplcdmjaaGreatDoor
open Go Go.RowKit

theorem rowF_test (x m : Nat) (b : Bool) (j : Nat) (hx : x < 256) (hm : m < 8) (hj : j < 8) : (rowF x m b).testBit j = if j = m then b else x.testBit j := by
  have H : ∀ x : Fin 256, ∀ m : Fin 8, ∀ b : Bool, ∀ j : Fin 8, (rowF x m b).testBit j = if (j : Nat) = m then b else (x : Nat).testBit j := by decide +kernel
  exact H ⟨x, hx⟩ ⟨m, hm⟩ b ⟨j, hj⟩

theorem row_ext {x y : Nat} (hx : x < 256) (hy : y < 256) (h : ∀ j, j < 8 → x.testBit j = y.testBit j) : x = y := by
  refine Nat.eq_of_testBit_eq fun j => ?_
  rcases Nat.lt_or_ge j 8 with hj | hj
  · exact h j hj
  · have h8 : (2 : Nat) ^ 8 ≤ 2 ^ j := Nat.pow_le_pow_right (by decide) hj
    rw [Nat.testBit_lt_two_pow (Nat.lt_of_lt_of_le hx h8), Nat.testBit_lt_two_pow (Nat.lt_of_lt_of_le hy h8)]

theorem rowF_self (x m : Nat) (hx : x < 256) (hm : m < 8) : rowF x m (x.testBit m) = x :=
  row_ext (rowF_lt _ _ _ hx hm) hx fun j hj => by
    rw [rowF_test _ _ _ _ hx hm hj]
    split
    · rename_i h; rw [h]
    · rfl

theorem rowF_rowF (x m n : Nat) (b c : Bool) (hx : x < 256) (hm : m < 8) (hn : n < 8) (h : m ≠ n) : rowF (rowF x m b) n c = rowF (rowF x n c) m b :=
  row_ext (rowF_lt _ _ _ (rowF_lt _ _ _ hx hm) hn) (rowF_lt _ _ _ (rowF_lt _ _ _ hx hn) hm) fun j hj => by
    rw [rowF_test _ _ _ _ (rowF_lt _ _ _ hx hm) hn hj, rowF_test _ _ _ _ (rowF_lt _ _ _ hx hn) hm hj, rowF_test _ _ _ _ hx hm hj, rowF_test _ _ _ _ hx hn hj]
    by_cases h1 : j = m
    · rw [if_pos h1, if_neg (by omega), if_pos h1]
    · rw [if_neg h1, if_neg h1]

theorem rowF_twice (x m : Nat) (b c : Bool) (hx : x < 256) (hm : m < 8) : rowF (rowF x m b) m c = rowF x m c :=
  row_ext (rowF_lt _ _ _ (rowF_lt _ _ _ hx hm) hm) (rowF_lt _ _ _ hx hm) fun j hj => by
    rw [rowF_test _ _ _ _ (rowF_lt _ _ _ hx hm) hm hj, rowF_test _ _ _ _ hx hm hj, rowF_test _ _ _ _ hx hm hj]
    split <;> rfl

theorem rowF_up (x m : Nat) (b : Bool) (hm : m < 8) (h : x / 2 ^ m % 2 = 0) : rowF (x + 2 ^ m) m b = rowF x m b := by
  have h1 : (x + 2 ^ m) / 2 ^ m % 2 = 1 := by rcases pow8 hm with e | e | e | e | e | e | e | e <;> rw [e] at h ⊢ <;> omega
  have h2 : ¬ x / 2 ^ m % 2 = 1 := by omega
  unfold rowF
  rw [if_pos h1, if_neg h2, Nat.add_sub_cancel]

/-- With a variable set a function doesn't depend on it. -/
theorem dep_cofF (f : Fn) (m : Nat) (b : Bool) (hm : m < 8) : depF (cofF f m b) m = false := depF_false fun x hx => by
  unfold shows
  by_cases h : x / 2 ^ m % 2 = 0
  · have hx2 : x + 2 ^ m < 256 := by rcases pow8 hm with e | e | e | e | e | e | e | e <;> rw [e] at h ⊢ <;> omega
    rw [cofF_bit _ _ _ _ hx, cofF_bit _ _ _ _ hx2, rowF_up x m b hm h]
    simp
  · rw [decide_eq_false h, Bool.false_and]

theorem dep_cof (f : Fn) (v : Int) (b : Bool) : depAny (cofAny f v b) v = false := by
  unfold depAny cofAny
  split
  · exact dep_cofF f v.toNat b (by omega)
  · rfl

theorem var_bit (m x : Nat) (hx : x < 256) : (varF m).getLsbD x = x.testBit m := by rw [varF, ofRow_bit _ _ hx]

/-- Ite by a variable of both is the function. -/
theorem ite_cof (f : Fn) (v : Int) (hv : 0 ≤ v ∧ v < 8) : (varAny v &&& cofAny f v true ||| ~~~(varAny v) &&& cofAny f v false) = f := by
  unfold varAny cofAny
  rw [if_pos hv, if_pos hv, if_pos hv]
  have hm : v.toNat < 8 := by omega
  refine fn_ext fun x hx => ?_
  rw [BitVec.getLsbD_or, BitVec.getLsbD_and, BitVec.getLsbD_and, BitVec.getLsbD_not, var_bit _ _ hx, cofF_bit _ _ _ _ hx, cofF_bit _ _ _ _ hx, decide_eq_true hx]
  have h := rowF_self x v.toNat hx hm
  cases hb : x.testBit v.toNat
  · rw [hb] at h; rw [h]; simp
  · rw [hb] at h; rw [h]; simp

theorem ite_same' (v f : Fn) : (v &&& f ||| ~~~v &&& f) = f := fn_ext fun x hx => by
  simp [hx]; cases v[x] <;> simp

end Go.Proofs.YtipocmbplcdmjaaGreatDoor

/-
  Plain mathematics of layer 3: the top of a function in an order, the nodes of functions.
-/
namespace Go.Proofs.YtipocmbplcdmjaaGreatDoor
open Go Go.RowKit

/-- The first of n numbers from place i on, on which f depends; -1, if there is none. -/
def topFrom (f : Fn) (o : Nat → Int) : Nat → Nat → Int
  | 0, _ => -1
  | n + 1, i => if depAny f (o i) then o i else topFrom f o n (i + 1)

/-- The top. -/
def topF (f : Fn) (o : Nat → Int) : Int := topFrom f o 8 0

/-- What is reached from functions by setting tops. -/
inductive Reach (l : List Fn) (o : Nat → Int) : Fn → Prop
  | base {f : Fn} (h : f ∈ l) : Reach l o f
  | step {f : Fn} (b : Bool) (h : Reach l o f) (hs : supF f ≠ 0) (ht : 0 ≤ topF f o) : Reach l o (cofAny f (topF f o) b)

/-- A node of these functions. -/
def IsNode (l : List Fn) (o : Nat → Int) (f : Fn) : Prop := Reach l o f ∧ supF f ≠ 0

/-- On how many variables f depends. -/
def supN (f : Fn) : Nat := (List.range 8).countP (depF f)

theorem supFrom_zero (f : Fn) (n : Nat) : ∀ j, supFrom f n j = 0 ↔ ∀ i, j ≤ i → i < j + n → depF f i = false := by
  induction n with
  | zero => intro j; simp only [supFrom, true_iff]; intro i h1 h2; omega
  | succ n ih =>
    intro j
    simp only [supFrom]
    constructor
    · intro h i h1 h2
      have hd : depF f j = false := by
        cases hd : depF f j
        · rfl
        · rw [hd] at h; simp at h
      have h0 : supFrom f n (j + 1) = 0 := by rw [hd] at h; simp at h; omega
      rcases Nat.lt_or_ge j i with hlt | hge
      · exact (ih (j + 1)).1 h0 i hlt (by omega)
      · obtain rfl : i = j := by omega
        exact hd
    · intro h
      have h0 := (ih (j + 1)).2 fun i h1 h2 => h i (by omega) (by omega)
      rw [h0, h j (Nat.le_refl _) (by omega)]
      simp

theorem supF_zero (f : Fn) : supF f = 0 ↔ ∀ i, i < 8 → depF f i = false := by
  rw [supF, supFrom_zero]
  constructor
  · intro h i hi; exact h i (Nat.zero_le _) (by omega)
  · intro h i _ hi; exact h i (by omega)

theorem topFrom_dep (f : Fn) (o : Nat → Int) (n : Nat) : ∀ i, 0 ≤ topFrom f o n i → depAny f (topFrom f o n i) = true := by
  induction n with
  | zero => intro i h; simp [topFrom] at h
  | succ n ih =>
    intro i h
    simp only [topFrom] at h ⊢
    split
    · assumption
    · rename_i hd
      rw [if_neg hd] at h
      exact ih (i + 1) h

theorem depAny_range {f : Fn} {v : Int} (h : depAny f v = true) : 0 ≤ v ∧ v < 8 := by
  unfold depAny at h
  split at h
  · assumption
  · cases h

/-- What doesn't depend on a variable doesn't with another one set. -/
theorem dep_cof_other (f : Fn) (m n : Nat) (b : Bool) (hm : m < 8) (hn : n < 8) (h : depF f n = false) : depF (cofF f m b) n = false := by
  by_cases e : m = n
  · subst e; exact dep_cofF f m b hm
  · refine depF_false fun x hx => ?_
    unfold shows
    by_cases h0 : x / 2 ^ n % 2 = 0
    · have hx2 : x + 2 ^ n < 256 := by rcases pow8 hn with e | e | e | e | e | e | e | e <;> rw [e] at h0 ⊢ <;> omega
      rw [cofF_bit _ _ _ _ hx, cofF_bit _ _ _ _ hx2]
      have hbit : x.testBit n = false := by rw [Nat.testBit_eq_decide_div_mod_eq]; simp; omega
      have e1 : x + 2 ^ n = rowF x n true := by unfold rowF; rw [if_neg (by omega), if_pos rfl]
      have e2 : rowF (x + 2 ^ n) m b = rowF x m b + 2 ^ n := by
        rw [e1, rowF_rowF x n m true b hx hn hm (Ne.symm e)]
        have hb2 : (rowF x m b).testBit n = false := by rw [rowF_test _ _ _ _ hx hm hn, if_neg (Ne.symm e)]; exact hbit
        unfold rowF at hb2 ⊢
        rw [Nat.testBit_eq_decide_div_mod_eq] at hb2
        have hb3 := of_decide_eq_false hb2
        rw [if_neg hb3]
        simp
      have hr0 : (rowF x m b) / 2 ^ n % 2 = 0 := by
        have hb2 : (rowF x m b).testBit n = false := by rw [rowF_test _ _ _ _ hx hm hn, if_neg (Ne.symm e)]; exact hbit
        rw [Nat.testBit_eq_decide_div_mod_eq] at hb2
        have := of_decide_eq_false hb2
        omega
      have hs : shows f n (rowF x m b) = false := by
        cases hs : shows f n (rowF x m b)
        · rfl
        · rw [depF_true (rowF_lt _ _ _ hx hm) hs] at h; cases h
      unfold shows at hs
      rw [decide_eq_true hr0, Bool.true_and] at hs
      rw [e2, hs, Bool.and_false]
    · rw [decide_eq_false h0, Bool.false_and]

theorem countP_lt {l : List Nat} {p q : Nat → Bool} (h : ∀ x ∈ l, p x = true → q x = true) {a : Nat} (ha : a ∈ l) (hp : p a = false) (hq : q a = true) : l.countP p < l.countP q := by
  induction l with
  | nil => cases ha
  | cons b l ih =>
    rw [List.countP_cons, List.countP_cons]
    rcases List.mem_cons.1 ha with rfl | ha
    · rw [hp, hq]
      have := List.countP_mono_left (l := l) (p := p) (q := q) fun x hx => h x (List.mem_cons_of_mem _ hx)
      simp
      omega
    · have := ih (fun x hx => h x (List.mem_cons_of_mem _ hx)) ha
      cases hb : p b
      · cases q b <;> simp <;> omega
      · rw [h b (List.mem_cons_self ..) hb]; simp; omega

/-- With its top set a function depends on fewer variables. -/
theorem supN_cof (f : Fn) (o : Nat → Int) (b : Bool) (h : 0 ≤ topF f o) : supN (cofAny f (topF f o) b) < supN f := by
  have hd := topFrom_dep f o 8 0 h
  have hr := depAny_range hd
  change 0 ≤ topF f o ∧ topF f o < 8 at hr
  change depAny f (topF f o) = true at hd
  generalize topF f o = v at *
  have hm : v.toNat < 8 := by omega
  unfold depAny at hd
  rw [if_pos hr] at hd
  unfold cofAny
  rw [if_pos hr]
  refine countP_lt (a := v.toNat) (fun x hx hp => ?_) (List.mem_range.2 hm) (dep_cofF f _ b hm) hd
  cases hx2 : depF f x
  · rw [dep_cof_other f v.toNat x b hm (List.mem_range.1 hx) hx2] at hp; cases hp
  · rfl

end Go.Proofs.YtipocmbplcdmjaaGreatDoor

/-
  Plain mathematics of layer 3: what a list of functions still to be looked at, those that were, and the nodes among them are to each other, step by step.
-/
namespace Go.Proofs.YtipocmbplcdmjaaGreatDoor
open Go Go.RowKit

/-- How many steps a function can cost at most. -/
def wt (f : Fn) : Nat := 2 ^ (supN f + 1) - 1

theorem supN_le (f : Fn) : supN f ≤ 8 := by
  have := List.countP_le_length (p := depF f) (l := List.range 8)
  simpa [supN] using this

end Go.Proofs.YtipocmbplcdmjaaGreatDoor

/-
  Plain mathematics of layer 3: how many nodes there are is a number; what follows of it.
-/
namespace Go.Proofs.YtipocmbplcdmjaaGreatDoor
open Go Go.RowKit

theorem Reach.mono {l k : List Fn} {o : Nat → Int} (h : ∀ f, f ∈ l → f ∈ k) {f : Fn} (hf : Reach l o f) : Reach k o f := by
  induction hf with
  | base h' => exact .base (h _ h')
  | step b _ hs ht ih => exact .step b ih hs ht

end Go.Proofs.YtipocmbplcdmjaaGreatDoor

/-
  Plain mathematics of layer 3's own law: Not, the sides of a top, constants; 77 nodes.
-/
namespace Go.Proofs.YtipocmbplcdmjaaGreatDoor
open Go Go.RowKit

/-! ### Not -/

/-! ### The sides of a top -/
theorem sup_of_dep {f : Fn} {v : Int} (h : depAny f v = true) : supF f ≠ 0 := by
  have hr := depAny_range h
  intro e
  unfold depAny at h
  rw [if_pos hr, (supF_zero f).1 e v.toNat (by omega)] at h
  cases h

theorem dep_cofAny (f : Fn) (v u : Int) (b : Bool) (h : depAny f u = false) : depAny (cofAny f v b) u = false := by
  unfold depAny cofAny at *
  by_cases hu : 0 ≤ u ∧ u < 8
  · rw [if_pos hu] at h ⊢
    by_cases hv : 0 ≤ v ∧ v < 8
    · rw [if_pos hv]; exact dep_cof_other f _ _ b (by omega) (by omega) h
    · rw [if_neg hv]; exact h
  · rw [if_neg hu]

/-! ### Constants -/

/-- All variables but a and b set to 0. -/
def projR (a b : Nat) (x : Nat) : Nat := (List.range 8).foldl (fun y v => if v = a ∨ v = b then y else rowF y v false) x
def ptR (a b : Nat) (p q : Bool) : Nat := (if p then 2 ^ a else 0) + (if q ∧ b ≠ a then 2 ^ b else 0)

theorem projR_eq (a b x : Nat) (ha : a < 8) (hb : b < 8) (hx : x < 256) : projR a b x = ptR a b (x.testBit a) (x.testBit b) := by
  have H : ∀ a : Fin 8, ∀ b : Fin 8, ∀ x : Fin 256, projR a b x = ptR a b ((x : Nat).testBit a) ((x : Nat).testBit b) := by decide +kernel
  exact H ⟨a, ha⟩ ⟨b, hb⟩ ⟨x, hx⟩

theorem indep_row (g : Fn) (v x : Nat) (hv : v < 8) (hx : x < 256) (h : depF g v = false) : g.getLsbD (rowF x v false) = g.getLsbD x := by
  have h1 : ∀ y, y < 256 → y / 2 ^ v % 2 = 0 → g.getLsbD y = g.getLsbD (y + 2 ^ v) := fun y hy h0 => by
    have hs : shows g v y = false := by
      cases hs : shows g v y
      · rfl
      · rw [depF_true hy hs] at h; cases h
    unfold shows at hs
    rw [decide_eq_true h0, Bool.true_and] at hs
    simpa using hs
  by_cases hb : x / 2 ^ v % 2 = 1
  · have e : rowF x v false = x - 2 ^ v := by unfold rowF; rw [if_pos hb]; simp
    have hle : 2 ^ v ≤ x ∧ (x - 2 ^ v) / 2 ^ v % 2 = 0 := by rcases pow8 hv with e | e | e | e | e | e | e | e <;> rw [e] at hb ⊢ <;> omega
    rw [e, h1 (x - 2 ^ v) (Nat.lt_of_le_of_lt (Nat.sub_le _ _) hx) hle.2, Nat.sub_add_cancel hle.1]
  · have e : rowF x v false = x := by unfold rowF; rw [if_neg hb]; simp
    rw [e]

theorem proj_bit (g : Fn) (a b x : Nat) (hx : x < 256) (h : ∀ v, v < 8 → v ≠ a → v ≠ b → depF g v = false) : g.getLsbD x = g.getLsbD (projR a b x) := by
  have key : ∀ (l : List Nat) (y : Nat), (∀ v ∈ l, v < 8) → y < 256 → g.getLsbD y = g.getLsbD (l.foldl (fun y v => if v = a ∨ v = b then y else rowF y v false) y) := by
    intro l
    induction l with
    | nil => intro y _ _; rfl
    | cons v l ih =>
      intro y hl hy
      rw [List.foldl_cons]
      have hv := hl v (List.mem_cons_self ..)
      by_cases hc : v = a ∨ v = b
      · rw [if_pos hc]; exact ih y (fun u hu => hl u (List.mem_cons_of_mem _ hu)) hy
      · rw [if_neg hc, ← ih (rowF y v false) (fun u hu => hl u (List.mem_cons_of_mem _ hu)) (rowF_lt _ _ _ hy hv), indep_row g v y hv hy (h v hv (fun e => hc (.inl e)) (fun e => hc (.inr e)))]
  exact key (List.range 8) x (fun v hv => List.mem_range.1 hv) hx

theorem bit_at (g : Fn) (a b x : Nat) (ha : a < 8) (hb : b < 8) (hx : x < 256) (h : ∀ v, v < 8 → v ≠ a → v ≠ b → depF g v = false) : g.getLsbD x = g.getLsbD (ptR a b (x.testBit a) (x.testBit b)) := by
  rw [proj_bit g a b x hx h, projR_eq a b x ha hb hx]

/-- A function that depends on nothing is a constant. -/
theorem const_of_sup (f : Fn) (h : supF f = 0) : f = BitVec.allOnes 256 ∨ f = 0#256 := by
  have hd := (supF_zero f).1 h
  have key : ∀ x, x < 256 → f.getLsbD x = f.getLsbD 0 := fun x hx => by
    rw [bit_at f 0 0 x (by decide) (by decide) hx (fun v hv _ _ => hd v hv)]
    cases x.testBit 0
    · rfl
    · have := indep_row f 0 1 (by decide) (by decide) (hd 0 (by decide))
      exact this.symm
  cases h0 : f.getLsbD 0
  · right
    exact fn_ext fun x hx => by rw [key x hx, h0, BitVec.getLsbD_zero]
  · left
    exact fn_ext fun x hx => by rw [key x hx, h0, BitVec.getLsbD_allOnes, decide_eq_true hx]

end Go.Proofs.YtipocmbplcdmjaaGreatDoor
