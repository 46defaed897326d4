/-
  Texts of this proof, one behind the other: MathVar, Math2, Math2b, Math3, Math3b, Math3c, Math3e.
-/
import Derived.Test.YtipocmbplcdmjaaGreatDoorG11
/-
  Plain mathematics: the variables as functions, their words; what putting row after row comes to.
-/
namespace Go.Proofs.YtipocmbplcdmjaaGreatDoor
open Go Go.RowKit

/-- The number whose bits below n are P's. -/
def rowNat (P : Nat → Bool) : Nat → Nat
  | 0 => 0
  | n + 1 => if P n then rowNat P n + 2 ^ n else rowNat P n

theorem rowNat_lt (P : Nat → Bool) (n : Nat) : rowNat P n < 2 ^ n := by
  induction n with
  | zero => simp [rowNat]
  | succ n ih => simp only [rowNat]; rw [Nat.pow_succ]; split <;> omega

theorem rowNat_bit (P : Nat → Bool) (n k : Nat) : (rowNat P n).testBit k = (decide (k < n) && P k) := by
  induction n with
  | zero => simp [rowNat]
  | succ n ih =>
    simp only [rowNat]
    have hlt := rowNat_lt P n
    split
    · rename_i hp
      rw [Nat.add_comm]
      rcases Nat.lt_trichotomy k n with h | h | h
      · rw [Nat.testBit_two_pow_add_gt h, ih]
        simp [h, Nat.lt_succ_of_lt h]
      · subst h
        rw [Nat.testBit_two_pow_add_eq, Nat.testBit_lt_two_pow hlt]
        simp [hp]
      · have h2 : 2 ^ n + rowNat P n < 2 ^ k :=
          Nat.lt_of_lt_of_le (by rw [Nat.pow_succ]; omega) (Nat.pow_le_pow_right (by decide) (Nat.succ_le_of_lt h))
        rw [Nat.testBit_lt_two_pow h2]
        have : ¬ k < n + 1 := by omega
        simp [this]
    · rename_i hp
      rw [ih, Bool.eq_iff_iff]
      simp
      intro hk
      constructor
      · intro h; omega
      · intro h
        rcases Nat.lt_or_ge k n with h' | h'
        · exact h'
        · obtain rfl : k = n := by omega
          exact absurd hk hp

/-- The function whose value in row x is P x. -/
def ofRow (P : Nat → Bool) : Fn := BitVec.ofNat 256 (rowNat P 256)

theorem ofRow_bit (P : Nat → Bool) (k : Nat) (hk : k < 256) : (ofRow P).getLsbD k = P k := by
  unfold ofRow
  rw [BitVec.getLsbD_ofNat, rowNat_bit]
  simp [hk]

/-- Variable v. -/
def varF (v : Nat) : Fn := ofRow (fun x => x.testBit v)

/-- Any number as a variable. -/
def varAny (v : Int) : Fn := if 0 ≤ v ∧ v < 8 then varF v.toNat else 0#256

/-- The words of the first six variables. -/
def lowV : Nat → Int
  | 0 => 12297829382473034410
  | 1 => 14757395258967641292
  | 2 => 17361641481138401520
  | 3 => 18374966859414961920
  | 4 => 18446462603027742720
  | _ => 18446744069414584320

theorem lowV_eq (v i : Nat) (hv : v < 6) (hi : i < 4) : lowV v = (wd (varF v) i : Nat) := by
  have H : ∀ v : Fin 6, ∀ i : Fin 4, lowV v = (wd (varF v) i : Nat) := by decide +kernel
  exact H ⟨v, hv⟩ ⟨i, hi⟩

theorem wd_var6 : wd (varF 6) 0 = 0 ∧ wd (varF 6) 1 = 18446744073709551615 ∧ wd (varF 6) 2 = 0 ∧ wd (varF 6) 3 = 18446744073709551615 := by decide +kernel
theorem wd_var7 : wd (varF 7) 0 = 0 ∧ wd (varF 7) 1 = 0 ∧ wd (varF 7) 2 = 18446744073709551615 ∧ wd (varF 7) 3 = 18446744073709551615 := by decide +kernel

theorem fn_ext {f g : Fn} (h : ∀ k, k < 256 → f.getLsbD k = g.getLsbD k) : f = g := BitVec.eq_of_getLsbD_eq fun k hk => h k hk

/-- What has been put when the rows below n have been. -/
def upTo (P : Nat → Bool) (n : Nat) : Fn := ofRow (fun x => decide (x < n) && P x)

theorem upTo_zero (P : Nat → Bool) : upTo P 0 = 0#256 := fn_ext fun k hk => by rw [upTo, ofRow_bit _ _ hk]; simp
theorem upTo_all (P : Nat → Bool) : upTo P 256 = ofRow P := fn_ext fun k hk => by rw [upTo, ofRow_bit _ _ hk, ofRow_bit _ _ hk]; simp [hk]

/-- f with b put in row k. -/
def putF (f : Fn) (k : Nat) (b : Bool) : Fn := if b then f ||| (1#256 <<< k) else f

theorem putF_bit (f : Fn) (k j : Nat) (b : Bool) (hj : j < 256) : (putF f k b).getLsbD j = (f.getLsbD j || (b && decide (j = k))) := by
  unfold putF
  cases b with
  | false => simp
  | true =>
    simp only [if_true, BitVec.getLsbD_or, BitVec.getLsbD_shiftLeft, BitVec.getLsbD_one, Bool.true_and]
    by_cases h : j = k
    · subst h; simp [hj]
    · have : ¬ (j - k = 0 ∧ k ≤ j) := by omega
      by_cases h2 : j < k
      · simp [h, h2]
      · have h3 : ¬ (j - k = 0) := by omega
        simp [h, h2, h3]

theorem upTo_put (P : Nat → Bool) (n : Nat) (b : Bool) (hb : b = P n) : putF (upTo P n) n b = upTo P (n + 1) := fn_ext fun k hk => by
  subst hb
  rw [putF_bit _ _ _ _ hk, upTo, upTo, ofRow_bit _ _ hk, ofRow_bit _ _ hk, Bool.eq_iff_iff]
  simp
  constructor
  · rintro (⟨h1, h2⟩ | ⟨h1, rfl⟩)
    · exact ⟨by omega, h2⟩
    · exact ⟨by omega, h1⟩
  · rintro ⟨h1, h2⟩
    rcases Nat.lt_or_ge k n with h | h
    · exact .inl ⟨h, h2⟩
    · obtain rfl : k = n := by omega
      exact .inr ⟨h2, rfl⟩

/-- One word of it. -/
theorem wd_put (f : Fn) (k i : Nat) (hi : i < 4) : wd (putF f k true) i = if i = k / 64 then wd f i ||| 2 ^ (k % 64) else wd f i := by
  have e : ∀ j, j < 64 → ((putF f k true).extractLsb' (64 * i) 64).getLsbD j = (if i = k / 64 then (f.extractLsb' (64 * i) 64) ||| (1#64 <<< (k % 64)) else f.extractLsb' (64 * i) 64).getLsbD j := by
    intro j hj
    rw [BitVec.getLsbD_extractLsb', putF_bit _ _ _ _ (by omega)]
    by_cases h : i = k / 64
    · rw [if_pos h, BitVec.getLsbD_or, BitVec.getLsbD_extractLsb', BitVec.getLsbD_shiftLeft, BitVec.getLsbD_one]
      simp only [hj, decide_true, Bool.true_and]
      congr 1
      rw [Bool.eq_iff_iff]
      simp
      omega
    · rw [if_neg h, BitVec.getLsbD_extractLsb']
      have : ¬ (64 * i + j = k) := by omega
      simp [hj, this]
  have e2 := BitVec.eq_of_getLsbD_eq e
  unfold wd
  rw [e2]
  by_cases h : i = k / 64
  · rw [if_pos h, if_pos h, BitVec.toNat_or, BitVec.toNat_shiftLeft, BitVec.toNat_one (by decide), Nat.shiftLeft_eq, Nat.one_mul, Nat.mod_eq_of_lt]
    exact Nat.pow_lt_pow_right (by decide) (Nat.mod_lt _ (by decide))
  · rw [if_neg h, if_neg h]

theorem put_same (f : Fn) (k q : Nat) (hq : k / 64 = q) (h4 : q < 4) : bits .or .u64 (wd f q) (IntKind.u64.wrap (2 ^ (k % 64))) = (wd (putF f k true) q : Nat) := by
  have hp : (2 : Nat) ^ (k % 64) < 18446744073709551616 := by
    have : (2 : Nat) ^ (k % 64) < 2 ^ 64 := Nat.pow_lt_pow_right (by decide) (Nat.mod_lt _ (by decide))
    simpa using this
  have e : IntKind.u64.wrap (2 ^ (k % 64)) = ((2 ^ (k % 64) : Nat) : Int) := by
    rw [IntKind.wrap_u64]
    have : ((2 : Int) ^ (k % 64)) = ((2 ^ (k % 64) : Nat) : Int) := by simp
    rw [this]
    clear this
    generalize (2 : Nat) ^ (k % 64) = y at hp
    omega
  rw [e, bits_or_u64_nat _ _ (wd_lt f q) hp, wd_put f k q h4, if_pos hq.symm]

theorem put_other (f : Fn) (k q i : Nat) (hq : k / 64 = q) (hi : i < 4) (hne : i ≠ q) : wd (putF f k true) i = wd f i := by
  rw [wd_put f k i hi, if_neg (by omega)]

theorem bit_div (k v : Nat) : ((k / 2 ^ v : Nat) % 2 == 1) = k.testBit v := by
  rw [Nat.testBit_eq_decide_div_mod_eq]; rfl

end Go.Proofs.YtipocmbplcdmjaaGreatDoor

/-
  Plain mathematics of layer 2: a variable set, on which a function depends, in how many rows it is true.
-/
namespace Go.Proofs.YtipocmbplcdmjaaGreatDoor
open Go Go.RowKit

/-- Row x with variable m set to b. -/
def rowF (x m : Nat) (b : Bool) : Nat := (if x / 2 ^ m % 2 = 1 then x - 2 ^ m else x) + (if b then 2 ^ m else 0)

theorem pow8 {m : Nat} (h : m < 8) : 2 ^ m = 1 ∨ 2 ^ m = 2 ∨ 2 ^ m = 4 ∨ 2 ^ m = 8 ∨ 2 ^ m = 16 ∨ 2 ^ m = 32 ∨ 2 ^ m = 64 ∨ 2 ^ m = 128 := by
  rcases (by omega : m = 0 ∨ m = 1 ∨ m = 2 ∨ m = 3 ∨ m = 4 ∨ m = 5 ∨ m = 6 ∨ m = 7) with rfl | rfl | rfl | rfl | rfl | rfl | rfl | rfl <;> decide

theorem rowF_lt (x m : Nat) (b : Bool) (hx : x < 256) (hm : m < 8) : rowF x m b < 256 := by
  unfold rowF
  rcases pow8 hm with h | h | h | h | h | h | h | h <;> rw [h] <;> cases b <;> simp <;> split <;> omega

/-- The function with variable m set to b. -/
def cofF (f : Fn) (m : Nat) (b : Bool) : Fn := ofRow fun x => f.getLsbD (rowF x m b)

/-- The same for any number. -/
def cofAny (f : Fn) (v : Int) (b : Bool) : Fn := if 0 ≤ v ∧ v < 8 then cofF f v.toNat b else f

theorem cofF_bit (f : Fn) (m : Nat) (b : Bool) (k : Nat) (hk : k < 256) : (cofF f m b).getLsbD k = f.getLsbD (rowF k m b) := ofRow_bit _ _ hk

/-- Does row x show that f depends on variable m? -/
def shows (f : Fn) (m x : Nat) : Bool := decide (x / 2 ^ m % 2 = 0) && (f.getLsbD x != f.getLsbD (x + 2 ^ m))

/-- Does f depend on variable m? -/
def depF (f : Fn) (m : Nat) : Bool := (List.range 256).any (shows f m)

/-- The same for any number. -/
def depAny (f : Fn) (v : Int) : Bool := if 0 ≤ v ∧ v < 8 then depF f v.toNat else false

theorem depF_true {f : Fn} {m x : Nat} (hx : x < 256) (h : shows f m x = true) : depF f m = true := List.any_eq_true.2 ⟨x, List.mem_range.2 hx, h⟩
theorem depF_false {f : Fn} {m : Nat} (h : ∀ x, x < 256 → shows f m x = false) : depF f m = false := by
  rw [depF, List.any_eq_false]
  intro x hx
  rw [h x (List.mem_range.1 hx)]
  decide

/-- 2 to the power of all variables from j on, from which f depends, as the sum of 2 ^ (v - j). -/
def supFrom (f : Fn) : Nat → Nat → Nat
  | 0, _ => 0
  | n + 1, j => 2 * supFrom f n (j + 1) + (if depF f j then 1 else 0)

/-- The support. -/
def supF (f : Fn) : Nat := supFrom f 8 0

theorem supFrom_lt (f : Fn) (n : Nat) : ∀ j, supFrom f n j < 2 ^ n := by
  induction n with
  | zero => intro j; simp [supFrom]
  | succ n ih => intro j; have := ih (j + 1); simp only [supFrom]; rw [Nat.pow_succ]; split <;> omega

/-- In how many rows below n f is true. -/
def cntF (f : Fn) : Nat → Nat
  | 0 => 0
  | n + 1 => cntF f n + (if f.getLsbD n then 1 else 0)

theorem cntF_le (f : Fn) (n : Nat) : cntF f n ≤ n := by
  induction n with
  | zero => simp [cntF]
  | succ n ih => simp only [cntF]; split <;> omega

/-- With g in variable v's place. -/
def compF (f : Fn) (v : Int) (g : Fn) : Fn := g &&& cofAny f v true ||| ~~~g &&& cofAny f v false

end Go.Proofs.YtipocmbplcdmjaaGreatDoor

/-
  Plain mathematics of layer 2's own law: what follows of a variable set.
-/
namespace Go.Proofs.YtipocmbplcdmjaaGreatDoor
open Go Go.RowKit

theorem rowF_test (x m : Nat) (b : Bool) (j : Nat) (hx : x < 256) (hm : m < 8) (hj : j < 8) : (rowF x m b).testBit j = if j = m then b else x.testBit j := by
  have H : ∀ x : Fin 256, ∀ m : Fin 8, ∀ b : Bool, ∀ j : Fin 8, (rowF x m b).testBit j = if (j : Nat) = m then b else (x : Nat).testBit j := by decide +kernel
  exact H ⟨x, hx⟩ ⟨m, hm⟩ b ⟨j, hj⟩

theorem row_ext {x y : Nat} (hx : x < 256) (hy : y < 256) (h : ∀ j, j < 8 → x.testBit j = y.testBit j) : x = y := by
  refine Nat.eq_of_testBit_eq fun j => ?_
  rcases Nat.lt_or_ge j 8 with hj | hj
  · exact h j hj
  · have h8 : (2 : Nat) ^ 8 ≤ 2 ^ j := Nat.pow_le_pow_right (by decide) hj
    rw [Nat.testBit_lt_two_pow (Nat.lt_of_lt_of_le hx h8), Nat.testBit_lt_two_pow (Nat.lt_of_lt_of_le hy h8)]

theorem rowF_self (x m : Nat) (hx : x < 256) (hm : m < 8) : rowF x m (x.testBit m) = x :=
  row_ext (rowF_lt _ _ _ hx hm) hx fun j hj => by
    rw [rowF_test _ _ _ _ hx hm hj]
    split
    · rename_i h; rw [h]
    · rfl

theorem rowF_rowF (x m n : Nat) (b c : Bool) (hx : x < 256) (hm : m < 8) (hn : n < 8) (h : m ≠ n) : rowF (rowF x m b) n c = rowF (rowF x n c) m b :=
  row_ext (rowF_lt _ _ _ (rowF_lt _ _ _ hx hm) hn) (rowF_lt _ _ _ (rowF_lt _ _ _ hx hn) hm) fun j hj => by
    rw [rowF_test _ _ _ _ (rowF_lt _ _ _ hx hm) hn hj, rowF_test _ _ _ _ (rowF_lt _ _ _ hx hn) hm hj, rowF_test _ _ _ _ hx hm hj, rowF_test _ _ _ _ hx hn hj]
    by_cases h1 : j = m
    · rw [if_pos h1, if_neg (by omega), if_pos h1]
    · rw [if_neg h1, if_neg h1]

theorem rowF_twice (x m : Nat) (b c : Bool) (hx : x < 256) (hm : m < 8) : rowF (rowF x m b) m c = rowF x m c :=
  row_ext (rowF_lt _ _ _ (rowF_lt _ _ _ hx hm) hm) (rowF_lt _ _ _ hx hm) fun j hj => by
    rw [rowF_test _ _ _ _ (rowF_lt _ _ _ hx hm) hm hj, rowF_test _ _ _ _ hx hm hj, rowF_test _ _ _ _ hx hm hj]
    split <;> rfl

theorem rowF_up (x m : Nat) (b : Bool) (hm : m < 8) (h : x / 2 ^ m % 2 = 0) : rowF (x + 2 ^ m) m b = rowF x m b := by
  have h1 : (x + 2 ^ m) / 2 ^ m % 2 = 1 := by rcases pow8 hm with e | e | e | e | e | e | e | e <;> rw [e] at h ⊢ <;> omega
  have h2 : ¬ x / 2 ^ m % 2 = 1 := by omega
  unfold rowF
  rw [if_pos h1, if_neg h2, Nat.add_sub_cancel]

/-- With a variable set a function doesn't depend on it. -/
theorem dep_cofF (f : Fn) (m : Nat) (b : Bool) (hm : m < 8) : depF (cofF f m b) m = false := depF_false fun x hx => by
  unfold shows
  by_cases h : x / 2 ^ m % 2 = 0
  · have hx2 : x + 2 ^ m < 256 := by rcases pow8 hm with e | e | e | e | e | e | e | e <;> rw [e] at h ⊢ <;> omega
    rw [cofF_bit _ _ _ _ hx, cofF_bit _ _ _ _ hx2, rowF_up x m b hm h]
    simp
  · rw [decide_eq_false h, Bool.false_and]

theorem dep_cof (f : Fn) (v : Int) (b : Bool) : depAny (cofAny f v b) v = false := by
  unfold depAny cofAny
  split
  · exact dep_cofF f v.toNat b (by omega)
  · rfl

theorem var_bit (m x : Nat) (hx : x < 256) : (varF m).getLsbD x = x.testBit m := by rw [varF, ofRow_bit _ _ hx]

/-- Ite by a variable of both is the function. -/
theorem ite_cof (f : Fn) (v : Int) (hv : 0 ≤ v ∧ v < 8) : (varAny v &&& cofAny f v true ||| ~~~(varAny v) &&& cofAny f v false) = f := by
  unfold varAny cofAny
  rw [if_pos hv, if_pos hv, if_pos hv]
  have hm : v.toNat < 8 := by omega
  refine fn_ext fun x hx => ?_
  rw [BitVec.getLsbD_or, BitVec.getLsbD_and, BitVec.getLsbD_and, BitVec.getLsbD_not, var_bit _ _ hx, cofF_bit _ _ _ _ hx, cofF_bit _ _ _ _ hx, decide_eq_true hx]
  have h := rowF_self x v.toNat hx hm
  cases hb : x.testBit v.toNat
  · rw [hb] at h; rw [h]; simp
  · rw [hb] at h; rw [h]; simp

theorem ite_same' (v f : Fn) : (v &&& f ||| ~~~v &&& f) = f := fn_ext fun x hx => by
  simp [hx]; cases v[x] <;> simp

/-- Compose by itself. -/
theorem comp_self (f : Fn) (v : Int) : compF f v (varAny v) = f := by
  unfold compF
  by_cases hv : 0 ≤ v ∧ v < 8
  · exact ite_cof f v hv
  · unfold cofAny; rw [if_neg hv, if_neg hv]; exact ite_same' _ _

/-- Compose by a constant. -/
theorem comp_const (f : Fn) (v : Int) (b : Bool) : compF f v (if b then BitVec.allOnes 256 else 0#256) = cofAny f v b := by
  unfold compF
  refine fn_ext fun x hx => ?_
  rw [BitVec.getLsbD_or, BitVec.getLsbD_and, BitVec.getLsbD_and, BitVec.getLsbD_not, decide_eq_true hx]
  cases b
  · rw [if_neg (by decide), BitVec.getLsbD_zero]; simp
  · rw [if_pos rfl, BitVec.getLsbD_allOnes, decide_eq_true hx]; simp

/-- Whatever is so for both is so for one. -/
theorem all_some (f : Fn) (v : Int) : ((cofAny f v false &&& cofAny f v true) &&& ~~~(cofAny f v false ||| cofAny f v true)) = 0#256 := fn_ext fun x hx => by
  simp [hx]
  intro h1 h2
  simp [h1]

/-- Two variables may be set in any order. -/
theorem cof_cof (f : Fn) (v w : Int) (b c : Bool) (h : v ≠ w) : cofAny (cofAny f v b) w c = cofAny (cofAny f w c) v b := by
  unfold cofAny
  by_cases hv : 0 ≤ v ∧ v < 8
  · by_cases hw : 0 ≤ w ∧ w < 8
    · rw [if_pos hv, if_pos hw, if_pos hw, if_pos hv]
      refine fn_ext fun x hx => ?_
      have hm : v.toNat < 8 := by omega
      have hn : w.toNat < 8 := by omega
      rw [cofF_bit _ _ _ _ hx, cofF_bit _ _ _ _ hx, cofF_bit _ _ _ _ (rowF_lt _ _ _ hx hn), cofF_bit _ _ _ _ (rowF_lt _ _ _ hx hm), rowF_rowF x v.toNat w.toNat b c hx hm hn (by omega)]
    · rw [if_neg hw, if_neg hw]
  · rw [if_neg hv, if_neg hv]

theorem cntF_eq (f : Fn) (n : Nat) : cntF f n = (List.range n).countP (fun x => f.getLsbD x) := by
  induction n with
  | zero => rfl
  | succ n ih => rw [cntF, ih, List.range_succ, List.countP_append, List.countP_cons, List.countP_nil, Nat.zero_add]

theorem countP_sum (l : List Nat) (p q r s : Nat → Bool) (h : ∀ x ∈ l, (p x).toNat + (q x).toNat = (r x).toNat + (s x).toNat) :
    l.countP p + l.countP q = l.countP r + l.countP s := by
  induction l with
  | nil => rfl
  | cons a l ih =>
    have h1 := h a (List.mem_cons_self ..)
    have h2 := ih fun x hx => h x (List.mem_cons_of_mem _ hx)
    simp only [List.countP_cons]
    revert h1
    cases p a <;> cases q a <;> cases r a <;> cases s a <;> simp <;> omega

/-- Row x with variable m turned. -/
def flipR (m x : Nat) : Nat := rowF x m (!x.testBit m)

theorem flip_perm (m : Nat) (hm : m < 8) : ((List.range 256).map (flipR m)).Perm (List.range 256) := by
  have H : ∀ m : Fin 8, (((List.range 256).map (flipR m)).isPerm (List.range 256)) = true := by decide +kernel
  exact List.isPerm_iff.1 (H ⟨m, hm⟩)

/-- Both halves count what the whole does. -/
theorem count_halves (f : Fn) (v : Int) (hv : 0 ≤ v ∧ v < 8) : cntF (cofAny f v true) 256 + cntF (cofAny f v false) 256 = 2 * cntF f 256 := by
  unfold cofAny
  rw [if_pos hv, if_pos hv, cntF_eq, cntF_eq, cntF_eq]
  have hm : v.toNat < 8 := by omega
  have e := (flip_perm v.toNat hm).countP_eq (fun x => f.getLsbD x)
  rw [List.countP_map] at e
  rw [countP_sum (List.range 256) _ _ (fun x => f.getLsbD x) ((fun x => f.getLsbD x) ∘ flipR v.toNat) ?_, e]
  · omega
  · intro x hx
    have hx' := List.mem_range.1 hx
    rw [cofF_bit _ _ _ _ hx', cofF_bit _ _ _ _ hx']
    have h := rowF_self x v.toNat hx' hm
    show _ = _ + (f.getLsbD (rowF x v.toNat (!x.testBit v.toNat))).toNat
    cases hb : x.testBit v.toNat
    · rw [hb] at h; simp only [Bool.not_false]; rw [h, Nat.add_comm]
    · rw [hb] at h; simp only [Bool.not_true]; rw [h]

end Go.Proofs.YtipocmbplcdmjaaGreatDoor

/-
  Plain mathematics of layer 3: the top of a function in an order, the nodes of functions.
-/
namespace Go.Proofs.YtipocmbplcdmjaaGreatDoor
open Go Go.RowKit

/-- The first of n numbers from place i on, on which f depends; -1, if there is none. -/
def topFrom (f : Fn) (o : Nat → Int) : Nat → Nat → Int
  | 0, _ => -1
  | n + 1, i => if depAny f (o i) then o i else topFrom f o n (i + 1)

/-- The top. -/
def topF (f : Fn) (o : Nat → Int) : Int := topFrom f o 8 0

/-- What is reached from functions by setting tops. -/
inductive Reach (l : List Fn) (o : Nat → Int) : Fn → Prop
  | base {f : Fn} (h : f ∈ l) : Reach l o f
  | step {f : Fn} (b : Bool) (h : Reach l o f) (hs : supF f ≠ 0) (ht : 0 ≤ topF f o) : Reach l o (cofAny f (topF f o) b)

/-- A node of these functions. -/
def IsNode (l : List Fn) (o : Nat → Int) (f : Fn) : Prop := Reach l o f ∧ supF f ≠ 0

/-- n is how many nodes there are. -/
def IsSize (l : List Fn) (o : Nat → Int) (n : Nat) : Prop := ∃ out : List Fn, out.Nodup ∧ (∀ f, f ∈ out ↔ IsNode l o f) ∧ out.length = n

theorem nodup_length_le {l k : List Fn} (hl : l.Nodup) (h : ∀ f, f ∈ l → f ∈ k) : l.length ≤ k.length := by
  induction l generalizing k with
  | nil => exact Nat.zero_le _
  | cons a l ih =>
    have hn := List.nodup_cons.1 hl
    have ha : a ∈ k := h a (List.mem_cons_self ..)
    have h2 : ∀ f, f ∈ l → f ∈ k.erase a := fun f hf => (List.mem_erase_of_ne (fun e : f = a => hn.1 (by rw [← e]; exact hf))).2 (h f (List.mem_cons_of_mem _ hf))
    have h3 := ih hn.2 h2
    rw [List.length_erase_of_mem ha] at h3
    have : 0 < k.length := List.length_pos_of_mem ha
    simp only [List.length_cons]
    omega

theorem IsSize.unique {l : List Fn} {o : Nat → Int} {n m : Nat} (h : IsSize l o n) (k : IsSize l o m) : n = m := by
  obtain ⟨a, ha, hma, rfl⟩ := h
  obtain ⟨b, hb, hmb, rfl⟩ := k
  exact Nat.le_antisymm (nodup_length_le ha fun f hf => (hmb f).2 ((hma f).1 hf)) (nodup_length_le hb fun f hf => (hma f).2 ((hmb f).1 hf))

/-- On how many variables f depends. -/
def supN (f : Fn) : Nat := (List.range 8).countP (depF f)

theorem supFrom_zero (f : Fn) (n : Nat) : ∀ j, supFrom f n j = 0 ↔ ∀ i, j ≤ i → i < j + n → depF f i = false := by
  induction n with
  | zero => intro j; simp only [supFrom, true_iff]; intro i h1 h2; omega
  | succ n ih =>
    intro j
    simp only [supFrom]
    constructor
    · intro h i h1 h2
      have hd : depF f j = false := by
        cases hd : depF f j
        · rfl
        · rw [hd] at h; simp at h
      have h0 : supFrom f n (j + 1) = 0 := by rw [hd] at h; simp at h; omega
      rcases Nat.lt_or_ge j i with hlt | hge
      · exact (ih (j + 1)).1 h0 i hlt (by omega)
      · obtain rfl : i = j := by omega
        exact hd
    · intro h
      have h0 := (ih (j + 1)).2 fun i h1 h2 => h i (by omega) (by omega)
      rw [h0, h j (Nat.le_refl _) (by omega)]
      simp

theorem supF_zero (f : Fn) : supF f = 0 ↔ ∀ i, i < 8 → depF f i = false := by
  rw [supF, supFrom_zero]
  constructor
  · intro h i hi; exact h i (Nat.zero_le _) (by omega)
  · intro h i _ hi; exact h i (by omega)

theorem topFrom_dep (f : Fn) (o : Nat → Int) (n : Nat) : ∀ i, 0 ≤ topFrom f o n i → depAny f (topFrom f o n i) = true := by
  induction n with
  | zero => intro i h; simp [topFrom] at h
  | succ n ih =>
    intro i h
    simp only [topFrom] at h ⊢
    split
    · assumption
    · rename_i hd
      rw [if_neg hd] at h
      exact ih (i + 1) h

theorem depAny_range {f : Fn} {v : Int} (h : depAny f v = true) : 0 ≤ v ∧ v < 8 := by
  unfold depAny at h
  split at h
  · assumption
  · cases h

/-- What doesn't depend on a variable doesn't with another one set. -/
theorem dep_cof_other (f : Fn) (m n : Nat) (b : Bool) (hm : m < 8) (hn : n < 8) (h : depF f n = false) : depF (cofF f m b) n = false := by
  by_cases e : m = n
  · subst e; exact dep_cofF f m b hm
  · refine depF_false fun x hx => ?_
    unfold shows
    by_cases h0 : x / 2 ^ n % 2 = 0
    · have hx2 : x + 2 ^ n < 256 := by rcases pow8 hn with e | e | e | e | e | e | e | e <;> rw [e] at h0 ⊢ <;> omega
      rw [cofF_bit _ _ _ _ hx, cofF_bit _ _ _ _ hx2]
      have hbit : x.testBit n = false := by rw [Nat.testBit_eq_decide_div_mod_eq]; simp; omega
      have e1 : x + 2 ^ n = rowF x n true := by unfold rowF; rw [if_neg (by omega), if_pos rfl]
      have e2 : rowF (x + 2 ^ n) m b = rowF x m b + 2 ^ n := by
        rw [e1, rowF_rowF x n m true b hx hn hm (Ne.symm e)]
        have hb2 : (rowF x m b).testBit n = false := by rw [rowF_test _ _ _ _ hx hm hn, if_neg (Ne.symm e)]; exact hbit
        unfold rowF at hb2 ⊢
        rw [Nat.testBit_eq_decide_div_mod_eq] at hb2
        have hb3 := of_decide_eq_false hb2
        rw [if_neg hb3]
        simp
      have hr0 : (rowF x m b) / 2 ^ n % 2 = 0 := by
        have hb2 : (rowF x m b).testBit n = false := by rw [rowF_test _ _ _ _ hx hm hn, if_neg (Ne.symm e)]; exact hbit
        rw [Nat.testBit_eq_decide_div_mod_eq] at hb2
        have := of_decide_eq_false hb2
        omega
      have hs : shows f n (rowF x m b) = false := by
        cases hs : shows f n (rowF x m b)
        · rfl
        · rw [depF_true (rowF_lt _ _ _ hx hm) hs] at h; cases h
      unfold shows at hs
      rw [decide_eq_true hr0, Bool.true_and] at hs
      rw [e2, hs, Bool.and_false]
    · rw [decide_eq_false h0, Bool.false_and]

theorem countP_lt {l : List Nat} {p q : Nat → Bool} (h : ∀ x ∈ l, p x = true → q x = true) {a : Nat} (ha : a ∈ l) (hp : p a = false) (hq : q a = true) : l.countP p < l.countP q := by
  induction l with
  | nil => cases ha
  | cons b l ih =>
    rw [List.countP_cons, List.countP_cons]
    rcases List.mem_cons.1 ha with rfl | ha
    · rw [hp, hq]
      have := List.countP_mono_left (l := l) (p := p) (q := q) fun x hx => h x (List.mem_cons_of_mem _ hx)
      simp
      omega
    · have := ih (fun x hx => h x (List.mem_cons_of_mem _ hx)) ha
      cases hb : p b
      · cases q b <;> simp <;> omega
      · rw [h b (List.mem_cons_self ..) hb]; simp; omega

/-- With its top set a function depends on fewer variables. -/
theorem supN_cof (f : Fn) (o : Nat → Int) (b : Bool) (h : 0 ≤ topF f o) : supN (cofAny f (topF f o) b) < supN f := by
  have hd := topFrom_dep f o 8 0 h
  have hr := depAny_range hd
  change 0 ≤ topF f o ∧ topF f o < 8 at hr
  change depAny f (topF f o) = true at hd
  generalize topF f o = v at *
  have hm : v.toNat < 8 := by omega
  unfold depAny at hd
  rw [if_pos hr] at hd
  unfold cofAny
  rw [if_pos hr]
  refine countP_lt (a := v.toNat) (fun x hx hp => ?_) (List.mem_range.2 hm) (dep_cofF f _ b hm) hd
  cases hx2 : depF f x
  · rw [dep_cof_other f v.toNat x b hm (List.mem_range.1 hx) hx2] at hp; cases hp
  · rfl

end Go.Proofs.YtipocmbplcdmjaaGreatDoor

/-
  Plain mathematics of layer 3: what a list of functions still to be looked at, those that were, and the nodes among them are to each other, step by step.
-/
namespace Go.Proofs.YtipocmbplcdmjaaGreatDoor
open Go Go.RowKit

/-- How many steps a function can cost at most. -/
def wt (f : Fn) : Nat := 2 ^ (supN f + 1) - 1

def wsum : List Fn → Nat
  | [] => 0
  | f :: l => wt f + wsum l

theorem wsum_append (l k : List Fn) : wsum (l ++ k) = wsum l + wsum k := by
  induction l with
  | nil => simp [wsum]
  | cons f l ih => simp only [List.cons_append, wsum, ih]; omega

theorem supN_le (f : Fn) : supN f ≤ 8 := by
  have := List.countP_le_length (p := depF f) (l := List.range 8)
  simpa [supN] using this

theorem wt_pos (f : Fn) : 1 ≤ wt f := by
  unfold wt
  have : 2 ^ 1 ≤ 2 ^ (supN f + 1) := Nat.pow_le_pow_right (by decide) (by omega)
  omega

theorem wt_le (f : Fn) : wt f ≤ 511 := by
  unfold wt
  have : 2 ^ (supN f + 1) ≤ 2 ^ 9 := Nat.pow_le_pow_right (by decide) (by have := supN_le f; omega)
  omega

theorem wsum_le (l : List Fn) : wsum l ≤ 511 * l.length := by
  induction l with
  | nil => simp [wsum]
  | cons f l ih => simp only [wsum, List.length_cons]; have := wt_le f; omega

theorem length_le_wsum (l : List Fn) : l.length ≤ wsum l := by
  induction l with
  | nil => simp [wsum]
  | cons f l ih => simp only [wsum, List.length_cons]; have := wt_pos f; omega

theorem wt_cof (f : Fn) (o : Nat → Int) (b c : Bool) (h : 0 ≤ topF f o) : wt (cofAny f (topF f o) b) + wt (cofAny f (topF f o) c) + 1 ≤ wt f := by
  have hb := supN_cof f o b h
  have hc := supN_cof f o c h
  unfold wt
  have h1 : 2 ^ (supN (cofAny f (topF f o) b) + 1) ≤ 2 ^ supN f := Nat.pow_le_pow_right (by decide) hb
  have h2 : 2 ^ (supN (cofAny f (topF f o) c) + 1) ≤ 2 ^ supN f := Nat.pow_le_pow_right (by decide) hc
  have h3 : 2 ^ 1 ≤ 2 ^ (supN (cofAny f (topF f o) b) + 1) := Nat.pow_le_pow_right (by decide) (by omega)
  have h4 : 2 ^ 1 ≤ 2 ^ (supN (cofAny f (topF f o) c) + 1) := Nat.pow_le_pow_right (by decide) (by omega)
  have h5 : 2 ^ (supN f + 1) = 2 * 2 ^ supN f := by rw [Nat.pow_succ, Nat.mul_comm]
  omega

/-- Behind k of the functions of 'work' have been looked at, 'out' are the nodes among them. -/
structure NInv (l : List Fn) (o : Nat → Int) (out work : List Fn) (k : Nat) : Prop where
  le : k ≤ work.length
  reach : ∀ f, f ∈ work → Reach l o f
  base : ∀ f, f ∈ l → f ∈ work
  closed : ∀ f, f ∈ work.take k → supF f ≠ 0 → 0 ≤ topF f o → ∀ b, cofAny f (topF f o) b ∈ work
  nodup : out.Nodup
  mem : ∀ f, f ∈ out ↔ f ∈ work.take k ∧ supF f ≠ 0
  cost : k + wsum (work.drop k) ≤ 511 * l.length

theorem NInv.start (l : List Fn) (o : Nat → Int) : NInv l o [] l 0 where
  le := Nat.zero_le _
  reach f h := .base h
  base f h := h
  closed f h := by cases h
  nodup := List.nodup_nil
  mem f := by simp
  cost := by simpa using wsum_le l

theorem NInv.len {l : List Fn} {o : Nat → Int} {out work : List Fn} {k : Nat} (h : NInv l o out work k) : work.length ≤ 511 * l.length := by
  have h1 := length_le_wsum (work.drop k)
  have h2 := h.cost
  have h3 := h.le
  rw [List.length_drop] at h1
  omega

theorem NInv.out_len {l : List Fn} {o : Nat → Int} {out work : List Fn} {k : Nat} (h : NInv l o out work k) : out.length ≤ k := by
  have h1 := nodup_length_le h.nodup fun f hf => ((h.mem f).1 hf).1
  rw [List.length_take] at h1
  omega

theorem take_one {work : List Fn} {k : Nat} (hk : k < work.length) : work.take (k + 1) = work.take k ++ [work[k]] := List.take_succ_eq_append_getElem hk
theorem drop_one {work : List Fn} {k : Nat} (hk : k < work.length) : wsum (work.drop k) = wt work[k] + wsum (work.drop (k + 1)) := by
  rw [List.drop_eq_getElem_cons hk]; rfl

theorem NInv.seen {l : List Fn} {o : Nat → Int} {out work : List Fn} {k : Nat} (h : NInv l o out work k) (hk : k < work.length) (hs : work[k] ∈ work.take k) : NInv l o out work (k + 1) := by
  have hm : ∀ f, f ∈ work.take (k + 1) ↔ f ∈ work.take k := fun f => by
    rw [take_one hk, List.mem_append, List.mem_singleton]
    exact ⟨fun h => h.elim id (fun e => e ▸ hs), .inl⟩
  have hc := h.cost
  rw [drop_one hk] at hc
  have hw := wt_pos work[k]
  exact ⟨hk, h.reach, h.base, fun f hf => h.closed f ((hm f).1 hf), h.nodup, fun f => (h.mem f).trans (by rw [hm]), by omega⟩

theorem NInv.const {l : List Fn} {o : Nat → Int} {out work : List Fn} {k : Nat} (h : NInv l o out work k) (hk : k < work.length) (hs : supF work[k] = 0) : NInv l o out work (k + 1) := by
  have hm : ∀ f, f ∈ work.take (k + 1) ↔ f ∈ work.take k ∨ f = work[k] := fun f => by
    rw [take_one hk, List.mem_append, List.mem_singleton]
  have hc := h.cost
  rw [drop_one hk] at hc
  have hw := wt_pos work[k]
  refine ⟨hk, h.reach, h.base, fun f hf hf2 => ?_, h.nodup, fun f => ?_, by omega⟩
  · rcases (hm f).1 hf with hf | rfl
    · exact h.closed f hf hf2
    · exact absurd hs hf2
  · rw [h.mem, hm]
    constructor
    · rintro ⟨a, b⟩; exact ⟨.inl a, b⟩
    · rintro ⟨a | rfl, b⟩
      · exact ⟨a, b⟩
      · exact absurd hs b

theorem nodup_snoc {l : List Fn} {f : Fn} (h : l.Nodup) (hf : f ∉ l) : (l ++ [f]).Nodup := by
  rw [List.nodup_append]
  refine ⟨h, List.nodup_cons.2 ⟨by simp, List.nodup_nil⟩, fun a ha b hb => ?_⟩
  rw [List.mem_singleton] at hb
  subst hb
  intro e
  subst e
  exact hf ha

theorem NInv.leaf {l : List Fn} {o : Nat → Int} {out work : List Fn} {k : Nat} (h : NInv l o out work k) (hk : k < work.length) (hn : work[k] ∉ work.take k) (hs : supF work[k] ≠ 0) (ht : ¬ 0 ≤ topF work[k] o) :
    NInv l o (out ++ [work[k]]) work (k + 1) := by
  have hm : ∀ f, f ∈ work.take (k + 1) ↔ f ∈ work.take k ∨ f = work[k] := fun f => by
    rw [take_one hk, List.mem_append, List.mem_singleton]
  have hc := h.cost
  rw [drop_one hk] at hc
  have hw := wt_pos work[k]
  refine ⟨hk, h.reach, h.base, fun f hf hf2 hf3 => ?_, nodup_snoc h.nodup fun hf => hn ((h.mem _).1 hf).1, fun f => ?_, by omega⟩
  · rcases (hm f).1 hf with hf | rfl
    · exact h.closed f hf hf2 hf3
    · exact absurd hf3 ht
  · rw [List.mem_append, List.mem_singleton, h.mem, hm]
    constructor
    · rintro (⟨a, b⟩ | rfl)
      · exact ⟨.inl a, b⟩
      · exact ⟨.inr rfl, hs⟩
    · rintro ⟨a | rfl, b⟩
      · exact .inl ⟨a, b⟩
      · exact .inr rfl

theorem NInv.node {l : List Fn} {o : Nat → Int} {out work : List Fn} {k : Nat} (h : NInv l o out work k) (hk : k < work.length) (hn : work[k] ∉ work.take k) (hs : supF work[k] ≠ 0) (ht : 0 ≤ topF work[k] o) :
    NInv l o (out ++ [work[k]]) (work ++ [cofAny work[k] (topF work[k] o) false, cofAny work[k] (topF work[k] o) true]) (k + 1) := by
  have htk : (work ++ [cofAny work[k] (topF work[k] o) false, cofAny work[k] (topF work[k] o) true]).take (k + 1) = work.take (k + 1) := List.take_append_of_le_length (by omega)
  have hm : ∀ f, f ∈ work.take (k + 1) ↔ f ∈ work.take k ∨ f = work[k] := fun f => by
    rw [take_one hk, List.mem_append, List.mem_singleton]
  have hc := h.cost
  rw [drop_one hk] at hc
  have hw := wt_cof work[k] o false true ht
  have hin : ∀ b, cofAny work[k] (topF work[k] o) b ∈ [cofAny work[k] (topF work[k] o) false, cofAny work[k] (topF work[k] o) true] := fun b => by cases b <;> simp
  refine ⟨by simp; omega, fun f hf => ?_, fun f hf => List.mem_append_left _ (h.base f hf), fun f hf hf2 hf3 b => ?_, nodup_snoc h.nodup fun hf => hn ((h.mem _).1 hf).1, fun f => ?_, ?_⟩
  · rcases List.mem_append.1 hf with hf | hf
    · exact h.reach f hf
    · have hr := h.reach _ (List.getElem_mem hk)
      simp only [List.mem_cons, List.not_mem_nil, or_false] at hf
      rcases hf with rfl | rfl
      · exact .step false hr hs ht
      · exact .step true hr hs ht
  · rw [htk] at hf
    rcases (hm f).1 hf with hf | rfl
    · exact List.mem_append_left _ (h.closed f hf hf2 hf3 b)
    · exact List.mem_append_right _ (hin b)
  · rw [htk, List.mem_append, List.mem_singleton, h.mem, hm]
    constructor
    · rintro (⟨a, b⟩ | rfl)
      · exact ⟨.inl a, b⟩
      · exact ⟨.inr rfl, hs⟩
    · rintro ⟨a | rfl, b⟩
      · exact .inl ⟨a, b⟩
      · exact .inr rfl
  · rw [List.drop_append_of_le_length (by omega), wsum_append]
    simp only [wsum]
    omega

theorem NInv.done {l : List Fn} {o : Nat → Int} {out work : List Fn} {k : Nat} (h : NInv l o out work k) (hk : ¬ k < work.length) : IsSize l o out.length := by
  have htk : work.take k = work := List.take_of_length_le (by omega)
  have hall : ∀ f, Reach l o f → f ∈ work := by
    intro f hf
    induction hf with
    | base h' => exact h.base _ h'
    | step b _ hs ht ih => exact h.closed _ (by rw [htk]; exact ih) hs ht b
  refine ⟨out, h.nodup, fun f => ?_, rfl⟩
  rw [h.mem, htk]
  exact ⟨fun ⟨a, b⟩ => ⟨h.reach f a, b⟩, fun ⟨a, b⟩ => ⟨hall f a, b⟩⟩

end Go.Proofs.YtipocmbplcdmjaaGreatDoor

/-
  Plain mathematics of layer 3: how many nodes there are is a number; what follows of it.
-/
namespace Go.Proofs.YtipocmbplcdmjaaGreatDoor
open Go Go.RowKit

theorem NInv.next {l : List Fn} {o : Nat → Int} {out work : List Fn} {k : Nat} (h : NInv l o out work k) (hk : k < work.length) : ∃ out' work', NInv l o out' work' (k + 1) := by
  by_cases hin : work[k] ∈ work.take k
  · exact ⟨_, _, h.seen hk hin⟩
  · by_cases hs : supF work[k] = 0
    · exact ⟨_, _, h.const hk hs⟩
    · by_cases ht : 0 ≤ topF work[k] o
      · exact ⟨_, _, h.node hk hin hs ht⟩
      · exact ⟨_, _, h.leaf hk hin hs ht⟩

theorem exists_size (l : List Fn) (o : Nat → Int) : ∃ n, IsSize l o n := by
  have key : ∀ d k out work, 511 * l.length - k ≤ d → NInv l o out work k → ∃ n, IsSize l o n := by
    intro d
    induction d with
    | zero =>
      intro k out work hd h
      exact ⟨_, h.done (by have := h.len; omega)⟩
    | succ d ih =>
      intro k out work hd h
      by_cases hk : k < work.length
      · obtain ⟨out', work', h'⟩ := h.next hk
        exact ih (k + 1) out' work' (by omega) h'
      · exact ⟨_, h.done hk⟩
  exact key _ 0 [] l (Nat.le_refl _) (NInv.start l o)

/-- How many nodes there are. -/
noncomputable def sizeF (l : List Fn) (o : Nat → Int) : Nat := (exists_size l o).choose
theorem sizeF_is (l : List Fn) (o : Nat → Int) : IsSize l o (sizeF l o) := (exists_size l o).choose_spec
theorem sizeF_eq {l : List Fn} {o : Nat → Int} {n : Nat} (h : IsSize l o n) : sizeF l o = n := (sizeF_is l o).unique h

theorem Reach.mono {l k : List Fn} {o : Nat → Int} (h : ∀ f, f ∈ l → f ∈ k) {f : Fn} (hf : Reach l o f) : Reach k o f := by
  induction hf with
  | base h' => exact .base (h _ h')
  | step b _ hs ht ih => exact .step b ih hs ht

theorem Reach.append {l k : List Fn} {o : Nat → Int} {f : Fn} (hf : Reach (l ++ k) o f) : Reach l o f ∨ Reach k o f := by
  induction hf with
  | base h' => exact (List.mem_append.1 h').imp .base .base
  | step b _ hs ht ih => exact ih.imp (fun h => .step b h hs ht) (fun h => .step b h hs ht)

/-- The same functions need the same nodes. -/
theorem size_same {l k : List Fn} {o : Nat → Int} (h : ∀ f, f ∈ l ↔ f ∈ k) : sizeF l o = sizeF k o := by
  obtain ⟨a, ha, hm, hl⟩ := sizeF_is l o
  refine (sizeF_eq ⟨a, ha, fun f => (hm f).trans ⟨fun ⟨p, q⟩ => ⟨p.mono fun f => (h f).1, q⟩, fun ⟨p, q⟩ => ⟨p.mono fun f => (h f).2, q⟩⟩, hl⟩).symm

/-- More functions need no fewer nodes. -/
theorem size_le {l k : List Fn} {o : Nat → Int} (h : ∀ f, f ∈ l → f ∈ k) : sizeF l o ≤ sizeF k o := by
  obtain ⟨a, ha, hma, hla⟩ := sizeF_is l o
  obtain ⟨b, hb, hmb, hlb⟩ := sizeF_is k o
  rw [← hla, ← hlb]
  exact nodup_length_le ha fun f hf => (hmb f).2 ⟨((hma f).1 hf).1.mono h, ((hma f).1 hf).2⟩

/-- No more than both parts. -/
theorem size_add (l k : List Fn) (o : Nat → Int) : sizeF (l ++ k) o ≤ sizeF l o + sizeF k o := by
  obtain ⟨a, ha, hma, hla⟩ := sizeF_is l o
  obtain ⟨b, hb, hmb, hlb⟩ := sizeF_is k o
  obtain ⟨c, hc, hmc, hlc⟩ := sizeF_is (l ++ k) o
  rw [← hla, ← hlb, ← hlc, ← List.length_append]
  refine nodup_length_le hc fun f hf => ?_
  obtain ⟨h1, h2⟩ := (hmc f).1 hf
  rcases h1.append with h | h
  · exact List.mem_append_left _ ((hma f).2 ⟨h, h2⟩)
  · exact List.mem_append_right _ ((hmb f).2 ⟨h, h2⟩)

end Go.Proofs.YtipocmbplcdmjaaGreatDoor

/-
  Plain mathematics of layer 3's own law: Not, the sides of a top, constants; 77 nodes.
-/
namespace Go.Proofs.YtipocmbplcdmjaaGreatDoor
open Go Go.RowKit

/-! ### Not -/
theorem up_lt {x m : Nat} (hx : x < 256) (hm : m < 8) (h0 : x / 2 ^ m % 2 = 0) : x + 2 ^ m < 256 := by
  rcases pow8 hm with e | e | e | e | e | e | e | e <;> rw [e] at h0 ⊢ <;> omega

theorem shows_not (f : Fn) (m x : Nat) (hm : m < 8) (hx : x < 256) : shows (~~~f) m x = shows f m x := by
  unfold shows
  by_cases h0 : x / 2 ^ m % 2 = 0
  · have := up_lt hx hm h0
    rw [BitVec.getLsbD_not, BitVec.getLsbD_not, decide_eq_true hx, decide_eq_true this]
    cases f.getLsbD x <;> cases f.getLsbD (x + 2 ^ m) <;> rfl
  · rw [decide_eq_false h0, Bool.false_and, Bool.false_and]

theorem depF_iff (f : Fn) (m : Nat) : depF f m = true ↔ ∃ x, x < 256 ∧ shows f m x = true := by
  rw [depF, List.any_eq_true]
  exact ⟨fun ⟨x, h1, h2⟩ => ⟨x, List.mem_range.1 h1, h2⟩, fun ⟨x, h1, h2⟩ => ⟨x, List.mem_range.2 h1, h2⟩⟩

theorem depF_not (f : Fn) (m : Nat) (hm : m < 8) : depF (~~~f) m = depF f m := by
  rw [Bool.eq_iff_iff, depF_iff, depF_iff]
  constructor
  · rintro ⟨x, h1, h2⟩; exact ⟨x, h1, by rw [← shows_not f m x hm h1]; exact h2⟩
  · rintro ⟨x, h1, h2⟩; exact ⟨x, h1, by rw [shows_not f m x hm h1]; exact h2⟩

theorem depAny_not (f : Fn) (v : Int) : depAny (~~~f) v = depAny f v := by
  unfold depAny
  split
  · exact depF_not f _ (by omega)
  · rfl

theorem supF_not (f : Fn) : supF (~~~f) = 0 ↔ supF f = 0 := by
  rw [supF_zero, supF_zero]
  exact ⟨fun h i hi => by rw [← depF_not f i hi]; exact h i hi, fun h i hi => by rw [depF_not f i hi]; exact h i hi⟩

theorem topF_not (f : Fn) (o : Nat → Int) : topF (~~~f) o = topF f o := by
  have key : ∀ n i, topFrom (~~~f) o n i = topFrom f o n i := by
    intro n
    induction n with
    | zero => intro i; rfl
    | succ n ih => intro i; simp only [topFrom, depAny_not, ih]
  exact key 8 0

theorem cof_not (f : Fn) (v : Int) (b : Bool) : cofAny (~~~f) v b = ~~~(cofAny f v b) := by
  unfold cofAny
  split
  · refine fn_ext fun x hx => ?_
    have hr := rowF_lt x v.toNat b hx (by omega)
    rw [cofF_bit _ _ _ _ hx, BitVec.getLsbD_not, BitVec.getLsbD_not, cofF_bit _ _ _ _ hx, decide_eq_true hx, decide_eq_true hr]
  · rfl

theorem reach_not {f : Fn} {o : Nat → Int} {g : Fn} (h : Reach [~~~f] o g) : Reach [f] o (~~~g) := by
  induction h with
  | base h =>
    rw [List.mem_singleton] at h
    subst h
    rw [BitVec.not_not]
    exact .base (List.mem_singleton.2 rfl)
  | step b _ hs ht ih =>
    rename_i g _
    rw [← cof_not, ← topF_not g o]
    exact .step b ih (fun e => hs ((supF_not g).1 e)) (by rw [topF_not]; exact ht)

theorem nodup_map {α β : Type} {l : List α} {p : α → β} (hl : l.Nodup) (h : ∀ a ∈ l, ∀ b ∈ l, p a = p b → a = b) : (l.map p).Nodup := by
  induction l with
  | nil => exact List.nodup_nil
  | cons a l ih =>
    have hn := List.nodup_cons.1 hl
    rw [List.map_cons, List.nodup_cons]
    refine ⟨fun hm => ?_, ih hn.2 fun x hx y hy => h x (List.mem_cons_of_mem _ hx) y (List.mem_cons_of_mem _ hy)⟩
    obtain ⟨b, hb, e⟩ := List.mem_map.1 hm
    have := h b (List.mem_cons_of_mem _ hb) a (List.mem_cons_self ..) e
    subst this
    exact hn.1 hb

/-- Not of a function needs as many nodes as it. -/
theorem size_not (f : Fn) (o : Nat → Int) : sizeF [~~~f] o = sizeF [f] o := by
  obtain ⟨a, ha, hma, hla⟩ := sizeF_is [f] o
  refine sizeF_eq ⟨a.map (~~~·), nodup_map ha (fun x _ y _ e => by have := congrArg (~~~·) e; simpa using this), fun g => ?_, by rw [List.length_map, hla]⟩
  rw [List.mem_map]
  constructor
  · rintro ⟨x, hx, rfl⟩
    obtain ⟨h1, h2⟩ := (hma x).1 hx
    refine ⟨?_, fun e => h2 ((supF_not x).1 e)⟩
    have h3 : Reach [~~~(~~~f)] o x := by rw [BitVec.not_not]; exact h1
    exact reach_not h3
  · rintro ⟨h1, h2⟩
    exact ⟨~~~g, (hma _).2 ⟨reach_not h1, fun e => h2 ((supF_not g).1 e)⟩, by simp⟩

/-! ### The sides of a top -/
theorem sup_of_dep {f : Fn} {v : Int} (h : depAny f v = true) : supF f ≠ 0 := by
  have hr := depAny_range h
  intro e
  unfold depAny at h
  rw [if_pos hr, (supF_zero f).1 e v.toNat (by omega)] at h
  cases h

theorem dep_cofAny (f : Fn) (v u : Int) (b : Bool) (h : depAny f u = false) : depAny (cofAny f v b) u = false := by
  unfold depAny cofAny at *
  by_cases hu : 0 ≤ u ∧ u < 8
  · rw [if_pos hu] at h ⊢
    by_cases hv : 0 ≤ v ∧ v < 8
    · rw [if_pos hv]; exact dep_cof_other f _ _ b (by omega) (by omega) h
    · rw [if_neg hv]; exact h
  · rw [if_neg hu]

theorem reach_sides {f : Fn} {o : Nat → Int} {v : Int} {g : Fn} (h : Reach [cofAny f v false, cofAny f v true] o g) : depAny g v = false := by
  induction h with
  | base h =>
    simp only [List.mem_cons, List.not_mem_nil, or_false] at h
    rcases h with rfl | rfl <;> exact dep_cof _ _ _
  | step b _ _ _ ih => exact dep_cofAny _ _ _ _ ih

/-- With its top set, both sides need one node less. -/
theorem size_sides (f : Fn) (o : Nat → Int) (ht : 0 ≤ topF f o) : sizeF [f] o = sizeF [cofAny f (topF f o) false, cofAny f (topF f o) true] o + 1 := by
  have hd : depAny f (topF f o) = true := topFrom_dep f o 8 0 ht
  have hs := sup_of_dep hd
  obtain ⟨a, ha, hma, hla⟩ := sizeF_is [cofAny f (topF f o) false, cofAny f (topF f o) true] o
  refine sizeF_eq ⟨f :: a, List.nodup_cons.2 ⟨fun hf => ?_, ha⟩, fun g => ?_, by rw [List.length_cons, hla]⟩
  · have := reach_sides ((hma f).1 hf).1
    rw [hd] at this
    cases this
  · rw [List.mem_cons, hma]
    constructor
    · rintro (rfl | ⟨h1, h2⟩)
      · exact ⟨.base (List.mem_singleton.2 rfl), hs⟩
      · refine ⟨?_, h2⟩
        have hb : ∀ b, Reach [f] o (cofAny f (topF f o) b) := fun b => .step b (.base (List.mem_singleton.2 rfl)) hs ht
        clear h2 hma hla ha
        induction h1 with
        | base h =>
          simp only [List.mem_cons, List.not_mem_nil, or_false] at h
          rcases h with rfl | rfl
          · exact hb false
          · exact hb true
        | step b _ h3 h4 ih => exact .step b ih h3 h4
    · rintro ⟨h1, h2⟩
      have key : g = f ∨ Reach [cofAny f (topF f o) false, cofAny f (topF f o) true] o g := by
        clear h2 hma hla ha
        induction h1 with
        | base h => exact .inl (List.mem_singleton.1 h)
        | step b _ h3 h4 ih =>
          right
          rcases ih with rfl | ih
          · exact .base (by cases b <;> simp)
          · exact .step b ih h3 h4
      exact key.imp id fun h => ⟨h, h2⟩

/-! ### Constants -/
theorem size_zero (f : Fn) (o : Nat → Int) : sizeF [f] o = 0 ↔ supF f = 0 := by
  obtain ⟨a, ha, hma, hla⟩ := sizeF_is [f] o
  rw [← hla, List.length_eq_zero_iff]
  constructor
  · rintro rfl
    rcases Nat.eq_zero_or_pos (supF f) with h | h
    · exact h
    · have := (hma f).2 ⟨.base (List.mem_singleton.2 rfl), by omega⟩
      cases this
  · intro hs
    refine List.eq_nil_iff_forall_not_mem.2 fun g hg => ?_
    obtain ⟨h1, h2⟩ := (hma g).1 hg
    have : g = f := by
      clear h2 hg
      induction h1 with
      | base h => exact List.mem_singleton.1 h
      | step b _ h3 _ ih => subst ih; exact absurd hs h3
    subst this
    exact h2 hs

/-- All variables but a and b set to 0. -/
def projR (a b : Nat) (x : Nat) : Nat := (List.range 8).foldl (fun y v => if v = a ∨ v = b then y else rowF y v false) x
def ptR (a b : Nat) (p q : Bool) : Nat := (if p then 2 ^ a else 0) + (if q ∧ b ≠ a then 2 ^ b else 0)

theorem projR_eq (a b x : Nat) (ha : a < 8) (hb : b < 8) (hx : x < 256) : projR a b x = ptR a b (x.testBit a) (x.testBit b) := by
  have H : ∀ a : Fin 8, ∀ b : Fin 8, ∀ x : Fin 256, projR a b x = ptR a b ((x : Nat).testBit a) ((x : Nat).testBit b) := by decide +kernel
  exact H ⟨a, ha⟩ ⟨b, hb⟩ ⟨x, hx⟩

theorem indep_row (g : Fn) (v x : Nat) (hv : v < 8) (hx : x < 256) (h : depF g v = false) : g.getLsbD (rowF x v false) = g.getLsbD x := by
  have h1 : ∀ y, y < 256 → y / 2 ^ v % 2 = 0 → g.getLsbD y = g.getLsbD (y + 2 ^ v) := fun y hy h0 => by
    have hs : shows g v y = false := by
      cases hs : shows g v y
      · rfl
      · rw [depF_true hy hs] at h; cases h
    unfold shows at hs
    rw [decide_eq_true h0, Bool.true_and] at hs
    simpa using hs
  by_cases hb : x / 2 ^ v % 2 = 1
  · have e : rowF x v false = x - 2 ^ v := by unfold rowF; rw [if_pos hb]; simp
    have hle : 2 ^ v ≤ x ∧ (x - 2 ^ v) / 2 ^ v % 2 = 0 := by rcases pow8 hv with e | e | e | e | e | e | e | e <;> rw [e] at hb ⊢ <;> omega
    rw [e, h1 (x - 2 ^ v) (Nat.lt_of_le_of_lt (Nat.sub_le _ _) hx) hle.2, Nat.sub_add_cancel hle.1]
  · have e : rowF x v false = x := by unfold rowF; rw [if_neg hb]; simp
    rw [e]

theorem proj_bit (g : Fn) (a b x : Nat) (hx : x < 256) (h : ∀ v, v < 8 → v ≠ a → v ≠ b → depF g v = false) : g.getLsbD x = g.getLsbD (projR a b x) := by
  have key : ∀ (l : List Nat) (y : Nat), (∀ v ∈ l, v < 8) → y < 256 → g.getLsbD y = g.getLsbD (l.foldl (fun y v => if v = a ∨ v = b then y else rowF y v false) y) := by
    intro l
    induction l with
    | nil => intro y _ _; rfl
    | cons v l ih =>
      intro y hl hy
      rw [List.foldl_cons]
      have hv := hl v (List.mem_cons_self ..)
      by_cases hc : v = a ∨ v = b
      · rw [if_pos hc]; exact ih y (fun u hu => hl u (List.mem_cons_of_mem _ hu)) hy
      · rw [if_neg hc, ← ih (rowF y v false) (fun u hu => hl u (List.mem_cons_of_mem _ hu)) (rowF_lt _ _ _ hy hv), indep_row g v y hv hy (h v hv (fun e => hc (.inl e)) (fun e => hc (.inr e)))]
  exact key (List.range 8) x (fun v hv => List.mem_range.1 hv) hx

theorem bit_at (g : Fn) (a b x : Nat) (ha : a < 8) (hb : b < 8) (hx : x < 256) (h : ∀ v, v < 8 → v ≠ a → v ≠ b → depF g v = false) : g.getLsbD x = g.getLsbD (ptR a b (x.testBit a) (x.testBit b)) := by
  rw [proj_bit g a b x hx h, projR_eq a b x ha hb hx]

/-- A function that depends on nothing is a constant. -/
theorem const_of_sup (f : Fn) (h : supF f = 0) : f = BitVec.allOnes 256 ∨ f = 0#256 := by
  have hd := (supF_zero f).1 h
  have key : ∀ x, x < 256 → f.getLsbD x = f.getLsbD 0 := fun x hx => by
    rw [bit_at f 0 0 x (by decide) (by decide) hx (fun v hv _ _ => hd v hv)]
    cases x.testBit 0
    · rfl
    · have := indep_row f 0 1 (by decide) (by decide) (hd 0 (by decide))
      exact this.symm
  cases h0 : f.getLsbD 0
  · right
    exact fn_ext fun x hx => by rw [key x hx, h0, BitVec.getLsbD_zero]
  · left
    exact fn_ext fun x hx => by rw [key x hx, h0, BitVec.getLsbD_allOnes, decide_eq_true hx]

theorem sup_const : supF (BitVec.allOnes 256) = 0 ∧ supF (0#256) = 0 := by decide +kernel

end Go.Proofs.YtipocmbplcdmjaaGreatDoor
