/-
  Plain mathematics: the variables as functions, their words; what putting row after row comes to.
-/
import Derived.Test.YtgccgjeehggagaaDoorMath
namespace Go.Proofs.YtgccgjeehggagaaDoor
open Go Go.RowKit

/-- The number whose bits below n are P's. -/
def rowNat (P : Nat → Bool) : Nat → Nat
  | 0 => 0
  | n + 1 => if P n then rowNat P n + 2 ^ n else rowNat P n

theorem rowNat_lt (P : Nat → Bool) (n : Nat) : rowNat P n < 2 ^ n := by
  induction n with
  | zero => simp [rowNat]
  | succ n ih => simp only [rowNat]; rw [Nat.pow_succ]; split <;> omega

theorem rowNat_bit (P : Nat → Bool) (n k : Nat) : (rowNat P n).testBit k = (decide (k < n) && P k) := by
  induction n with
  | zero => simp [rowNat]
  | succ n ih =>
    simp only [rowNat]
    have hlt := rowNat_lt P n
    split
    · rename_i hp
      rw [Nat.add_comm]
      rcases Nat.lt_trichotomy k n with h | h | h
      · rw [Nat.testBit_two_pow_add_gt h, ih]
        simp [h, Nat.lt_succ_of_lt h]
      · subst h
        rw [Nat.testBit_two_pow_add_eq, Nat.testBit_lt_two_pow hlt]
        simp [hp]
      · have h2 : 2 ^ n + rowNat P n < 2 ^ k :=
          Nat.lt_of_lt_of_le (by rw [Nat.pow_succ]; omega) (Nat.pow_le_pow_right (by decide) (Nat.succ_le_of_lt h))
        rw [Nat.testBit_lt_two_pow h2]
        have : ¬ k < n + 1 := by omega
        simp [this]
    · rename_i hp
      rw [ih, Bool.eq_iff_iff]
      simp
      intro hk
      constructor
      · intro h; omega
      · intro h
        rcases Nat.lt_or_ge k n with h' | h'
        · exact h'
        · obtain rfl : k = n := by omega
          exact absurd hk hp

/-- The function whose value in row x is P x. -/
def ofRow (P : Nat → Bool) : Fn := BitVec.ofNat 256 (rowNat P 256)

theorem ofRow_bit (P : Nat → Bool) (k : Nat) (hk : k < 256) : (ofRow P).getLsbD k = P k := by
  unfold ofRow
  rw [BitVec.getLsbD_ofNat, rowNat_bit]
  simp [hk]

/-- Variable v. -/
def varF (v : Nat) : Fn := ofRow (fun x => x.testBit v)

/-- Any number as a variable. -/
def varAny (v : Int) : Fn := if 0 ≤ v ∧ v < 8 then varF v.toNat else 0#256

/-- The words of the first six variables. -/
def lowV : Nat → Int
  | 0 => 12297829382473034410
  | 1 => 14757395258967641292
  | 2 => 17361641481138401520
  | 3 => 18374966859414961920
  | 4 => 18446462603027742720
  | _ => 18446744069414584320

theorem lowV_eq (v i : Nat) (hv : v < 6) (hi : i < 4) : lowV v = (wd (varF v) i : Nat) := by
  have H : ∀ v : Fin 6, ∀ i : Fin 4, lowV v = (wd (varF v) i : Nat) := by decide +kernel
  exact H ⟨v, hv⟩ ⟨i, hi⟩

theorem wd_var6 : wd (varF 6) 0 = 0 ∧ wd (varF 6) 1 = 18446744073709551615 ∧ wd (varF 6) 2 = 0 ∧ wd (varF 6) 3 = 18446744073709551615 := by decide +kernel
theorem wd_var7 : wd (varF 7) 0 = 0 ∧ wd (varF 7) 1 = 0 ∧ wd (varF 7) 2 = 18446744073709551615 ∧ wd (varF 7) 3 = 18446744073709551615 := by decide +kernel

theorem fn_ext {f g : Fn} (h : ∀ k, k < 256 → f.getLsbD k = g.getLsbD k) : f = g := BitVec.eq_of_getLsbD_eq fun k hk => h k hk

/-- What has been put when the rows below n have been. -/
def upTo (P : Nat → Bool) (n : Nat) : Fn := ofRow (fun x => decide (x < n) && P x)

theorem upTo_zero (P : Nat → Bool) : upTo P 0 = 0#256 := fn_ext fun k hk => by rw [upTo, ofRow_bit _ _ hk]; simp
theorem upTo_all (P : Nat → Bool) : upTo P 256 = ofRow P := fn_ext fun k hk => by rw [upTo, ofRow_bit _ _ hk, ofRow_bit _ _ hk]; simp [hk]

/-- f with b put in row k. -/
def putF (f : Fn) (k : Nat) (b : Bool) : Fn := if b then f ||| (1#256 <<< k) else f

theorem putF_bit (f : Fn) (k j : Nat) (b : Bool) (hj : j < 256) : (putF f k b).getLsbD j = (f.getLsbD j || (b && decide (j = k))) := by
  unfold putF
  cases b with
  | false => simp
  | true =>
    simp only [if_true, BitVec.getLsbD_or, BitVec.getLsbD_shiftLeft, BitVec.getLsbD_one, Bool.true_and]
    by_cases h : j = k
    · subst h; simp [hj]
    · have : ¬ (j - k = 0 ∧ k ≤ j) := by omega
      by_cases h2 : j < k
      · simp [h, h2]
      · have h3 : ¬ (j - k = 0) := by omega
        simp [h, h2, h3]

theorem upTo_put (P : Nat → Bool) (n : Nat) (b : Bool) (hb : b = P n) : putF (upTo P n) n b = upTo P (n + 1) := fn_ext fun k hk => by
  subst hb
  rw [putF_bit _ _ _ _ hk, upTo, upTo, ofRow_bit _ _ hk, ofRow_bit _ _ hk, Bool.eq_iff_iff]
  simp
  constructor
  · rintro (⟨h1, h2⟩ | ⟨h1, rfl⟩)
    · exact ⟨by omega, h2⟩
    · exact ⟨by omega, h1⟩
  · rintro ⟨h1, h2⟩
    rcases Nat.lt_or_ge k n with h | h
    · exact .inl ⟨h, h2⟩
    · obtain rfl : k = n := by omega
      exact .inr ⟨h2, rfl⟩

/-- One word of it. -/
theorem wd_put (f : Fn) (k i : Nat) (hi : i < 4) : wd (putF f k true) i = if i = k / 64 then wd f i ||| 2 ^ (k % 64) else wd f i := by
  have e : ∀ j, j < 64 → ((putF f k true).extractLsb' (64 * i) 64).getLsbD j = (if i = k / 64 then (f.extractLsb' (64 * i) 64) ||| (1#64 <<< (k % 64)) else f.extractLsb' (64 * i) 64).getLsbD j := by
    intro j hj
    rw [BitVec.getLsbD_extractLsb', putF_bit _ _ _ _ (by omega)]
    by_cases h : i = k / 64
    · rw [if_pos h, BitVec.getLsbD_or, BitVec.getLsbD_extractLsb', BitVec.getLsbD_shiftLeft, BitVec.getLsbD_one]
      simp only [hj, decide_true, Bool.true_and]
      congr 1
      rw [Bool.eq_iff_iff]
      simp
      omega
    · rw [if_neg h, BitVec.getLsbD_extractLsb']
      have : ¬ (64 * i + j = k) := by omega
      simp [hj, this]
  have e2 := BitVec.eq_of_getLsbD_eq e
  unfold wd
  rw [e2]
  by_cases h : i = k / 64
  · rw [if_pos h, if_pos h, BitVec.toNat_or, BitVec.toNat_shiftLeft, BitVec.toNat_one (by decide), Nat.shiftLeft_eq, Nat.one_mul, Nat.mod_eq_of_lt]
    exact Nat.pow_lt_pow_right (by decide) (Nat.mod_lt _ (by decide))
  · rw [if_neg h, if_neg h]

theorem put_same (f : Fn) (k q : Nat) (hq : k / 64 = q) (h4 : q < 4) : bits .or .u64 (wd f q) (IntKind.u64.wrap (2 ^ (k % 64))) = (wd (putF f k true) q : Nat) := by
  have hp : (2 : Nat) ^ (k % 64) < 18446744073709551616 := by
    have : (2 : Nat) ^ (k % 64) < 2 ^ 64 := Nat.pow_lt_pow_right (by decide) (Nat.mod_lt _ (by decide))
    simpa using this
  have e : IntKind.u64.wrap (2 ^ (k % 64)) = ((2 ^ (k % 64) : Nat) : Int) := by
    rw [IntKind.wrap_u64]
    have : ((2 : Int) ^ (k % 64)) = ((2 ^ (k % 64) : Nat) : Int) := by simp
    rw [this]
    clear this
    generalize (2 : Nat) ^ (k % 64) = y at hp
    omega
  rw [e, bits_or_u64_nat _ _ (wd_lt f q) hp, wd_put f k q h4, if_pos hq.symm]

theorem put_other (f : Fn) (k q i : Nat) (hq : k / 64 = q) (hi : i < 4) (hne : i ≠ q) : wd (putF f k true) i = wd f i := by
  rw [wd_put f k i hi, if_neg (by omega)]

theorem bit_div (k v : Nat) : ((k / 2 ^ v : Nat) % 2 == 1) = k.testBit v := by
  rw [Nat.testBit_eq_decide_div_mod_eq]; rfl

end Go.Proofs.YtgccgjeehggagaaDoor
