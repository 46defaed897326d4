/-
  Plain mathematics of a function of eight variables as four words of 64 bits: nothing of the program is read here.
-/
import Derived.WalkKit
namespace Go.Proofs.YtgccgjeehggagaaDoor
open Go Go.RowKit

/-- A function of eight variables: bit x is its value in row x. -/
abbrev Fn := BitVec 256

/-- Word i of it. -/
def wd (f : Fn) (i : Nat) : Nat := (f.extractLsb' (64 * i) 64).toNat

theorem wd_lt (f : Fn) (i : Nat) : wd f i < 18446744073709551616 := (f.extractLsb' (64 * i) 64).isLt

/-- The value that the program holds. -/
def fv (f : Fn) : Value := .agg #[.int .u64 (wd f 0), .int .u64 (wd f 1), .int .u64 (wd f 2), .int .u64 (wd f 3)]

theorem wd_and (f g : Fn) (i : Nat) : bits .and .u64 (wd f i) (wd g i) = (wd (f &&& g) i : Nat) := by
  rw [bits_and_u64_nat _ _ (wd_lt f i) (wd_lt g i)]
  unfold wd
  rw [BitVec.extractLsb'_and, BitVec.toNat_and]

theorem wd_or (f g : Fn) (i : Nat) : bits .or .u64 (wd f i) (wd g i) = (wd (f ||| g) i : Nat) := by
  rw [bits_or_u64_nat _ _ (wd_lt f i) (wd_lt g i)]
  unfold wd
  rw [BitVec.extractLsb'_or, BitVec.toNat_or]

theorem bits_xor_u64_nat' (a b : Nat) (ha : a < 18446744073709551616) (hb : b < 18446744073709551616) :
    bits .xor .u64 (a : Int) (b : Int) = ((a ^^^ b : Nat) : Int) := by
  have hx : a ^^^ b < 2 ^ 64 := Nat.xor_lt_two_pow (by omega) (by omega)
  show IntKind.u64.wrap ((BitVec.ofInt 64 (a : Int) ^^^ BitVec.ofInt 64 (b : Int)).toNat : Int) = _
  rw [BitVec.toNat_xor, BitVec.ofInt_natCast, BitVec.ofInt_natCast, BitVec.toNat_ofNat, BitVec.toNat_ofNat, Nat.mod_eq_of_lt (by omega), Nat.mod_eq_of_lt (by omega), IntKind.wrap_u64]
  omega

theorem wd_xor (f g : Fn) (i : Nat) : bits .xor .u64 (wd f i) (wd g i) = (wd (f ^^^ g) i : Nat) := by
  rw [bits_xor_u64_nat' _ _ (wd_lt f i) (wd_lt g i)]
  unfold wd
  rw [BitVec.extractLsb'_xor, BitVec.toNat_xor]

theorem wd_not (f : Fn) (i : Nat) (hi : i < 4 := by decide) : bits .xor .u64 IntKind.u64.max (wd f i) = (wd (~~~f) i : Nat) := by
  have e : IntKind.u64.max = ((18446744073709551615 : Nat) : Int) := by decide
  rw [e, bits_xor_u64_nat' _ _ (by decide) (wd_lt f i)]
  unfold wd
  rw [show (18446744073709551615 : Nat) = (BitVec.allOnes 64).toNat by decide, ← BitVec.toNat_xor]
  congr 2
  ext k hk
  simp only [BitVec.getElem_xor, BitVec.getElem_allOnes, BitVec.getElem_extractLsb', BitVec.getLsbD_not]
  have : 64 * i + k < 256 := by omega
  simp [this]

/-- The value in row x; false, where there is no such row. -/
def atF (f : Fn) (x : Int) : Bool := if 0 ≤ x ∧ x < 256 then f.getLsbD x.toNat else false

theorem wd_bit (f : Fn) (k : Nat) : f.getLsbD k = decide (wd f (k / 64) / 2 ^ (k % 64) % 2 = 1) := by
  have h1 : (f.extractLsb' (64 * (k / 64)) 64).getLsbD (k % 64) = f.getLsbD k := by
    rw [BitVec.getLsbD_extractLsb']
    have : 64 * (k / 64) + k % 64 = k := by omega
    simp [this, Nat.mod_lt]
  rw [← h1]
  unfold wd
  rw [BitVec.getLsbD, Nat.testBit_eq_decide_div_mod_eq]

theorem atF_and (f : Fn) (k : Nat) (hk : k < 256) : (bits .and .u64 ((wd f (k / 64) : Int) / 2 ^ (k % 64)) 1 == 1) = atF f k := by
  have e : ((wd f (k / 64) : Int) / 2 ^ (k % 64)) = ((wd f (k / 64) / 2 ^ (k % 64) : Nat) : Int) := by simp
  have hlt : wd f (k / 64) / 2 ^ (k % 64) < 18446744073709551616 := Nat.lt_of_le_of_lt (Nat.div_le_self _ _) (wd_lt f _)
  rw [e, show (1 : Int) = ((1 : Nat) : Int) from rfl, bits_and_u64_nat _ _ hlt (by decide), Nat.and_one_is_mod]
  unfold atF
  rw [if_pos (by omega), Int.toNat_natCast, wd_bit]
  generalize wd f (k / 64) / 2 ^ (k % 64) % 2 = r
  rw [Bool.eq_iff_iff]
  simp
  omega

theorem atF_rem (f : Fn) (k : Nat) (hk : k < 256) : ((wd f (k / 64) : Int) / 2 ^ (k % 64) % 2 == 1) = atF f k := by
  have e : ((wd f (k / 64) : Int) / 2 ^ (k % 64) % 2) = ((wd f (k / 64) / 2 ^ (k % 64) % 2 : Nat) : Int) := by simp
  rw [e]
  unfold atF
  rw [if_pos (by omega), Int.toNat_natCast, wd_bit]
  generalize wd f (k / 64) / 2 ^ (k % 64) % 2 = r
  rw [Bool.eq_iff_iff]
  simp
  omega

theorem atF_tmod (f : Fn) (k : Nat) (hk : k < 256) : (((wd f (k / 64) : Int) / 2 ^ (k % 64)).tmod 2 == 1) = atF f k := by
  rw [Int.tmod_eq_emod_of_nonneg (Int.ediv_nonneg (Int.natCast_nonneg _) (Int.pow_nonneg (by decide)))]
  exact atF_rem f k hk

theorem ret_bool {a b : Bool} (h : a = b) : Ending.returned (.bool a) = .returned (.bool b) := by rw [h]

theorem atF_out (f : Fn) (x : Int) (h : ¬ (0 ≤ x ∧ x < 256)) : atF f x = false := if_neg h

end Go.Proofs.YtgccgjeehggagaaDoor
