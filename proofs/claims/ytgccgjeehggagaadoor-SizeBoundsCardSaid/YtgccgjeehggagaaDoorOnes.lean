/-
  Walk of math/bits.OnesCount64: how many bits of a word are set.
-/
import Derived.Test.YtgccgjeehggagaaDoorMath2b
namespace Go.Proofs.YtgccgjeehggagaaDoor
open Go Go.RowKit

/-- How many of the bits below k are set. -/
def bitSum (x : Nat) : Nat → Nat
  | 0 => 0
  | k + 1 => bitSum x k + x / 2 ^ k % 2

theorem bitSum_le (x k : Nat) : bitSum x k ≤ k := by
  induction k with
  | zero => simp [bitSum]
  | succ k ih => simp only [bitSum]; omega

theorem bitSum_byte (x k : Nat) : bitSum x (8 + k) = bitSum (x % 256) 8 + bitSum (x / 256) k := by
  induction k with
  | zero =>
    simp only [bitSum]
    omega
  | succ k ih =>
    have e : x / 2 ^ (8 + k) = x / 256 / 2 ^ k := by rw [Nat.pow_add, ← Nat.div_div_eq_div_mul]
    rw [← Nat.add_assoc, show bitSum x (8 + k + 1) = bitSum x (8 + k) + x / 2 ^ (8 + k) % 2 from rfl, ih, e, Nat.add_assoc]
    rfl

theorem and_byte (a b c d : Nat) (hb : b < 256) (hd : d < 256) : (256 * a + b) &&& (256 * c + d) = 256 * (a &&& c) + (b &&& d) := by
  have hbd : b &&& d < 256 := Nat.and_lt_two_pow b (n := 8) hd
  have e : ∀ x y : Nat, y < 256 → ∀ i, (256 * x + y).testBit i = if i < 8 then y.testBit i else x.testBit (i - 8) := fun x y hy i => Nat.testBit_two_pow_mul_add (i := 8) x hy i
  refine Nat.eq_of_testBit_eq fun i => ?_
  rw [Nat.testBit_and, e a b hb, e c d hd, e _ _ hbd]
  split
  · rw [Nat.testBit_and]
  · rw [Nat.testBit_and]

/-- A byte repeated n times. -/
def rep (m : Nat) : Nat → Nat
  | 0 => 0
  | n + 1 => 256 * rep m n + m

/-- The three steps, on n bytes. -/
def st1 (n x : Nat) : Nat := (x / 2 &&& rep 85 n) + (x &&& rep 85 n)
def st2 (n x : Nat) : Nat := (x / 4 &&& rep 51 n) + (x &&& rep 51 n)
def st3 (n x : Nat) : Nat := (x / 16 + x) &&& rep 15 n

/-- The same, of a byte. -/
def by1 (b : Nat) : Nat := (b / 2 &&& 85) + (b &&& 85)
def by2 (b : Nat) : Nat := (b / 4 &&& 51) + (b &&& 51)

theorem st1_step (n A B : Nat) (hB : B < 256) : st1 (n + 1) (256 * A + B) = 256 * st1 n A + by1 B := by
  have H : ∀ r : Fin 2, ∀ b : Fin 256, (128 * (r : Nat) + b / 2) &&& 85 = (b : Nat) / 2 &&& 85 := by decide +kernel
  have h : (128 * (A % 2) + B / 2) &&& 85 = B / 2 &&& 85 := H ⟨A % 2, by omega⟩ ⟨B, hB⟩
  have e : (256 * A + B) / 2 = 256 * (A / 2) + (128 * (A % 2) + B / 2) := by omega
  unfold st1 by1
  rw [rep, e, and_byte _ _ _ _ (by omega) (by decide), and_byte _ _ _ _ hB (by decide), h]
  omega

theorem st2_step (n A B : Nat) (hB : B < 256) : st2 (n + 1) (256 * A + B) = 256 * st2 n A + by2 B := by
  have H : ∀ r : Fin 4, ∀ b : Fin 256, (64 * (r : Nat) + b / 4) &&& 51 = (b : Nat) / 4 &&& 51 := by decide +kernel
  have h : (64 * (A % 4) + B / 4) &&& 51 = B / 4 &&& 51 := H ⟨A % 4, by omega⟩ ⟨B, hB⟩
  have e : (256 * A + B) / 4 = 256 * (A / 4) + (64 * (A % 4) + B / 4) := by omega
  unfold st2 by2
  rw [rep, e, and_byte _ _ _ _ (by omega) (by decide), and_byte _ _ _ _ hB (by decide), h]
  omega

theorem st3_step (n A B : Nat) (hB : B ≤ 68) (hA : A % 16 ≤ 4) : st3 (n + 1) (256 * A + B) = 256 * st3 n A + (B / 16 + B) % 16 := by
  have H : ∀ r : Fin 5, ∀ b : Fin 69, (16 * (r : Nat) + b / 16 + b) &&& 15 = ((b : Nat) / 16 + b) % 16 := by decide +kernel
  have h : (16 * (A % 16) + B / 16 + B) &&& 15 = (B / 16 + B) % 16 := H ⟨A % 16, by omega⟩ ⟨B, by omega⟩
  have e : (256 * A + B) / 16 + (256 * A + B) = 256 * (A / 16 + A) + (16 * (A % 16) + B / 16 + B) := by omega
  unfold st3
  rw [rep, e, and_byte _ _ _ _ (by omega) (by decide), h]

theorem by_all (b : Nat) (hb : b < 256) : by1 b < 256 ∧ by2 (by1 b) ≤ 68 ∧ by2 (by1 b) % 16 ≤ 4 ∧ (by2 (by1 b) / 16 + by2 (by1 b)) % 16 = bitSum b 8 := by
  have H : ∀ b : Fin 256, by1 b < 256 ∧ by2 (by1 b) ≤ 68 ∧ by2 (by1 b) % 16 ≤ 4 ∧ (by2 (by1 b) / 16 + by2 (by1 b)) % 16 = bitSum b 8 := by decide +kernel
  exact H ⟨b, hb⟩

theorem st_low (n x : Nat) : st2 n (st1 n x) % 16 ≤ 4 := by
  cases n with
  | zero => simp [st2, st1, rep]
  | succ n =>
    obtain ⟨h1, _, h3, _⟩ := by_all (x % 256) (by omega)
    have e : st1 (n + 1) x = 256 * st1 n (x / 256) + by1 (x % 256) := by
      have := st1_step n (x / 256) (x % 256) (by omega)
      rwa [show 256 * (x / 256) + x % 256 = x by omega] at this
    rw [e, st2_step _ _ _ h1]
    omega

theorem st_all (n x : Nat) : st3 (n + 1) (st2 (n + 1) (st1 (n + 1) x)) = 256 * st3 n (st2 n (st1 n (x / 256))) + bitSum (x % 256) 8 := by
  obtain ⟨h1, h2, _, h4⟩ := by_all (x % 256) (by omega)
  have e : st1 (n + 1) x = 256 * st1 n (x / 256) + by1 (x % 256) := by
    have := st1_step n (x / 256) (x % 256) (by omega)
    rwa [show 256 * (x / 256) + x % 256 = x by omega] at this
  rw [e, st2_step _ _ _ h1, st3_step _ _ _ h2 (st_low n _), h4]

theorem rep_85 : rep 85 8 = 6148914691236517205 := by decide
theorem rep_51 : rep 51 8 = 3689348814741910323 := by decide
theorem rep_15 : rep 15 8 = 1085102592571150095 := by decide

theorem ones_one (x : Nat) (hx : x < 18446744073709551616) : IntKind.u64.wrap (bits BinOp.and IntKind.u64 ((x : Int) / 2) 6148914691236517205 + bits BinOp.and IntKind.u64 (x : Int) 6148914691236517205) = (st1 8 x : Nat) := by
  rw [show (x : Int) / 2 = ((x / 2 : Nat) : Int) by omega, show (6148914691236517205 : Int) = ((rep 85 8 : Nat) : Int) by rw [rep_85]; rfl,
    bits_and_u64_nat _ _ (by omega) (by rw [rep_85]; omega), bits_and_u64_nat _ _ hx (by rw [rep_85]; omega), IntKind.wrap_u64]
  have h1 : x / 2 &&& rep 85 8 ≤ 6148914691236517205 := by rw [← rep_85]; exact Nat.and_le_right
  have h2 : x &&& rep 85 8 ≤ 6148914691236517205 := by rw [← rep_85]; exact Nat.and_le_right
  unfold st1
  omega

theorem ones_two (x : Nat) (hx : x < 18446744073709551616) : IntKind.u64.wrap (bits BinOp.and IntKind.u64 ((x : Int) / 4) 3689348814741910323 + bits BinOp.and IntKind.u64 (x : Int) 3689348814741910323) = (st2 8 x : Nat) := by
  rw [show (x : Int) / 4 = ((x / 4 : Nat) : Int) by omega, show (3689348814741910323 : Int) = ((rep 51 8 : Nat) : Int) by rw [rep_51]; rfl,
    bits_and_u64_nat _ _ (by omega) (by rw [rep_51]; omega), bits_and_u64_nat _ _ hx (by rw [rep_51]; omega), IntKind.wrap_u64]
  have h1 : x / 4 &&& rep 51 8 ≤ 3689348814741910323 := by rw [← rep_51]; exact Nat.and_le_right
  have h2 : x &&& rep 51 8 ≤ 3689348814741910323 := by rw [← rep_51]; exact Nat.and_le_right
  unfold st2
  omega

theorem ones_three (x : Nat) (hx : x ≤ 7378697629483820646) : bits BinOp.and IntKind.u64 (IntKind.u64.wrap ((x : Int) / 16 + x)) 1085102592571150095 = (st3 8 x : Nat) := by
  rw [show IntKind.u64.wrap ((x : Int) / 16 + x) = ((x / 16 + x : Nat) : Int) by rw [IntKind.wrap_u64]; omega, show (1085102592571150095 : Int) = ((rep 15 8 : Nat) : Int) by rw [rep_15]; rfl,
    bits_and_u64_nat _ _ (by omega) (by rw [rep_15]; omega)]
  rfl

theorem st1_lt (x : Nat) : st1 8 x < 18446744073709551616 := by
  have h1 : x / 2 &&& rep 85 8 ≤ 6148914691236517205 := by rw [← rep_85]; exact Nat.and_le_right
  have h2 : x &&& rep 85 8 ≤ 6148914691236517205 := by rw [← rep_85]; exact Nat.and_le_right
  unfold st1
  omega

theorem st2_le (x : Nat) : st2 8 x ≤ 7378697629483820646 := by
  have h1 : x / 4 &&& rep 51 8 ≤ 3689348814741910323 := by rw [← rep_51]; exact Nat.and_le_right
  have h2 : x &&& rep 51 8 ≤ 3689348814741910323 := by rw [← rep_51]; exact Nat.and_le_right
  unfold st2
  omega

/-- The sum of eight bytes, none above 8. -/
theorem ones_last (z q1 q2 q3 q4 q5 q6 p0 p1 p2 p3 p4 p5 p6 p7 : Nat) (h0 : p0 ≤ 8) (h1 : p1 ≤ 8) (h2 : p2 ≤ 8) (h3 : p3 ≤ 8) (h4 : p4 ≤ 8) (h5 : p5 ≤ 8) (h6 : p6 ≤ 8) (h7 : p7 ≤ 8)
    (k6 : q6 = 256 * p7 + p6) (k5 : q5 = 256 * q6 + p5) (k4 : q4 = 256 * q5 + p4) (k3 : q3 = 256 * q4 + p3) (k2 : q2 = 256 * q3 + p2) (k1 : q1 = 256 * q2 + p1) (k0 : z = 256 * q1 + p0) :
    z + z / 256 = z + q1 ∧ z + q1 + (z + q1) / 65536 = z + q1 + (q2 + q3) ∧ z + q1 + (q2 + q3) + (z + q1 + (q2 + q3)) / 4294967296 = z + q1 + (q2 + q3) + (q4 + q5 + q6 + p7) ∧
      z + q1 + (q2 + q3) + (q4 + q5 + q6 + p7) < 9223372036854775808 ∧ (z + q1 + (q2 + q3) + (q4 + q5 + q6 + p7)) % 128 = p0 + p1 + p2 + p3 + p4 + p5 + p6 + p7 := by
  have b7 : q6 ≤ 2056 := by omega
  have b5 : q5 ≤ 526344 := by omega
  have b4 : q4 ≤ 134744072 := by omega
  have b3 : q3 ≤ 34494482440 := by omega
  have b2 : q2 ≤ 8830587504648 := by omega
  have b1 : q1 ≤ 2260630401189896 := by omega
  have b0 : z ≤ 578721382704613384 := by omega
  refine ⟨by omega, ?_, ?_, by omega, ?_⟩
  · have a1 : z = 65536 * q2 + (256 * p1 + p0) := by omega
    have a2 : q1 = 65536 * q3 + (256 * p2 + p1) := by omega
    clear k6 k5 k4 k3 k2 k1 k0
    omega
  · have a1 : z = 4294967296 * q4 + (16777216 * p3 + 65536 * p2 + 256 * p1 + p0) := by omega
    have a2 : q1 = 4294967296 * q5 + (16777216 * p4 + 65536 * p3 + 256 * p2 + p1) := by omega
    have a3 : q2 = 4294967296 * q6 + (16777216 * p5 + 65536 * p4 + 256 * p3 + p2) := by omega
    have a4 : q3 = 4294967296 * p7 + (16777216 * p6 + 65536 * p5 + 256 * p4 + p3) := by omega
    clear k6 k5 k4 k3 k2 k1 k0 b0 b1 b2 b3 b4 b5 b7
    omega
  · clear b0 b1 b2 b3 b4 b5 b7
    omega

theorem bits_and_127 (x : Nat) (hx : x < 9223372036854775808) : bits BinOp.and IntKind.i64 (wrap64 (x : Int)) 127 = ((x % 128 : Nat) : Int) := by
  have h1 : wrap64 (x : Int) = (x : Int) := by rw [wrap64]; omega
  have h2 : (BitVec.ofInt 64 (x : Int)).toNat = x := by rw [BitVec.ofInt_natCast, BitVec.toNat_ofNat]; exact Nat.mod_eq_of_lt (by omega)
  have h3 : (BitVec.ofInt 64 (127 : Int)).toNat = 127 := by decide
  rw [h1]
  show IntKind.i64.wrap ((BitVec.ofInt 64 (x : Int) &&& BitVec.ofInt 64 (127 : Int)).toNat : Int) = _
  rw [BitVec.toNat_and, h2, h3, show (127 : Nat) = 2 ^ 7 - 1 by decide, Nat.and_two_pow_sub_one_eq_mod, IntKind.wrap_i64]
  omega

theorem bitSum_64 (x : Nat) : bitSum x 64 = bitSum (x % 256) 8 + (bitSum (x / 256 % 256) 8 + (bitSum (x / 256 / 256 % 256) 8 + (bitSum (x / 256 / 256 / 256 % 256) 8 + (bitSum (x / 256 / 256 / 256 / 256 % 256) 8 + (bitSum (x / 256 / 256 / 256 / 256 / 256 % 256) 8 + (bitSum (x / 256 / 256 / 256 / 256 / 256 / 256 % 256) 8 + bitSum (x / 256 / 256 / 256 / 256 / 256 / 256 / 256 % 256) 8)))))) := by
  rw [bitSum_byte x 56, bitSum_byte (x / 256) 48, bitSum_byte (x / 256 / 256) 40, bitSum_byte (x / 256 / 256 / 256) 32, bitSum_byte (x / 256 / 256 / 256 / 256) 24, bitSum_byte (x / 256 / 256 / 256 / 256 / 256) 16, bitSum_byte (x / 256 / 256 / 256 / 256 / 256 / 256) 8, bitSum_byte (x / 256 / 256 / 256 / 256 / 256 / 256 / 256) 0]
  rfl

/-- All of it. -/
theorem ones_end (x : Nat) : ∃ z1 z2 z3 : Nat, IntKind.u64.wrap ((st3 8 (st2 8 (st1 8 x)) : Int) + (st3 8 (st2 8 (st1 8 x)) : Int) / 256) = (z1 : Int) ∧ IntKind.u64.wrap ((z1 : Int) + (z1 : Int) / 65536) = (z2 : Int) ∧
    IntKind.u64.wrap ((z2 : Int) + (z2 : Int) / 4294967296) = (z3 : Int) ∧ z3 < 9223372036854775808 ∧ z3 % 128 = bitSum x 64 := by
  have hz := st_all 7 x
  rw [st_all 6, st_all 5, st_all 4, st_all 3, st_all 2, st_all 1, st_all 0, show ∀ y, st3 0 y = 0 from fun y => Nat.and_zero _] at hz
  rw [bitSum_64]
  have l0 := bitSum_le (x % 256) 8
  have l1 := bitSum_le (x / 256 % 256) 8
  have l2 := bitSum_le (x / 256 / 256 % 256) 8
  have l3 := bitSum_le (x / 256 / 256 / 256 % 256) 8
  have l4 := bitSum_le (x / 256 / 256 / 256 / 256 % 256) 8
  have l5 := bitSum_le (x / 256 / 256 / 256 / 256 / 256 % 256) 8
  have l6 := bitSum_le (x / 256 / 256 / 256 / 256 / 256 / 256 % 256) 8
  have l7 := bitSum_le (x / 256 / 256 / 256 / 256 / 256 / 256 / 256 % 256) 8
  generalize bitSum (x % 256) 8 = p0 at *
  generalize bitSum (x / 256 % 256) 8 = p1 at *
  generalize bitSum (x / 256 / 256 % 256) 8 = p2 at *
  generalize bitSum (x / 256 / 256 / 256 % 256) 8 = p3 at *
  generalize bitSum (x / 256 / 256 / 256 / 256 % 256) 8 = p4 at *
  generalize bitSum (x / 256 / 256 / 256 / 256 / 256 % 256) 8 = p5 at *
  generalize bitSum (x / 256 / 256 / 256 / 256 / 256 / 256 % 256) 8 = p6 at *
  generalize bitSum (x / 256 / 256 / 256 / 256 / 256 / 256 / 256 % 256) 8 = p7 at *
  generalize st3 (7 + 1) (st2 (7 + 1) (st1 (7 + 1) x)) = z at *
  rw [show 256 * 0 + p7 = p7 by omega] at hz
  generalize k6 : 256 * p7 + p6 = q6 at hz
  generalize k5 : 256 * q6 + p5 = q5 at hz
  generalize k4 : 256 * q5 + p4 = q4 at hz
  generalize k3 : 256 * q4 + p3 = q3 at hz
  generalize k2 : 256 * q3 + p2 = q2 at hz
  generalize k1 : 256 * q2 + p1 = q1 at hz
  obtain ⟨e1, e2, e3, e4, e5⟩ := ones_last z q1 q2 q3 q4 q5 q6 p0 p1 p2 p3 p4 p5 p6 p7 l0 l1 l2 l3 l4 l5 l6 l7 k6.symm k5.symm k4.symm k3.symm k2.symm k1.symm hz
  clear k6 k5 k4 k3 k2 k1 hz l0 l1 l2 l3 l4 l5 l6 l7
  refine ⟨z + q1, z + q1 + (q2 + q3), z + q1 + (q2 + q3) + (q4 + q5 + q6 + p7), ?_, ?_, ?_, e4, by rw [e5]; omega⟩
  · clear e2 e3 e5
    rw [IntKind.wrap_u64]
    omega
  · clear e1 e3 e5
    rw [IntKind.wrap_u64]
    omega
  · clear e1 e2 e5
    rw [IntKind.wrap_u64]
    omega


end Go.Proofs.YtgccgjeehggagaaDoor
