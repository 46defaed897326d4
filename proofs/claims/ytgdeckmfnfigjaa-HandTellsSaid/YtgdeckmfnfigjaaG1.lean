/-
  Texts of this proof, one behind the other: HandM.
-/
import Derived.WalkKit
import Derived.Laws.Bits64
import Derived.Laws.Bits64b
/-
  A handle's number: plain mathematics.
-/
namespace Go.Proofs.Ytgdeckmfnfigjaa
open Go Go.RowKit

/-- There is such a handle. -/
def mayH (t s g : Int) : Prop := 1 ≤ t ∧ t ≤ 8 ∧ 0 ≤ s ∧ s ≤ 15 ∧ 0 ≤ g ∧ g ≤ 15

instance (t s g : Int) : Decidable (mayH t s g) := by unfold mayH; exact inferInstance

/-- Its number; 0: there is none. -/
def packN (t s g : Int) : Nat := if mayH t s g then 72057594037927936 * t.toNat + 281474976710656 * s.toNat + g.toNat else 0

/-- A number's parts. -/
def unT (h : Nat) : Nat := h / 72057594037927936
def unS (h : Nat) : Nat := h / 281474976710656 % 256
def unG (h : Nat) : Nat := h % 256

/-- Some handle's number. -/
def isH (h : Nat) : Prop := h ≠ 0 ∧ packN (unT h : Nat) (unS h : Nat) (unG h : Nat) = h

instance (h : Nat) : Decidable (isH h) := by unfold isH; exact inferInstance

/-- What a number is unpacked to. -/
def upT (h : Nat) : Int := if isH h then (unT h : Nat) else 0
def upS (h : Nat) : Int := if isH h then (unS h : Nat) else 0
def upG (h : Nat) : Int := if isH h then (unG h : Nat) else 0
def upB (h : Nat) : Bool := decide (isH h)

theorem packN_no {t s g : Int} (h : ¬ mayH t s g) : packN t s g = 0 := if_neg h

theorem packN_yes {t s g : Nat} (h : mayH t s g) : packN t s g = 72057594037927936 * t + 281474976710656 * s + g := by
  unfold packN
  rw [if_pos h]
  simp

theorem mayH.nat {t s g : Int} (h : mayH t s g) : ∃ a b c : Nat, t = a ∧ s = b ∧ g = c ∧ 1 ≤ a ∧ a ≤ 8 ∧ b ≤ 15 ∧ c ≤ 15 := by
  unfold mayH at h
  exact ⟨t.toNat, s.toNat, g.toNat, by omega, by omega, by omega, by omega, by omega, by omega, by omega⟩

theorem packN_lt (t s g : Int) : packN t s g < 18446744073709551616 := by
  by_cases h : mayH t s g
  · obtain ⟨a, b, c, rfl, rfl, rfl, h1, h2, h3, h4⟩ := h.nat
    rw [packN_yes h]
    omega
  · rw [packN_no h]; decide

theorem packN_ne {t s g : Int} (h : mayH t s g) : packN t s g ≠ 0 := by
  obtain ⟨a, b, c, rfl, rfl, rfl, h1, h2, h3, h4⟩ := h.nat
  rw [packN_yes h]
  omega

/-- What is packed is unpacked. -/
theorem packN_un {t s g : Int} (h : mayH t s g) : isH (packN t s g) ∧ (unT (packN t s g) : Int) = t ∧ (unS (packN t s g) : Int) = s ∧ (unG (packN t s g) : Int) = g := by
  have h0 := packN_ne h
  obtain ⟨a, b, c, rfl, rfl, rfl, h1, h2, h3, h4⟩ := h.nat
  have e := packN_yes h
  have e1 : unT (packN a b c) = a := by unfold unT; rw [e]; omega
  have e2 : unS (packN a b c) = b := by unfold unS; rw [e]; omega
  have e3 : unG (packN a b c) = c := by unfold unG; rw [e]; omega
  exact ⟨⟨h0, by rw [e1, e2, e3]⟩, by rw [e1], by rw [e2], by rw [e3]⟩

theorem up_yes {t s g : Int} (h : mayH t s g) : upT (packN t s g) = t ∧ upS (packN t s g) = s ∧ upG (packN t s g) = g ∧ upB (packN t s g) = true := by
  obtain ⟨e0, e1, e2, e3⟩ := packN_un h
  unfold upT upS upG upB
  rw [if_pos e0, if_pos e0, if_pos e0]
  exact ⟨e1, e2, e3, decide_eq_true e0⟩

theorem isH_zero : ¬ isH 0 := fun h => h.1 rfl

theorem up_no {t s g : Int} (h : ¬ mayH t s g) : upT (packN t s g) = 0 ∧ upS (packN t s g) = 0 ∧ upG (packN t s g) = 0 ∧ upB (packN t s g) = false := by
  rw [packN_no h]
  unfold upT upS upG upB
  rw [if_neg isH_zero, if_neg isH_zero, if_neg isH_zero]
  exact ⟨rfl, rfl, rfl, decide_eq_false isH_zero⟩

theorem up_is {h : Nat} (hi : isH h) : upT h = (unT h : Nat) ∧ upS h = (unS h : Nat) ∧ upG h = (unG h : Nat) ∧ upB h = true :=
  ⟨if_pos hi, if_pos hi, if_pos hi, decide_eq_true hi⟩

theorem up_isnt {h : Nat} (hi : ¬ isH h) : upT h = 0 ∧ upS h = 0 ∧ upG h = 0 ∧ upB h = false :=
  ⟨if_neg hi, if_neg hi, if_neg hi, decide_eq_false hi⟩

/-- What is unpacked is packed. -/
theorem pack_up {h : Nat} (hb : upB h = true) : packN (upT h) (upS h) (upG h) = h := by
  have hi : isH h := of_decide_eq_true hb
  unfold upT upS upG
  rw [if_pos hi, if_pos hi, if_pos hi]
  exact hi.2

/-- Unlike ones have unlike numbers. -/
theorem packN_inj {t s g o m : Int} (h : mayH t s g) (h' : mayH t o m) (e : packN t s g = packN t o m) : s = o ∧ g = m := by
  have a := packN_un h
  have b := packN_un h'
  rw [e] at a
  exact ⟨a.2.2.1.symm.trans b.2.2.1, a.2.2.2.symm.trans b.2.2.2⟩

/-- The three laid side by side. -/
theorem laid_or (a b c : Nat) (hb : b < 256) (hc : c < 281474976710656) : 72057594037927936 * a ||| 281474976710656 * b ||| c = 72057594037927936 * a + 281474976710656 * b + c := by
  have e1 : 72057594037927936 * a ||| 281474976710656 * b = 72057594037927936 * a + 281474976710656 * b := (Nat.two_pow_add_eq_or_of_lt (i := 56) (b := 281474976710656 * b) (by omega) a).symm
  rw [e1, show 72057594037927936 * a + 281474976710656 * b = 281474976710656 * (256 * a + b) by omega]
  exact (Nat.two_pow_add_eq_or_of_lt (i := 48) (b := c) (by omega) (256 * a + b)).symm

theorem and_255 (x : Nat) : x &&& 255 = x % 256 := Nat.and_two_pow_sub_one_eq_mod x 8

/-- A bit turned makes another number, that is still one of 64 bits. -/
theorem turn_bit (n k : Nat) (hn : n < 18446744073709551616) (hk : k < 64) : n ^^^ 2 ^ k ≠ n ∧ n ^^^ 2 ^ k < 18446744073709551616 := by
  have hp : 2 ^ k < 2 ^ 64 := Nat.pow_lt_pow_right (by decide) hk
  refine ⟨fun h => ?_, Nat.xor_lt_two_pow (n := 64) hn hp⟩
  have h1 : n ^^^ (n ^^^ 2 ^ k) = n ^^^ n := by rw [h]
  rw [← Nat.xor_assoc, Nat.xor_self, Nat.zero_xor] at h1
  have := Nat.two_pow_pos k
  omega

set_option maxRecDepth 100000 in
theorem xor_bit (n j : Nat) (hn : n < 18446744073709551616) (hj : j < 64) : bits BinOp.xor IntKind.u64 (n : Int) (IntKind.u64.wrap (2 ^ j)) = ((n ^^^ 2 ^ j : Nat) : Int) := by
  have hp : 2 ^ j < 2 ^ 64 := Nat.pow_lt_pow_right (by decide) hj
  have e : IntKind.u64.wrap (2 ^ j) = ((2 ^ j : Nat) : Int) := by
    rw [show ((2 : Int) ^ j) = ((2 ^ j : Nat) : Int) by push_cast; rfl, IntKind.wrap_u64]
    generalize 2 ^ j = y at *
    omega
  rw [e, bits_xor_u64_nat _ _ hn hp]

end Go.Proofs.Ytgdeckmfnfigjaa
