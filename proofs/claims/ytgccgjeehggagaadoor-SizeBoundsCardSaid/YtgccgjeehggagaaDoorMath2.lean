/-
  Plain mathematics of layer 2: a variable set, on which a function depends, in how many rows it is true.
-/
import Derived.Test.YtgccgjeehggagaaDoorMathVar
namespace Go.Proofs.YtgccgjeehggagaaDoor
open Go Go.RowKit

/-- Row x with variable m set to b. -/
def rowF (x m : Nat) (b : Bool) : Nat := (if x / 2 ^ m % 2 = 1 then x - 2 ^ m else x) + (if b then 2 ^ m else 0)

theorem pow8 {m : Nat} (h : m < 8) : 2 ^ m = 1 ∨ 2 ^ m = 2 ∨ 2 ^ m = 4 ∨ 2 ^ m = 8 ∨ 2 ^ m = 16 ∨ 2 ^ m = 32 ∨ 2 ^ m = 64 ∨ 2 ^ m = 128 := by
  rcases (by omega : m = 0 ∨ m = 1 ∨ m = 2 ∨ m = 3 ∨ m = 4 ∨ m = 5 ∨ m = 6 ∨ m = 7) with rfl | rfl | rfl | rfl | rfl | rfl | rfl | rfl <;> decide

theorem rowF_lt (x m : Nat) (b : Bool) (hx : x < 256) (hm : m < 8) : rowF x m b < 256 := by
  unfold rowF
  rcases pow8 hm with h | h | h | h | h | h | h | h <;> rw [h] <;> cases b <;> simp <;> split <;> omega

/-- The function with variable m set to b. -/
def cofF (f : Fn) (m : Nat) (b : Bool) : Fn := ofRow fun x => f.getLsbD (rowF x m b)

/-- The same for any number. -/
def cofAny (f : Fn) (v : Int) (b : Bool) : Fn := if 0 ≤ v ∧ v < 8 then cofF f v.toNat b else f

theorem cofF_bit (f : Fn) (m : Nat) (b : Bool) (k : Nat) (hk : k < 256) : (cofF f m b).getLsbD k = f.getLsbD (rowF k m b) := ofRow_bit _ _ hk

/-- Does row x show that f depends on variable m? -/
def shows (f : Fn) (m x : Nat) : Bool := decide (x / 2 ^ m % 2 = 0) && (f.getLsbD x != f.getLsbD (x + 2 ^ m))

/-- Does f depend on variable m? -/
def depF (f : Fn) (m : Nat) : Bool := (List.range 256).any (shows f m)

/-- The same for any number. -/
def depAny (f : Fn) (v : Int) : Bool := if 0 ≤ v ∧ v < 8 then depF f v.toNat else false

theorem depF_true {f : Fn} {m x : Nat} (hx : x < 256) (h : shows f m x = true) : depF f m = true := List.any_eq_true.2 ⟨x, List.mem_range.2 hx, h⟩
theorem depF_false {f : Fn} {m : Nat} (h : ∀ x, x < 256 → shows f m x = false) : depF f m = false := by
  rw [depF, List.any_eq_false]
  intro x hx
  rw [h x (List.mem_range.1 hx)]
  decide

/-- 2 to the power of all variables from j on, from which f depends, as the sum of 2 ^ (v - j). -/
def supFrom (f : Fn) : Nat → Nat → Nat
  | 0, _ => 0
  | n + 1, j => 2 * supFrom f n (j + 1) + (if depF f j then 1 else 0)

/-- The support. -/
def supF (f : Fn) : Nat := supFrom f 8 0

theorem supFrom_lt (f : Fn) (n : Nat) : ∀ j, supFrom f n j < 2 ^ n := by
  induction n with
  | zero => intro j; simp [supFrom]
  | succ n ih => intro j; have := ih (j + 1); simp only [supFrom]; rw [Nat.pow_succ]; split <;> omega

/-- In how many rows below n f is true. -/
def cntF (f : Fn) : Nat → Nat
  | 0 => 0
  | n + 1 => cntF f n + (if f.getLsbD n then 1 else 0)

theorem cntF_le (f : Fn) (n : Nat) : cntF f n ≤ n := by
  induction n with
  | zero => simp [cntF]
  | succ n ih => simp only [cntF]; split <;> omega

end Go.Proofs.YtgccgjeehggagaaDoor
