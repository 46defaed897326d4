/-
  Walk of the document's Ite.
-/
import Derived.Test.YtgccgjeehggagaaDoorRefC
namespace Go.Proofs.YtgccgjeehggagaaDoor
open Go Go.RowKit

/-- Row by row. -/

def iteRow (f g k : Fn) (x : Nat) : Bool := if f.getLsbD x then g.getLsbD x else k.getLsbD x

theorem iteRow_eq (f g k : Fn) : ofRow (iteRow f g k) = (f &&& g ||| ~~~f &&& k) := fn_ext fun x hx => by
  rw [ofRow_bit _ _ hx]
  simp [iteRow, hx]
  cases f[x] <;> simp

theorem atF_nat (f : Fn) (n : Nat) (h : n < 256) : atF f n = f.getLsbD n := by
  rw [atF, if_pos (by omega), Int.toNat_natCast]

/-- At the loop's head. -/

def Filling (w : World) (f g k o : Fn) (wr : World) : Prop :=
  Holds wr w.heap.size f ∧ Holds wr (w.heap.size + 1) g ∧ Holds wr (w.heap.size + 1 + 1) k ∧ Holds wr (w.heap.size + 1 + 1 + 1) 0#256 ∧ Holds wr (w.heap.size + 1 + 1 + 1 + 1) o ∧ Below w.heap.size w wr


end Go.Proofs.YtgccgjeehggagaaDoor
