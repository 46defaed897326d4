/-
  Walks of the document's Not, And, Or, Xor.
-/
import Derived.Test.YtgccgjeehggagaaDoorRefIte
namespace Go.Proofs.YtgccgjeehggagaaDoor
open Go Go.RowKit





theorem ofRow_const (b : Bool) : ofRow (fun _ => b) = if b then BitVec.allOnes 256 else 0#256 := fn_ext fun x hx => by
  rw [ofRow_bit _ _ hx]
  cases b with
  | false => rw [if_neg (by decide)]; exact (BitVec.getLsbD_zero).symm
  | true => rw [if_pos rfl, BitVec.getLsbD_allOnes]; exact (decide_eq_true hx).symm





end Go.Proofs.YtgccgjeehggagaaDoor
