/-
  Walks of the document's Const, Var, Ite.
-/
import Derived.Test.YtgccgjeehggagaaDoorRef
namespace Go.Proofs.YtgccgjeehggagaaDoor
open Go Go.RowKit

theorem ret_holds {fn : Func} {p : Tmp} {tmps : Array Value} {w : World} {b : Nat} {f : Fn} (h : fn.results = #[.cell p 26]) (hp : tmps.getD p undef = .pointer (some ⟨b, 0, none⟩)) (hh : Holds w b f) :
    (results fn tmps).run Tryd.prog w = .ok (fv f) w :=
  results_cell_row h tmps w b _ _ _ _ hp hh Tryd.underlying26 rfl (by kernel_rfl)


theorem sub_same {P : Program} {f : FuncId} {args : Array Value} {W : World} {u : Sub W} {v : Value} (h : Calls P f args u.1 fun e w' => e = .returned v ∧ u.1 = w') :
    Calls P f args u.1 fun e w'' => e = .returned v ∧ ∃ x : Sub W, w'' = x.1 := h.mono fun _ _ ⟨he, hw⟩ => ⟨he, u, hw.symm⟩

theorem sub_below {P : Program} {f : FuncId} {args : Array Value} {W : World} {u : Sub W} {v : Value} (h : Calls P f args u.1 fun e w' => e = .returned v ∧ Below u.1.heap.size u.1 w') :
    Calls P f args u.1 fun e w'' => e = .returned v ∧ ∃ x : Sub W, w'' = x.1 := h.mono fun _ w' ⟨he, hw⟩ => ⟨he, ⟨w', u.2.trans (hw.mono u.2.size)⟩, rfl⟩

/-- The same, in any world in which what stood in wr stands as it did. -/

theorem Holds.sub {wr : World} {b : Nat} {f : Fn} (h : Holds wr b f) (u : Sub wr) : Holds u.1 b f := h.keep u.2 h.lt


end Go.Proofs.YtgccgjeehggagaaDoor
