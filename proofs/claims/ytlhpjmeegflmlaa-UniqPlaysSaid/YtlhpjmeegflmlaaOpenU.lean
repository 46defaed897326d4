/-
  How deeds of layer 5 come in.
-/
import Derived.Test.YtlhpjmeegflmlaaOpenG
import Derived.Test.YtlhpjmeegflmlaaPlays5
import Derived.Lib.SmallJoins
namespace Go.Proofs.Ytlhpjmeegflmlaa
open Go Go.ChangeShapes Go.WideShapes Go.ChangeAt Go.RowKit

theorem four_of {α : Type} {l : List α} (h : l.length = 4) : ∃ a b c d, l = [a, b, c, d] := by
  match l, h with
  | [a, b, c, d], _ => exact ⟨a, b, c, d, rfl⟩

instance : Inhabited DU := ⟨⟨0, 0, 0, 0⟩⟩

section
variable {H : Type} {enc : TypeId × Value → H} {w : World} {base : Nat} {spare : Nat → Bool} {held : Bool}

theorem open_du {r : Go.Reach} {b0 : Nat} {v : Value} {d : DataW H} {ps : List MemPlace} (hval : Value.okWide Try.prog w r b0 22 v) (hd : DataW.Trod enc Try.prog w base spare held 22 v d ps) :
    ∃ l : List DU, Reads encU w v l ∧ l.length ≤ maxLen ∧ ∀ a ∈ l, a.wf :=
  open_list encU DU.wf (by kernel_rfl) (fun fuel cs x hl h => by
    obtain ⟨c0, c1, c2, c3, rfl⟩ := four_of hl
    obtain ⟨y0, y1, y2, y3, n, _, _, h0, h1, h2, h3⟩ := Joins.trod_struct4 Try.underlying31 h
    simp only [Try.cellsOfInt, List.drop_zero, List.drop_succ_cons, List.take_succ_cons, List.take_zero] at h0 h1 h2 h3
    obtain ⟨n0, e0, _, w0⟩ := DataW.trod_int Try.underlying3 h0
    obtain ⟨n1, e1, _, _⟩ := DataW.trod_int Try.underlying3 h1
    obtain ⟨n2, e2, _, _⟩ := DataW.trod_int Try.underlying3 h2
    obtain ⟨n3, e3, _, _⟩ := DataW.trod_int Try.underlying3 h3
    simp at e0 e1 e2 e3
    subst e0 e1 e2 e3
    exact ⟨⟨n0, n1, n2, n3⟩, rfl, w0⟩) hval hd
end

end Go.Proofs.Ytlhpjmeegflmlaa
