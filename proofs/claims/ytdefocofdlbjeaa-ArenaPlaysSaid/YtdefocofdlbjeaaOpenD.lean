/-
  How deeds of layer 4 come in.
-/
import Derived.Test.YtdefocofdlbjeaaOpenG
import Derived.Test.YtdefocofdlbjeaaPlays4
namespace Go.Proofs.Ytdefocofdlbjeaa
open Go Go.ChangeShapes Go.WideShapes Go.ChangeAt Go.RowKit

theorem two_of {α : Type} {l : List α} (h : l.length = 2) : ∃ a b, l = [a, b] := by
  match l, h with
  | [a, b], _ => exact ⟨a, b, rfl⟩

section
variable {H : Type} {enc : TypeId × Value → H} {w : World} {base : Nat} {spare : Nat → Bool} {held : Bool}

theorem open_deeds {r : Go.Reach} {b0 : Nat} {v : Value} {d : DataW H} {ps : List MemPlace} (hval : Value.okWide Try.prog w r b0 22 v) (hd : DataW.Trod enc Try.prog w base spare held 22 v d ps) :
    ∃ l : List (Int × Int), Reads encD w v l ∧ l.length ≤ maxLen ∧ ∀ a ∈ l, (Lit.int .i64 a.1).wf = true ∧ (Lit.int .i64 a.2).wf = true :=
  open_list encD (fun a => (Lit.int .i64 a.1).wf = true ∧ (Lit.int .i64 a.2).wf = true) (by kernel_rfl) (fun fuel cs x hl h => by
    obtain ⟨c0, c1, rfl⟩ := two_of hl
    obtain ⟨y0, y1, n, _, _, h0, h1⟩ := trod_struct2 Try.underlying31 h
    simp only [Try.cellsOfInt, List.drop_zero, List.drop_succ_cons, List.take_succ_cons, List.take_zero] at h0 h1
    obtain ⟨n0, e0, _, w0⟩ := DataW.trod_int Try.underlying3 h0
    obtain ⟨n1, e1, _, w1⟩ := DataW.trod_int Try.underlying3 h1
    simp at e0 e1
    subst e0 e1
    exact ⟨(n0, n1), rfl, w0, w1⟩) hval hd
end

end Go.Proofs.Ytdefocofdlbjeaa
