/-
  Texts of this proof, one behind the other: OpenDl.
-/
import Derived.Test.YtpdkcdehbpbheaaG10
import Derived.Test.YtpdkcdehbpbheaaG7
import Derived.Deep.Strs
/-
  How deeds of layer 17 come in.
-/
namespace Go.Proofs.Ytpdkcdehbpbheaa
open Go Go.ChangeShapes Go.WideShapes Go.ChangeAt Go.RowKit

theorem three_of' {α : Type} {l : List α} (h : l.length = 3) : ∃ a b c, l = [a, b, c] := by
  match l, h with
  | [a, b, c], _ => exact ⟨a, b, c, rfl⟩

section
variable {H : Type} {enc : TypeId × Value → H} {w : World} {base : Nat} {spare : Nat → Bool} {held : Bool}

theorem open_dl {r : Go.Reach} {b0 : Nat} {v : Value} {d : DataW H} {ps : List MemPlace} (hval : Value.okWide Try.prog w r b0 22 v) (hd : DataW.Trod enc Try.prog w base spare held 22 v d ps) :
    ∃ l : List Dl, Reads encDl w v l ∧ l.length ≤ maxLen ∧ ∀ a ∈ l, (Lit.int .i64 a.what).wf = true ∧ (Lit.int .i64 a.tenant).wf = true ∧ (Lit.int .i64 a.quota).wf = true :=
  open_list encDl (fun a => (Lit.int .i64 a.what).wf = true ∧ (Lit.int .i64 a.tenant).wf = true ∧ (Lit.int .i64 a.quota).wf = true) (by kernel_rfl) (fun fuel cs x hl h => by
    obtain ⟨c0, c1, c2, rfl⟩ := three_of' hl
    obtain ⟨y0, y1, y2, n, _, _, h0, h1, h2⟩ := Deep.trod_struct3 Try.underlying29 h
    simp only [Try.cellsOfInt, List.drop_zero, List.drop_succ_cons, List.take_succ_cons, List.take_zero] at h0 h1 h2
    obtain ⟨n0, e0, _, w0⟩ := DataW.trod_int Try.underlying3 h0
    obtain ⟨n1, e1, _, w1⟩ := DataW.trod_int Try.underlying3 h1
    obtain ⟨n2, e2, _, w2⟩ := DataW.trod_int Try.underlying3 h2
    simp at e0 e1 e2
    subst e0 e1 e2
    exact ⟨⟨n0, n1, n2⟩, rfl, w0, w1, w2⟩) hval hd
end

end Go.Proofs.Ytpdkcdehbpbheaa
