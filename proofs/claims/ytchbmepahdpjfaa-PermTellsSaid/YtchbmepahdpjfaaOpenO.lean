/-
  How orders come in, where nothing is laid.
-/
import Derived.Test.YtchbmepahdpjfaaOpenG
import Derived.Test.YtchbmepahdpjfaaOrd
namespace Go.Proofs.Ytchbmepahdpjfaa
open Go Go.ChangeShapes Go.WideShapes Go.ChangeAt Go.RowKit

theorem Try.cellsO8 : Try.prog.cellsOf 22 = 8 := by kernel_rfl
theorem list8o {α : Type} (l : List α) (h : l.length = 8) : ∃ a b c d e f g i, l = [a, b, c, d, e, f, g, i] := by
  match l, h with
  | [a, b, c, d, e, f, g, i], _ => exact ⟨a, b, c, d, e, f, g, i, rfl⟩

section
variable {H : Type} {enc : TypeId × Value → H} {w : World} {base : Nat} {spare : Nat → Bool} {held : Bool}

/-- An order that came in. -/
theorem open_order8 {r : Go.Reach} {b0 : Nat} {v : Value} {d : DataW H} {ps : List MemPlace} (hval : Value.okWide Try.prog w r b0 22 v) (hd : DataW.Trod enc Try.prog w base spare held 22 v d ps) :
    ∃ o : Nat → Int, v = ov o ∧ ∀ i, (Lit.int .i64 (o i)).wf = true := by
  obtain ⟨cs, rfl, hsz, _⟩ : ∃ cs, v = .agg cs ∧ cs.size = Try.prog.cellsOf 22 ∧ Row.okWide Try.prog w r b0 22 cs := by
    simpa [Value.okWide, Try.underlying22] using hval
  rw [Try.cellsO8] at hsz
  obtain ⟨l⟩ := cs
  obtain ⟨c0, c1, c2, c3, c4, c5, c6, c7, rfl⟩ := list8o l (by simpa using hsz)
  obtain ⟨fuel, hf⟩ := hd
  obtain ⟨xs, m, _, _, _, hxl, hget⟩ := DataW.trod_array Try.underlying22 hf
  rw [Try.cellsOfInt] at hget
  have key : ∀ i (c : Value), i < 8 → ((Value.agg #[c0, c1, c2, c3, c4, c5, c6, c7]).cells.toList.drop (i * 1)).take 1 = [c] → ∃ n, c = .int .i64 n ∧ (Lit.int .i64 n).wf = true := fun i c hi hc => by
    have h1 := hget i hi
    rw [hc, List.getElem?_eq_getElem (by omega)] at h1
    obtain ⟨n, e, _, hw⟩ := DataW.trod_int Try.underlying3 h1
    exact ⟨n, by simpa using e, hw⟩
  obtain ⟨n0, rfl, w0⟩ := key 0 c0 (by decide) rfl
  obtain ⟨n1, rfl, w1⟩ := key 1 c1 (by decide) rfl
  obtain ⟨n2, rfl, w2⟩ := key 2 c2 (by decide) rfl
  obtain ⟨n3, rfl, w3⟩ := key 3 c3 (by decide) rfl
  obtain ⟨n4, rfl, w4⟩ := key 4 c4 (by decide) rfl
  obtain ⟨n5, rfl, w5⟩ := key 5 c5 (by decide) rfl
  obtain ⟨n6, rfl, w6⟩ := key 6 c6 (by decide) rfl
  obtain ⟨n7, rfl, w7⟩ := key 7 c7 (by decide) rfl
  refine ⟨fun i => [n0, n1, n2, n3, n4, n5, n6, n7].getD i 0, rfl, fun i => ?_⟩
  rcases Nat.lt_or_ge i 8 with hi | hi
  · rcases (by omega : i = 0 ∨ i = 1 ∨ i = 2 ∨ i = 3 ∨ i = 4 ∨ i = 5 ∨ i = 6 ∨ i = 7) with rfl | rfl | rfl | rfl | rfl | rfl | rfl | rfl <;> assumption
  · have e : [n0, n1, n2, n3, n4, n5, n6, n7].getD i 0 = 0 := by simp [List.getD, List.getElem?_eq_none (show [n0, n1, n2, n3, n4, n5, n6, n7].length ≤ i by simpa using hi)]
    simp only [e]
    decide
end

end Go.Proofs.Ytchbmepahdpjfaa
