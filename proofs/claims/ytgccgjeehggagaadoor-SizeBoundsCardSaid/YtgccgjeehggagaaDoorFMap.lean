/-
  Maps whose keys are functions of eight variables; slices of such functions.
-/
import Derived.Test.YtgccgjeehggagaaDoorIMap
import Derived.Test.YtgccgjeehggagaaDoorEq
import Derived.DeepKeys4
namespace Go.Proofs.YtgccgjeehggagaaDoor
open Go Go.RowKit Go.Maps

theorem Tryd.laidOut : laidOutB Tryd.prog = true := by kernel_rfl
theorem Tryd.rowF : 26 < Tryd.prog.types.size := of_decide_eq_true (by kernel_rfl)
theorem Tryd.keyF : Keyed Tryd.prog 26 :=
  Keyed.of_law (deep_law_laid Tryd.laidOut (m := 4) (by decide) Tryd.rowF (by kernel_rfl) (by kernel_rfl))
theorem Tryd.keyTypeF : Tryd.prog.keyType 26 = true := by kernel_rfl
theorem Tryd.cellsOfF : Tryd.prog.cellsOf 26 = 4 := by kernel_rfl
theorem Tryd.cellsOfU : Tryd.prog.cellsOf 24 = 1 := by kernel_rfl

theorem wf_wd (f : Fn) (i : Nat) : (Lit.int .u64 (wd f i)).wf = true := by
  have := wd_lt f i
  simp [Lit.wf, IntKind.min, IntKind.max, IntKind.signed, IntKind.bits]
  omega

theorem key_fv (f : Fn) : ∃ l, keyOf Tryd.prog 26 (fv f) = some l := by
  obtain ⟨d, hd⟩ : ∃ d, Tryd.prog.types.size + 1 = d + 1 + 1 := ⟨Tryd.prog.types.size - 1, by have := Tryd.rowF; omega⟩
  unfold keyOf
  rw [Tryd.underlying26]
  have hf : (fv f).formed Tryd.prog 26 = true := by
    unfold fv Value.formed
    simp only [Tryd.underlying26, Tryd.cellsOfF]
    rfl
  simp only [Tryd.keyTypeF, hf, Bool.and_self, if_true]
  rw [hd]
  unfold fv
  simp [Program.keyLits, Value.cells, Tryd.underlying26, Tryd.underlying24, Tryd.cellsOfF, Tryd.cellsOfU, wf_wd, show List.range 4 = [0, 1, 2, 3] from rfl]

/-- Functions as keys. -/
noncomputable def encF : KeyEnc Tryd.prog 26 Fn where
  val := fv
  lit f := (key_fv f).choose
  key f := (key_fv f).choose_spec
  inj _ _ h := fv_inj h
  law := Tryd.keyF

theorem zeroI (w : World) : (zeroValue 3).run Tryd.prog w = .ok (.int .i64 0) w := by kernel_rfl

/-- The cells of a list of functions. -/
def cellsL : List Fn → List Value
  | [] => []
  | f :: l => .int .u64 (wd f 0) :: .int .u64 (wd f 1) :: .int .u64 (wd f 2) :: .int .u64 (wd f 3) :: cellsL l

theorem cellsL_length (l : List Fn) : (cellsL l).length = l.length * 4 := by
  induction l with
  | nil => rfl
  | cons f l ih => simp only [cellsL, List.length_cons, ih]; omega

theorem cellsL_append (l k : List Fn) : cellsL (l ++ k) = cellsL l ++ cellsL k := by
  induction l with
  | nil => rfl
  | cons f l ih => simp [cellsL, ih]

theorem cellsL_one (l : List Fn) : ∀ u ∈ cellsL l, u.oneCell' = true := by
  induction l with
  | nil => intro u h; cases h
  | cons f l ih =>
    intro u h
    simp only [cellsL, List.mem_cons] at h
    rcases h with rfl | rfl | rfl | rfl | h
    · rfl
    · rfl
    · rfl
    · rfl
    · exact ih u h

theorem cellsL_get (l : List Fn) : ∀ (i : Nat) (h : i < l.length) (j : Nat), j < 4 → (cellsL l)[i * 4 + j]? = some (.int .u64 (wd l[i] j)) := by
  induction l with
  | nil => intro i h; cases h
  | cons f l ih =>
    intro i h j hj
    cases i with
    | zero => rcases (by omega : j = 0 ∨ j = 1 ∨ j = 2 ∨ j = 3) with rfl | rfl | rfl | rfl <;> rfl
    | succ i =>
      have := ih i (by simpa using h) j hj
      rw [show (i + 1) * 4 + j = (i * 4 + j) + 4 by omega]
      simpa [cellsL] using this

/-- A slice of the call's own that holds these functions. -/
def OwnsF (w : World) (base : Nat) (v : Value) (l : List Fn) : Prop := w.ownsRow base 26 4 v l.length (cellsL l)

end Go.Proofs.YtgccgjeehggagaaDoor
