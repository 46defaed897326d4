/-
  Walk of the document's Size and Plain.
-/
import Derived.Test.YtgccgjeehggagaaDoorRefNodes
import Derived.Test.YtgccgjeehggagaaDoorMath3c
namespace Go.Proofs.YtgccgjeehggagaaDoor
open Go Go.RowKit Go.Maps

theorem OwnsF.form {w : World} {base : Nat} {v : Value} {l : List Fn} (h : OwnsF w base v l) : ∃ a cap, v = .slice a l.length cap := by
  obtain ⟨h1, ⟨rfl, h2⟩ | ⟨g, cap, cur, rfl, hr⟩⟩ := h
  · exact ⟨none, 0, by rw [h2]⟩
  · exact ⟨_, _, rfl⟩

set_option maxRecDepth 100000 in
set_option maxHeartbeats 400000 in
theorem refSize (l : List Fn) (o : Nat → Int) (v : Value) (w : World) (hv : SliceF w v l) (hl : l.length ≤ 40) :
    Calls Tryd.prog 11 #[v, ov o] w fun e w' => e = .returned (.int .i64 (sizeF l o)) ∧ Below w.heap.size w w' := by
  have hb0 : Below w.heap.size w (w.alloc (.cells #[.int .i64 (o 0), .int .i64 (o 1), .int .i64 (o 2), .int .i64 (o 3), .int .i64 (o 4), .int .i64 (o 5), .int .i64 (o 6), .int .i64 (o 7)] 23)) := by go_grown
  have hv0 := hv.keep hb0 (Nat.le_refl _)
  simp only [ov]
  go_enter Tryd.func11, Tryd.ntmps11
  go_wp2_with fail
  refine (refNodes l o v _ hv0 hl).mono ?_
  rintro e w1 ⟨v1, out, rfl, h1, h2, hb1⟩
  have Hz := Lib.hid (sizeF_eq h2)
  obtain ⟨a, cap, rfl⟩ := h1.form
  clear h2
  go_wp2
  go_ret
  exact ⟨ret_int (by rw [Hz.out]), hb0.trans (hb1.mono hb0.size)⟩

end Go.Proofs.YtgccgjeehggagaaDoor
