/-
  Walks of tab.At and of the document's At.
-/
import Derived.Test.YtgccgjeehggagaaDoorTabIte
namespace Go.Proofs.YtgccgjeehggagaaDoor
open Go Go.RowKit

theorem cell_fv (w : World) (f : Fn) (t : TypeId) (i : Nat) (hi : i < 4) :
    (w.alloc (.cells #[.int .u64 (wd f 0), .int .u64 (wd f 1), .int .u64 (wd f 2), .int .u64 (wd f 3)] t)).cell? ⟨w.heap.size, i, none⟩ = some (.int .u64 (wd f i)) := by
  rw [cell_of_row _ _ _ _ _ _ (heap_alloc_new _ _)]
  rcases (by omega : i = 0 ∨ i = 1 ∨ i = 2 ∨ i = 3) with rfl | rfl | rfl | rfl <;> rfl


set_option maxHeartbeats 400000 in
theorem refAt (f : Fn) (x : Int) (w : World) :
    Calls Tryd.prog 23 #[fv f, .int .i64 x] w fun e w' => e = .returned (.bool (atF f x)) ∧ Below w.heap.size w w' := by
  simp only [fv]
  by_cases hx : 0 ≤ x ∧ x < 256
  · obtain ⟨k, rfl⟩ := Int.eq_ofNat_of_zero_le hx.1
    have hk : k < 256 := by omega
    have hc := cell_fv w f 26 (k / 64) (by omega)
    have hi0 : (0 : Int) ≤ (k : Int) / 64 := by omega
    have hi1 : (k : Int) / 64 < 4 := by omega
    go_enter Tryd.func23, Tryd.ntmps23
    go_wp2
    go_ret
    exact ⟨ret_bool (atF_tmod f k hk), by go_grown⟩
  · go_enter Tryd.func23, Tryd.ntmps23
    go_wp2
    all_goals
      go_ret
      exact ⟨ret_bool (atF_out f x hx).symm, by go_grown⟩

end Go.Proofs.YtgccgjeehggagaaDoor
