/-
  Walks of tab.varWord and tab.Var.
-/
import Derived.Test.YtgccgjeehggagaaDoorMathVar
import Derived.Test.YtgccgjeehggagaaDoorTabAt
namespace Go.Proofs.YtgccgjeehggagaaDoor
open Go Go.RowKit

/-- The table of the first six variables' words lies where it was laid. -/

def LowW (w : World) : Prop := ∀ i : Nat, i < 6 → w.cell? ⟨0, i, none⟩ = some (.int .u64 (lowV i))

theorem LowW.pos {w : World} (h : LowW w) : 0 < w.heap.size := block_lt_of_cell (h 0 (by decide))

theorem LowW.keep {w w' : World} (h : LowW w) (hb : Below w.heap.size w w') : LowW w' := fun i hi => by
  rw [hb.cell (p := ⟨0, i, none⟩) h.pos]; exact h i hi

set_option maxHeartbeats 400000 in
theorem varWord_low (v i : Nat) (w : World) (hl : LowW w) (hv : v < 6) (hi : i < 4) :
    Calls Tryd.prog 25 #[.int .i64 v, .int .i64 i] w fun e w' => e = .returned (.int .u64 (wd (varF v) i)) ∧ w = w' := by
  have hc := hl v hv
  rw [lowV_eq v i hv hi] at hc
  have h0 : (0 : Int) ≤ (v : Int) := by omega
  have h6 : (v : Int) < 6 := by omega
  clear hl
  go_enter Tryd.func25, Tryd.ntmps25
  go_wp2
  go_ret
  exact ⟨rfl, rfl⟩

theorem varWord_six (i : Nat) (w : World) (hi : i < 4) :
    Calls Tryd.prog 25 #[.int .i64 6, .int .i64 i] w fun e w' => e = .returned (.int .u64 (wd (varF 6) i)) ∧ w = w' := by
  obtain ⟨e0, e1, e2, e3⟩ := wd_var6
  rcases (by omega : i = 0 ∨ i = 1 ∨ i = 2 ∨ i = 3) with rfl | rfl | rfl | rfl
  all_goals
    simp only [e0, e1, e2, e3]
    clear e0 e1 e2 e3
    go_enter Tryd.func25, Tryd.ntmps25
    go_wp2
    go_ret
    exact ⟨rfl, rfl⟩

theorem varWord_seven (i : Nat) (w : World) (hi : i < 4) :
    Calls Tryd.prog 25 #[.int .i64 7, .int .i64 i] w fun e w' => e = .returned (.int .u64 (wd (varF 7) i)) ∧ w = w' := by
  obtain ⟨e0, e1, e2, e3⟩ := wd_var7
  rcases (by omega : i = 0 ∨ i = 1 ∨ i = 2 ∨ i = 3) with rfl | rfl | rfl | rfl
  all_goals
    simp only [e0, e1, e2, e3]
    clear e0 e1 e2 e3
    go_enter Tryd.func25, Tryd.ntmps25
    go_wp2
    go_ret
    exact ⟨rfl, rfl⟩

theorem varWord_any (v i : Nat) (w : World) (hl : LowW w) (hv : v < 8) (hi : i < 4) :
    Calls Tryd.prog 25 #[.int .i64 v, .int .i64 i] w fun e w' => e = .returned (.int .u64 (wd (varF v) i)) ∧ w = w' := by
  rcases (by omega : v < 6 ∨ v = 6 ∨ v = 7) with h | rfl | rfl
  · exact varWord_low v i w hl h hi
  · exact varWord_six i w hi
  · exact varWord_seven i w hi

set_option maxHeartbeats 400000 in
theorem tabVar (v : Int) (w : World) (hl : LowW w) :
    Calls Tryd.prog 17 #[.int .i64 v] w fun e w' => e = .returned (fv (varAny v)) ∧ Below w.heap.size w w' := by
  have Hl := Lib.hid hl
  have hp := hl.pos
  clear hl
  by_cases hv : 0 ≤ v ∧ v < 8
  · obtain ⟨k, rfl⟩ := Int.eq_ofNat_of_zero_le hv.1
    have hk : k < 8 := by omega
    have e : varAny (k : Int) = varF k := by rw [varAny, if_pos hv, Int.toNat_natCast]
    rw [e]
    clear e
    simp only [fv]
    go_enter Tryd.func17, Tryd.ntmps17
    go_wp2
    refine wp_loop_rounds 5 ?_
    rw [rounds_succ]
    go_wp2_with fail
    refine (varWord_any k 0 _ (Hl.out.keep (by go_grown)) hk (by decide)).mono ?_
    rintro e w1 ⟨rfl, rfl⟩
    go_wp2
    rw [rounds_succ]
    go_wp2_with fail
    refine (varWord_any k 1 _ (Hl.out.keep (by go_grown)) hk (by decide)).mono ?_
    rintro e w1 ⟨rfl, rfl⟩
    go_wp2
    rw [rounds_succ]
    go_wp2_with fail
    refine (varWord_any k 2 _ (Hl.out.keep (by go_grown)) hk (by decide)).mono ?_
    rintro e w1 ⟨rfl, rfl⟩
    go_wp2
    rw [rounds_succ]
    go_wp2_with fail
    refine (varWord_any k 3 _ (Hl.out.keep (by go_grown)) hk (by decide)).mono ?_
    rintro e w1 ⟨rfl, rfl⟩
    go_wp2
    rw [rounds_succ]
    go_wp2
    exact bodyPost_ret (v := .agg #[.int .u64 (wd (varF k) 0), .int .u64 (wd (varF k) 1), .int .u64 (wd (varF k) 2), .int .u64 (wd (varF k) 3)]) (by simp [results, Tryd.results17, go_sem]) rfl ⟨rfl, by go_grown⟩
  · have e : varAny v = 0#256 := by rw [varAny, if_neg hv]
    rw [e, fv_zero]
    clear e
    go_enter Tryd.func17, Tryd.ntmps17
    go_wp2
    all_goals exact bodyPost_ret (v := .agg #[.int .u64 0, .int .u64 0, .int .u64 0, .int .u64 0]) (by simp [results, Tryd.results17, go_sem]) rfl ⟨rfl, by go_grown⟩

end Go.Proofs.YtgccgjeehggagaaDoor
