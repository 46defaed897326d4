/-
  PermTells: the walk.
-/
import Derived.Test.YtchbmepahdpjfaaUp6
namespace Go.Proofs.Ytchbmepahdpjfaa
open Go Go.RowKit
attribute [local go_sem] run_equal_same' run_eql_same run_neq_same run_guard_order

/-- The order, exchanged, as a value that is written out. -/
theorem swapLit (o : Nat → Int) (l : Int) : ov (swapO o l) = .agg #[.int .i64 (swapO o l 0), .int .i64 (swapO o l 1), .int .i64 (swapO o l 2), .int .i64 (swapO o l 3), .int .i64 (swapO o l 4), .int .i64 (swapO o l 5), .int .i64 (swapO o l 6), .int .i64 (swapO o l 7)] := rfl

set_option maxRecDepth 100000 in
set_option maxHeartbeats 4000000 in
theorem permTells (o : Nat → Int) (v l : Int) (w : World) :
    Calls Try.prog 3 #[ov o, .int .i64 v, .int .i64 l] w fun e w' => e = .returned (.bool true) ∧ Below w.heap.size w w' := by
  have hM := fun W => permMay o W
  have hRM := fun W => refMay o W
  have hL := fun W => permLevel o v W
  have hRL := fun W => refLevel o v W
  have hS := fun W => permSwap o l W
  have hRS := fun W => refSwap o l W
  simp only [swapLit] at hS hRS
  simp only [ov] at *
  go_enter Try.func3, Try.ntmps3
  go_wp2_with fail
  have h0 := HoldsO.new w o w.heap.size rfl
  have hb : Below w.heap.size w (w.alloc (.cells #[.int .i64 (o 0), .int .i64 (o 1), .int .i64 (o 2), .int .i64 (o 3), .int .i64 (o 4), .int .i64 (o 5), .int .i64 (o 6), .int .i64 (o 7)] 22)) := by go_grown
  generalize w.alloc (.cells #[.int .i64 (o 0), .int .i64 (o 1), .int .i64 (o 2), .int .i64 (o 3), .int .i64 (o 4), .int .i64 (o 5), .int .i64 (o 6), .int .i64 (o 7)] 22) = W at *
  refine (up06 _).mono ?_
  rintro e w1 ⟨rfl, hb1⟩
  replace h0 := h0.keep hb1 h0.lt
  replace hb := hb.trans (hb1.mono hb.size)
  clear hb1
  replace hM := Lib.hid hM
  replace hRM := Lib.hid hRM
  replace hL := Lib.hid hL
  replace hRL := Lib.hid hRL
  replace hS := Lib.hid hS
  replace hRS := Lib.hid hRS
  generalize swapO o l = p at *
  generalize mayO o = my at *
  generalize levO o v = lv at *
  go_wp2
  have c := fun u : Sub w1 => (h0.sub u).cell
  have c0 := fun u => c u 0 (by decide)
  have c1 := fun u => c u 1 (by decide)
  have c2 := fun u => c u 2 (by decide)
  have c3 := fun u => c u 3 (by decide)
  have c4 := fun u => c u 4 (by decide)
  have c5 := fun u => c u 5 (by decide)
  have c6 := fun u => c u 6 (by decide)
  have c7 := fun u => c u 7 (by decide)
  clear c
  refine wp_region_quiet_all (C := fun w' => ∃ u : Sub w1, w' = u.1) (by kernel_rfl) (by kernel_rfl) (InSub.drew w1) ?_
  iterate 3 (go_big_quiet_step (fail))
  go_big_quiet_step (exact subBelow (hM.out _))
  go_big_quiet_step (fail)
  go_big_quiet_step (exact subBelow (hRM.out _))
  iterate 5 (go_big_quiet_step (fail))
  go_big_quiet_step (exact subBelow (hL.out _))
  iterate 2 (go_big_quiet_step (fail))
  go_big_quiet_step (exact subBelow (hRL.out _))
  iterate 5 (go_big_quiet_step (fail))
  go_big_quiet_step (exact subBelow (hS.out _))
  iterate 2 (go_big_quiet_step (fail))
  go_big_quiet_step (exact subBelow (hRS.out _))
  iterate 3 (go_big_quiet_step (fail))
  refine wpQuiet_nil ?_
  clear c0 c1 c2 c3 c4 c5 c6 c7
  intro w' hw'
  obtain ⟨u, rfl⟩ := hw'
  replace hb := hb.trans (u.2.mono hb.size)
  generalize u.1 = w2 at *
  go_wp2
  go_ret
  exact ⟨rfl, hb⟩

end Go.Proofs.Ytchbmepahdpjfaa
