/-
  Walks of package tab: Not, And, Or, Xor, Ite on four words.
-/
import Derived.Test.YtgccgjeehggagaaDoorMath
import Derived.Test.YtgccgjeehggagaaDoorProg
import Derived.WalkKit
import Derived.Outline
import Derived.RegionTactic
import Derived.ChangeAlike
import Derived.Handy
import Derived.StillTailTactics
import Derived.Deep.RegionHeld3
import Derived.KernelRfl
namespace Go.Proofs.YtgccgjeehggagaaDoor
open Go Go.RowKit

set_option maxHeartbeats 400000 in
theorem tabAnd (f g : Fn) (w : World) :
    Calls Tryd.prog 30 #[fv f, fv g] w fun e w' => e = .returned (fv (f &&& g)) ∧ Below w.heap.size w w' := by
  simp only [fv, ← wd_and]
  go_enter Tryd.func30, Tryd.ntmps30
  go_wp2
  refine wp_loop_rounds 5 ?_
  iterate 4 (rw [rounds_succ]; go_wp2; go_region; go_wp2)
  rw [rounds_succ]
  go_wp2
  exact bodyPost_ret (v := .agg #[.int .u64 (bits .and .u64 (wd f 0) (wd g 0)), .int .u64 (bits .and .u64 (wd f 1) (wd g 1)), .int .u64 (bits .and .u64 (wd f 2) (wd g 2)), .int .u64 (bits .and .u64 (wd f 3) (wd g 3))])
    (by simp [results, Tryd.results30, go_sem]) rfl ⟨rfl, by go_grown⟩


set_option maxHeartbeats 400000 in
theorem tabXor (f g : Fn) (w : World) :
    Calls Tryd.prog 16 #[fv f, fv g] w fun e w' => e = .returned (fv (f ^^^ g)) ∧ Below w.heap.size w w' := by
  simp only [fv, ← wd_xor]
  go_enter Tryd.func16, Tryd.ntmps16
  go_wp2
  refine wp_loop_rounds 5 ?_
  iterate 4 (rw [rounds_succ]; go_wp2; go_region; go_wp2)
  rw [rounds_succ]
  go_wp2
  exact bodyPost_ret (v := .agg #[.int .u64 (bits .xor .u64 (wd f 0) (wd g 0)), .int .u64 (bits .xor .u64 (wd f 1) (wd g 1)), .int .u64 (bits .xor .u64 (wd f 2) (wd g 2)), .int .u64 (bits .xor .u64 (wd f 3) (wd g 3))])
    (by simp [results, Tryd.results16, go_sem]) rfl ⟨rfl, by go_grown⟩

set_option maxHeartbeats 400000 in
theorem tabNot (f : Fn) (w : World) :
    Calls Tryd.prog 13 #[fv f] w fun e w' => e = .returned (fv (~~~f)) ∧ Below w.heap.size w w' := by
  simp only [fv]
  go_enter Tryd.func13, Tryd.ntmps13
  go_wp2
  refine wp_loop_rounds 5 ?_
  iterate 4 (rw [rounds_succ]; go_wp2)
  rw [rounds_succ]
  go_wp2
  exact bodyPost_ret (v := .agg #[.int .u64 (bits .xor .u64 IntKind.u64.max (wd f 0)), .int .u64 (bits .xor .u64 IntKind.u64.max (wd f 1)), .int .u64 (bits .xor .u64 IntKind.u64.max (wd f 2)), .int .u64 (bits .xor .u64 IntKind.u64.max (wd f 3))])
    (by simp [results, Tryd.results13, go_sem]) rfl ⟨by rw [wd_not f 0, wd_not f 1, wd_not f 2, wd_not f 3], by go_grown⟩

end Go.Proofs.YtgccgjeehggagaaDoor
