/-
  The document's example, at the head of the statements.
-/
import Derived.Test.YtekaapceopfelaaDoorEq
namespace Go.Proofs.YtekaapceopfelaaDoor
open Go Go.RowKit
attribute [local go_sem] run_eql_fv run_neq_fv run_guard_fv

/-- A constant. -/
def constF (b : Bool) : Fn := if b then BitVec.allOnes 256 else 0#256

theorem tabConst' (b : Bool) (w : World) : Calls Tryd.prog 6 #[.bool b] w fun e w' => e = .returned (fv (constF b)) ∧ Below w.heap.size w w' := tabConst b w
theorem refConst' (b : Bool) (w : World) : Calls Tryd.prog 7 #[.bool b] w fun e w' => e = .returned (fv (constF b)) ∧ Below w.heap.size w w' := by
  have h := refConst b w
  rwa [ofRow_const] at h

theorem up1 : atF (varAny 3) 8 = true := by decide +kernel
theorem up2 : atF (varAny 3) 7 = false := by decide +kernel
theorem up3 : constF true = ~~~(0#256) := by decide +kernel
theorem up4 : (constF true == 0#256) = false := by decide +kernel

set_option maxRecDepth 100000 in
set_option maxHeartbeats 400000 in
theorem up (w : World) (hl : LowW w) : Calls Tryd.prog 5 #[] w fun e w' => e = .returned (.bool true) ∧ Below w.heap.size w w' := by
  go_enter Tryd.func5, Tryd.ntmps5
  go_wp2_with fail
  refine (tabVar 3 _ hl).mono ?_
  rintro e w1 ⟨rfl, hb⟩
  go_wp2_with fail
  refine (tabAt _ 8 _).mono ?_
  rw [up1]
  rintro e w2 ⟨rfl, hb2⟩
  replace hb := hb.trans (hb2.mono hb.size)
  clear hb2
  go_wp2_with fail
  refine (tabVar 3 _ (hl.keep hb)).mono ?_
  rintro e w3 ⟨rfl, hb2⟩
  replace hb := hb.trans (hb2.mono hb.size)
  clear hb2
  go_wp2_with fail
  refine (tabAt _ 7 _).mono ?_
  rw [up2]
  rintro e w4 ⟨rfl, hb2⟩
  replace hb := hb.trans (hb2.mono hb.size)
  clear hb2
  go_wp2_with fail
  refine (tabConst' true _).mono ?_
  rintro e w5 ⟨rfl, hb2⟩
  replace hb := hb.trans (hb2.mono hb.size)
  clear hb2
  go_wp2_with fail
  rw [← fv_zero]
  refine (tabNot 0#256 _).mono ?_
  rw [← up3]
  rintro e w6 ⟨rfl, hb2⟩
  replace hb := hb.trans (hb2.mono hb.size)
  clear hb2
  generalize hc : constF true = c at *
  have Hc := Lib.hid hc
  clear hc
  go_wp2_with fail
  refine (tabConst' true _).mono ?_
  rw [Hc.out]
  rintro e w7 ⟨rfl, hb2⟩
  replace hb := hb.trans (hb2.mono hb.size)
  clear hb2
  have h4 : (binOp .neq 24 (fv c) (.agg #[.int .u64 0, .int .u64 0, .int .u64 0, .int .u64 0])).run Tryd.prog w7 = .ok (.bool true) w7 := by
    rw [← fv_zero, run_neq_fv, ← Hc.out, up4]; rfl
  have h5 : ∀ op x y, (eqGuard op 24 x y (fv c) (.agg #[.int .u64 0, .int .u64 0, .int .u64 0, .int .u64 0])).run Tryd.prog w7 = .ok () w7 := fun op x y => by
    rw [← fv_zero, run_guard_fv]
  go_wp2
  go_ret
  exact ⟨rfl, hb⟩

end Go.Proofs.YtekaapceopfelaaDoor
