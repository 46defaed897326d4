/-
  Orders compared; the document's example of layer 6.
-/
import Derived.Test.YtchbmepahdpjfaaPerm
import Derived.ChangeKeysEq
namespace Go.Proofs.Ytchbmepahdpjfaa
open Go Go.RowKit

theorem run_equal_same (d : Nat) (a0 a1 a2 a3 a4 a5 a6 a7 : Int) (w : World) : (Op.equalIn (d + 1 + 1) 22 (.agg #[.int .i64 a0, .int .i64 a1, .int .i64 a2, .int .i64 a3, .int .i64 a4, .int .i64 a5, .int .i64 a6, .int .i64 a7]) (.agg #[.int .i64 a0, .int .i64 a1, .int .i64 a2, .int .i64 a3, .int .i64 a4, .int .i64 a5, .int .i64 a6, .int .i64 a7])).run Try.prog w = .ok true w := by
  obtain ⟨i, hi⟩ : ∃ i, Try.prog.info? 3 = some i := info_of_underlying Try.underlying3
  rw [run_equalIn_array w (d + 1) _ _ Try.underlying22 hi]
  have hc : Try.prog.cellsOf 3 = 1 := by kernel_rfl
  have hr : List.range 8 = [0, 1, 2, 3, 4, 5, 6, 7] := rfl
  rw [hc, hr]
  have hq : ∀ (w : World) (a b : Int), (Op.equalIn (d + 1) 3 (.int .i64 a) (.int .i64 b)).run Try.prog w = .ok (a == b) w := fun w a b => run_equalIn_int w d _ _ _ _ _ Try.underlying3
  simp [Op.eqItems, part, go_sem, hq]

theorem run_eql_same (a0 a1 a2 a3 a4 a5 a6 a7 : Int) (w : World) : (binOp .eql 22 (.agg #[.int .i64 a0, .int .i64 a1, .int .i64 a2, .int .i64 a3, .int .i64 a4, .int .i64 a5, .int .i64 a6, .int .i64 a7]) (.agg #[.int .i64 a0, .int .i64 a1, .int .i64 a2, .int .i64 a3, .int .i64 a4, .int .i64 a5, .int .i64 a6, .int .i64 a7])).run Try.prog w = .ok (.bool true) w := by
  rw [run_eql_struct, run_equal_same 9998]
  rfl
theorem run_neq_same (a0 a1 a2 a3 a4 a5 a6 a7 : Int) (w : World) : (binOp .neq 22 (.agg #[.int .i64 a0, .int .i64 a1, .int .i64 a2, .int .i64 a3, .int .i64 a4, .int .i64 a5, .int .i64 a6, .int .i64 a7]) (.agg #[.int .i64 a0, .int .i64 a1, .int .i64 a2, .int .i64 a3, .int .i64 a4, .int .i64 a5, .int .i64 a6, .int .i64 a7])).run Try.prog w = .ok (.bool false) w := by
  rw [run_neq_struct, run_equal_same 9998]
  rfl
theorem run_guard_order (op : BinOp) (x y : Operand) (a b : Array Value) (w : World) : (eqGuard op 22 x y (.agg a) (.agg b)).run Try.prog w = .ok () w :=
  run_eqGuard_agg w op _ x y _ _ (by kernel_rfl)
theorem run_equal_same' (a0 a1 a2 a3 a4 a5 a6 a7 : Int) (w : World) : (Op.equalIn 10000 22 (.agg #[.int .i64 a0, .int .i64 a1, .int .i64 a2, .int .i64 a3, .int .i64 a4, .int .i64 a5, .int .i64 a6, .int .i64 a7]) (.agg #[.int .i64 a0, .int .i64 a1, .int .i64 a2, .int .i64 a3, .int .i64 a4, .int .i64 a5, .int .i64 a6, .int .i64 a7])).run Try.prog w = .ok true w := run_equal_same 9998 _ _ _ _ _ _ _ _ w
attribute [local go_sem] run_equal_same' run_eql_same run_neq_same run_guard_order

/-- The plain order; eight zeros. -/
def plainI : Nat → Int := fun i => (i : Int)
def zeroI : Nat → Int := fun _ => 0

section
variable (w : World)
theorem up6_swap : Calls Try.prog 10 #[.agg #[.int .i64 0, .int .i64 1, .int .i64 2, .int .i64 3, .int .i64 4, .int .i64 5, .int .i64 6, .int .i64 7], .int .i64 1] w fun e w' => e = .returned (.agg #[.int .i64 0, .int .i64 2, .int .i64 1, .int .i64 3, .int .i64 4, .int .i64 5, .int .i64 6, .int .i64 7]) ∧ Below w.heap.size w w' := permSwap plainI 1 w
theorem up6_may : Calls Try.prog 6 #[.agg #[.int .i64 0, .int .i64 1, .int .i64 2, .int .i64 3, .int .i64 4, .int .i64 5, .int .i64 6, .int .i64 7]] w fun e w' => e = .returned (.bool true) ∧ Below w.heap.size w w' := by
  have h := permMay plainI w
  rwa [show mayO plainI = true by decide +kernel] at h
theorem up6_may0 : Calls Try.prog 6 #[.agg #[.int .i64 0, .int .i64 0, .int .i64 0, .int .i64 0, .int .i64 0, .int .i64 0, .int .i64 0, .int .i64 0]] w fun e w' => e = .returned (.bool false) ∧ Below w.heap.size w w' := by
  have h := permMay zeroI w
  rwa [show mayO zeroI = false by decide +kernel] at h
theorem up6_level5 : Calls Try.prog 8 #[.agg #[.int .i64 0, .int .i64 1, .int .i64 2, .int .i64 3, .int .i64 4, .int .i64 5, .int .i64 6, .int .i64 7], .int .i64 5] w fun e w' => e = .returned (.int .i64 5) ∧ Below w.heap.size w w' := by
  have h := permLevel plainI 5 w
  rwa [show levO plainI 5 = 5 by decide +kernel] at h
theorem up6_level8 : Calls Try.prog 8 #[.agg #[.int .i64 0, .int .i64 1, .int .i64 2, .int .i64 3, .int .i64 4, .int .i64 5, .int .i64 6, .int .i64 7], .int .i64 8] w fun e w' => e = .returned (.int .i64 (-1)) ∧ Below w.heap.size w w' := by
  have h := permLevel plainI 8 w
  rwa [show levO plainI 8 = -1 by decide +kernel] at h
end

set_option maxRecDepth 100000 in
set_option maxHeartbeats 4000000 in
theorem up06 (w : World) : Calls Try.prog 5 #[] w fun e w' => e = .returned (.bool true) ∧ Below w.heap.size w w' := by
  go_enter Try.func5, Try.ntmps5
  go_wp2_with fail
  have h0 := HoldsO.new w plainI w.heap.size rfl
  have hb : Below w.heap.size w (w.alloc (.cells #[.int .i64 0, .int .i64 1, .int .i64 2, .int .i64 3, .int .i64 4, .int .i64 5, .int .i64 6, .int .i64 7] 22)) := by go_grown
  change HoldsO (w.alloc (.cells #[.int .i64 0, .int .i64 1, .int .i64 2, .int .i64 3, .int .i64 4, .int .i64 5, .int .i64 6, .int .i64 7] 22)) w.heap.size plainI at h0
  generalize w.alloc (.cells #[.int .i64 0, .int .i64 1, .int .i64 2, .int .i64 3, .int .i64 4, .int .i64 5, .int .i64 6, .int .i64 7] 22) = W at *
  refine (up6_swap _).mono ?_
  rintro e w1 ⟨rfl, hb1⟩
  replace h0 := h0.keep hb1 h0.lt
  replace hb := hb.trans (hb1.mono hb.size)
  clear hb1
  have c := h0.cell
  have c0 : w1.cell? ⟨w.heap.size, 0, none⟩ = some (.int .i64 0) := c 0 (by decide)
  have c1 : w1.cell? ⟨w.heap.size, 1, none⟩ = some (.int .i64 1) := c 1 (by decide)
  have c2 : w1.cell? ⟨w.heap.size, 2, none⟩ = some (.int .i64 2) := c 2 (by decide)
  have c3 : w1.cell? ⟨w.heap.size, 3, none⟩ = some (.int .i64 3) := c 3 (by decide)
  have c4 : w1.cell? ⟨w.heap.size, 4, none⟩ = some (.int .i64 4) := c 4 (by decide)
  have c5 : w1.cell? ⟨w.heap.size, 5, none⟩ = some (.int .i64 5) := c 5 (by decide)
  have c6 : w1.cell? ⟨w.heap.size, 6, none⟩ = some (.int .i64 6) := c 6 (by decide)
  have c7 : w1.cell? ⟨w.heap.size, 7, none⟩ = some (.int .i64 7) := c 7 (by decide)
  replace h0 := Lib.hid h0
  clear c
  go_wp2_with fail
  clear c0 c1 c2 c3 c4 c5 c6 c7
  replace h0 := h0.out
  refine (up6_may _).mono ?_
  rintro e w2 ⟨rfl, hb1⟩
  replace h0 := h0.keep hb1 h0.lt
  replace hb := hb.trans (hb1.mono hb.size)
  clear hb1
  have c := h0.cell
  have c0 : w2.cell? ⟨w.heap.size, 0, none⟩ = some (.int .i64 0) := c 0 (by decide)
  have c1 : w2.cell? ⟨w.heap.size, 1, none⟩ = some (.int .i64 1) := c 1 (by decide)
  have c2 : w2.cell? ⟨w.heap.size, 2, none⟩ = some (.int .i64 2) := c 2 (by decide)
  have c3 : w2.cell? ⟨w.heap.size, 3, none⟩ = some (.int .i64 3) := c 3 (by decide)
  have c4 : w2.cell? ⟨w.heap.size, 4, none⟩ = some (.int .i64 4) := c 4 (by decide)
  have c5 : w2.cell? ⟨w.heap.size, 5, none⟩ = some (.int .i64 5) := c 5 (by decide)
  have c6 : w2.cell? ⟨w.heap.size, 6, none⟩ = some (.int .i64 6) := c 6 (by decide)
  have c7 : w2.cell? ⟨w.heap.size, 7, none⟩ = some (.int .i64 7) := c 7 (by decide)
  replace h0 := Lib.hid h0
  clear c
  go_wp2_with fail
  clear c0 c1 c2 c3 c4 c5 c6 c7
  replace h0 := h0.out
  refine (up6_may0 _).mono ?_
  rintro e w3 ⟨rfl, hb1⟩
  replace h0 := h0.keep hb1 h0.lt
  replace hb := hb.trans (hb1.mono hb.size)
  clear hb1
  have c := h0.cell
  have c0 : w3.cell? ⟨w.heap.size, 0, none⟩ = some (.int .i64 0) := c 0 (by decide)
  have c1 : w3.cell? ⟨w.heap.size, 1, none⟩ = some (.int .i64 1) := c 1 (by decide)
  have c2 : w3.cell? ⟨w.heap.size, 2, none⟩ = some (.int .i64 2) := c 2 (by decide)
  have c3 : w3.cell? ⟨w.heap.size, 3, none⟩ = some (.int .i64 3) := c 3 (by decide)
  have c4 : w3.cell? ⟨w.heap.size, 4, none⟩ = some (.int .i64 4) := c 4 (by decide)
  have c5 : w3.cell? ⟨w.heap.size, 5, none⟩ = some (.int .i64 5) := c 5 (by decide)
  have c6 : w3.cell? ⟨w.heap.size, 6, none⟩ = some (.int .i64 6) := c 6 (by decide)
  have c7 : w3.cell? ⟨w.heap.size, 7, none⟩ = some (.int .i64 7) := c 7 (by decide)
  replace h0 := Lib.hid h0
  clear c
  go_wp2_with fail
  clear c0 c1 c2 c3 c4 c5 c6 c7
  replace h0 := h0.out
  refine (up6_level5 _).mono ?_
  rintro e w4 ⟨rfl, hb1⟩
  replace h0 := h0.keep hb1 h0.lt
  replace hb := hb.trans (hb1.mono hb.size)
  clear hb1
  have c := h0.cell
  have c0 : w4.cell? ⟨w.heap.size, 0, none⟩ = some (.int .i64 0) := c 0 (by decide)
  have c1 : w4.cell? ⟨w.heap.size, 1, none⟩ = some (.int .i64 1) := c 1 (by decide)
  have c2 : w4.cell? ⟨w.heap.size, 2, none⟩ = some (.int .i64 2) := c 2 (by decide)
  have c3 : w4.cell? ⟨w.heap.size, 3, none⟩ = some (.int .i64 3) := c 3 (by decide)
  have c4 : w4.cell? ⟨w.heap.size, 4, none⟩ = some (.int .i64 4) := c 4 (by decide)
  have c5 : w4.cell? ⟨w.heap.size, 5, none⟩ = some (.int .i64 5) := c 5 (by decide)
  have c6 : w4.cell? ⟨w.heap.size, 6, none⟩ = some (.int .i64 6) := c 6 (by decide)
  have c7 : w4.cell? ⟨w.heap.size, 7, none⟩ = some (.int .i64 7) := c 7 (by decide)
  replace h0 := Lib.hid h0
  clear c
  go_wp2_with fail
  clear c0 c1 c2 c3 c4 c5 c6 c7
  replace h0 := h0.out
  refine (up6_level8 _).mono ?_
  rintro e w5 ⟨rfl, hb1⟩
  replace h0 := h0.keep hb1 h0.lt
  replace hb := hb.trans (hb1.mono hb.size)
  clear hb1
  go_wp2
  go_ret
  exact ⟨rfl, hb⟩

end Go.Proofs.Ytchbmepahdpjfaa
