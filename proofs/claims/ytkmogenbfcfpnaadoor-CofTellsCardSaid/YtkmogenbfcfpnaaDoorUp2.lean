/-
  The document's example of layer 2, at the head of its statements.
-/
import Derived.Test.YtkmogenbfcfpnaaDoorCof
import Derived.Test.YtkmogenbfcfpnaaDoorEq
namespace Go.Proofs.YtkmogenbfcfpnaaDoor
open Go Go.RowKit
attribute [local go_sem] run_eql_fv run_neq_fv run_guard_fv

/-- The example's function. -/
def exF : Fn := 0x8888888888888888888888888888888888888888888888888888888888888888#256
theorem exF_eq : (varAny 0 &&& varAny 1) = exF := by decide +kernel
theorem exF_ex : (cofAny exF 0 false ||| cofAny exF 0 true) = varAny 1 := by decide +kernel
theorem exF_sup : supF exF = 3 := by decide +kernel
theorem exF_cnt : cntF exF 256 = 64 := by decide +kernel
theorem exF_one : depAny exF 1 = true := by decide +kernel
theorem exF_two : depAny exF 2 = false := by decide +kernel

set_option maxRecDepth 100000 in
set_option maxHeartbeats 400000 in
theorem up02 (w : World) (hl : LowW w) : Calls Tryd.prog 5 #[] w fun e w' => e = .returned (.bool true) ∧ Below w.heap.size w w' := by
  have hb := Below.refl w.heap.size w
  go_enter Tryd.func5, Tryd.ntmps5
  go_wp2_with fail
  refine (tabVar 0 _ (hl.keep hb)).mono ?_
  rintro e w1 ⟨rfl, hb1⟩
  replace hb := hb.trans (hb1.mono hb.size)
  clear hb1
  go_wp2_with fail
  refine (tabVar 1 _ (hl.keep hb)).mono ?_
  rintro e w2 ⟨rfl, hb1⟩
  replace hb := hb.trans (hb1.mono hb.size)
  clear hb1
  go_wp2_with fail
  refine (tabAnd (varAny 0) (varAny 1) _).mono ?_
  rw [exF_eq]
  rintro e w3 ⟨rfl, hb1⟩
  replace hb := hb.trans (hb1.mono hb.size)
  clear hb1
  simp only [fv]
  go_wp2_with fail
  have k : Holds (w3.alloc (.cells #[.int .u64 (wd exF 0), .int .u64 (wd exF 1), .int .u64 (wd exF 2), .int .u64 (wd exF 3)] 24)) w3.heap.size exF := Holds.new _ _ _
  replace hb := hb.alloc hb.size (.cells #[.int .u64 (wd exF 0), .int .u64 (wd exF 1), .int .u64 (wd exF 2), .int .u64 (wd exF 3)] 24)
  generalize w3.alloc (.cells #[.int .u64 (wd exF 0), .int .u64 (wd exF 1), .int .u64 (wd exF 2), .int .u64 (wd exF 3)] 24) = W at *
  refine (cofExists exF 0 _ (hl.keep hb)).mono ?_
  rw [exF_ex]
  rintro e w4 ⟨rfl, hb1⟩
  replace k := k.keep hb1 k.lt
  replace hb := hb.trans (hb1.mono hb.size)
  clear hb1
  obtain ⟨c0, c1, c2, c3⟩ := k.cells
  go_wp2_with fail
  clear c0 c1 c2 c3
  refine (tabVar 1 _ (hl.keep hb)).mono ?_
  rintro e w5 ⟨rfl, hb1⟩
  replace k := k.keep hb1 k.lt
  replace hb := hb.trans (hb1.mono hb.size)
  clear hb1
  obtain ⟨c0, c1, c2, c3⟩ := k.cells
  go_wp2_with fail
  clear c0 c1 c2 c3
  refine (cofSupport exF _ (hl.keep hb)).mono ?_
  rw [exF_sup]
  rintro e w6 ⟨rfl, hb1⟩
  replace k := k.keep hb1 k.lt
  replace hb := hb.trans (hb1.mono hb.size)
  clear hb1
  obtain ⟨c0, c1, c2, c3⟩ := k.cells
  go_wp2_with fail
  clear c0 c1 c2 c3
  refine (cofCount exF _ (hl.keep hb)).mono ?_
  rw [exF_cnt]
  rintro e w7 ⟨rfl, hb1⟩
  replace k := k.keep hb1 k.lt
  replace hb := hb.trans (hb1.mono hb.size)
  clear hb1
  obtain ⟨c0, c1, c2, c3⟩ := k.cells
  go_wp2_with fail
  clear c0 c1 c2 c3
  refine (cofDepends exF 1 _ (hl.keep hb)).mono ?_
  rw [exF_one]
  rintro e w8 ⟨rfl, hb1⟩
  replace k := k.keep hb1 k.lt
  replace hb := hb.trans (hb1.mono hb.size)
  clear hb1
  obtain ⟨c0, c1, c2, c3⟩ := k.cells
  go_wp2_with fail
  clear c0 c1 c2 c3
  refine (cofDepends exF 2 _ (hl.keep hb)).mono ?_
  rw [exF_two]
  rintro e w9 ⟨rfl, hb1⟩
  replace k := k.keep hb1 k.lt
  replace hb := hb.trans (hb1.mono hb.size)
  clear hb1
  go_wp2
  go_ret
  exact ⟨rfl, hb⟩

end Go.Proofs.YtkmogenbfcfpnaaDoor
