/-
  The law CofSplits, walked.
-/
import Derived.Test.YtkmogenbfcfpnaaDoorUp2
namespace Go.Proofs.YtkmogenbfcfpnaaDoor
open Go Go.RowKit
attribute [local go_sem] run_eql_fv run_neq_fv run_guard_fv

theorem iteVar (f : Fn) (v : Int) (w : World) : Calls Tryd.prog 20 #[fv (varAny v), fv (cofAny f v true), fv (cofAny f v false)] w fun e w' => e = .returned (fv f) ∧ Below w.heap.size w w' := by
  have h := tabIte (varAny v) (cofAny f v true) (cofAny f v false) w
  rwa [show (varAny v &&& cofAny f v true ||| ~~~(varAny v) &&& cofAny f v false) = f from comp_self f v] at h
theorem depCof (f : Fn) (v : Int) (b : Bool) (w : World) (hl : LowW w) : Calls Tryd.prog 8 #[fv (cofAny f v b), .int .i64 v] w fun e w' => e = .returned (.bool false) ∧ Below w.heap.size w w' := by
  have h := cofDepends (cofAny f v b) v w hl
  rwa [dep_cof] at h
theorem compSelf (f : Fn) (v : Int) (w : World) (hl : LowW w) : Calls Tryd.prog 18 #[fv f, .int .i64 v, fv (varAny v)] w fun e w' => e = .returned (fv f) ∧ Below w.heap.size w w' := by
  have h := cofCompose f v (varAny v) w hl
  rwa [comp_self] at h
/-- A constant. -/
def constG (b : Bool) : Fn := if b then BitVec.allOnes 256 else 0#256
theorem tabConstG (b : Bool) (w : World) : Calls Tryd.prog 22 #[.bool b] w fun e w' => e = .returned (fv (constG b)) ∧ Below w.heap.size w w' := tabConst b w
theorem compConst (f : Fn) (v : Int) (b : Bool) (w : World) (hl : LowW w) : Calls Tryd.prog 18 #[fv f, .int .i64 v, fv (constG b)] w fun e w' => e = .returned (fv (cofAny f v b)) ∧ Below w.heap.size w w' := by
  have h := cofCompose f v (constG b) w hl
  rwa [show compF f v (constG b) = cofAny f v b from comp_const f v b] at h
theorem allSome (f : Fn) (v : Int) (w : World) : Calls Tryd.prog 23 #[fv (cofAny f v false &&& cofAny f v true), fv (~~~(cofAny f v false ||| cofAny f v true))] w fun e w' => e = .returned (fv (constG false)) ∧ Below w.heap.size w w' := by
  have h := tabAnd (cofAny f v false &&& cofAny f v true) (~~~(cofAny f v false ||| cofAny f v true)) w
  rwa [show _ = constG false from all_some f v] at h
theorem cofSwap (f : Fn) (v x : Int) (b c : Bool) (h : v ≠ x) (w : World) (hl : LowW w) : Calls Tryd.prog 6 #[fv (cofAny f x c), .int .i64 v, .bool b] w fun e w' => e = .returned (fv (cofAny (cofAny f v b) x c)) ∧ Below w.heap.size w w' := by
  have k := cofCof (cofAny f x c) v b w hl
  rwa [← cof_cof f v x b c h] at k

set_option maxRecDepth 100000 in
set_option maxHeartbeats 4000000 in
theorem cofSplits (f : Fn) (v x : Int) (b c : Bool) (w : World) (hl : LowW w) :
    Calls Tryd.prog 4 #[fv f, .int .i64 v, .int .i64 x, .bool b, .bool c] w fun e w' => e = .returned (.bool true) ∧ Below w.heap.size w w' := by
  simp only [fv]
  go_enter Tryd.func4, Tryd.ntmps4
  go_wp2_with fail
  have h0 : Holds (w.alloc (.cells #[.int .u64 (wd f 0), .int .u64 (wd f 1), .int .u64 (wd f 2), .int .u64 (wd f 3)] 24)) w.heap.size f := Holds.new _ _ _
  have hb : Below w.heap.size w (w.alloc (.cells #[.int .u64 (wd f 0), .int .u64 (wd f 1), .int .u64 (wd f 2), .int .u64 (wd f 3)] 24)) := by go_grown
  generalize (w.alloc (.cells #[.int .u64 (wd f 0), .int .u64 (wd f 1), .int .u64 (wd f 2), .int .u64 (wd f 3)] 24)) = W0 at *
  refine (up02 _ (hl.keep hb)).mono ?_
  rintro e W1 ⟨rfl, hb1⟩
  replace h0 := h0.keep hb1 h0.lt
  replace hb := hb.trans (hb1.mono hb.size)
  clear hb1
  obtain ⟨c0, c1, c2, c3⟩ := h0.cells
  go_wp2_with fail
  clear c0 c1 c2 c3
  refine (cofCof f v true _ (hl.keep hb)).mono ?_
  rintro e W2 ⟨rfl, hb1⟩
  replace h0 := h0.keep hb1 h0.lt
  replace hb := hb.trans (hb1.mono hb.size)
  clear hb1
  obtain ⟨c0, c1, c2, c3⟩ := h0.cells
  have hlt0 := h0.lt
  have hne0 : ¬ w.heap.size = W2.heap.size := by omega
  simp only [fv]
  go_wp2_with fail
  clear c0 c1 c2 c3 hlt0 hne0
  have h1 : Holds (W2.alloc (.cells #[.int .u64 (wd (cofAny f v true) 0), .int .u64 (wd (cofAny f v true) 1), .int .u64 (wd (cofAny f v true) 2), .int .u64 (wd (cofAny f v true) 3)] 24)) W2.heap.size (cofAny f v true) := Holds.new _ _ _
  replace h0 := h0.alloc (.cells #[.int .u64 (wd (cofAny f v true) 0), .int .u64 (wd (cofAny f v true) 1), .int .u64 (wd (cofAny f v true) 2), .int .u64 (wd (cofAny f v true) 3)] 24)
  replace hb := hb.alloc hb.size (.cells #[.int .u64 (wd (cofAny f v true) 0), .int .u64 (wd (cofAny f v true) 1), .int .u64 (wd (cofAny f v true) 2), .int .u64 (wd (cofAny f v true) 3)] 24)
  generalize W2.heap.size = B1 at *
  generalize W2.alloc (.cells #[.int .u64 (wd (cofAny f v true) 0), .int .u64 (wd (cofAny f v true) 1), .int .u64 (wd (cofAny f v true) 2), .int .u64 (wd (cofAny f v true) 3)] 24) = W3 at *
  refine (cofCof f v false _ (hl.keep hb)).mono ?_
  rintro e W4 ⟨rfl, hb1⟩
  replace h0 := h0.keep hb1 h0.lt
  replace h1 := h1.keep hb1 h1.lt
  replace hb := hb.trans (hb1.mono hb.size)
  clear hb1
  simp only [fv]
  go_wp2
  have h2 : Holds (W4.alloc (.cells #[.int .u64 (wd (cofAny f v false) 0), .int .u64 (wd (cofAny f v false) 1), .int .u64 (wd (cofAny f v false) 2), .int .u64 (wd (cofAny f v false) 3)] 24)) W4.heap.size (cofAny f v false) := Holds.new _ _ _
  replace h0 := h0.alloc (.cells #[.int .u64 (wd (cofAny f v false) 0), .int .u64 (wd (cofAny f v false) 1), .int .u64 (wd (cofAny f v false) 2), .int .u64 (wd (cofAny f v false) 3)] 24)
  replace h1 := h1.alloc (.cells #[.int .u64 (wd (cofAny f v false) 0), .int .u64 (wd (cofAny f v false) 1), .int .u64 (wd (cofAny f v false) 2), .int .u64 (wd (cofAny f v false) 3)] 24)
  replace hb := hb.alloc hb.size (.cells #[.int .u64 (wd (cofAny f v false) 0), .int .u64 (wd (cofAny f v false) 1), .int .u64 (wd (cofAny f v false) 2), .int .u64 (wd (cofAny f v false) 3)] 24)
  generalize W4.heap.size = B2 at *
  generalize W4.alloc (.cells #[.int .u64 (wd (cofAny f v false) 0), .int .u64 (wd (cofAny f v false) 1), .int .u64 (wd (cofAny f v false) 2), .int .u64 (wd (cofAny f v false) 3)] 24) = V at *
  have hlW : ∀ u : Sub V, LowW u.1 := fun u => hl.keep (hb.trans (u.2.mono hb.size))
  have c0 : ∀ u : Sub V, u.1.cell? ⟨w.heap.size, 0, none⟩ = some (.int .u64 (wd f 0)) := fun u => (h0.sub u).cells.1
  have c1 : ∀ u : Sub V, u.1.cell? ⟨w.heap.size, 1, none⟩ = some (.int .u64 (wd f 1)) := fun u => (h0.sub u).cells.2.1
  have c2 : ∀ u : Sub V, u.1.cell? ⟨w.heap.size, 2, none⟩ = some (.int .u64 (wd f 2)) := fun u => (h0.sub u).cells.2.2.1
  have c3 : ∀ u : Sub V, u.1.cell? ⟨w.heap.size, 3, none⟩ = some (.int .u64 (wd f 3)) := fun u => (h0.sub u).cells.2.2.2
  have d0 : ∀ u : Sub V, u.1.cell? ⟨B1, 0, none⟩ = some (.int .u64 (wd (cofAny f v true) 0)) := fun u => (h1.sub u).cells.1
  have d1 : ∀ u : Sub V, u.1.cell? ⟨B1, 1, none⟩ = some (.int .u64 (wd (cofAny f v true) 1)) := fun u => (h1.sub u).cells.2.1
  have d2 : ∀ u : Sub V, u.1.cell? ⟨B1, 2, none⟩ = some (.int .u64 (wd (cofAny f v true) 2)) := fun u => (h1.sub u).cells.2.2.1
  have d3 : ∀ u : Sub V, u.1.cell? ⟨B1, 3, none⟩ = some (.int .u64 (wd (cofAny f v true) 3)) := fun u => (h1.sub u).cells.2.2.2
  have e0 : ∀ u : Sub V, u.1.cell? ⟨B2, 0, none⟩ = some (.int .u64 (wd (cofAny f v false) 0)) := fun u => (h2.sub u).cells.1
  have e1 : ∀ u : Sub V, u.1.cell? ⟨B2, 1, none⟩ = some (.int .u64 (wd (cofAny f v false) 1)) := fun u => (h2.sub u).cells.2.1
  have e2 : ∀ u : Sub V, u.1.cell? ⟨B2, 2, none⟩ = some (.int .u64 (wd (cofAny f v false) 2)) := fun u => (h2.sub u).cells.2.2.1
  have e3 : ∀ u : Sub V, u.1.cell? ⟨B2, 3, none⟩ = some (.int .u64 (wd (cofAny f v false) 3)) := fun u => (h2.sub u).cells.2.2.2
  refine wp_region_quiet_all (C := fun w' => ∃ u : Sub V, w' = u.1) (by kernel_rfl) (by kernel_rfl) (InSub.drew V) ?_
  iterate 3 (go_big_quiet_step (fail))
  go_big_quiet_step (exact sub_below (cofCof f v b _ (hlW _)))
  go_big_quiet_step (fail)
  go_big_quiet_step (exact sub_below (depCof f v b _ (hlW _)))
  go_big_quiet_step (fail)
  go_big_quiet_step (fail)
  go_big_quiet_step (exact sub_below (tabVar v _ (hlW _)))
  iterate 2 (go_big_quiet_step (fail))
  go_big_quiet_step (exact sub_below (iteVar f v _))
  go_big_quiet_step (fail)
  simp only [fv_fold]
  iterate 2 (go_big_quiet_step (fail))
  iterate 2 go_big_quiet_skip
  iterate 2 (go_big_quiet_step (fail))
  iterate 2 go_big_quiet_skip
  iterate 3 (go_big_quiet_step (fail))
  iterate 3 (go_big_quiet_step (fail))
  go_big_quiet_step (exact sub_below (tabVar v _ (hlW _)))
  go_big_quiet_step (exact sub_below (compSelf f v _ (hlW _)))
  go_big_quiet_step (fail)
  simp only [fv_fold]
  iterate 3 (go_big_quiet_step (fail))
  iterate 3 (go_big_quiet_step (fail))
  go_big_quiet_step (exact sub_below (tabConstG b _))
  go_big_quiet_step (exact sub_below (compConst f v b _ (hlW _)))
  iterate 3 (go_big_quiet_step (fail))
  go_big_quiet_step (exact sub_below (cofCof f v b _ (hlW _)))
  iterate 2 (go_big_quiet_step (fail))
  refine wpQuiet_nil ?_
  clear c0 c1 c2 c3 d0 d1 d2 d3 e0 e1 e2 e3
  intro w' hw'
  obtain ⟨u, rfl⟩ := hw'
  replace h0 := h0.sub u
  replace h1 := h1.sub u
  replace h2 := h2.sub u
  replace hb := hb.trans (u.2.mono hb.size)
  clear hlW
  generalize u.1 = V1 at *
  have hlW : ∀ u : Sub V1, LowW u.1 := fun u => hl.keep (hb.trans (u.2.mono hb.size))
  have hcf := cntF_le f 256
  have hcd : decide (((cntF f 256 : Nat) : Int) < 0) = false := decide_eq_false (by omega)
  have hce : decide ((256 : Int) < ((cntF f 256 : Nat) : Int)) = false := decide_eq_false (by omega)
  go_wp2
  have c0 : ∀ u : Sub V1, u.1.cell? ⟨w.heap.size, 0, none⟩ = some (.int .u64 (wd f 0)) := fun u => (h0.sub u).cells.1
  have c1 : ∀ u : Sub V1, u.1.cell? ⟨w.heap.size, 1, none⟩ = some (.int .u64 (wd f 1)) := fun u => (h0.sub u).cells.2.1
  have c2 : ∀ u : Sub V1, u.1.cell? ⟨w.heap.size, 2, none⟩ = some (.int .u64 (wd f 2)) := fun u => (h0.sub u).cells.2.2.1
  have c3 : ∀ u : Sub V1, u.1.cell? ⟨w.heap.size, 3, none⟩ = some (.int .u64 (wd f 3)) := fun u => (h0.sub u).cells.2.2.2
  refine wp_region_quiet_all (C := fun w' => ∃ u : Sub V1, w' = u.1) (by kernel_rfl) (by kernel_rfl) (InSub.drew V1) ?_
  iterate 2 (go_big_quiet_step (fail))
  go_big_quiet_step (exact sub_below (cofForall f v _ (hlW _)))
  iterate 2 (go_big_quiet_step (fail))
  go_big_quiet_step (exact sub_below (cofExists f v _ (hlW _)))
  go_big_quiet_step (exact sub_below (tabNot (cofAny f v false ||| cofAny f v true) _))
  go_big_quiet_step (exact sub_below (allSome f v _))
  go_big_quiet_step (exact sub_below (tabConstG false _))
  iterate 2 (go_big_quiet_step (fail))
  go_big_quiet_step (fail)
  go_big_quiet_step (exact sub_below (cofCount f _ (hlW _)))
  iterate 3 (go_big_quiet_step (fail))
  go_big_quiet_step (fail)
  go_big_quiet_step (exact sub_below (cofCount f _ (hlW _)))
  iterate 2 (go_big_quiet_step (fail))
  refine wpQuiet_nil ?_
  clear c0 c1 c2 c3
  intro w' hw'
  obtain ⟨u, rfl⟩ := hw'
  replace h0 := h0.sub u
  replace h1 := h1.sub u
  replace h2 := h2.sub u
  replace hb := hb.trans (u.2.mono hb.size)
  clear hlW
  generalize u.1 = V2 at *
  clear hcf hcd hce
  rcases (by omega : v < 0 ∨ 7 < v ∨ (0 ≤ v ∧ v ≤ 7)) with hv | hv | hv
  · have hd0 : decide ((0 : Int) ≤ v) = false := decide_eq_false (by omega)
    go_wp2
    refine wp_region_quiet_all (C := fun w' => ∃ u : Sub V2, w' = u.1) (by kernel_rfl) (by kernel_rfl) (InSub.drew V2) ?_
    iterate 3 (go_big_quiet_step (fail))
    iterate 2 go_big_quiet_skip
    iterate 2 (go_big_quiet_step (fail))
    iterate 9 go_big_quiet_skip
    go_big_quiet_step (fail)
    refine wpQuiet_nil ?_
    intro w' hw'
    obtain ⟨u, rfl⟩ := hw'
    replace h0 := h0.sub u
    replace hb := hb.trans (u.2.mono hb.size)
    generalize u.1 = V3 at *
    have hlW : ∀ u : Sub V3, LowW u.1 := fun u => hl.keep (hb.trans (u.2.mono hb.size))
    by_cases hvx : v = x
    · subst hvx
      have hB : (v == v) = true := beq_self_eq_true v
      go_wp2
      refine wp_region_quiet_all (C := fun w' => ∃ u : Sub V3, w' = u.1) (by kernel_rfl) (by kernel_rfl) (InSub.drew V3) ?_
      iterate 6 (go_big_quiet_step (fail))
      iterate 15 go_big_quiet_skip
      iterate 3 (go_big_quiet_step (fail))
      refine wpQuiet_nil ?_
      intro w' hw'
      obtain ⟨u, rfl⟩ := hw'
      replace hb := hb.trans (u.2.mono hb.size)
      clear hlW
      generalize u.1 = V4 at *
      go_wp2
      go_ret
      exact ⟨rfl, hb⟩
    · have hB : (v == x) = false := beq_eq_false_iff_ne.2 hvx
      have c0 : ∀ u : Sub V3, u.1.cell? ⟨w.heap.size, 0, none⟩ = some (.int .u64 (wd f 0)) := fun u => (h0.sub u).cells.1
      have c1 : ∀ u : Sub V3, u.1.cell? ⟨w.heap.size, 1, none⟩ = some (.int .u64 (wd f 1)) := fun u => (h0.sub u).cells.2.1
      have c2 : ∀ u : Sub V3, u.1.cell? ⟨w.heap.size, 2, none⟩ = some (.int .u64 (wd f 2)) := fun u => (h0.sub u).cells.2.2.1
      have c3 : ∀ u : Sub V3, u.1.cell? ⟨w.heap.size, 3, none⟩ = some (.int .u64 (wd f 3)) := fun u => (h0.sub u).cells.2.2.2
      go_wp2
      refine wp_region_quiet_all (C := fun w' => ∃ u : Sub V3, w' = u.1) (by kernel_rfl) (by kernel_rfl) (InSub.drew V3) ?_
      iterate 6 (go_big_quiet_step (fail))
      iterate 3 (go_big_quiet_step (fail))
      go_big_quiet_step (exact sub_below (cofCof f v b _ (hlW _)))
      iterate 2 (go_big_quiet_step (fail))
      go_big_quiet_step (exact sub_below (cofCof (cofAny f v b) x c _ (hlW _)))
      iterate 3 (go_big_quiet_step (fail))
      go_big_quiet_step (exact sub_below (cofCof f x c _ (hlW _)))
      iterate 2 (go_big_quiet_step (fail))
      go_big_quiet_step (exact sub_below (cofSwap f v x b c hvx _ (hlW _)))
      iterate 4 (go_big_quiet_step (fail))
      refine wpQuiet_nil ?_
      clear c0 c1 c2 c3
      intro w' hw'
      obtain ⟨u, rfl⟩ := hw'
      replace hb := hb.trans (u.2.mono hb.size)
      clear hlW
      generalize u.1 = V4 at *
      go_wp2
      go_ret
      exact ⟨rfl, hb⟩
  · have hd0 : decide ((0 : Int) ≤ v) = true := decide_eq_true (by omega)
    have hd1 : decide (v ≤ 7) = false := decide_eq_false (by omega)
    go_wp2
    refine wp_region_quiet_all (C := fun w' => ∃ u : Sub V2, w' = u.1) (by kernel_rfl) (by kernel_rfl) (InSub.drew V2) ?_
    iterate 7 (go_big_quiet_step (fail))
    iterate 9 go_big_quiet_skip
    go_big_quiet_step (fail)
    refine wpQuiet_nil ?_
    intro w' hw'
    obtain ⟨u, rfl⟩ := hw'
    replace h0 := h0.sub u
    replace hb := hb.trans (u.2.mono hb.size)
    generalize u.1 = V3 at *
    have hlW : ∀ u : Sub V3, LowW u.1 := fun u => hl.keep (hb.trans (u.2.mono hb.size))
    by_cases hvx : v = x
    · subst hvx
      have hB : (v == v) = true := beq_self_eq_true v
      go_wp2
      refine wp_region_quiet_all (C := fun w' => ∃ u : Sub V3, w' = u.1) (by kernel_rfl) (by kernel_rfl) (InSub.drew V3) ?_
      iterate 6 (go_big_quiet_step (fail))
      iterate 15 go_big_quiet_skip
      iterate 3 (go_big_quiet_step (fail))
      refine wpQuiet_nil ?_
      intro w' hw'
      obtain ⟨u, rfl⟩ := hw'
      replace hb := hb.trans (u.2.mono hb.size)
      clear hlW
      generalize u.1 = V4 at *
      go_wp2
      go_ret
      exact ⟨rfl, hb⟩
    · have hB : (v == x) = false := beq_eq_false_iff_ne.2 hvx
      have c0 : ∀ u : Sub V3, u.1.cell? ⟨w.heap.size, 0, none⟩ = some (.int .u64 (wd f 0)) := fun u => (h0.sub u).cells.1
      have c1 : ∀ u : Sub V3, u.1.cell? ⟨w.heap.size, 1, none⟩ = some (.int .u64 (wd f 1)) := fun u => (h0.sub u).cells.2.1
      have c2 : ∀ u : Sub V3, u.1.cell? ⟨w.heap.size, 2, none⟩ = some (.int .u64 (wd f 2)) := fun u => (h0.sub u).cells.2.2.1
      have c3 : ∀ u : Sub V3, u.1.cell? ⟨w.heap.size, 3, none⟩ = some (.int .u64 (wd f 3)) := fun u => (h0.sub u).cells.2.2.2
      go_wp2
      refine wp_region_quiet_all (C := fun w' => ∃ u : Sub V3, w' = u.1) (by kernel_rfl) (by kernel_rfl) (InSub.drew V3) ?_
      iterate 6 (go_big_quiet_step (fail))
      iterate 3 (go_big_quiet_step (fail))
      go_big_quiet_step (exact sub_below (cofCof f v b _ (hlW _)))
      iterate 2 (go_big_quiet_step (fail))
      go_big_quiet_step (exact sub_below (cofCof (cofAny f v b) x c _ (hlW _)))
      iterate 3 (go_big_quiet_step (fail))
      go_big_quiet_step (exact sub_below (cofCof f x c _ (hlW _)))
      iterate 2 (go_big_quiet_step (fail))
      go_big_quiet_step (exact sub_below (cofSwap f v x b c hvx _ (hlW _)))
      iterate 4 (go_big_quiet_step (fail))
      refine wpQuiet_nil ?_
      clear c0 c1 c2 c3
      intro w' hw'
      obtain ⟨u, rfl⟩ := hw'
      replace hb := hb.trans (u.2.mono hb.size)
      clear hlW
      generalize u.1 = V4 at *
      go_wp2
      go_ret
      exact ⟨rfl, hb⟩
  · have hsum := count_halves f v (by omega)
    have ha := cntF_le (cofAny f v true) 256
    have hz := cntF_le (cofAny f v false) 256
    have hc := cntF_le f 256
    have hlW : ∀ u : Sub V2, LowW u.1 := fun u => hl.keep (hb.trans (u.2.mono hb.size))
    have c0 : ∀ u : Sub V2, u.1.cell? ⟨w.heap.size, 0, none⟩ = some (.int .u64 (wd f 0)) := fun u => (h0.sub u).cells.1
    have c1 : ∀ u : Sub V2, u.1.cell? ⟨w.heap.size, 1, none⟩ = some (.int .u64 (wd f 1)) := fun u => (h0.sub u).cells.2.1
    have c2 : ∀ u : Sub V2, u.1.cell? ⟨w.heap.size, 2, none⟩ = some (.int .u64 (wd f 2)) := fun u => (h0.sub u).cells.2.2.1
    have c3 : ∀ u : Sub V2, u.1.cell? ⟨w.heap.size, 3, none⟩ = some (.int .u64 (wd f 3)) := fun u => (h0.sub u).cells.2.2.2
    have d0 : ∀ u : Sub V2, u.1.cell? ⟨B1, 0, none⟩ = some (.int .u64 (wd (cofAny f v true) 0)) := fun u => (h1.sub u).cells.1
    have d1 : ∀ u : Sub V2, u.1.cell? ⟨B1, 1, none⟩ = some (.int .u64 (wd (cofAny f v true) 1)) := fun u => (h1.sub u).cells.2.1
    have d2 : ∀ u : Sub V2, u.1.cell? ⟨B1, 2, none⟩ = some (.int .u64 (wd (cofAny f v true) 2)) := fun u => (h1.sub u).cells.2.2.1
    have d3 : ∀ u : Sub V2, u.1.cell? ⟨B1, 3, none⟩ = some (.int .u64 (wd (cofAny f v true) 3)) := fun u => (h1.sub u).cells.2.2.2
    have e0 : ∀ u : Sub V2, u.1.cell? ⟨B2, 0, none⟩ = some (.int .u64 (wd (cofAny f v false) 0)) := fun u => (h2.sub u).cells.1
    have e1 : ∀ u : Sub V2, u.1.cell? ⟨B2, 1, none⟩ = some (.int .u64 (wd (cofAny f v false) 1)) := fun u => (h2.sub u).cells.2.1
    have e2 : ∀ u : Sub V2, u.1.cell? ⟨B2, 2, none⟩ = some (.int .u64 (wd (cofAny f v false) 2)) := fun u => (h2.sub u).cells.2.2.1
    have e3 : ∀ u : Sub V2, u.1.cell? ⟨B2, 3, none⟩ = some (.int .u64 (wd (cofAny f v false) 3)) := fun u => (h2.sub u).cells.2.2.2
    have A1 : ∀ u : Sub V2, Calls Tryd.prog 12 #[fv (cofAny f v true)] u.1 fun e w'' => e = .returned (.int .i64 (cntF (cofAny f v true) 256)) ∧ ∃ y : Sub V2, w'' = y.1 := fun u => sub_below (cofCount _ _ (hlW u))
    have A2 : ∀ u : Sub V2, Calls Tryd.prog 12 #[fv (cofAny f v false)] u.1 fun e w'' => e = .returned (.int .i64 (cntF (cofAny f v false) 256)) ∧ ∃ y : Sub V2, w'' = y.1 := fun u => sub_below (cofCount _ _ (hlW u))
    have A3 : ∀ u : Sub V2, Calls Tryd.prog 12 #[fv f] u.1 fun e w'' => e = .returned (.int .i64 (cntF f 256)) ∧ ∃ y : Sub V2, w'' = y.1 := fun u => sub_below (cofCount _ _ (hlW u))
    generalize cntF (cofAny f v true) 256 = p at *
    generalize cntF (cofAny f v false) 256 = q at *
    generalize cntF f 256 = r at *
    have hB : (((p : Int) + (q : Int)) == 2 * (r : Int)) = true := by rw [beq_iff_eq]; omega
    have K1 := Lib.hid A1
    have K2 := Lib.hid A2
    have K3 := Lib.hid A3
    clear A1 A2 A3 hsum
    go_wp2
    refine wp_region_quiet_all (C := fun w' => ∃ u : Sub V2, w' = u.1) (by kernel_rfl) (by kernel_rfl) (InSub.drew V2) ?_
    iterate 7 (go_big_quiet_step (fail))
    go_big_quiet_step (fail)
    go_big_quiet_step (exact K1.out _)
    go_big_quiet_step (fail)
    go_big_quiet_step (exact K2.out _)
    iterate 2 (go_big_quiet_step (fail))
    go_big_quiet_step (exact K3.out _)
    iterate 3 (go_big_quiet_step (fail))
    clear K1 K2 K3
    refine wpQuiet_nil ?_
    clear c0 c1 c2 c3 d0 d1 d2 d3 e0 e1 e2 e3
    intro w' hw'
    obtain ⟨u, rfl⟩ := hw'
    replace h0 := h0.sub u
    replace hb := hb.trans (u.2.mono hb.size)
    clear hlW
    generalize u.1 = V3 at *
    have hlW : ∀ u : Sub V3, LowW u.1 := fun u => hl.keep (hb.trans (u.2.mono hb.size))
    by_cases hvx : v = x
    · subst hvx
      have hB : (v == v) = true := beq_self_eq_true v
      go_wp2
      refine wp_region_quiet_all (C := fun w' => ∃ u : Sub V3, w' = u.1) (by kernel_rfl) (by kernel_rfl) (InSub.drew V3) ?_
      iterate 6 (go_big_quiet_step (fail))
      iterate 15 go_big_quiet_skip
      iterate 3 (go_big_quiet_step (fail))
      refine wpQuiet_nil ?_
      intro w' hw'
      obtain ⟨u, rfl⟩ := hw'
      replace hb := hb.trans (u.2.mono hb.size)
      clear hlW
      generalize u.1 = V4 at *
      go_wp2
      go_ret
      exact ⟨rfl, hb⟩
    · have hB : (v == x) = false := beq_eq_false_iff_ne.2 hvx
      have c0 : ∀ u : Sub V3, u.1.cell? ⟨w.heap.size, 0, none⟩ = some (.int .u64 (wd f 0)) := fun u => (h0.sub u).cells.1
      have c1 : ∀ u : Sub V3, u.1.cell? ⟨w.heap.size, 1, none⟩ = some (.int .u64 (wd f 1)) := fun u => (h0.sub u).cells.2.1
      have c2 : ∀ u : Sub V3, u.1.cell? ⟨w.heap.size, 2, none⟩ = some (.int .u64 (wd f 2)) := fun u => (h0.sub u).cells.2.2.1
      have c3 : ∀ u : Sub V3, u.1.cell? ⟨w.heap.size, 3, none⟩ = some (.int .u64 (wd f 3)) := fun u => (h0.sub u).cells.2.2.2
      go_wp2
      refine wp_region_quiet_all (C := fun w' => ∃ u : Sub V3, w' = u.1) (by kernel_rfl) (by kernel_rfl) (InSub.drew V3) ?_
      iterate 6 (go_big_quiet_step (fail))
      iterate 3 (go_big_quiet_step (fail))
      go_big_quiet_step (exact sub_below (cofCof f v b _ (hlW _)))
      iterate 2 (go_big_quiet_step (fail))
      go_big_quiet_step (exact sub_below (cofCof (cofAny f v b) x c _ (hlW _)))
      iterate 3 (go_big_quiet_step (fail))
      go_big_quiet_step (exact sub_below (cofCof f x c _ (hlW _)))
      iterate 2 (go_big_quiet_step (fail))
      go_big_quiet_step (exact sub_below (cofSwap f v x b c hvx _ (hlW _)))
      iterate 4 (go_big_quiet_step (fail))
      refine wpQuiet_nil ?_
      clear c0 c1 c2 c3
      intro w' hw'
      obtain ⟨u, rfl⟩ := hw'
      replace hb := hb.trans (u.2.mono hb.size)
      clear hlW
      generalize u.1 = V4 at *
      go_wp2
      go_ret
      exact ⟨rfl, hb⟩

end Go.Proofs.YtkmogenbfcfpnaaDoor
