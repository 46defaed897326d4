/-
  The law SizeTells, walked.
-/
import Derived.Test.YtgccgjeehggagaaDoorUp3
namespace Go.Proofs.YtgccgjeehggagaaDoor
open Go Go.RowKit Go.Maps
attribute [local go_sem] run_eql_fv run_neq_fv run_guard_fv run_neq_ov run_guard_ov

set_option maxRecDepth 100000 in
set_option maxHeartbeats 2000000 in
theorem sizeTells (l : List Fn) (o : Nat → Int) (f : Fn) (v : Value) (w : World) (hl : LowW w) (hv : SliceF w v l) (hmax : l.length ≤ maxLen) :
    Calls Tryd.prog 3 #[v, ov o, fv f] w fun e w' => e = .returned (.bool true) ∧ Below w.heap.size w w' := by
  obtain ⟨a, cap, rfl⟩ := hv.form
  unfold maxLen at hmax
  simp only [fv, ov]
  go_enter Tryd.func3, Tryd.ntmps3
  go_wp2_with fail
  have h0 : HoldsO ((w.alloc (.cells #[.int .i64 (o 0), .int .i64 (o 1), .int .i64 (o 2), .int .i64 (o 3), .int .i64 (o 4), .int .i64 (o 5), .int .i64 (o 6), .int .i64 (o 7)] 23)).alloc (.cells #[.int .u64 (wd f 0), .int .u64 (wd f 1), .int .u64 (wd f 2), .int .u64 (wd f 3)] 26)) w.heap.size o := (HoldsO.new _ _ _).alloc _
  have h1 : Holds ((w.alloc (.cells #[.int .i64 (o 0), .int .i64 (o 1), .int .i64 (o 2), .int .i64 (o 3), .int .i64 (o 4), .int .i64 (o 5), .int .i64 (o 6), .int .i64 (o 7)] 23)).alloc (.cells #[.int .u64 (wd f 0), .int .u64 (wd f 1), .int .u64 (wd f 2), .int .u64 (wd f 3)] 26)) (w.heap.size + 1) f := Holds.new _ _ _
  have hb : Below w.heap.size w ((w.alloc (.cells #[.int .i64 (o 0), .int .i64 (o 1), .int .i64 (o 2), .int .i64 (o 3), .int .i64 (o 4), .int .i64 (o 5), .int .i64 (o 6), .int .i64 (o 7)] 23)).alloc (.cells #[.int .u64 (wd f 0), .int .u64 (wd f 1), .int .u64 (wd f 2), .int .u64 (wd f 3)] 26)) := by go_grown
  generalize ((w.alloc (.cells #[.int .i64 (o 0), .int .i64 (o 1), .int .i64 (o 2), .int .i64 (o 3), .int .i64 (o 4), .int .i64 (o 5), .int .i64 (o 6), .int .i64 (o 7)] 23)).alloc (.cells #[.int .u64 (wd f 0), .int .u64 (wd f 1), .int .u64 (wd f 2), .int .u64 (wd f 3)] 26)) = W0 at *
  refine (up03 _ (hl.keep hb)).mono ?_
  rintro e W ⟨rfl, hb1⟩
  replace h0 := h0.keep hb1 h0.lt
  replace h1 := h1.keep hb1 h1.lt
  replace hb := hb.trans (hb1.mono hb.size)
  clear hb1
  have hlW : ∀ u : Sub W, LowW u.1 := fun u => hl.keep (hb.trans (u.2.mono hb.size))
  have hvW : ∀ u : Sub W, SliceF u.1 (.slice a l.length cap) l := fun u => hv.keep (hb.trans (u.2.mono hb.size)) (Nat.le_refl _)
  by_cases hbig : 20 < l.length
  · have hB : decide ((20 : Int) < (l.length : Int)) = true := decide_eq_true (by omega)
    go_wp2
    refine wp_region_quiet_all (C := fun w' => ∃ u : Sub W, w' = u.1) (by kernel_rfl) (by kernel_rfl) (InSub.drew W) ?_
    iterate 4 (go_big_quiet_step (fail))
    iterate 3 go_big_quiet_skip
    iterate 2 (go_big_quiet_step (fail))
    iterate 7 go_big_quiet_skip
    go_big_quiet_step (fail)
    refine wpQuiet_nil ?_
    intro w' hw'
    obtain ⟨u, rfl⟩ := hw'
    replace hb := hb.trans (u.2.mono hb.size)
    clear hlW hvW
    generalize u.1 = V at *
    go_wp2
    go_ret
    exact ⟨rfl, hb⟩
  · have hB : decide ((20 : Int) < (l.length : Int)) = false := decide_eq_false (by omega)
    go_wp2
    have d0 : ∀ u : Sub W, u.1.cell? ⟨w.heap.size, 0, none⟩ = some (.int .i64 (o 0)) := fun u => (h0.sub u).cell 0 (by decide)
    have d1 : ∀ u : Sub W, u.1.cell? ⟨w.heap.size, 1, none⟩ = some (.int .i64 (o 1)) := fun u => (h0.sub u).cell 1 (by decide)
    have d2 : ∀ u : Sub W, u.1.cell? ⟨w.heap.size, 2, none⟩ = some (.int .i64 (o 2)) := fun u => (h0.sub u).cell 2 (by decide)
    have d3 : ∀ u : Sub W, u.1.cell? ⟨w.heap.size, 3, none⟩ = some (.int .i64 (o 3)) := fun u => (h0.sub u).cell 3 (by decide)
    have d4 : ∀ u : Sub W, u.1.cell? ⟨w.heap.size, 4, none⟩ = some (.int .i64 (o 4)) := fun u => (h0.sub u).cell 4 (by decide)
    have d5 : ∀ u : Sub W, u.1.cell? ⟨w.heap.size, 5, none⟩ = some (.int .i64 (o 5)) := fun u => (h0.sub u).cell 5 (by decide)
    have d6 : ∀ u : Sub W, u.1.cell? ⟨w.heap.size, 6, none⟩ = some (.int .i64 (o 6)) := fun u => (h0.sub u).cell 6 (by decide)
    have d7 : ∀ u : Sub W, u.1.cell? ⟨w.heap.size, 7, none⟩ = some (.int .i64 (o 7)) := fun u => (h0.sub u).cell 7 (by decide)
    have c0 : ∀ u : Sub W, u.1.cell? ⟨w.heap.size + 1, 0, none⟩ = some (.int .u64 (wd f 0)) := fun u => (h1.sub u).cells.1
    have c1 : ∀ u : Sub W, u.1.cell? ⟨w.heap.size + 1, 1, none⟩ = some (.int .u64 (wd f 1)) := fun u => (h1.sub u).cells.2.1
    have c2 : ∀ u : Sub W, u.1.cell? ⟨w.heap.size + 1, 2, none⟩ = some (.int .u64 (wd f 2)) := fun u => (h1.sub u).cells.2.2.1
    have c3 : ∀ u : Sub W, u.1.cell? ⟨w.heap.size + 1, 3, none⟩ = some (.int .u64 (wd f 3)) := fun u => (h1.sub u).cells.2.2.2
    refine wp_region_quiet_all (C := fun w' => ∃ u : Sub W, w' = u.1) (by kernel_rfl) (by kernel_rfl) (InSub.drew W) ?_
    iterate 4 (go_big_quiet_step (fail))
    go_big_quiet_step (exact sub_below (sizePlain _ (hlW _)))
    go_big_quiet_step (exact sub_below (refPlain _))
    iterate 3 (go_big_quiet_step (fail))
    iterate 2 (go_big_quiet_step (fail))
    go_big_quiet_step (exact sub_below (sizeTop f o _ (hlW _)))
    iterate 2 (go_big_quiet_step (fail))
    go_big_quiet_step (exact sub_below (refTop f o _))
    iterate 2 (go_big_quiet_step (fail))
    refine wpQuiet_nil ?_
    clear c0 c1 c2 c3 d0 d1 d2 d3 d4 d5 d6 d7
    intro w' hw'
    obtain ⟨u, rfl⟩ := hw'
    replace h0 := h0.sub u
    replace h1 := h1.sub u
    replace hb := hb.trans (u.2.mono hb.size)
    clear hlW hvW
    generalize u.1 = V at *
    have hlW : ∀ u : Sub V, LowW u.1 := fun u => hl.keep (hb.trans (u.2.mono hb.size))
    have hvW : ∀ u : Sub V, SliceF u.1 (.slice a l.length cap) l := fun u => hv.keep (hb.trans (u.2.mono hb.size)) (Nat.le_refl _)
    have d0 : ∀ u : Sub V, u.1.cell? ⟨w.heap.size, 0, none⟩ = some (.int .i64 (o 0)) := fun u => (h0.sub u).cell 0 (by decide)
    have d1 : ∀ u : Sub V, u.1.cell? ⟨w.heap.size, 1, none⟩ = some (.int .i64 (o 1)) := fun u => (h0.sub u).cell 1 (by decide)
    have d2 : ∀ u : Sub V, u.1.cell? ⟨w.heap.size, 2, none⟩ = some (.int .i64 (o 2)) := fun u => (h0.sub u).cell 2 (by decide)
    have d3 : ∀ u : Sub V, u.1.cell? ⟨w.heap.size, 3, none⟩ = some (.int .i64 (o 3)) := fun u => (h0.sub u).cell 3 (by decide)
    have d4 : ∀ u : Sub V, u.1.cell? ⟨w.heap.size, 4, none⟩ = some (.int .i64 (o 4)) := fun u => (h0.sub u).cell 4 (by decide)
    have d5 : ∀ u : Sub V, u.1.cell? ⟨w.heap.size, 5, none⟩ = some (.int .i64 (o 5)) := fun u => (h0.sub u).cell 5 (by decide)
    have d6 : ∀ u : Sub V, u.1.cell? ⟨w.heap.size, 6, none⟩ = some (.int .i64 (o 6)) := fun u => (h0.sub u).cell 6 (by decide)
    have d7 : ∀ u : Sub V, u.1.cell? ⟨w.heap.size, 7, none⟩ = some (.int .i64 (o 7)) := fun u => (h0.sub u).cell 7 (by decide)
    go_wp2
    refine wp_region_quiet_all (C := fun w' => ∃ u : Sub V, w' = u.1) (by kernel_rfl) (by kernel_rfl) (InSub.drew V) ?_
    iterate 2 (go_big_quiet_step (fail))
    iterate 2 (go_big_quiet_step (fail))
    go_big_quiet_step (exact sub_below (sizeSize l o _ _ (hlW _) (hvW _) (by omega)))
    iterate 2 (go_big_quiet_step (fail))
    go_big_quiet_step (exact sub_below (refSize l o _ _ (hvW _) (by omega)))
    iterate 3 (go_big_quiet_step (fail))
    go_big_quiet_step (fail)
    go_big_quiet_step (exact sub_below (sizePlain _ (hlW _)))
    go_big_quiet_step (exact sub_below (sizeSize l (fun i => (i : Int)) _ _ (hlW _) (hvW _) (by omega)))
    go_big_quiet_step (fail)
    go_big_quiet_step (exact sub_below (refPlain _))
    go_big_quiet_step (exact sub_below (refSize l (fun i => (i : Int)) _ _ (hvW _) (by omega)))
    iterate 3 (go_big_quiet_step (fail))
    refine wpQuiet_nil ?_
    clear d0 d1 d2 d3 d4 d5 d6 d7
    intro w' hw'
    obtain ⟨u, rfl⟩ := hw'
    replace hb := hb.trans (u.2.mono hb.size)
    clear hlW hvW
    generalize u.1 = V1 at *
    go_wp2
    go_ret
    exact ⟨rfl, hb⟩

end Go.Proofs.YtgccgjeehggagaaDoor
