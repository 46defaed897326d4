/-
  The law CofTells, walked.
-/
import Derived.Test.YtkmogenbfcfpnaaDoorUp2
namespace Go.Proofs.YtkmogenbfcfpnaaDoor
open Go Go.RowKit
attribute [local go_sem] run_eql_fv run_neq_fv run_guard_fv

set_option maxRecDepth 100000 in
set_option maxHeartbeats 1000000 in
theorem cofTells (f g : Fn) (v : Int) (b : Bool) (w : World) (hl : LowW w) :
    Calls Tryd.prog 3 #[fv f, fv g, .int .i64 v, .bool b] w fun e w' => e = .returned (.bool true) ∧ Below w.heap.size w w' := by
  simp only [fv]
  go_enter Tryd.func3, Tryd.ntmps3
  go_wp2_with fail
  have h0 : Holds ((w.alloc (.cells #[.int .u64 (wd f 0), .int .u64 (wd f 1), .int .u64 (wd f 2), .int .u64 (wd f 3)] 24)).alloc (.cells #[.int .u64 (wd g 0), .int .u64 (wd g 1), .int .u64 (wd g 2), .int .u64 (wd g 3)] 24)) w.heap.size f := (Holds.new _ _ _).alloc _
  have h1 : Holds ((w.alloc (.cells #[.int .u64 (wd f 0), .int .u64 (wd f 1), .int .u64 (wd f 2), .int .u64 (wd f 3)] 24)).alloc (.cells #[.int .u64 (wd g 0), .int .u64 (wd g 1), .int .u64 (wd g 2), .int .u64 (wd g 3)] 24)) (w.heap.size + 1) g := Holds.new _ _ _
  have hb : Below w.heap.size w ((w.alloc (.cells #[.int .u64 (wd f 0), .int .u64 (wd f 1), .int .u64 (wd f 2), .int .u64 (wd f 3)] 24)).alloc (.cells #[.int .u64 (wd g 0), .int .u64 (wd g 1), .int .u64 (wd g 2), .int .u64 (wd g 3)] 24)) := by go_grown
  generalize ((w.alloc (.cells #[.int .u64 (wd f 0), .int .u64 (wd f 1), .int .u64 (wd f 2), .int .u64 (wd f 3)] 24)).alloc (.cells #[.int .u64 (wd g 0), .int .u64 (wd g 1), .int .u64 (wd g 2), .int .u64 (wd g 3)] 24)) = W0 at *
  refine (up02 _ (hl.keep hb)).mono ?_
  rintro e W ⟨rfl, hb1⟩
  replace h0 := h0.keep hb1 h0.lt
  replace h1 := h1.keep hb1 h1.lt
  replace hb := hb.trans (hb1.mono hb.size)
  clear hb1
  have hlW : ∀ u : Sub W, LowW u.1 := fun u => hl.keep (hb.trans (u.2.mono hb.size))
  go_wp2
  have c0 : ∀ u : Sub W, u.1.cell? ⟨w.heap.size, 0, none⟩ = some (.int .u64 (wd f 0)) := fun u => (h0.sub u).cells.1
  have c1 : ∀ u : Sub W, u.1.cell? ⟨w.heap.size, 1, none⟩ = some (.int .u64 (wd f 1)) := fun u => (h0.sub u).cells.2.1
  have c2 : ∀ u : Sub W, u.1.cell? ⟨w.heap.size, 2, none⟩ = some (.int .u64 (wd f 2)) := fun u => (h0.sub u).cells.2.2.1
  have c3 : ∀ u : Sub W, u.1.cell? ⟨w.heap.size, 3, none⟩ = some (.int .u64 (wd f 3)) := fun u => (h0.sub u).cells.2.2.2
  refine wp_region_quiet_all (C := fun w' => ∃ u : Sub W, w' = u.1) (by kernel_rfl) (by kernel_rfl) (InSub.drew W) ?_
  iterate 3 (go_big_quiet_step (fail))
  go_big_quiet_step (exact sub_below (cofCof f v b _ (hlW _)))
  iterate 3 (go_big_quiet_step (fail))
  go_big_quiet_step (exact sub_below (refCof f v b _))
  iterate 2 (go_big_quiet_step (fail))
  iterate 2 (go_big_quiet_step (fail))
  go_big_quiet_step (exact sub_below (cofDepends f v _ (hlW _)))
  iterate 2 (go_big_quiet_step (fail))
  go_big_quiet_step (exact sub_below (refDepends f v _))
  iterate 3 (go_big_quiet_step (fail))
  go_big_quiet_step (fail)
  go_big_quiet_step (exact sub_below (cofSupport f _ (hlW _)))
  go_big_quiet_step (fail)
  go_big_quiet_step (exact sub_below (refSupport f _))
  iterate 3 (go_big_quiet_step (fail))
  go_big_quiet_step (fail)
  go_big_quiet_step (exact sub_below (cofCount f _ (hlW _)))
  go_big_quiet_step (fail)
  go_big_quiet_step (exact sub_below (refCount f _))
  iterate 2 (go_big_quiet_step (fail))
  refine wpQuiet_nil ?_
  clear c0 c1 c2 c3
  intro w' hw'
  obtain ⟨u, rfl⟩ := hw'
  replace h0 := h0.sub u
  replace h1 := h1.sub u
  replace hb := hb.trans (u.2.mono hb.size)
  clear hlW
  generalize u.1 = V at *
  have hlW : ∀ u : Sub V, LowW u.1 := fun u => hl.keep (hb.trans (u.2.mono hb.size))
  go_wp2
  have c0 : ∀ u : Sub V, u.1.cell? ⟨w.heap.size, 0, none⟩ = some (.int .u64 (wd f 0)) := fun u => (h0.sub u).cells.1
  have c1 : ∀ u : Sub V, u.1.cell? ⟨w.heap.size, 1, none⟩ = some (.int .u64 (wd f 1)) := fun u => (h0.sub u).cells.2.1
  have c2 : ∀ u : Sub V, u.1.cell? ⟨w.heap.size, 2, none⟩ = some (.int .u64 (wd f 2)) := fun u => (h0.sub u).cells.2.2.1
  have c3 : ∀ u : Sub V, u.1.cell? ⟨w.heap.size, 3, none⟩ = some (.int .u64 (wd f 3)) := fun u => (h0.sub u).cells.2.2.2
  have d0 : ∀ u : Sub V, u.1.cell? ⟨w.heap.size + 1, 0, none⟩ = some (.int .u64 (wd g 0)) := fun u => (h1.sub u).cells.1
  have d1 : ∀ u : Sub V, u.1.cell? ⟨w.heap.size + 1, 1, none⟩ = some (.int .u64 (wd g 1)) := fun u => (h1.sub u).cells.2.1
  have d2 : ∀ u : Sub V, u.1.cell? ⟨w.heap.size + 1, 2, none⟩ = some (.int .u64 (wd g 2)) := fun u => (h1.sub u).cells.2.2.1
  have d3 : ∀ u : Sub V, u.1.cell? ⟨w.heap.size + 1, 3, none⟩ = some (.int .u64 (wd g 3)) := fun u => (h1.sub u).cells.2.2.2
  refine wp_region_quiet_all (C := fun w' => ∃ u : Sub V, w' = u.1) (by kernel_rfl) (by kernel_rfl) (InSub.drew V) ?_
  iterate 2 (go_big_quiet_step (fail))
  iterate 2 (go_big_quiet_step (fail))
  go_big_quiet_step (exact sub_below (cofExists f v _ (hlW _)))
  iterate 2 (go_big_quiet_step (fail))
  go_big_quiet_step (exact sub_below (refExists f v _))
  iterate 3 (go_big_quiet_step (fail))
  iterate 2 (go_big_quiet_step (fail))
  go_big_quiet_step (exact sub_below (cofForall f v _ (hlW _)))
  iterate 2 (go_big_quiet_step (fail))
  go_big_quiet_step (exact sub_below (refForall f v _))
  iterate 3 (go_big_quiet_step (fail))
  iterate 3 (go_big_quiet_step (fail))
  go_big_quiet_step (exact sub_below (cofCompose f v g _ (hlW _)))
  iterate 3 (go_big_quiet_step (fail))
  go_big_quiet_step (exact sub_below (refCompose f v g _))
  iterate 3 (go_big_quiet_step (fail))
  refine wpQuiet_nil ?_
  clear c0 c1 c2 c3 d0 d1 d2 d3
  intro w' hw'
  obtain ⟨u, rfl⟩ := hw'
  replace h0 := h0.sub u
  replace h1 := h1.sub u
  replace hb := hb.trans (u.2.mono hb.size)
  clear hlW
  generalize u.1 = V1 at *
  go_wp2
  go_ret
  exact ⟨rfl, hb⟩

end Go.Proofs.YtkmogenbfcfpnaaDoor
