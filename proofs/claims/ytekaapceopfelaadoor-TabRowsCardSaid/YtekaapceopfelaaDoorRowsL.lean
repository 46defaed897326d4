/-
  The law TabRows, walked.
-/
import Derived.Test.YtekaapceopfelaaDoorUp
namespace Go.Proofs.YtekaapceopfelaaDoor
open Go Go.RowKit
attribute [local go_sem] run_eql_fv run_neq_fv run_guard_fv

theorem tabNotNot (f : Fn) (w : World) : Calls Tryd.prog 12 #[fv (~~~f)] w fun e w' => e = .returned (fv f) ∧ Below w.heap.size w w' := by
  have h := tabNot (~~~f) w
  rwa [BitVec.not_not] at h

theorem ite_same (v f : Fn) : (v &&& f ||| ~~~v &&& f) = f := fn_ext fun x hx => by
  simp [hx]; cases v[x] <;> simp
theorem ite_xor (f g : Fn) : (f &&& ~~~g ||| ~~~f &&& g) = (f ^^^ g) := fn_ext fun x hx => by
  simp [hx]; cases f[x] <;> cases g[x] <;> rfl
theorem or_nots (f g : Fn) : (~~~f ||| ~~~g) = ~~~(f &&& g) := fn_ext fun x hx => by simp [hx]

theorem tabIteSame (v f : Fn) (w : World) : Calls Tryd.prog 20 #[fv v, fv f, fv f] w fun e w' => e = .returned (fv f) ∧ Below w.heap.size w w' := by
  have h := tabIte v f f w
  rwa [ite_same] at h
theorem tabIteXor (f g : Fn) (w : World) : Calls Tryd.prog 20 #[fv f, fv (~~~g), fv g] w fun e w' => e = .returned (fv (f ^^^ g)) ∧ Below w.heap.size w w' := by
  have h := tabIte f (~~~g) g w
  rwa [ite_xor] at h
theorem tabOrNots (f g : Fn) (w : World) : Calls Tryd.prog 16 #[fv (~~~f), fv (~~~g)] w fun e w' => e = .returned (fv (~~~(f &&& g))) ∧ Below w.heap.size w w' := by
  have h := tabOr (~~~f) (~~~g) w
  rwa [or_nots] at h

set_option maxRecDepth 100000 in
set_option maxHeartbeats 1000000 in
theorem tabRows_out (f g k : Fn) (v : Int) (x : Int) (w : World) (hl : LowW w) (hx : ¬ (0 ≤ x ∧ x < 256)) :
    Calls Tryd.prog 4 #[fv f, fv g, fv k, .int .i64 v, .int .i64 x] w fun e w' => e = .returned (.bool true) ∧ Below w.heap.size w w' := by
  have ha := atF_out f x hx
  have hb' := atF_out g x hx
  have hc := atF_out k x hx
  simp only [fv]
  go_enter Tryd.func4, Tryd.ntmps4
  go_wp2_with fail
  have h0 : Holds (((w.alloc (.cells #[.int .u64 (wd f 0), .int .u64 (wd f 1), .int .u64 (wd f 2), .int .u64 (wd f 3)] 24)).alloc (.cells #[.int .u64 (wd g 0), .int .u64 (wd g 1), .int .u64 (wd g 2), .int .u64 (wd g 3)] 24)).alloc (.cells #[.int .u64 (wd k 0), .int .u64 (wd k 1), .int .u64 (wd k 2), .int .u64 (wd k 3)] 24)) w.heap.size f := ((Holds.new _ _ _).alloc _).alloc _
  have h1 : Holds (((w.alloc (.cells #[.int .u64 (wd f 0), .int .u64 (wd f 1), .int .u64 (wd f 2), .int .u64 (wd f 3)] 24)).alloc (.cells #[.int .u64 (wd g 0), .int .u64 (wd g 1), .int .u64 (wd g 2), .int .u64 (wd g 3)] 24)).alloc (.cells #[.int .u64 (wd k 0), .int .u64 (wd k 1), .int .u64 (wd k 2), .int .u64 (wd k 3)] 24)) (w.heap.size + 1) g := (Holds.new _ _ _).alloc _
  have h2 : Holds (((w.alloc (.cells #[.int .u64 (wd f 0), .int .u64 (wd f 1), .int .u64 (wd f 2), .int .u64 (wd f 3)] 24)).alloc (.cells #[.int .u64 (wd g 0), .int .u64 (wd g 1), .int .u64 (wd g 2), .int .u64 (wd g 3)] 24)).alloc (.cells #[.int .u64 (wd k 0), .int .u64 (wd k 1), .int .u64 (wd k 2), .int .u64 (wd k 3)] 24)) (w.heap.size + 1 + 1) k := Holds.new _ _ _
  have hb : Below w.heap.size w (((w.alloc (.cells #[.int .u64 (wd f 0), .int .u64 (wd f 1), .int .u64 (wd f 2), .int .u64 (wd f 3)] 24)).alloc (.cells #[.int .u64 (wd g 0), .int .u64 (wd g 1), .int .u64 (wd g 2), .int .u64 (wd g 3)] 24)).alloc (.cells #[.int .u64 (wd k 0), .int .u64 (wd k 1), .int .u64 (wd k 2), .int .u64 (wd k 3)] 24)) := by go_grown
  generalize (((w.alloc (.cells #[.int .u64 (wd f 0), .int .u64 (wd f 1), .int .u64 (wd f 2), .int .u64 (wd f 3)] 24)).alloc (.cells #[.int .u64 (wd g 0), .int .u64 (wd g 1), .int .u64 (wd g 2), .int .u64 (wd g 3)] 24)).alloc (.cells #[.int .u64 (wd k 0), .int .u64 (wd k 1), .int .u64 (wd k 2), .int .u64 (wd k 3)] 24)) = W0 at *
  refine (up _ (hl.keep hb)).mono ?_
  rintro e W1 ⟨rfl, hb1⟩
  replace h0 := h0.keep hb1 h0.lt
  replace h1 := h1.keep hb1 h1.lt
  replace h2 := h2.keep hb1 h2.lt
  replace hb := hb.trans (hb1.mono hb.size)
  clear hb1
  obtain ⟨c0, c1, c2, c3⟩ := h0.cells
  go_wp2_with fail
  clear c0 c1 c2 c3
  refine (tabAt f x _).mono ?_
  rintro e W2 ⟨rfl, hb1⟩
  replace h0 := h0.keep hb1 h0.lt
  replace h1 := h1.keep hb1 h1.lt
  replace h2 := h2.keep hb1 h2.lt
  replace hb := hb.trans (hb1.mono hb.size)
  clear hb1
  obtain ⟨c0, c1, c2, c3⟩ := h1.cells
  go_wp2_with fail
  clear c0 c1 c2 c3
  refine (tabAt g x _).mono ?_
  rintro e W3 ⟨rfl, hb1⟩
  replace h0 := h0.keep hb1 h0.lt
  replace h1 := h1.keep hb1 h1.lt
  replace h2 := h2.keep hb1 h2.lt
  replace hb := hb.trans (hb1.mono hb.size)
  clear hb1
  obtain ⟨c0, c1, c2, c3⟩ := h2.cells
  go_wp2_with fail
  clear c0 c1 c2 c3
  refine (tabAt k x _).mono ?_
  rintro e W ⟨rfl, hb1⟩
  replace h0 := h0.keep hb1 h0.lt
  replace h1 := h1.keep hb1 h1.lt
  replace h2 := h2.keep hb1 h2.lt
  replace hb := hb.trans (hb1.mono hb.size)
  clear hb1
  have hlW : ∀ u : Sub W, LowW u.1 := fun u => hl.keep (hb.trans (u.2.mono hb.size))
  go_wp2
  have c0 : ∀ u : Sub W, u.1.cell? ⟨w.heap.size, 0, none⟩ = some (.int .u64 (wd f 0)) := fun u => (h0.sub u).cells.1
  have c1 : ∀ u : Sub W, u.1.cell? ⟨w.heap.size, 1, none⟩ = some (.int .u64 (wd f 1)) := fun u => (h0.sub u).cells.2.1
  have c2 : ∀ u : Sub W, u.1.cell? ⟨w.heap.size, 2, none⟩ = some (.int .u64 (wd f 2)) := fun u => (h0.sub u).cells.2.2.1
  have c3 : ∀ u : Sub W, u.1.cell? ⟨w.heap.size, 3, none⟩ = some (.int .u64 (wd f 3)) := fun u => (h0.sub u).cells.2.2.2
  have d0 : ∀ u : Sub W, u.1.cell? ⟨w.heap.size + 1, 0, none⟩ = some (.int .u64 (wd g 0)) := fun u => (h1.sub u).cells.1
  have d1 : ∀ u : Sub W, u.1.cell? ⟨w.heap.size + 1, 1, none⟩ = some (.int .u64 (wd g 1)) := fun u => (h1.sub u).cells.2.1
  have d2 : ∀ u : Sub W, u.1.cell? ⟨w.heap.size + 1, 2, none⟩ = some (.int .u64 (wd g 2)) := fun u => (h1.sub u).cells.2.2.1
  have d3 : ∀ u : Sub W, u.1.cell? ⟨w.heap.size + 1, 3, none⟩ = some (.int .u64 (wd g 3)) := fun u => (h1.sub u).cells.2.2.2
  refine wp_region_quiet_all (C := fun w' => ∃ u : Sub W, w' = u.1) (by kernel_rfl) (by kernel_rfl) (InSub.drew W) ?_
  go_big_quiet_step (fail)
  go_big_quiet_step (exact sub_below (tabNot f _))
  go_big_quiet_step (exact sub_below (tabNotNot f _))
  go_big_quiet_step (fail)
  simp only [fv_fold]
  go_big_quiet_step (fail)
  go_big_quiet_step (fail)
  go_big_quiet_step (fail)
  go_big_quiet_step (exact sub_below (tabVar v _ (hlW _)))
  go_big_quiet_step (fail)
  go_big_quiet_step (fail)
  go_big_quiet_step (exact sub_below (tabIteSame (varAny v) f _))
  go_big_quiet_step (fail)
  simp only [fv_fold]
  go_big_quiet_step (fail)
  go_big_quiet_step (fail)
  go_big_quiet_step (fail)
  go_big_quiet_step (fail)
  go_big_quiet_step (fail)
  go_big_quiet_step (exact sub_below (tabAnd f g _))
  go_big_quiet_step (exact sub_below (tabNot (f &&& g) _))
  go_big_quiet_step (fail)
  go_big_quiet_step (exact sub_below (tabNot f _))
  go_big_quiet_step (fail)
  go_big_quiet_step (exact sub_below (tabNot g _))
  go_big_quiet_step (exact sub_below (tabOrNots f g _))
  go_big_quiet_step (fail)
  go_big_quiet_step (fail)
  go_big_quiet_step (fail)
  go_big_quiet_step (fail)
  go_big_quiet_step (fail)
  go_big_quiet_step (exact sub_below (tabXor f g _))
  go_big_quiet_step (fail)
  go_big_quiet_step (fail)
  go_big_quiet_step (exact sub_below (tabNot g _))
  go_big_quiet_step (fail)
  go_big_quiet_step (exact sub_below (tabIteXor f g _))
  go_big_quiet_step (fail)
  go_big_quiet_step (fail)
  refine wpQuiet_nil ?_
  clear c0 c1 c2 c3 d0 d1 d2 d3
  intro w' hw'
  obtain ⟨u, rfl⟩ := hw'
  replace h0 := h0.sub u
  replace h1 := h1.sub u
  replace h2 := h2.sub u
  replace hb := hb.trans (u.2.mono hb.size)
  clear hlW
  generalize u.1 = V at *
  rcases (by omega : x < 0 ∨ 255 < x) with hx0 | hx0
  all_goals
    go_wp2
    go_ret
    exact ⟨rfl, hb⟩

end Go.Proofs.YtekaapceopfelaaDoor
