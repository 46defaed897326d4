/-
  Walks of the document's Not, And, Or, Xor.
-/
import Derived.Test.YtekaapceopfelaaDoorRefIte
namespace Go.Proofs.YtekaapceopfelaaDoor
open Go Go.RowKit

set_option maxRecDepth 100000 in
set_option maxHeartbeats 400000 in
theorem refAnd0 (f g : Fn) (w : World) :
    Calls Tryd.prog 15 #[fv f, fv g] w fun e w' => e = .returned (fv (f &&& g ||| ~~~f &&& f)) ∧ Below w.heap.size w w' := by
  simp only [fv]
  go_enter Tryd.func15, Tryd.ntmps15
  go_wp2_with fail
  refine (refIte f g f _).mono ?_
  generalize hr : (f &&& g ||| ~~~f &&& f) = r
  have Hr := Lib.hid hr
  clear hr
  rintro e w1 ⟨rfl, hb1⟩
  have k := (Holds.new0 ((w.alloc (.cells #[.int .u64 (wd f 0), .int .u64 (wd f 1), .int .u64 (wd f 2), .int .u64 (wd f 3)] 24)).alloc (.cells #[.int .u64 (wd g 0), .int .u64 (wd g 1), .int .u64 (wd g 2), .int .u64 (wd g 3)] 24)) (w.heap.size + 1 + 1)).keep hb1 (by simp)
  have hb2 : Below w.heap.size w w1 := below_from hb1 (by go_grown)
  clear hb1
  obtain ⟨c0, c1, c2, c3⟩ := k.cells
  obtain ⟨z0, z1, z2, z3⟩ := k.free
  simp only [fv]
  go_wp2
  exact bodyPost_ret (ret_holds Tryd.results15 rfl (k.set4 r)) rfl ⟨by rw [Hr.out]; rfl, below_set4 hb2 (by omega)⟩

set_option maxRecDepth 100000 in
set_option maxHeartbeats 400000 in
theorem refOr0 (f g : Fn) (w : World) :
    Calls Tryd.prog 17 #[fv f, fv g] w fun e w' => e = .returned (fv (f &&& f ||| ~~~f &&& g)) ∧ Below w.heap.size w w' := by
  simp only [fv]
  go_enter Tryd.func17, Tryd.ntmps17
  go_wp2_with fail
  refine (refIte f f g _).mono ?_
  generalize hr : (f &&& f ||| ~~~f &&& g) = r
  have Hr := Lib.hid hr
  clear hr
  rintro e w1 ⟨rfl, hb1⟩
  have k := (Holds.new0 ((w.alloc (.cells #[.int .u64 (wd f 0), .int .u64 (wd f 1), .int .u64 (wd f 2), .int .u64 (wd f 3)] 24)).alloc (.cells #[.int .u64 (wd g 0), .int .u64 (wd g 1), .int .u64 (wd g 2), .int .u64 (wd g 3)] 24)) (w.heap.size + 1 + 1)).keep hb1 (by simp)
  have hb2 : Below w.heap.size w w1 := below_from hb1 (by go_grown)
  clear hb1
  obtain ⟨c0, c1, c2, c3⟩ := k.cells
  obtain ⟨z0, z1, z2, z3⟩ := k.free
  simp only [fv]
  go_wp2
  exact bodyPost_ret (ret_holds Tryd.results17 rfl (k.set4 r)) rfl ⟨by rw [Hr.out]; rfl, below_set4 hb2 (by omega)⟩

theorem refAnd (f g : Fn) (w : World) : Calls Tryd.prog 15 #[fv f, fv g] w fun e w' => e = .returned (fv (f &&& g)) ∧ Below w.heap.size w w' := by
  have e : (f &&& g ||| ~~~f &&& f) = (f &&& g) := fn_ext fun x hx => by simp
  have h := refAnd0 f g w
  rwa [e] at h

theorem refOr (f g : Fn) (w : World) : Calls Tryd.prog 17 #[fv f, fv g] w fun e w' => e = .returned (fv (f ||| g)) ∧ Below w.heap.size w w' := by
  have e : (f &&& f ||| ~~~f &&& g) = (f ||| g) := fn_ext fun x hx => by simp [hx]; cases f[x] <;> simp
  have h := refOr0 f g w
  rwa [e] at h

theorem ofRow_const (b : Bool) : ofRow (fun _ => b) = if b then BitVec.allOnes 256 else 0#256 := fn_ext fun x hx => by
  rw [ofRow_bit _ _ hx]
  cases b with
  | false => rw [if_neg (by decide)]; exact (BitVec.getLsbD_zero).symm
  | true => rw [if_pos rfl, BitVec.getLsbD_allOnes]; exact (decide_eq_true hx).symm

set_option maxRecDepth 100000 in
set_option maxHeartbeats 400000 in
theorem refNot0 (f : Fn) (w : World) :
    Calls Tryd.prog 13 #[fv f] w fun e w' => e = .returned (fv (f &&& ofRow (fun _ => false) ||| ~~~f &&& ofRow (fun _ => true))) ∧ Below w.heap.size w w' := by
  simp only [fv]
  go_enter Tryd.func13, Tryd.ntmps13
  go_wp2
  have h0 : Holds ((w.alloc (.cells #[.int .u64 (wd f 0), .int .u64 (wd f 1), .int .u64 (wd f 2), .int .u64 (wd f 3)] 24)).alloc (.cells #[.int .u64 0, .int .u64 0, .int .u64 0, .int .u64 0] 24)) w.heap.size f := (Holds.new _ _ _).alloc _
  have h1 : Holds ((w.alloc (.cells #[.int .u64 (wd f 0), .int .u64 (wd f 1), .int .u64 (wd f 2), .int .u64 (wd f 3)] 24)).alloc (.cells #[.int .u64 0, .int .u64 0, .int .u64 0, .int .u64 0] 24)) (w.heap.size + 1) 0#256 := Holds.new0 _ _
  have hb : Below w.heap.size w ((w.alloc (.cells #[.int .u64 (wd f 0), .int .u64 (wd f 1), .int .u64 (wd f 2), .int .u64 (wd f 3)] 24)).alloc (.cells #[.int .u64 0, .int .u64 0, .int .u64 0, .int .u64 0] 24)) := by go_grown
  generalize (w.alloc (.cells #[.int .u64 (wd f 0), .int .u64 (wd f 1), .int .u64 (wd f 2), .int .u64 (wd f 3)] 24)).alloc (.cells #[.int .u64 0, .int .u64 0, .int .u64 0, .int .u64 0] 24) = W at *
  have c0 : ∀ u : Sub W, u.1.cell? ⟨w.heap.size, 0, none⟩ = some (.int .u64 (wd f 0)) := fun u => (h0.sub u).cells.1
  have c1 : ∀ u : Sub W, u.1.cell? ⟨w.heap.size, 1, none⟩ = some (.int .u64 (wd f 1)) := fun u => (h0.sub u).cells.2.1
  have c2 : ∀ u : Sub W, u.1.cell? ⟨w.heap.size, 2, none⟩ = some (.int .u64 (wd f 2)) := fun u => (h0.sub u).cells.2.2.1
  have c3 : ∀ u : Sub W, u.1.cell? ⟨w.heap.size, 3, none⟩ = some (.int .u64 (wd f 3)) := fun u => (h0.sub u).cells.2.2.2
  refine wp_region_quiet_tail (C := fun w' => ∃ u : Sub W, w' = u.1) 4 (by kernel_rfl) (by kernel_rfl) (InSub.drew W) ?_
  simp only [List.take_succ_cons, List.take_zero, List.drop_succ_cons, List.drop_zero]
  go_big_quiet_step (fail)
  go_big_quiet_step (exact sub_below (refConst false _))
  go_big_quiet_step (exact sub_below (refConst true _))
  go_big_quiet_step (exact sub_below (refIte f (ofRow fun _ => false) (ofRow fun _ => true) _))
  refine wpQuiet_nil ?_
  generalize hr : (f &&& ofRow (fun _ => false) ||| ~~~f &&& ofRow (fun _ => true)) = r
  have Hr := Lib.hid hr
  clear hr c0 c1 c2 c3
  intro w' hw'
  obtain ⟨u, rfl⟩ := hw'
  have k := h1.sub u
  have hb2 := hb.trans (u.2.mono hb.size)
  generalize u.1 = w1 at *
  obtain ⟨c0, c1, c2, c3⟩ := k.cells
  obtain ⟨z0, z1, z2, z3⟩ := k.free
  simp only [fv]
  go_wp2
  exact bodyPost_ret (ret_holds Tryd.results13 rfl (k.set4 r)) rfl ⟨by rw [Hr.out]; rfl, below_set4 hb2 (by omega)⟩

theorem refNot (f : Fn) (w : World) : Calls Tryd.prog 13 #[fv f] w fun e w' => e = .returned (fv (~~~f)) ∧ Below w.heap.size w w' := by
  have e : (f &&& ofRow (fun _ => false) ||| ~~~f &&& ofRow (fun _ => true)) = ~~~f := fn_ext fun x hx => by
    simp only [BitVec.getLsbD_or, BitVec.getLsbD_and, BitVec.getLsbD_not, ofRow_bit _ _ hx]; simp [hx]
  have h := refNot0 f w
  rwa [e] at h

set_option maxRecDepth 100000 in
set_option maxHeartbeats 400000 in
theorem refXor0 (f g : Fn) (w : World) :
    Calls Tryd.prog 19 #[fv f, fv g] w fun e w' => e = .returned (fv (f &&& ~~~g ||| ~~~f &&& g)) ∧ Below w.heap.size w w' := by
  simp only [fv]
  go_enter Tryd.func19, Tryd.ntmps19
  go_wp2
  have h0 : Holds (((w.alloc (.cells #[.int .u64 (wd f 0), .int .u64 (wd f 1), .int .u64 (wd f 2), .int .u64 (wd f 3)] 24)).alloc (.cells #[.int .u64 (wd g 0), .int .u64 (wd g 1), .int .u64 (wd g 2), .int .u64 (wd g 3)] 24)).alloc (.cells #[.int .u64 0, .int .u64 0, .int .u64 0, .int .u64 0] 24)) w.heap.size f := ((Holds.new _ _ _).alloc _).alloc _
  have hg0 : Holds (((w.alloc (.cells #[.int .u64 (wd f 0), .int .u64 (wd f 1), .int .u64 (wd f 2), .int .u64 (wd f 3)] 24)).alloc (.cells #[.int .u64 (wd g 0), .int .u64 (wd g 1), .int .u64 (wd g 2), .int .u64 (wd g 3)] 24)).alloc (.cells #[.int .u64 0, .int .u64 0, .int .u64 0, .int .u64 0] 24)) (w.heap.size + 1) g := (Holds.new _ _ _).alloc _
  have h1 : Holds (((w.alloc (.cells #[.int .u64 (wd f 0), .int .u64 (wd f 1), .int .u64 (wd f 2), .int .u64 (wd f 3)] 24)).alloc (.cells #[.int .u64 (wd g 0), .int .u64 (wd g 1), .int .u64 (wd g 2), .int .u64 (wd g 3)] 24)).alloc (.cells #[.int .u64 0, .int .u64 0, .int .u64 0, .int .u64 0] 24)) (w.heap.size + 1 + 1) 0#256 := Holds.new0 _ _
  have hb : Below w.heap.size w (((w.alloc (.cells #[.int .u64 (wd f 0), .int .u64 (wd f 1), .int .u64 (wd f 2), .int .u64 (wd f 3)] 24)).alloc (.cells #[.int .u64 (wd g 0), .int .u64 (wd g 1), .int .u64 (wd g 2), .int .u64 (wd g 3)] 24)).alloc (.cells #[.int .u64 0, .int .u64 0, .int .u64 0, .int .u64 0] 24)) := by go_grown
  generalize ((w.alloc (.cells #[.int .u64 (wd f 0), .int .u64 (wd f 1), .int .u64 (wd f 2), .int .u64 (wd f 3)] 24)).alloc (.cells #[.int .u64 (wd g 0), .int .u64 (wd g 1), .int .u64 (wd g 2), .int .u64 (wd g 3)] 24)).alloc (.cells #[.int .u64 0, .int .u64 0, .int .u64 0, .int .u64 0] 24) = W at *
  have c0 : ∀ u : Sub W, u.1.cell? ⟨w.heap.size, 0, none⟩ = some (.int .u64 (wd f 0)) := fun u => (h0.sub u).cells.1
  have c1 : ∀ u : Sub W, u.1.cell? ⟨w.heap.size, 1, none⟩ = some (.int .u64 (wd f 1)) := fun u => (h0.sub u).cells.2.1
  have c2 : ∀ u : Sub W, u.1.cell? ⟨w.heap.size, 2, none⟩ = some (.int .u64 (wd f 2)) := fun u => (h0.sub u).cells.2.2.1
  have c3 : ∀ u : Sub W, u.1.cell? ⟨w.heap.size, 3, none⟩ = some (.int .u64 (wd f 3)) := fun u => (h0.sub u).cells.2.2.2
  have d0 : ∀ u : Sub W, u.1.cell? ⟨w.heap.size + 1, 0, none⟩ = some (.int .u64 (wd g 0)) := fun u => (hg0.sub u).cells.1
  have d1 : ∀ u : Sub W, u.1.cell? ⟨w.heap.size + 1, 1, none⟩ = some (.int .u64 (wd g 1)) := fun u => (hg0.sub u).cells.2.1
  have d2 : ∀ u : Sub W, u.1.cell? ⟨w.heap.size + 1, 2, none⟩ = some (.int .u64 (wd g 2)) := fun u => (hg0.sub u).cells.2.2.1
  have d3 : ∀ u : Sub W, u.1.cell? ⟨w.heap.size + 1, 3, none⟩ = some (.int .u64 (wd g 3)) := fun u => (hg0.sub u).cells.2.2.2
  refine wp_region_quiet_tail (C := fun w' => ∃ u : Sub W, w' = u.1) 5 (by kernel_rfl) (by kernel_rfl) (InSub.drew W) ?_
  simp only [List.take_succ_cons, List.take_zero, List.drop_succ_cons, List.drop_zero]
  go_big_quiet_step (fail)
  go_big_quiet_step (fail)
  go_big_quiet_step (exact sub_below (refNot g _))
  go_big_quiet_step (fail)
  go_big_quiet_step (exact sub_below (refIte f (~~~g) g _))
  refine wpQuiet_nil ?_
  generalize hr : (f &&& ~~~g ||| ~~~f &&& g) = r
  have Hr := Lib.hid hr
  clear hr c0 c1 c2 c3 d0 d1 d2 d3
  intro w' hw'
  obtain ⟨u, rfl⟩ := hw'
  have k := h1.sub u
  have hb2 := hb.trans (u.2.mono hb.size)
  generalize u.1 = w1 at *
  obtain ⟨c0, c1, c2, c3⟩ := k.cells
  obtain ⟨z0, z1, z2, z3⟩ := k.free
  simp only [fv]
  go_wp2
  exact bodyPost_ret (ret_holds Tryd.results19 rfl (k.set4 r)) rfl ⟨by rw [Hr.out]; rfl, below_set4 hb2 (by omega)⟩

theorem refXor (f g : Fn) (w : World) : Calls Tryd.prog 19 #[fv f, fv g] w fun e w' => e = .returned (fv (f ^^^ g)) ∧ Below w.heap.size w w' := by
  have e : (f &&& ~~~g ||| ~~~f &&& g) = (f ^^^ g) := fn_ext fun x hx => by simp [hx]; cases f[x] <;> cases g[x] <;> rfl
  have h := refXor0 f g w
  rwa [e] at h

end Go.Proofs.YtekaapceopfelaaDoor
