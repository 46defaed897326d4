/-
  Walks of the document's Not, And, Or, Xor.
-/
import Derived.Test.YtkmogenbfcfpnaaDoorRefIte
namespace Go.Proofs.YtkmogenbfcfpnaaDoor
open Go Go.RowKit

set_option maxRecDepth 100000 in
set_option maxHeartbeats 400000 in
theorem refAnd0 (f g : Fn) (w : World) :
    Calls Tryd.prog 33 #[fv f, fv g] w fun e w' => e = .returned (fv (f &&& g ||| ~~~f &&& f)) ∧ Below w.heap.size w w' := by
  simp only [fv]
  go_enter Tryd.func33, Tryd.ntmps33
  go_wp2_with fail
  refine (refIte f g f _).mono ?_
  generalize hr : (f &&& g ||| ~~~f &&& f) = r
  have Hr := Lib.hid hr
  clear hr
  rintro e w1 ⟨rfl, hb1⟩
  have k := (Holds.new0 ((w.alloc (.cells #[.int .u64 (wd f 0), .int .u64 (wd f 1), .int .u64 (wd f 2), .int .u64 (wd f 3)] 24)).alloc (.cells #[.int .u64 (wd g 0), .int .u64 (wd g 1), .int .u64 (wd g 2), .int .u64 (wd g 3)] 24)) (w.heap.size + 1 + 1)).keep hb1 (by simp)
  have hb2 : Below w.heap.size w w1 := below_from hb1 (by go_grown)
  clear hb1
  obtain ⟨c0, c1, c2, c3⟩ := k.cells
  obtain ⟨z0, z1, z2, z3⟩ := k.free
  simp only [fv]
  go_wp2
  exact bodyPost_ret (ret_holds Tryd.results33 rfl (k.set4 r)) rfl ⟨by rw [Hr.out]; rfl, below_set4 hb2 (by omega)⟩

set_option maxRecDepth 100000 in
set_option maxHeartbeats 400000 in
theorem refOr0 (f g : Fn) (w : World) :
    Calls Tryd.prog 32 #[fv f, fv g] w fun e w' => e = .returned (fv (f &&& f ||| ~~~f &&& g)) ∧ Below w.heap.size w w' := by
  simp only [fv]
  go_enter Tryd.func32, Tryd.ntmps32
  go_wp2_with fail
  refine (refIte f f g _).mono ?_
  generalize hr : (f &&& f ||| ~~~f &&& g) = r
  have Hr := Lib.hid hr
  clear hr
  rintro e w1 ⟨rfl, hb1⟩
  have k := (Holds.new0 ((w.alloc (.cells #[.int .u64 (wd f 0), .int .u64 (wd f 1), .int .u64 (wd f 2), .int .u64 (wd f 3)] 24)).alloc (.cells #[.int .u64 (wd g 0), .int .u64 (wd g 1), .int .u64 (wd g 2), .int .u64 (wd g 3)] 24)) (w.heap.size + 1 + 1)).keep hb1 (by simp)
  have hb2 : Below w.heap.size w w1 := below_from hb1 (by go_grown)
  clear hb1
  obtain ⟨c0, c1, c2, c3⟩ := k.cells
  obtain ⟨z0, z1, z2, z3⟩ := k.free
  simp only [fv]
  go_wp2
  exact bodyPost_ret (ret_holds Tryd.results32 rfl (k.set4 r)) rfl ⟨by rw [Hr.out]; rfl, below_set4 hb2 (by omega)⟩

theorem refAnd (f g : Fn) (w : World) : Calls Tryd.prog 33 #[fv f, fv g] w fun e w' => e = .returned (fv (f &&& g)) ∧ Below w.heap.size w w' := by
  have e : (f &&& g ||| ~~~f &&& f) = (f &&& g) := fn_ext fun x hx => by simp
  have h := refAnd0 f g w
  rwa [e] at h

theorem refOr (f g : Fn) (w : World) : Calls Tryd.prog 32 #[fv f, fv g] w fun e w' => e = .returned (fv (f ||| g)) ∧ Below w.heap.size w w' := by
  have e : (f &&& f ||| ~~~f &&& g) = (f ||| g) := fn_ext fun x hx => by simp [hx]; cases f[x] <;> simp
  have h := refOr0 f g w
  rwa [e] at h

theorem ofRow_const (b : Bool) : ofRow (fun _ => b) = if b then BitVec.allOnes 256 else 0#256 := fn_ext fun x hx => by
  rw [ofRow_bit _ _ hx]
  cases b with
  | false => rw [if_neg (by decide)]; exact (BitVec.getLsbD_zero).symm
  | true => rw [if_pos rfl, BitVec.getLsbD_allOnes]; exact (decide_eq_true hx).symm





end Go.Proofs.YtkmogenbfcfpnaaDoor
