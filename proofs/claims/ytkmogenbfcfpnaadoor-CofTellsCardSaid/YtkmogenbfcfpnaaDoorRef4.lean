/-
  Walks of the document's Support, Exists, Forall, Compose.
-/
import Derived.Test.YtkmogenbfcfpnaaDoorRef3
namespace Go.Proofs.YtkmogenbfcfpnaaDoor
open Go Go.RowKit

set_option maxRecDepth 100000 in
set_option maxHeartbeats 1000000 in
theorem refSupport (f : Fn) (w : World) :
    Calls Tryd.prog 11 #[fv f] w fun e w' => e = .returned (.int .i64 (supF f)) ∧ Below w.heap.size w w' := by
  simp only [fv]
  go_enter Tryd.func11, Tryd.ntmps11
  go_wp2
  go_loopw [3, 4] (fun s i wr => ∃ j : Nat, j ≤ 8 ∧ i = .int .i64 ((j : Int) - 1) ∧ s = .int .i64 (supFrom f (8 - j) j) ∧ Holds wr w.heap.size f ∧ Below w.heap.size w wr) (fun _ i _ => (intOf i + 1).toNat)
  case atStart => exact ⟨8, Nat.le_refl _, rfl, rfl, Holds.new _ _ _, by go_grown⟩
  case round =>
    obtain ⟨j, hj, rfl, rfl, h0, hb⟩ := hrel
    by_cases hlt : 1 ≤ j
    · obtain ⟨i, rfl⟩ : ∃ i, j = i + 1 := ⟨j - 1, by omega⟩
      have Hs := Lib.hid (show supFrom f (8 - i) i = 2 * supFrom f (8 - (i + 1)) (i + 1) + (if depF f i then 1 else 0) by
        rw [show 8 - i = (8 - (i + 1)) + 1 by omega]; rfl)
      have hs : supFrom f (8 - (i + 1)) (i + 1) < 256 := Nat.lt_of_lt_of_le (supFrom_lt f _ _) (Nat.pow_le_pow_right (n := 2) (j := 8) (by decide) (by omega))
      have hi : i < 8 := by omega
      have ei : ((i + 1 : Nat) : Int) - 1 = (i : Int) := by omega
      rw [ei]
      clear ei
      generalize supFrom f (8 - (i + 1)) (i + 1) = y at *
      obtain ⟨c0, c1, c2, c3⟩ := h0.cells
      go_wp2_with fail
      clear c0 c1 c2 c3
      refine (refDepends f i _).mono ?_
      rw [depAny, if_pos (by omega), Int.toNat_natCast]
      rintro e w1 ⟨rfl, hb1⟩
      have k0 := h0.keep hb1 h0.lt
      have kb := hb.trans (hb1.mono hb.size)
      clear h0 hb hb1
      cases hd : depF f i
      · rw [hd] at Hs
        go_wp2
        exact ⟨⟨i, by omega, by go_num, by rw [Hs.out]; rfl, k0, kb⟩, by simp [intOf]⟩
      · rw [hd] at Hs
        go_wp2
        exact ⟨⟨i, by omega, by go_num, by rw [Hs.out]; rfl, k0, kb⟩, by simp [intOf]⟩
    · obtain rfl : j = 0 := by omega
      go_wp2
      go_ret
      exact ⟨rfl, hb⟩

set_option maxRecDepth 100000 in
set_option maxHeartbeats 1000000 in
theorem refExists (f : Fn) (v : Int) (w : World) :
    Calls Tryd.prog 15 #[fv f, .int .i64 v] w fun e w' => e = .returned (fv (cofAny f v false ||| cofAny f v true)) ∧ Below w.heap.size w w' := by
  simp only [fv]
  go_enter Tryd.func15, Tryd.ntmps15
  go_wp2
  have h0 : Holds ((w.alloc (.cells #[.int .u64 (wd f 0), .int .u64 (wd f 1), .int .u64 (wd f 2), .int .u64 (wd f 3)] 24)).alloc (.cells #[.int .u64 0, .int .u64 0, .int .u64 0, .int .u64 0] 24)) w.heap.size f := (Holds.new _ _ _).alloc _
  have h1 : Holds ((w.alloc (.cells #[.int .u64 (wd f 0), .int .u64 (wd f 1), .int .u64 (wd f 2), .int .u64 (wd f 3)] 24)).alloc (.cells #[.int .u64 0, .int .u64 0, .int .u64 0, .int .u64 0] 24)) (w.heap.size + 1) 0#256 := Holds.new0 _ _
  have hb : Below w.heap.size w ((w.alloc (.cells #[.int .u64 (wd f 0), .int .u64 (wd f 1), .int .u64 (wd f 2), .int .u64 (wd f 3)] 24)).alloc (.cells #[.int .u64 0, .int .u64 0, .int .u64 0, .int .u64 0] 24)) := by go_grown
  generalize (w.alloc (.cells #[.int .u64 (wd f 0), .int .u64 (wd f 1), .int .u64 (wd f 2), .int .u64 (wd f 3)] 24)).alloc (.cells #[.int .u64 0, .int .u64 0, .int .u64 0, .int .u64 0] 24) = W at *
  have c0 : ∀ u : Sub W, u.1.cell? ⟨w.heap.size, 0, none⟩ = some (.int .u64 (wd f 0)) := fun u => (h0.sub u).cells.1
  have c1 : ∀ u : Sub W, u.1.cell? ⟨w.heap.size, 1, none⟩ = some (.int .u64 (wd f 1)) := fun u => (h0.sub u).cells.2.1
  have c2 : ∀ u : Sub W, u.1.cell? ⟨w.heap.size, 2, none⟩ = some (.int .u64 (wd f 2)) := fun u => (h0.sub u).cells.2.2.1
  have c3 : ∀ u : Sub W, u.1.cell? ⟨w.heap.size, 3, none⟩ = some (.int .u64 (wd f 3)) := fun u => (h0.sub u).cells.2.2.2
  refine wp_region_quiet_tail (C := fun w' => ∃ u : Sub W, w' = u.1) 7 (by kernel_rfl) (by kernel_rfl) (InSub.drew W) ?_
  simp only [List.take_succ_cons, List.take_zero, List.drop_succ_cons, List.drop_zero]
  iterate 2 (go_big_quiet_step (fail))
  go_big_quiet_step (exact sub_below (refCof f v false _))
  iterate 2 (go_big_quiet_step (fail))
  go_big_quiet_step (exact sub_below (refCof f v true _))
  go_big_quiet_step (exact sub_below (refOr (cofAny f v false) (cofAny f v true) _))
  refine wpQuiet_nil ?_
  generalize hr : (cofAny f v false ||| cofAny f v true) = r
  have Hr := Lib.hid hr
  clear hr c0 c1 c2 c3
  intro w' hw'
  obtain ⟨u, rfl⟩ := hw'
  have k := h1.sub u
  have hb2 := hb.trans (u.2.mono hb.size)
  generalize u.1 = w1 at *
  obtain ⟨c0, c1, c2, c3⟩ := k.cells
  obtain ⟨z0, z1, z2, z3⟩ := k.free
  simp only [fv]
  go_wp2
  exact bodyPost_ret (ret_holds Tryd.results15 rfl (k.set4 r)) rfl ⟨by rw [Hr.out]; rfl, below_set4 hb2 (by omega)⟩

set_option maxRecDepth 100000 in
set_option maxHeartbeats 1000000 in
theorem refForall (f : Fn) (v : Int) (w : World) :
    Calls Tryd.prog 17 #[fv f, .int .i64 v] w fun e w' => e = .returned (fv (cofAny f v false &&& cofAny f v true)) ∧ Below w.heap.size w w' := by
  simp only [fv]
  go_enter Tryd.func17, Tryd.ntmps17
  go_wp2
  have h0 : Holds ((w.alloc (.cells #[.int .u64 (wd f 0), .int .u64 (wd f 1), .int .u64 (wd f 2), .int .u64 (wd f 3)] 24)).alloc (.cells #[.int .u64 0, .int .u64 0, .int .u64 0, .int .u64 0] 24)) w.heap.size f := (Holds.new _ _ _).alloc _
  have h1 : Holds ((w.alloc (.cells #[.int .u64 (wd f 0), .int .u64 (wd f 1), .int .u64 (wd f 2), .int .u64 (wd f 3)] 24)).alloc (.cells #[.int .u64 0, .int .u64 0, .int .u64 0, .int .u64 0] 24)) (w.heap.size + 1) 0#256 := Holds.new0 _ _
  have hb : Below w.heap.size w ((w.alloc (.cells #[.int .u64 (wd f 0), .int .u64 (wd f 1), .int .u64 (wd f 2), .int .u64 (wd f 3)] 24)).alloc (.cells #[.int .u64 0, .int .u64 0, .int .u64 0, .int .u64 0] 24)) := by go_grown
  generalize (w.alloc (.cells #[.int .u64 (wd f 0), .int .u64 (wd f 1), .int .u64 (wd f 2), .int .u64 (wd f 3)] 24)).alloc (.cells #[.int .u64 0, .int .u64 0, .int .u64 0, .int .u64 0] 24) = W at *
  have c0 : ∀ u : Sub W, u.1.cell? ⟨w.heap.size, 0, none⟩ = some (.int .u64 (wd f 0)) := fun u => (h0.sub u).cells.1
  have c1 : ∀ u : Sub W, u.1.cell? ⟨w.heap.size, 1, none⟩ = some (.int .u64 (wd f 1)) := fun u => (h0.sub u).cells.2.1
  have c2 : ∀ u : Sub W, u.1.cell? ⟨w.heap.size, 2, none⟩ = some (.int .u64 (wd f 2)) := fun u => (h0.sub u).cells.2.2.1
  have c3 : ∀ u : Sub W, u.1.cell? ⟨w.heap.size, 3, none⟩ = some (.int .u64 (wd f 3)) := fun u => (h0.sub u).cells.2.2.2
  refine wp_region_quiet_tail (C := fun w' => ∃ u : Sub W, w' = u.1) 7 (by kernel_rfl) (by kernel_rfl) (InSub.drew W) ?_
  simp only [List.take_succ_cons, List.take_zero, List.drop_succ_cons, List.drop_zero]
  iterate 2 (go_big_quiet_step (fail))
  go_big_quiet_step (exact sub_below (refCof f v false _))
  iterate 2 (go_big_quiet_step (fail))
  go_big_quiet_step (exact sub_below (refCof f v true _))
  go_big_quiet_step (exact sub_below (refAnd (cofAny f v false) (cofAny f v true) _))
  refine wpQuiet_nil ?_
  generalize hr : (cofAny f v false &&& cofAny f v true) = r
  have Hr := Lib.hid hr
  clear hr c0 c1 c2 c3
  intro w' hw'
  obtain ⟨u, rfl⟩ := hw'
  have k := h1.sub u
  have hb2 := hb.trans (u.2.mono hb.size)
  generalize u.1 = w1 at *
  obtain ⟨c0, c1, c2, c3⟩ := k.cells
  obtain ⟨z0, z1, z2, z3⟩ := k.free
  simp only [fv]
  go_wp2
  exact bodyPost_ret (ret_holds Tryd.results17 rfl (k.set4 r)) rfl ⟨by rw [Hr.out]; rfl, below_set4 hb2 (by omega)⟩

/-- With g in variable v's place. -/
def compF (f : Fn) (v : Int) (g : Fn) : Fn := g &&& cofAny f v true ||| ~~~g &&& cofAny f v false

set_option maxRecDepth 100000 in
set_option maxHeartbeats 1000000 in
theorem refCompose (f : Fn) (v : Int) (g : Fn) (w : World) :
    Calls Tryd.prog 19 #[fv f, .int .i64 v, fv g] w fun e w' => e = .returned (fv (compF f v g)) ∧ Below w.heap.size w w' := by
  simp only [fv]
  go_enter Tryd.func19, Tryd.ntmps19
  go_wp2
  have h0 : Holds (((w.alloc (.cells #[.int .u64 (wd f 0), .int .u64 (wd f 1), .int .u64 (wd f 2), .int .u64 (wd f 3)] 24)).alloc (.cells #[.int .u64 (wd g 0), .int .u64 (wd g 1), .int .u64 (wd g 2), .int .u64 (wd g 3)] 24)).alloc (.cells #[.int .u64 0, .int .u64 0, .int .u64 0, .int .u64 0] 24)) w.heap.size f := ((Holds.new _ _ _).alloc _).alloc _
  have hg0 : Holds (((w.alloc (.cells #[.int .u64 (wd f 0), .int .u64 (wd f 1), .int .u64 (wd f 2), .int .u64 (wd f 3)] 24)).alloc (.cells #[.int .u64 (wd g 0), .int .u64 (wd g 1), .int .u64 (wd g 2), .int .u64 (wd g 3)] 24)).alloc (.cells #[.int .u64 0, .int .u64 0, .int .u64 0, .int .u64 0] 24)) (w.heap.size + 1) g := (Holds.new _ _ _).alloc _
  have h1 : Holds (((w.alloc (.cells #[.int .u64 (wd f 0), .int .u64 (wd f 1), .int .u64 (wd f 2), .int .u64 (wd f 3)] 24)).alloc (.cells #[.int .u64 (wd g 0), .int .u64 (wd g 1), .int .u64 (wd g 2), .int .u64 (wd g 3)] 24)).alloc (.cells #[.int .u64 0, .int .u64 0, .int .u64 0, .int .u64 0] 24)) (w.heap.size + 1 + 1) 0#256 := Holds.new0 _ _
  have hb : Below w.heap.size w (((w.alloc (.cells #[.int .u64 (wd f 0), .int .u64 (wd f 1), .int .u64 (wd f 2), .int .u64 (wd f 3)] 24)).alloc (.cells #[.int .u64 (wd g 0), .int .u64 (wd g 1), .int .u64 (wd g 2), .int .u64 (wd g 3)] 24)).alloc (.cells #[.int .u64 0, .int .u64 0, .int .u64 0, .int .u64 0] 24)) := by go_grown
  generalize (((w.alloc (.cells #[.int .u64 (wd f 0), .int .u64 (wd f 1), .int .u64 (wd f 2), .int .u64 (wd f 3)] 24)).alloc (.cells #[.int .u64 (wd g 0), .int .u64 (wd g 1), .int .u64 (wd g 2), .int .u64 (wd g 3)] 24)).alloc (.cells #[.int .u64 0, .int .u64 0, .int .u64 0, .int .u64 0] 24)) = W at *
  have c0 : ∀ u : Sub W, u.1.cell? ⟨w.heap.size, 0, none⟩ = some (.int .u64 (wd f 0)) := fun u => (h0.sub u).cells.1
  have c1 : ∀ u : Sub W, u.1.cell? ⟨w.heap.size, 1, none⟩ = some (.int .u64 (wd f 1)) := fun u => (h0.sub u).cells.2.1
  have c2 : ∀ u : Sub W, u.1.cell? ⟨w.heap.size, 2, none⟩ = some (.int .u64 (wd f 2)) := fun u => (h0.sub u).cells.2.2.1
  have c3 : ∀ u : Sub W, u.1.cell? ⟨w.heap.size, 3, none⟩ = some (.int .u64 (wd f 3)) := fun u => (h0.sub u).cells.2.2.2
  have d0 : ∀ u : Sub W, u.1.cell? ⟨w.heap.size + 1, 0, none⟩ = some (.int .u64 (wd g 0)) := fun u => (hg0.sub u).cells.1
  have d1 : ∀ u : Sub W, u.1.cell? ⟨w.heap.size + 1, 1, none⟩ = some (.int .u64 (wd g 1)) := fun u => (hg0.sub u).cells.2.1
  have d2 : ∀ u : Sub W, u.1.cell? ⟨w.heap.size + 1, 2, none⟩ = some (.int .u64 (wd g 2)) := fun u => (hg0.sub u).cells.2.2.1
  have d3 : ∀ u : Sub W, u.1.cell? ⟨w.heap.size + 1, 3, none⟩ = some (.int .u64 (wd g 3)) := fun u => (hg0.sub u).cells.2.2.2
  refine wp_region_quiet_tail (C := fun w' => ∃ u : Sub W, w' = u.1) 8 (by kernel_rfl) (by kernel_rfl) (InSub.drew W) ?_
  simp only [List.take_succ_cons, List.take_zero, List.drop_succ_cons, List.drop_zero]
  iterate 3 (go_big_quiet_step (fail))
  go_big_quiet_step (exact sub_below (refCof f v true _))
  iterate 2 (go_big_quiet_step (fail))
  go_big_quiet_step (exact sub_below (refCof f v false _))
  go_big_quiet_step (exact sub_below (refIte g (cofAny f v true) (cofAny f v false) _))
  refine wpQuiet_nil ?_
  generalize hr : (g &&& cofAny f v true ||| ~~~g &&& cofAny f v false) = r
  have Hr := Lib.hid (show compF f v g = r from hr)
  clear hr c0 c1 c2 c3 d0 d1 d2 d3
  intro w' hw'
  obtain ⟨u, rfl⟩ := hw'
  have k := h1.sub u
  have hb2 := hb.trans (u.2.mono hb.size)
  generalize u.1 = w1 at *
  obtain ⟨c0, c1, c2, c3⟩ := k.cells
  obtain ⟨z0, z1, z2, z3⟩ := k.free
  simp only [fv]
  go_wp2
  exact bodyPost_ret (ret_holds Tryd.results19 rfl (k.set4 r)) rfl ⟨by rw [Hr.out]; rfl, below_set4 hb2 (by omega)⟩

end Go.Proofs.YtkmogenbfcfpnaaDoor
