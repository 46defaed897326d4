/-
  Walks of package cof: by words.
-/
import Derived.Test.YtgccgjeehggagaaDoorMath2c
import Derived.Test.YtgccgjeehggagaaDoorEq
import Derived.Test.YtgccgjeehggagaaDoorTame
namespace Go.Proofs.YtgccgjeehggagaaDoor
open Go Go.RowKit
attribute [local go_sem] run_eql_fv run_neq_fv run_guard_fv setCell_drewN alloc_drewN

theorem bits_or_0_1 : bits .or .i64 0 1 = 1 := by decide +kernel
theorem bits_or_0_2 : bits .or .i64 0 2 = 2 := by decide +kernel
theorem bits_or_1_1 : bits .or .i64 1 1 = 1 := by decide +kernel
theorem bits_or_1_2 : bits .or .i64 1 2 = 3 := by decide +kernel
theorem bits_or_2_1 : bits .or .i64 2 1 = 3 := by decide +kernel
theorem bits_or_2_2 : bits .or .i64 2 2 = 2 := by decide +kernel
theorem bits_or_3_1 : bits .or .i64 3 1 = 3 := by decide +kernel
theorem bits_or_3_2 : bits .or .i64 3 2 = 3 := by decide +kernel
theorem bits_an_0_1 : bits .andNot .i64 0 1 = 0 := by decide +kernel
theorem bits_an_0_2 : bits .andNot .i64 0 2 = 0 := by decide +kernel
theorem bits_an_1_1 : bits .andNot .i64 1 1 = 0 := by decide +kernel
theorem bits_an_1_2 : bits .andNot .i64 1 2 = 1 := by decide +kernel
theorem bits_an_2_1 : bits .andNot .i64 2 1 = 2 := by decide +kernel
theorem bits_an_2_2 : bits .andNot .i64 2 2 = 0 := by decide +kernel
theorem bits_an_3_1 : bits .andNot .i64 3 1 = 2 := by decide +kernel
theorem bits_an_3_2 : bits .andNot .i64 3 2 = 1 := by decide +kernel
attribute [local go_sem] bits_or_0_1 bits_or_0_2 bits_or_1_1 bits_or_1_2 bits_or_2_1 bits_or_2_2 bits_or_3_1 bits_or_3_2 bits_an_0_1 bits_an_0_2 bits_an_1_1 bits_an_1_2 bits_an_2_1 bits_an_2_2 bits_an_3_1 bits_an_3_2

/-- Block b is a variable that holds four words. -/
def Has4 (w : World) (b : Nat) (x0 x1 x2 x3 : Int) : Prop := w.heap[b]? = some (.cells #[.int .u64 x0, .int .u64 x1, .int .u64 x2, .int .u64 x3] 26 (0, 0))

theorem Holds.has4 {w : World} {b : Nat} {f : Fn} (h : Holds w b f) : Has4 w b (wd f 0) (wd f 1) (wd f 2) (wd f 3) := h
theorem Has4.cells {w : World} {b : Nat} {x0 x1 x2 x3 : Int} (h : Has4 w b x0 x1 x2 x3) :
    w.cell? ⟨b, 0, none⟩ = some (.int .u64 x0) ∧ w.cell? ⟨b, 1, none⟩ = some (.int .u64 x1) ∧ w.cell? ⟨b, 2, none⟩ = some (.int .u64 x2) ∧ w.cell? ⟨b, 3, none⟩ = some (.int .u64 x3) :=
  ⟨cell_of_row _ _ _ _ _ _ h, cell_of_row _ _ _ _ _ _ h, cell_of_row _ _ _ _ _ _ h, cell_of_row _ _ _ _ _ _ h⟩
theorem Has4.free {w : World} {b : Nat} {x0 x1 x2 x3 : Int} (h : Has4 w b x0 x1 x2 x3) :
    w.frozen? ⟨b, 0, none⟩ = false ∧ w.frozen? ⟨b, 1, none⟩ = false ∧ w.frozen? ⟨b, 2, none⟩ = false ∧ w.frozen? ⟨b, 3, none⟩ = false :=
  ⟨frozen_of_row _ _ _ _ _ h, frozen_of_row _ _ _ _ _ h, frozen_of_row _ _ _ _ _ h, frozen_of_row _ _ _ _ _ h⟩
theorem Has4.set0 {w : World} {b : Nat} {x0 x1 x2 x3 : Int} (h : Has4 w b x0 x1 x2 x3) (y : Int) : Has4 (w.setCell ⟨b, 0, none⟩ (.int .u64 y)) b y x1 x2 x3 := heap_setCell_same _ _ _ _ _ _ h
theorem Has4.set1 {w : World} {b : Nat} {x0 x1 x2 x3 : Int} (h : Has4 w b x0 x1 x2 x3) (y : Int) : Has4 (w.setCell ⟨b, 1, none⟩ (.int .u64 y)) b x0 y x2 x3 := heap_setCell_same _ _ _ _ _ _ h
theorem Has4.set2 {w : World} {b : Nat} {x0 x1 x2 x3 : Int} (h : Has4 w b x0 x1 x2 x3) (y : Int) : Has4 (w.setCell ⟨b, 2, none⟩ (.int .u64 y)) b x0 x1 y x3 := heap_setCell_same _ _ _ _ _ _ h
theorem Has4.set3 {w : World} {b : Nat} {x0 x1 x2 x3 : Int} (h : Has4 w b x0 x1 x2 x3) (y : Int) : Has4 (w.setCell ⟨b, 3, none⟩ (.int .u64 y)) b x0 x1 x2 y := heap_setCell_same _ _ _ _ _ _ h
theorem Has4.drewN {w : World} {b n : Nat} {x0 x1 x2 x3 : Int} (h : Has4 w b x0 x1 x2 x3) : Has4 (w.drewN n) b x0 x1 x2 x3 := h
theorem Holds.drewN {w : World} {b n : Nat} {f : Fn} (h : Holds w b f) : Holds (w.drewN n) b f := h
theorem Holds.other1 {w : World} {b c i : Nat} {f : Fn} {x : Value} (h : Holds w b f) (hne : b ≠ c) : Holds (w.setCell ⟨c, i, none⟩ x) b f := by
  unfold Holds; rw [heap_setCell_other _ _ _ _ hne]; exact h

set_option maxHeartbeats 1000000 in
theorem cofOf (f : Fn) (v : Nat) (b : Bool) (w : World) (hv : v = 6 ∨ v = 7) :
    Calls Tryd.prog 27 #[fv f, .int .i64 v, .bool b] w fun e w' => e = .returned (fv (cofF f v b)) ∧ Below w.heap.size w w' := by
  obtain ⟨⟨a0, a1, a2, a3⟩, ⟨b0, b1, b2, b3⟩, ⟨c0, c1, c2, c3⟩, ⟨d0, d1, d2, d3⟩⟩ := cof_of_words f
  rcases hv with rfl | rfl <;> cases b <;> simp only [fv, a0, a1, a2, a3, b0, b1, b2, b3, c0, c1, c2, c3, d0, d1, d2, d3] <;> clear a0 a1 a2 a3 b0 b1 b2 b3 c0 c1 c2 c3 d0 d1 d2 d3
  all_goals
    go_enter Tryd.func27, Tryd.ntmps27
    go_wp2
    refine wp_loop_rounds 5 ?_
    iterate 4 (rw [rounds_succ]; go_wp2)
    rw [rounds_succ]
    go_wp2
    exact bodyPost_ret (v := _) (by simp [results, Tryd.results27, go_sem]) rfl ⟨rfl, by go_grown⟩

theorem or_shr (f k : Fn) (v i : Nat) (hk : k = f &&& varF v) (hv : v < 6) (hi : i < 4) : bits .or .u64 (wd k i) ((wd k i : Int) / 2 ^ 2 ^ v) = (wd (cofF f v true) i : Nat) := by
  subst hk
  have hx := wd_lt (f &&& varF v) i
  rw [show ((wd (f &&& varF v) i : Int) / 2 ^ 2 ^ v) = ((wd (f &&& varF v) i / 2 ^ 2 ^ v : Nat) : Int) by simp, bits_or_u64_nat _ _ hx (Nat.lt_of_le_of_lt (Nat.div_le_self _ _) hx), cof_in_true f v i hv hi]

theorem or_shl (f k : Fn) (v i : Nat) (hk : k = f &&& ~~~varF v) (hv : v < 6) (hi : i < 4) : bits .or .u64 (wd k i) (IntKind.u64.wrap ((wd k i : Int) * 2 ^ 2 ^ v)) = (wd (cofF f v false) i : Nat) := by
  subst hk
  have hx := wd_lt (f &&& ~~~varF v) i
  have e : IntKind.u64.wrap ((wd (f &&& ~~~varF v) i : Int) * 2 ^ 2 ^ v) = ((wd (f &&& ~~~varF v) i * 2 ^ 2 ^ v % 18446744073709551616 : Nat) : Int) := by
    rw [IntKind.wrap_u64]
    simp
  rw [e, bits_or_u64_nat _ _ hx (Nat.mod_lt _ (by decide)), cof_in_false f v i hv hi]

set_option maxRecDepth 100000 in
set_option maxHeartbeats 4000000 in
theorem cofInTrue (f : Fn) (v : Nat) (w : World) (hl : LowW w) (hv : v < 6) :
    Calls Tryd.prog 26 #[fv f, .int .i64 v, .bool true] w fun e w' => e = .returned (fv (cofF f v true)) ∧ Below w.heap.size w w' := by
  have Hl := Lib.hid hl
  have hp := hl.pos
  clear hl
  have hv0 : (0 : Int) ≤ v := by omega
  have hv1 : (v : Int) < 6 := by omega
  have hvar : varAny (v : Int) = varF v := by rw [varAny, if_pos (by omega), Int.toNat_natCast]
  have Hv := Lib.hid hvar
  have hs : wrap64 (2 ^ v) = ((2 ^ v : Nat) : Int) ∧ (2 : Nat) ^ v ≤ 32 := by
    rcases (by omega : v = 0 ∨ v = 1 ∨ v = 2 ∨ v = 3 ∨ v = 4 ∨ v = 5) with rfl | rfl | rfl | rfl | rfl | rfl <;> decide +kernel
  obtain ⟨hs, hs32⟩ := hs
  have hsn : 0 ≤ wrap64 (2 ^ v) ∧ wrap64 (2 ^ v) ≤ 32 := by rw [hs]; exact ⟨Int.natCast_nonneg _, Int.ofNat_le.2 hs32⟩
  have Hs := Lib.hid (show (wrap64 (2 ^ v)).toNat = 2 ^ v by rw [hs]; exact Int.toNat_natCast _)
  clear hvar hs hs32
  simp only [fv]
  go_enter Tryd.func26, Tryd.ntmps26
  go_wp2
  have hb : Below w.heap.size w ((w.alloc (.cells #[.int .u64 (wd f 0), .int .u64 (wd f 1), .int .u64 (wd f 2), .int .u64 (wd f 3)] 26)).alloc (.cells #[.int .u64 0, .int .u64 0, .int .u64 0, .int .u64 0] 26)) := by go_grown
  have h0 : Holds ((w.alloc (.cells #[.int .u64 (wd f 0), .int .u64 (wd f 1), .int .u64 (wd f 2), .int .u64 (wd f 3)] 26)).alloc (.cells #[.int .u64 0, .int .u64 0, .int .u64 0, .int .u64 0] 26)) w.heap.size f := (Holds.new _ _ _).alloc _
  have h1 : Holds ((w.alloc (.cells #[.int .u64 (wd f 0), .int .u64 (wd f 1), .int .u64 (wd f 2), .int .u64 (wd f 3)] 26)).alloc (.cells #[.int .u64 0, .int .u64 0, .int .u64 0, .int .u64 0] 26)) (w.heap.size + 1) 0#256 := Holds.new0 _ _
  generalize (w.alloc (.cells #[.int .u64 (wd f 0), .int .u64 (wd f 1), .int .u64 (wd f 2), .int .u64 (wd f 3)] 26)).alloc (.cells #[.int .u64 0, .int .u64 0, .int .u64 0, .int .u64 0] 26) = W at *
  have HL : Hid (∀ x, Below W.heap.size W x → LowW x) := Lib.hid fun x hx => Hl.out.keep (hb.trans (hx.mono hb.size))
  refine wp_region_alloc_tail 4 _ (.cells #[.int .u64 0, .int .u64 0, .int .u64 0, .int .u64 0] 26) (by kernel_rfl) (by kernel_rfl) rfl (fun a w => by simp [go_sem]; done) ?_
  apply Exists.intro
  refine ⟨fun V hV => ?_, ?_⟩
  · have c0 : ∀ u : Sub V, u.1.cell? ⟨w.heap.size, 0, none⟩ = some (.int .u64 (wd f 0)) := fun u => ((h0.keep hV h0.lt).sub u).cells.1
    have c1 : ∀ u : Sub V, u.1.cell? ⟨w.heap.size, 1, none⟩ = some (.int .u64 (wd f 1)) := fun u => ((h0.keep hV h0.lt).sub u).cells.2.1
    have c2 : ∀ u : Sub V, u.1.cell? ⟨w.heap.size, 2, none⟩ = some (.int .u64 (wd f 2)) := fun u => ((h0.keep hV h0.lt).sub u).cells.2.2.1
    have c3 : ∀ u : Sub V, u.1.cell? ⟨w.heap.size, 3, none⟩ = some (.int .u64 (wd f 3)) := fun u => ((h0.keep hV h0.lt).sub u).cells.2.2.2
    have hlV : ∀ u : Sub V, LowW u.1 := fun u => HL.out _ (hV.trans (u.2.mono hV.size))
    simp only [List.take_succ_cons, List.take_zero]
    iterate 2 (go_big_quiet_step (fail))
    go_big_quiet_step (exact sub_below (tabVar v _ (hlV _)))
    go_big_quiet_step (exact sub_below (tabAnd f (varAny v) _))
    exact wpQuiet_nil rfl
  intro B V hV hB hz
  have k1 := h1.keep hV h1.lt
  have kb := hb.trans (hV.mono hb.size)
  have kz : Holds V B 0#256 := by unfold Holds; rw [hz]; simp [wd]
  rw [Hv.out]
  have hne : w.heap.size + 1 ≠ B := by have := h1.lt; omega
  have hBw : w.heap.size ≤ B := by have := h1.lt; omega
  clear h0 h1 hb hV hB hz HL
  obtain ⟨c0, c1, c2, c3⟩ := kz.cells
  obtain ⟨z0, z1, z2, z3⟩ := kz.free
  simp only [List.drop_succ_cons, List.drop_zero]
  generalize hk : f &&& varF v = k
  have Hk := Lib.hid hk.symm
  clear hk
  simp only [fv]
  go_wp2
  have kk := kz.set4 k
  have kr := k1.other4 (x0 := .int .u64 (wd k 0)) (x1 := .int .u64 (wd k 1)) (x2 := .int .u64 (wd k 2)) (x3 := .int .u64 (wd k 3)) hne
  have kw := below_set4 (x0 := .int .u64 (wd k 0)) (x1 := .int .u64 (wd k 1)) (x2 := .int .u64 (wd k 2)) (x3 := .int .u64 (wd k 3)) kb hBw
  clear c0 c1 c2 c3 z0 z1 z2 z3 kz k1 kb
  generalize (((V.setCell ⟨B, 0, none⟩ (.int .u64 (wd k 0))).setCell ⟨B, 1, none⟩ (.int .u64 (wd k 1))).setCell ⟨B, 2, none⟩ (.int .u64 (wd k 2))).setCell ⟨B, 3, none⟩ (.int .u64 (wd k 3)) = U0 at *
  generalize wrap64 (2 ^ v) = s at *
  replace kk := kk.has4
  obtain ⟨c0, c1, c2, c3⟩ := kk.cells
  obtain ⟨z0, z1, z2, z3⟩ := kk.free
  refine wp_loop_rounds 5 ?_
  rw [rounds_succ]
  go_wp2
  refine wp_region_draws_tail 9 (by kernel_rfl) (by kernel_rfl) ?_
  simp only [List.take_succ_cons, List.take_zero, List.drop_succ_cons, List.drop_zero]
  iterate 9 (go_big_quiet_step (fail))
  refine wpQuiet_nil ?_
  intro w' hw'
  obtain ⟨nq, hw''⟩ := hw'
  subst hw''
  go_wp2
  replace kk := (kk.set0 (bits .or .u64 (wd k 0) ((wd k 0 : Int) / 2 ^ s.toNat))).drewN (n := nq)
  replace kr := (kr.other1 (i := 0) (x := .int .u64 (bits .or .u64 (wd k 0) ((wd k 0 : Int) / 2 ^ s.toNat))) hne).drewN (n := nq)
  replace kw := below_drewN (n := nq) (kw.setCell (p := ⟨B, 0, none⟩) hBw (.int .u64 (bits .or .u64 (wd k 0) ((wd k 0 : Int) / 2 ^ s.toNat))))
  clear c0 c1 c2 c3 z0 z1 z2 z3
  generalize (U0.setCell ⟨B, 0, none⟩ (.int .u64 (bits .or .u64 (wd k 0) ((wd k 0 : Int) / 2 ^ s.toNat)))).drewN nq = U1 at *
  obtain ⟨c0, c1, c2, c3⟩ := kk.cells
  obtain ⟨z0, z1, z2, z3⟩ := kk.free
  rw [rounds_succ]
  go_wp2
  refine wp_region_draws_tail 9 (by kernel_rfl) (by kernel_rfl) ?_
  simp only [List.take_succ_cons, List.take_zero, List.drop_succ_cons, List.drop_zero]
  iterate 9 (go_big_quiet_step (fail))
  refine wpQuiet_nil ?_
  intro w' hw'
  obtain ⟨nq, hw''⟩ := hw'
  subst hw''
  go_wp2
  replace kk := (kk.set1 (bits .or .u64 (wd k 1) ((wd k 1 : Int) / 2 ^ s.toNat))).drewN (n := nq)
  replace kr := (kr.other1 (i := 1) (x := .int .u64 (bits .or .u64 (wd k 1) ((wd k 1 : Int) / 2 ^ s.toNat))) hne).drewN (n := nq)
  replace kw := below_drewN (n := nq) (kw.setCell (p := ⟨B, 1, none⟩) hBw (.int .u64 (bits .or .u64 (wd k 1) ((wd k 1 : Int) / 2 ^ s.toNat))))
  clear c0 c1 c2 c3 z0 z1 z2 z3
  generalize (U1.setCell ⟨B, 1, none⟩ (.int .u64 (bits .or .u64 (wd k 1) ((wd k 1 : Int) / 2 ^ s.toNat)))).drewN nq = U2 at *
  obtain ⟨c0, c1, c2, c3⟩ := kk.cells
  obtain ⟨z0, z1, z2, z3⟩ := kk.free
  rw [rounds_succ]
  go_wp2
  refine wp_region_draws_tail 9 (by kernel_rfl) (by kernel_rfl) ?_
  simp only [List.take_succ_cons, List.take_zero, List.drop_succ_cons, List.drop_zero]
  iterate 9 (go_big_quiet_step (fail))
  refine wpQuiet_nil ?_
  intro w' hw'
  obtain ⟨nq, hw''⟩ := hw'
  subst hw''
  go_wp2
  replace kk := (kk.set2 (bits .or .u64 (wd k 2) ((wd k 2 : Int) / 2 ^ s.toNat))).drewN (n := nq)
  replace kr := (kr.other1 (i := 2) (x := .int .u64 (bits .or .u64 (wd k 2) ((wd k 2 : Int) / 2 ^ s.toNat))) hne).drewN (n := nq)
  replace kw := below_drewN (n := nq) (kw.setCell (p := ⟨B, 2, none⟩) hBw (.int .u64 (bits .or .u64 (wd k 2) ((wd k 2 : Int) / 2 ^ s.toNat))))
  clear c0 c1 c2 c3 z0 z1 z2 z3
  generalize (U2.setCell ⟨B, 2, none⟩ (.int .u64 (bits .or .u64 (wd k 2) ((wd k 2 : Int) / 2 ^ s.toNat)))).drewN nq = U3 at *
  obtain ⟨c0, c1, c2, c3⟩ := kk.cells
  obtain ⟨z0, z1, z2, z3⟩ := kk.free
  rw [rounds_succ]
  go_wp2
  refine wp_region_draws_tail 9 (by kernel_rfl) (by kernel_rfl) ?_
  simp only [List.take_succ_cons, List.take_zero, List.drop_succ_cons, List.drop_zero]
  iterate 9 (go_big_quiet_step (fail))
  refine wpQuiet_nil ?_
  intro w' hw'
  obtain ⟨nq, hw''⟩ := hw'
  subst hw''
  go_wp2
  replace kk := (kk.set3 (bits .or .u64 (wd k 3) ((wd k 3 : Int) / 2 ^ s.toNat))).drewN (n := nq)
  replace kr := (kr.other1 (i := 3) (x := .int .u64 (bits .or .u64 (wd k 3) ((wd k 3 : Int) / 2 ^ s.toNat))) hne).drewN (n := nq)
  replace kw := below_drewN (n := nq) (kw.setCell (p := ⟨B, 3, none⟩) hBw (.int .u64 (bits .or .u64 (wd k 3) ((wd k 3 : Int) / 2 ^ s.toNat))))
  clear c0 c1 c2 c3 z0 z1 z2 z3
  generalize (U3.setCell ⟨B, 3, none⟩ (.int .u64 (bits .or .u64 (wd k 3) ((wd k 3 : Int) / 2 ^ s.toNat)))).drewN nq = U4 at *
  obtain ⟨c0, c1, c2, c3⟩ := kk.cells
  obtain ⟨z0, z1, z2, z3⟩ := kk.free
  rw [rounds_succ]
  obtain ⟨d0, d1, d2, d3⟩ := kr.cells
  obtain ⟨y0, y1, y2, y3⟩ := kr.free
  go_wp2
  clear c0 c1 c2 c3 z0 z1 z2 z3 d0 d1 d2 d3 y0 y1 y2 y3
  have e0 := or_shr f k v 0 Hk.out hv (by decide)
  have e1 := or_shr f k v 1 Hk.out hv (by decide)
  have e2 := or_shr f k v 2 Hk.out hv (by decide)
  have e3 := or_shr f k v 3 Hk.out hv (by decide)
  rw [Hs.out, e0, e1, e2, e3]
  exact bodyPost_ret (ret_holds Tryd.results26 rfl (kr.set4 (cofF f v true))) rfl ⟨rfl, below_set4 kw (by omega)⟩

set_option maxRecDepth 100000 in
set_option maxHeartbeats 4000000 in
theorem cofInFalse (f : Fn) (v : Nat) (w : World) (hl : LowW w) (hv : v < 6) :
    Calls Tryd.prog 26 #[fv f, .int .i64 v, .bool false] w fun e w' => e = .returned (fv (cofF f v false)) ∧ Below w.heap.size w w' := by
  have Hl := Lib.hid hl
  have hp := hl.pos
  clear hl
  have hv0 : (0 : Int) ≤ v := by omega
  have hv1 : (v : Int) < 6 := by omega
  have hvar : varAny (v : Int) = varF v := by rw [varAny, if_pos (by omega), Int.toNat_natCast]
  have Hv := Lib.hid hvar
  have hs : wrap64 (2 ^ v) = ((2 ^ v : Nat) : Int) ∧ (2 : Nat) ^ v ≤ 32 := by
    rcases (by omega : v = 0 ∨ v = 1 ∨ v = 2 ∨ v = 3 ∨ v = 4 ∨ v = 5) with rfl | rfl | rfl | rfl | rfl | rfl <;> decide +kernel
  obtain ⟨hs, hs32⟩ := hs
  have hsn : 0 ≤ wrap64 (2 ^ v) ∧ wrap64 (2 ^ v) ≤ 32 := by rw [hs]; exact ⟨Int.natCast_nonneg _, Int.ofNat_le.2 hs32⟩
  have Hs := Lib.hid (show (wrap64 (2 ^ v)).toNat = 2 ^ v by rw [hs]; exact Int.toNat_natCast _)
  clear hvar hs hs32
  simp only [fv]
  go_enter Tryd.func26, Tryd.ntmps26
  go_wp2
  have hb : Below w.heap.size w ((w.alloc (.cells #[.int .u64 (wd f 0), .int .u64 (wd f 1), .int .u64 (wd f 2), .int .u64 (wd f 3)] 26)).alloc (.cells #[.int .u64 0, .int .u64 0, .int .u64 0, .int .u64 0] 26)) := by go_grown
  have h0 : Holds ((w.alloc (.cells #[.int .u64 (wd f 0), .int .u64 (wd f 1), .int .u64 (wd f 2), .int .u64 (wd f 3)] 26)).alloc (.cells #[.int .u64 0, .int .u64 0, .int .u64 0, .int .u64 0] 26)) w.heap.size f := (Holds.new _ _ _).alloc _
  have h1 : Holds ((w.alloc (.cells #[.int .u64 (wd f 0), .int .u64 (wd f 1), .int .u64 (wd f 2), .int .u64 (wd f 3)] 26)).alloc (.cells #[.int .u64 0, .int .u64 0, .int .u64 0, .int .u64 0] 26)) (w.heap.size + 1) 0#256 := Holds.new0 _ _
  generalize (w.alloc (.cells #[.int .u64 (wd f 0), .int .u64 (wd f 1), .int .u64 (wd f 2), .int .u64 (wd f 3)] 26)).alloc (.cells #[.int .u64 0, .int .u64 0, .int .u64 0, .int .u64 0] 26) = W at *
  have HL : Hid (∀ x, Below W.heap.size W x → LowW x) := Lib.hid fun x hx => Hl.out.keep (hb.trans (hx.mono hb.size))
  refine wp_region_alloc_tail 5 _ (.cells #[.int .u64 0, .int .u64 0, .int .u64 0, .int .u64 0] 26) (by kernel_rfl) (by kernel_rfl) rfl (fun a w => by simp [go_sem]; done) ?_
  apply Exists.intro
  refine ⟨fun V hV => ?_, ?_⟩
  · have c0 : ∀ u : Sub V, u.1.cell? ⟨w.heap.size, 0, none⟩ = some (.int .u64 (wd f 0)) := fun u => ((h0.keep hV h0.lt).sub u).cells.1
    have c1 : ∀ u : Sub V, u.1.cell? ⟨w.heap.size, 1, none⟩ = some (.int .u64 (wd f 1)) := fun u => ((h0.keep hV h0.lt).sub u).cells.2.1
    have c2 : ∀ u : Sub V, u.1.cell? ⟨w.heap.size, 2, none⟩ = some (.int .u64 (wd f 2)) := fun u => ((h0.keep hV h0.lt).sub u).cells.2.2.1
    have c3 : ∀ u : Sub V, u.1.cell? ⟨w.heap.size, 3, none⟩ = some (.int .u64 (wd f 3)) := fun u => ((h0.keep hV h0.lt).sub u).cells.2.2.2
    have hlV : ∀ u : Sub V, LowW u.1 := fun u => HL.out _ (hV.trans (u.2.mono hV.size))
    simp only [List.take_succ_cons, List.take_zero]
    iterate 2 (go_big_quiet_step (fail))
    go_big_quiet_step (exact sub_below (tabVar v _ (hlV _)))
    go_big_quiet_step (exact sub_below (tabNot (varAny v) _))
    go_big_quiet_step (exact sub_below (tabAnd f (~~~varAny v) _))
    exact wpQuiet_nil rfl
  intro B V hV hB hz
  have k1 := h1.keep hV h1.lt
  have kb := hb.trans (hV.mono hb.size)
  have kz : Holds V B 0#256 := by unfold Holds; rw [hz]; simp [wd]
  rw [Hv.out]
  have hne : w.heap.size + 1 ≠ B := by have := h1.lt; omega
  have hBw : w.heap.size ≤ B := by have := h1.lt; omega
  clear h0 h1 hb hV hB hz HL
  obtain ⟨c0, c1, c2, c3⟩ := kz.cells
  obtain ⟨z0, z1, z2, z3⟩ := kz.free
  simp only [List.drop_succ_cons, List.drop_zero]
  generalize hk : f &&& ~~~varF v = k
  have Hk := Lib.hid hk.symm
  clear hk
  simp only [fv]
  go_wp2
  have kk := kz.set4 k
  have kr := k1.other4 (x0 := .int .u64 (wd k 0)) (x1 := .int .u64 (wd k 1)) (x2 := .int .u64 (wd k 2)) (x3 := .int .u64 (wd k 3)) hne
  have kw := below_set4 (x0 := .int .u64 (wd k 0)) (x1 := .int .u64 (wd k 1)) (x2 := .int .u64 (wd k 2)) (x3 := .int .u64 (wd k 3)) kb hBw
  clear c0 c1 c2 c3 z0 z1 z2 z3 kz k1 kb
  generalize (((V.setCell ⟨B, 0, none⟩ (.int .u64 (wd k 0))).setCell ⟨B, 1, none⟩ (.int .u64 (wd k 1))).setCell ⟨B, 2, none⟩ (.int .u64 (wd k 2))).setCell ⟨B, 3, none⟩ (.int .u64 (wd k 3)) = U0 at *
  generalize wrap64 (2 ^ v) = s at *
  replace kk := kk.has4
  obtain ⟨c0, c1, c2, c3⟩ := kk.cells
  obtain ⟨z0, z1, z2, z3⟩ := kk.free
  refine wp_loop_rounds 5 ?_
  rw [rounds_succ]
  go_wp2
  refine wp_region_draws_tail 9 (by kernel_rfl) (by kernel_rfl) ?_
  simp only [List.take_succ_cons, List.take_zero, List.drop_succ_cons, List.drop_zero]
  iterate 9 (go_big_quiet_step (fail))
  refine wpQuiet_nil ?_
  intro w' hw'
  obtain ⟨nq, hw''⟩ := hw'
  subst hw''
  go_wp2
  replace kk := (kk.set0 (bits .or .u64 (wd k 0) (IntKind.u64.wrap ((wd k 0 : Int) * 2 ^ s.toNat)))).drewN (n := nq)
  replace kr := (kr.other1 (i := 0) (x := .int .u64 (bits .or .u64 (wd k 0) (IntKind.u64.wrap ((wd k 0 : Int) * 2 ^ s.toNat)))) hne).drewN (n := nq)
  replace kw := below_drewN (n := nq) (kw.setCell (p := ⟨B, 0, none⟩) hBw (.int .u64 (bits .or .u64 (wd k 0) (IntKind.u64.wrap ((wd k 0 : Int) * 2 ^ s.toNat)))))
  clear c0 c1 c2 c3 z0 z1 z2 z3
  generalize (U0.setCell ⟨B, 0, none⟩ (.int .u64 (bits .or .u64 (wd k 0) (IntKind.u64.wrap ((wd k 0 : Int) * 2 ^ s.toNat))))).drewN nq = U1 at *
  obtain ⟨c0, c1, c2, c3⟩ := kk.cells
  obtain ⟨z0, z1, z2, z3⟩ := kk.free
  rw [rounds_succ]
  go_wp2
  refine wp_region_draws_tail 9 (by kernel_rfl) (by kernel_rfl) ?_
  simp only [List.take_succ_cons, List.take_zero, List.drop_succ_cons, List.drop_zero]
  iterate 9 (go_big_quiet_step (fail))
  refine wpQuiet_nil ?_
  intro w' hw'
  obtain ⟨nq, hw''⟩ := hw'
  subst hw''
  go_wp2
  replace kk := (kk.set1 (bits .or .u64 (wd k 1) (IntKind.u64.wrap ((wd k 1 : Int) * 2 ^ s.toNat)))).drewN (n := nq)
  replace kr := (kr.other1 (i := 1) (x := .int .u64 (bits .or .u64 (wd k 1) (IntKind.u64.wrap ((wd k 1 : Int) * 2 ^ s.toNat)))) hne).drewN (n := nq)
  replace kw := below_drewN (n := nq) (kw.setCell (p := ⟨B, 1, none⟩) hBw (.int .u64 (bits .or .u64 (wd k 1) (IntKind.u64.wrap ((wd k 1 : Int) * 2 ^ s.toNat)))))
  clear c0 c1 c2 c3 z0 z1 z2 z3
  generalize (U1.setCell ⟨B, 1, none⟩ (.int .u64 (bits .or .u64 (wd k 1) (IntKind.u64.wrap ((wd k 1 : Int) * 2 ^ s.toNat))))).drewN nq = U2 at *
  obtain ⟨c0, c1, c2, c3⟩ := kk.cells
  obtain ⟨z0, z1, z2, z3⟩ := kk.free
  rw [rounds_succ]
  go_wp2
  refine wp_region_draws_tail 9 (by kernel_rfl) (by kernel_rfl) ?_
  simp only [List.take_succ_cons, List.take_zero, List.drop_succ_cons, List.drop_zero]
  iterate 9 (go_big_quiet_step (fail))
  refine wpQuiet_nil ?_
  intro w' hw'
  obtain ⟨nq, hw''⟩ := hw'
  subst hw''
  go_wp2
  replace kk := (kk.set2 (bits .or .u64 (wd k 2) (IntKind.u64.wrap ((wd k 2 : Int) * 2 ^ s.toNat)))).drewN (n := nq)
  replace kr := (kr.other1 (i := 2) (x := .int .u64 (bits .or .u64 (wd k 2) (IntKind.u64.wrap ((wd k 2 : Int) * 2 ^ s.toNat)))) hne).drewN (n := nq)
  replace kw := below_drewN (n := nq) (kw.setCell (p := ⟨B, 2, none⟩) hBw (.int .u64 (bits .or .u64 (wd k 2) (IntKind.u64.wrap ((wd k 2 : Int) * 2 ^ s.toNat)))))
  clear c0 c1 c2 c3 z0 z1 z2 z3
  generalize (U2.setCell ⟨B, 2, none⟩ (.int .u64 (bits .or .u64 (wd k 2) (IntKind.u64.wrap ((wd k 2 : Int) * 2 ^ s.toNat))))).drewN nq = U3 at *
  obtain ⟨c0, c1, c2, c3⟩ := kk.cells
  obtain ⟨z0, z1, z2, z3⟩ := kk.free
  rw [rounds_succ]
  go_wp2
  refine wp_region_draws_tail 9 (by kernel_rfl) (by kernel_rfl) ?_
  simp only [List.take_succ_cons, List.take_zero, List.drop_succ_cons, List.drop_zero]
  iterate 9 (go_big_quiet_step (fail))
  refine wpQuiet_nil ?_
  intro w' hw'
  obtain ⟨nq, hw''⟩ := hw'
  subst hw''
  go_wp2
  replace kk := (kk.set3 (bits .or .u64 (wd k 3) (IntKind.u64.wrap ((wd k 3 : Int) * 2 ^ s.toNat)))).drewN (n := nq)
  replace kr := (kr.other1 (i := 3) (x := .int .u64 (bits .or .u64 (wd k 3) (IntKind.u64.wrap ((wd k 3 : Int) * 2 ^ s.toNat)))) hne).drewN (n := nq)
  replace kw := below_drewN (n := nq) (kw.setCell (p := ⟨B, 3, none⟩) hBw (.int .u64 (bits .or .u64 (wd k 3) (IntKind.u64.wrap ((wd k 3 : Int) * 2 ^ s.toNat)))))
  clear c0 c1 c2 c3 z0 z1 z2 z3
  generalize (U3.setCell ⟨B, 3, none⟩ (.int .u64 (bits .or .u64 (wd k 3) (IntKind.u64.wrap ((wd k 3 : Int) * 2 ^ s.toNat))))).drewN nq = U4 at *
  obtain ⟨c0, c1, c2, c3⟩ := kk.cells
  obtain ⟨z0, z1, z2, z3⟩ := kk.free
  rw [rounds_succ]
  obtain ⟨d0, d1, d2, d3⟩ := kr.cells
  obtain ⟨y0, y1, y2, y3⟩ := kr.free
  go_wp2
  clear c0 c1 c2 c3 z0 z1 z2 z3 d0 d1 d2 d3 y0 y1 y2 y3
  have e0 := or_shl f k v 0 Hk.out hv (by decide)
  have e1 := or_shl f k v 1 Hk.out hv (by decide)
  have e2 := or_shl f k v 2 Hk.out hv (by decide)
  have e3 := or_shl f k v 3 Hk.out hv (by decide)
  rw [Hs.out, e0, e1, e2, e3]
  exact bodyPost_ret (ret_holds Tryd.results26 rfl (kr.set4 (cofF f v false))) rfl ⟨rfl, below_set4 kw (by omega)⟩

end Go.Proofs.YtgccgjeehggagaaDoor
