/-
  Texts of this proof, one behind the other: RefIte, RefOps, Eq, CofW, Cof, ReadT.
-/
import Derived.Test.YtipocmbplcdmjaaDoorG14
import Derived.ChangeKeysEq
import Derived.Test.YtipocmbplcdmjaaDoorG4
import Derived.Test.YtipocmbplcdmjaaDoorG8
import Derived.Test.YtipocmbplcdmjaaDoorG7
import Derived.Test.YtipocmbplcdmjaaDoorG13
/-
  Walk of the document's Ite.
-/
namespace Go.Proofs.YtipocmbplcdmjaaDoor
open Go Go.RowKit

theorem atF_nat (f : Fn) (n : Nat) (h : n < 256) : atF f n = f.getLsbD n := by
  rw [atF, if_pos (by omega), Int.toNat_natCast]

end Go.Proofs.YtipocmbplcdmjaaDoor

/-
  Walks of the document's Not, And, Or, Xor.
-/
namespace Go.Proofs.YtipocmbplcdmjaaDoor
open Go Go.RowKit

end Go.Proofs.YtipocmbplcdmjaaDoor

/-
  Two functions compared: '==' and '!=' on arrays of four words.
-/
namespace Go.Proofs.YtipocmbplcdmjaaDoor
open Go Go.RowKit

theorem wd_ext {f g : Fn} (h0 : wd f 0 = wd g 0) (h1 : wd f 1 = wd g 1) (h2 : wd f 2 = wd g 2) (h3 : wd f 3 = wd g 3) : f = g := fn_ext fun k hk => by
  rw [wd_bit, wd_bit]
  rcases (by omega : k / 64 = 0 ∨ k / 64 = 1 ∨ k / 64 = 2 ∨ k / 64 = 3) with h | h | h | h <;> rw [h]
  · rw [h0]
  · rw [h1]
  · rw [h2]
  · rw [h3]

theorem fv_inj {f g : Fn} (h : fv f = fv g) : f = g := by
  unfold fv at h
  simp at h
  exact wd_ext (by omega) (by omega) (by omega) (by omega)

theorem run_equal_fv (d : Nat) (f g : Fn) (w : World) : (Op.equalIn (d + 1 + 1) 35 (fv f) (fv g)).run Tryd.prog w = .ok (f == g) w := by
  obtain ⟨i, hi⟩ : ∃ i, Tryd.prog.info? 33 = some i := info_of_underlying Tryd.underlying33
  unfold fv
  rw [run_equalIn_array w (d + 1) _ _ Tryd.underlying35 hi]
  have hc : Tryd.prog.cellsOf 33 = 1 := by kernel_rfl
  have hr : List.range 4 = [0, 1, 2, 3] := rfl
  rw [hc, hr]
  have e : (f == g) = (((wd f 0 : Int) == wd g 0) && (((wd f 1 : Int) == wd g 1) && (((wd f 2 : Int) == wd g 2) && ((wd f 3 : Int) == wd g 3)))) := by
    rw [Bool.eq_iff_iff]
    simp only [Bool.and_eq_true, beq_iff_eq]
    constructor
    · rintro rfl; simp
    · rintro ⟨h0, h1, h2, h3⟩; exact wd_ext (by omega) (by omega) (by omega) (by omega)
  rw [e]
  clear e
  generalize ((wd f 0 : Nat) : Int) = a0
  generalize ((wd f 1 : Nat) : Int) = a1
  generalize ((wd f 2 : Nat) : Int) = a2
  generalize ((wd f 3 : Nat) : Int) = a3
  generalize ((wd g 0 : Nat) : Int) = b0
  generalize ((wd g 1 : Nat) : Int) = b1
  generalize ((wd g 2 : Nat) : Int) = b2
  generalize ((wd g 3 : Nat) : Int) = b3
  have hq : ∀ (w : World) (a b : Int), (Op.equalIn (d + 1) 33 (.int .u64 a) (.int .u64 b)).run Tryd.prog w = .ok (a == b) w := fun w a b => run_equalIn_int w d _ _ _ _ _ Tryd.underlying33
  by_cases h0 : a0 = b0
  · by_cases h1 : a1 = b1
    · by_cases h2 : a2 = b2
      · by_cases h3 : a3 = b3
        · simp [Op.eqItems, part, go_sem, hq, h0, h1, h2, h3]
        · simp [Op.eqItems, part, go_sem, hq, h0, h1, h2, h3]
      · simp [Op.eqItems, part, go_sem, hq, h0, h1, h2]
    · simp [Op.eqItems, part, go_sem, hq, h0, h1]
  · simp [Op.eqItems, part, go_sem, hq, h0]

theorem run_eql_fv (f g : Fn) (w : World) : (binOp .eql 35 (fv f) (fv g)).run Tryd.prog w = .ok (.bool (f == g)) w := by
  have h := run_equal_fv 9998 f g w
  unfold fv at *
  rw [run_eql_struct, h]
  rfl

theorem run_neq_fv (f g : Fn) (w : World) : (binOp .neq 35 (fv f) (fv g)).run Tryd.prog w = .ok (.bool (!(f == g))) w := by
  have h := run_equal_fv 9998 f g w
  unfold fv at *
  rw [run_neq_struct, h]
  rfl

theorem run_guard_fv (op : BinOp) (x y : Operand) (f g : Fn) (w : World) : (eqGuard op 35 x y (fv f) (fv g)).run Tryd.prog w = .ok () w :=
  run_eqGuard_agg w op _ x y _ _ (by kernel_rfl)

theorem run_eql_fv1 (g f : Fn) (w : World) : (binOp .eql 35 (fv g) (.agg #[.int .u64 (wd f 0), .int .u64 (wd f 1), .int .u64 (wd f 2), .int .u64 (wd f 3)])).run Tryd.prog w = .ok (.bool (g == f)) w := run_eql_fv g f w
theorem run_neq_fv1 (g f : Fn) (w : World) : (binOp .neq 35 (fv g) (.agg #[.int .u64 (wd f 0), .int .u64 (wd f 1), .int .u64 (wd f 2), .int .u64 (wd f 3)])).run Tryd.prog w = .ok (.bool (!(g == f))) w := run_neq_fv g f w
theorem run_guard_fv1 (op : BinOp) (x y : Operand) (g f : Fn) (w : World) : (eqGuard op 35 x y (fv g) (.agg #[.int .u64 (wd f 0), .int .u64 (wd f 1), .int .u64 (wd f 2), .int .u64 (wd f 3)])).run Tryd.prog w = .ok () w := run_guard_fv op x y g f w
theorem run_eql_fv2 (g f : Fn) (w : World) : (binOp .eql 35 (.agg #[.int .u64 (wd g 0), .int .u64 (wd g 1), .int .u64 (wd g 2), .int .u64 (wd g 3)]) (.agg #[.int .u64 (wd f 0), .int .u64 (wd f 1), .int .u64 (wd f 2), .int .u64 (wd f 3)])).run Tryd.prog w = .ok (.bool (g == f)) w := run_eql_fv g f w
theorem run_guard_fv2 (op : BinOp) (x y : Operand) (g f : Fn) (w : World) : (eqGuard op 35 x y (.agg #[.int .u64 (wd g 0), .int .u64 (wd g 1), .int .u64 (wd g 2), .int .u64 (wd g 3)]) (.agg #[.int .u64 (wd f 0), .int .u64 (wd f 1), .int .u64 (wd f 2), .int .u64 (wd f 3)])).run Tryd.prog w = .ok () w := run_guard_fv op x y g f w
theorem run_equal_fv2 (g f : Fn) (w : World) : (Op.equalIn 10000 35 (.agg #[.int .u64 (wd g 0), .int .u64 (wd g 1), .int .u64 (wd g 2), .int .u64 (wd g 3)]) (.agg #[.int .u64 (wd f 0), .int .u64 (wd f 1), .int .u64 (wd f 2), .int .u64 (wd f 3)])).run Tryd.prog w = .ok (g == f) w := run_equal_fv 9998 g f w

end Go.Proofs.YtipocmbplcdmjaaDoor

/-
  Walks of package cof: by words.
-/
namespace Go.Proofs.YtipocmbplcdmjaaDoor
open Go Go.RowKit
attribute [local go_sem] run_eql_fv run_neq_fv run_guard_fv setCell_drewN alloc_drewN

theorem bits_or_0_1 : bits .or .i64 0 1 = 1 := by decide +kernel
theorem bits_or_0_2 : bits .or .i64 0 2 = 2 := by decide +kernel
theorem bits_or_1_1 : bits .or .i64 1 1 = 1 := by decide +kernel
theorem bits_or_1_2 : bits .or .i64 1 2 = 3 := by decide +kernel
theorem bits_or_2_1 : bits .or .i64 2 1 = 3 := by decide +kernel
theorem bits_or_2_2 : bits .or .i64 2 2 = 2 := by decide +kernel
theorem bits_or_3_1 : bits .or .i64 3 1 = 3 := by decide +kernel
theorem bits_or_3_2 : bits .or .i64 3 2 = 3 := by decide +kernel
theorem bits_an_0_1 : bits .andNot .i64 0 1 = 0 := by decide +kernel
theorem bits_an_0_2 : bits .andNot .i64 0 2 = 0 := by decide +kernel
theorem bits_an_1_1 : bits .andNot .i64 1 1 = 0 := by decide +kernel
theorem bits_an_1_2 : bits .andNot .i64 1 2 = 1 := by decide +kernel
theorem bits_an_2_1 : bits .andNot .i64 2 1 = 2 := by decide +kernel
theorem bits_an_2_2 : bits .andNot .i64 2 2 = 0 := by decide +kernel
theorem bits_an_3_1 : bits .andNot .i64 3 1 = 2 := by decide +kernel
theorem bits_an_3_2 : bits .andNot .i64 3 2 = 1 := by decide +kernel
attribute [local go_sem] bits_or_0_1 bits_or_0_2 bits_or_1_1 bits_or_1_2 bits_or_2_1 bits_or_2_2 bits_or_3_1 bits_or_3_2 bits_an_0_1 bits_an_0_2 bits_an_1_1 bits_an_1_2 bits_an_2_1 bits_an_2_2 bits_an_3_1 bits_an_3_2

/-- Block b is a variable that holds four words. -/
def Has4 (w : World) (b : Nat) (x0 x1 x2 x3 : Int) : Prop := w.heap[b]? = some (.cells #[.int .u64 x0, .int .u64 x1, .int .u64 x2, .int .u64 x3] 35 (0, 0))

theorem Holds.has4 {w : World} {b : Nat} {f : Fn} (h : Holds w b f) : Has4 w b (wd f 0) (wd f 1) (wd f 2) (wd f 3) := h
theorem Has4.cells {w : World} {b : Nat} {x0 x1 x2 x3 : Int} (h : Has4 w b x0 x1 x2 x3) :
    w.cell? ⟨b, 0, none⟩ = some (.int .u64 x0) ∧ w.cell? ⟨b, 1, none⟩ = some (.int .u64 x1) ∧ w.cell? ⟨b, 2, none⟩ = some (.int .u64 x2) ∧ w.cell? ⟨b, 3, none⟩ = some (.int .u64 x3) :=
  ⟨cell_of_row _ _ _ _ _ _ h, cell_of_row _ _ _ _ _ _ h, cell_of_row _ _ _ _ _ _ h, cell_of_row _ _ _ _ _ _ h⟩
theorem Has4.free {w : World} {b : Nat} {x0 x1 x2 x3 : Int} (h : Has4 w b x0 x1 x2 x3) :
    w.frozen? ⟨b, 0, none⟩ = false ∧ w.frozen? ⟨b, 1, none⟩ = false ∧ w.frozen? ⟨b, 2, none⟩ = false ∧ w.frozen? ⟨b, 3, none⟩ = false :=
  ⟨frozen_of_row _ _ _ _ _ h, frozen_of_row _ _ _ _ _ h, frozen_of_row _ _ _ _ _ h, frozen_of_row _ _ _ _ _ h⟩
theorem Has4.set0 {w : World} {b : Nat} {x0 x1 x2 x3 : Int} (h : Has4 w b x0 x1 x2 x3) (y : Int) : Has4 (w.setCell ⟨b, 0, none⟩ (.int .u64 y)) b y x1 x2 x3 := heap_setCell_same _ _ _ _ _ _ h
theorem Has4.set1 {w : World} {b : Nat} {x0 x1 x2 x3 : Int} (h : Has4 w b x0 x1 x2 x3) (y : Int) : Has4 (w.setCell ⟨b, 1, none⟩ (.int .u64 y)) b x0 y x2 x3 := heap_setCell_same _ _ _ _ _ _ h
theorem Has4.set2 {w : World} {b : Nat} {x0 x1 x2 x3 : Int} (h : Has4 w b x0 x1 x2 x3) (y : Int) : Has4 (w.setCell ⟨b, 2, none⟩ (.int .u64 y)) b x0 x1 y x3 := heap_setCell_same _ _ _ _ _ _ h
theorem Has4.set3 {w : World} {b : Nat} {x0 x1 x2 x3 : Int} (h : Has4 w b x0 x1 x2 x3) (y : Int) : Has4 (w.setCell ⟨b, 3, none⟩ (.int .u64 y)) b x0 x1 x2 y := heap_setCell_same _ _ _ _ _ _ h
theorem Has4.drewN {w : World} {b n : Nat} {x0 x1 x2 x3 : Int} (h : Has4 w b x0 x1 x2 x3) : Has4 (w.drewN n) b x0 x1 x2 x3 := h
theorem Holds.drewN {w : World} {b n : Nat} {f : Fn} (h : Holds w b f) : Holds (w.drewN n) b f := h
theorem Holds.other1 {w : World} {b c i : Nat} {f : Fn} {x : Value} (h : Holds w b f) (hne : b ≠ c) : Holds (w.setCell ⟨c, i, none⟩ x) b f := by
  unfold Holds; rw [heap_setCell_other _ _ _ _ hne]; exact h

set_option maxHeartbeats 1000000 in
theorem cofOf (f : Fn) (v : Nat) (b : Bool) (w : World) (hv : v = 6 ∨ v = 7) :
    Calls Tryd.prog 47 #[fv f, .int .i64 v, .bool b] w fun e w' => e = .returned (fv (cofF f v b)) ∧ Below w.heap.size w w' := by
  obtain ⟨⟨a0, a1, a2, a3⟩, ⟨b0, b1, b2, b3⟩, ⟨c0, c1, c2, c3⟩, ⟨d0, d1, d2, d3⟩⟩ := cof_of_words f
  rcases hv with rfl | rfl <;> cases b <;> simp only [fv, a0, a1, a2, a3, b0, b1, b2, b3, c0, c1, c2, c3, d0, d1, d2, d3] <;> clear a0 a1 a2 a3 b0 b1 b2 b3 c0 c1 c2 c3 d0 d1 d2 d3
  all_goals
    go_enter Tryd.func47, Tryd.ntmps47
    go_wp2
    refine wp_loop_rounds 5 ?_
    iterate 4 (rw [rounds_succ]; go_wp2)
    rw [rounds_succ]
    go_wp2
    exact bodyPost_ret (v := _) (by simp [results, Tryd.results47, go_sem]) rfl ⟨rfl, by go_grown⟩

theorem or_shr (f k : Fn) (v i : Nat) (hk : k = f &&& varF v) (hv : v < 6) (hi : i < 4) : bits .or .u64 (wd k i) ((wd k i : Int) / 2 ^ 2 ^ v) = (wd (cofF f v true) i : Nat) := by
  subst hk
  have hx := wd_lt (f &&& varF v) i
  rw [show ((wd (f &&& varF v) i : Int) / 2 ^ 2 ^ v) = ((wd (f &&& varF v) i / 2 ^ 2 ^ v : Nat) : Int) by simp, bits_or_u64_nat _ _ hx (Nat.lt_of_le_of_lt (Nat.div_le_self _ _) hx), cof_in_true f v i hv hi]

theorem or_shl (f k : Fn) (v i : Nat) (hk : k = f &&& ~~~varF v) (hv : v < 6) (hi : i < 4) : bits .or .u64 (wd k i) (IntKind.u64.wrap ((wd k i : Int) * 2 ^ 2 ^ v)) = (wd (cofF f v false) i : Nat) := by
  subst hk
  have hx := wd_lt (f &&& ~~~varF v) i
  have e : IntKind.u64.wrap ((wd (f &&& ~~~varF v) i : Int) * 2 ^ 2 ^ v) = ((wd (f &&& ~~~varF v) i * 2 ^ 2 ^ v % 18446744073709551616 : Nat) : Int) := by
    rw [IntKind.wrap_u64]
    simp
  rw [e, bits_or_u64_nat _ _ hx (Nat.mod_lt _ (by decide)), cof_in_false f v i hv hi]

set_option maxRecDepth 100000 in
set_option maxHeartbeats 4000000 in
theorem cofInTrue (f : Fn) (v : Nat) (w : World) (hl : LowW w) (hv : v < 6) :
    Calls Tryd.prog 46 #[fv f, .int .i64 v, .bool true] w fun e w' => e = .returned (fv (cofF f v true)) ∧ Below w.heap.size w w' := by
  have Hl := Lib.hid hl
  have hp := hl.pos
  clear hl
  have hv0 : (0 : Int) ≤ v := by omega
  have hv1 : (v : Int) < 6 := by omega
  have hvar : varAny (v : Int) = varF v := by rw [varAny, if_pos (by omega), Int.toNat_natCast]
  have Hv := Lib.hid hvar
  have hs : wrap64 (2 ^ v) = ((2 ^ v : Nat) : Int) ∧ (2 : Nat) ^ v ≤ 32 := by
    rcases (by omega : v = 0 ∨ v = 1 ∨ v = 2 ∨ v = 3 ∨ v = 4 ∨ v = 5) with rfl | rfl | rfl | rfl | rfl | rfl <;> decide +kernel
  obtain ⟨hs, hs32⟩ := hs
  have hsn : 0 ≤ wrap64 (2 ^ v) ∧ wrap64 (2 ^ v) ≤ 32 := by rw [hs]; exact ⟨Int.natCast_nonneg _, Int.ofNat_le.2 hs32⟩
  have Hs := Lib.hid (show (wrap64 (2 ^ v)).toNat = 2 ^ v by rw [hs]; exact Int.toNat_natCast _)
  clear hvar hs hs32
  simp only [fv]
  go_enter Tryd.func46, Tryd.ntmps46
  go_wp2
  have hb : Below w.heap.size w ((w.alloc (.cells #[.int .u64 (wd f 0), .int .u64 (wd f 1), .int .u64 (wd f 2), .int .u64 (wd f 3)] 35)).alloc (.cells #[.int .u64 0, .int .u64 0, .int .u64 0, .int .u64 0] 35)) := by go_grown
  have h0 : Holds ((w.alloc (.cells #[.int .u64 (wd f 0), .int .u64 (wd f 1), .int .u64 (wd f 2), .int .u64 (wd f 3)] 35)).alloc (.cells #[.int .u64 0, .int .u64 0, .int .u64 0, .int .u64 0] 35)) w.heap.size f := (Holds.new _ _ _).alloc _
  have h1 : Holds ((w.alloc (.cells #[.int .u64 (wd f 0), .int .u64 (wd f 1), .int .u64 (wd f 2), .int .u64 (wd f 3)] 35)).alloc (.cells #[.int .u64 0, .int .u64 0, .int .u64 0, .int .u64 0] 35)) (w.heap.size + 1) 0#256 := Holds.new0 _ _
  generalize (w.alloc (.cells #[.int .u64 (wd f 0), .int .u64 (wd f 1), .int .u64 (wd f 2), .int .u64 (wd f 3)] 35)).alloc (.cells #[.int .u64 0, .int .u64 0, .int .u64 0, .int .u64 0] 35) = W at *
  have HL : Hid (∀ x, Below W.heap.size W x → LowW x) := Lib.hid fun x hx => Hl.out.keep (hb.trans (hx.mono hb.size))
  refine wp_region_alloc_tail 4 _ (.cells #[.int .u64 0, .int .u64 0, .int .u64 0, .int .u64 0] 35) (by kernel_rfl) (by kernel_rfl) rfl (fun a w => by simp [go_sem]; done) ?_
  apply Exists.intro
  refine ⟨fun V hV => ?_, ?_⟩
  · have c0 : ∀ u : Sub V, u.1.cell? ⟨w.heap.size, 0, none⟩ = some (.int .u64 (wd f 0)) := fun u => ((h0.keep hV h0.lt).sub u).cells.1
    have c1 : ∀ u : Sub V, u.1.cell? ⟨w.heap.size, 1, none⟩ = some (.int .u64 (wd f 1)) := fun u => ((h0.keep hV h0.lt).sub u).cells.2.1
    have c2 : ∀ u : Sub V, u.1.cell? ⟨w.heap.size, 2, none⟩ = some (.int .u64 (wd f 2)) := fun u => ((h0.keep hV h0.lt).sub u).cells.2.2.1
    have c3 : ∀ u : Sub V, u.1.cell? ⟨w.heap.size, 3, none⟩ = some (.int .u64 (wd f 3)) := fun u => ((h0.keep hV h0.lt).sub u).cells.2.2.2
    have hlV : ∀ u : Sub V, LowW u.1 := fun u => HL.out _ (hV.trans (u.2.mono hV.size))
    simp only [List.take_succ_cons, List.take_zero]
    iterate 2 (go_big_quiet_step (fail))
    go_big_quiet_step (exact sub_below (tabVar v _ (hlV _)))
    go_big_quiet_step (exact sub_below (tabAnd f (varAny v) _))
    exact wpQuiet_nil rfl
  intro B V hV hB hz
  have k1 := h1.keep hV h1.lt
  have kb := hb.trans (hV.mono hb.size)
  have kz : Holds V B 0#256 := by unfold Holds; rw [hz]; simp [wd]
  rw [Hv.out]
  have hne : w.heap.size + 1 ≠ B := by have := h1.lt; omega
  have hBw : w.heap.size ≤ B := by have := h1.lt; omega
  clear h0 h1 hb hV hB hz HL
  obtain ⟨c0, c1, c2, c3⟩ := kz.cells
  obtain ⟨z0, z1, z2, z3⟩ := kz.free
  simp only [List.drop_succ_cons, List.drop_zero]
  generalize hk : f &&& varF v = k
  have Hk := Lib.hid hk.symm
  clear hk
  simp only [fv]
  go_wp2
  have kk := kz.set4 k
  have kr := k1.other4 (x0 := .int .u64 (wd k 0)) (x1 := .int .u64 (wd k 1)) (x2 := .int .u64 (wd k 2)) (x3 := .int .u64 (wd k 3)) hne
  have kw := below_set4 (x0 := .int .u64 (wd k 0)) (x1 := .int .u64 (wd k 1)) (x2 := .int .u64 (wd k 2)) (x3 := .int .u64 (wd k 3)) kb hBw
  clear c0 c1 c2 c3 z0 z1 z2 z3 kz k1 kb
  generalize (((V.setCell ⟨B, 0, none⟩ (.int .u64 (wd k 0))).setCell ⟨B, 1, none⟩ (.int .u64 (wd k 1))).setCell ⟨B, 2, none⟩ (.int .u64 (wd k 2))).setCell ⟨B, 3, none⟩ (.int .u64 (wd k 3)) = U0 at *
  generalize wrap64 (2 ^ v) = s at *
  replace kk := kk.has4
  obtain ⟨c0, c1, c2, c3⟩ := kk.cells
  obtain ⟨z0, z1, z2, z3⟩ := kk.free
  refine wp_loop_rounds 5 ?_
  rw [rounds_succ]
  go_wp2
  refine wp_region_draws_tail 9 (by kernel_rfl) (by kernel_rfl) ?_
  simp only [List.take_succ_cons, List.take_zero, List.drop_succ_cons, List.drop_zero]
  iterate 9 (go_big_quiet_step (fail))
  refine wpQuiet_nil ?_
  intro w' hw'
  obtain ⟨nq, hw''⟩ := hw'
  subst hw''
  go_wp2
  replace kk := (kk.set0 (bits .or .u64 (wd k 0) ((wd k 0 : Int) / 2 ^ s.toNat))).drewN (n := nq)
  replace kr := (kr.other1 (i := 0) (x := .int .u64 (bits .or .u64 (wd k 0) ((wd k 0 : Int) / 2 ^ s.toNat))) hne).drewN (n := nq)
  replace kw := below_drewN (n := nq) (kw.setCell (p := ⟨B, 0, none⟩) hBw (.int .u64 (bits .or .u64 (wd k 0) ((wd k 0 : Int) / 2 ^ s.toNat))))
  clear c0 c1 c2 c3 z0 z1 z2 z3
  generalize (U0.setCell ⟨B, 0, none⟩ (.int .u64 (bits .or .u64 (wd k 0) ((wd k 0 : Int) / 2 ^ s.toNat)))).drewN nq = U1 at *
  obtain ⟨c0, c1, c2, c3⟩ := kk.cells
  obtain ⟨z0, z1, z2, z3⟩ := kk.free
  rw [rounds_succ]
  go_wp2
  refine wp_region_draws_tail 9 (by kernel_rfl) (by kernel_rfl) ?_
  simp only [List.take_succ_cons, List.take_zero, List.drop_succ_cons, List.drop_zero]
  iterate 9 (go_big_quiet_step (fail))
  refine wpQuiet_nil ?_
  intro w' hw'
  obtain ⟨nq, hw''⟩ := hw'
  subst hw''
  go_wp2
  replace kk := (kk.set1 (bits .or .u64 (wd k 1) ((wd k 1 : Int) / 2 ^ s.toNat))).drewN (n := nq)
  replace kr := (kr.other1 (i := 1) (x := .int .u64 (bits .or .u64 (wd k 1) ((wd k 1 : Int) / 2 ^ s.toNat))) hne).drewN (n := nq)
  replace kw := below_drewN (n := nq) (kw.setCell (p := ⟨B, 1, none⟩) hBw (.int .u64 (bits .or .u64 (wd k 1) ((wd k 1 : Int) / 2 ^ s.toNat))))
  clear c0 c1 c2 c3 z0 z1 z2 z3
  generalize (U1.setCell ⟨B, 1, none⟩ (.int .u64 (bits .or .u64 (wd k 1) ((wd k 1 : Int) / 2 ^ s.toNat)))).drewN nq = U2 at *
  obtain ⟨c0, c1, c2, c3⟩ := kk.cells
  obtain ⟨z0, z1, z2, z3⟩ := kk.free
  rw [rounds_succ]
  go_wp2
  refine wp_region_draws_tail 9 (by kernel_rfl) (by kernel_rfl) ?_
  simp only [List.take_succ_cons, List.take_zero, List.drop_succ_cons, List.drop_zero]
  iterate 9 (go_big_quiet_step (fail))
  refine wpQuiet_nil ?_
  intro w' hw'
  obtain ⟨nq, hw''⟩ := hw'
  subst hw''
  go_wp2
  replace kk := (kk.set2 (bits .or .u64 (wd k 2) ((wd k 2 : Int) / 2 ^ s.toNat))).drewN (n := nq)
  replace kr := (kr.other1 (i := 2) (x := .int .u64 (bits .or .u64 (wd k 2) ((wd k 2 : Int) / 2 ^ s.toNat))) hne).drewN (n := nq)
  replace kw := below_drewN (n := nq) (kw.setCell (p := ⟨B, 2, none⟩) hBw (.int .u64 (bits .or .u64 (wd k 2) ((wd k 2 : Int) / 2 ^ s.toNat))))
  clear c0 c1 c2 c3 z0 z1 z2 z3
  generalize (U2.setCell ⟨B, 2, none⟩ (.int .u64 (bits .or .u64 (wd k 2) ((wd k 2 : Int) / 2 ^ s.toNat)))).drewN nq = U3 at *
  obtain ⟨c0, c1, c2, c3⟩ := kk.cells
  obtain ⟨z0, z1, z2, z3⟩ := kk.free
  rw [rounds_succ]
  go_wp2
  refine wp_region_draws_tail 9 (by kernel_rfl) (by kernel_rfl) ?_
  simp only [List.take_succ_cons, List.take_zero, List.drop_succ_cons, List.drop_zero]
  iterate 9 (go_big_quiet_step (fail))
  refine wpQuiet_nil ?_
  intro w' hw'
  obtain ⟨nq, hw''⟩ := hw'
  subst hw''
  go_wp2
  replace kk := (kk.set3 (bits .or .u64 (wd k 3) ((wd k 3 : Int) / 2 ^ s.toNat))).drewN (n := nq)
  replace kr := (kr.other1 (i := 3) (x := .int .u64 (bits .or .u64 (wd k 3) ((wd k 3 : Int) / 2 ^ s.toNat))) hne).drewN (n := nq)
  replace kw := below_drewN (n := nq) (kw.setCell (p := ⟨B, 3, none⟩) hBw (.int .u64 (bits .or .u64 (wd k 3) ((wd k 3 : Int) / 2 ^ s.toNat))))
  clear c0 c1 c2 c3 z0 z1 z2 z3
  generalize (U3.setCell ⟨B, 3, none⟩ (.int .u64 (bits .or .u64 (wd k 3) ((wd k 3 : Int) / 2 ^ s.toNat)))).drewN nq = U4 at *
  obtain ⟨c0, c1, c2, c3⟩ := kk.cells
  obtain ⟨z0, z1, z2, z3⟩ := kk.free
  rw [rounds_succ]
  obtain ⟨d0, d1, d2, d3⟩ := kr.cells
  obtain ⟨y0, y1, y2, y3⟩ := kr.free
  go_wp2
  clear c0 c1 c2 c3 z0 z1 z2 z3 d0 d1 d2 d3 y0 y1 y2 y3
  have e0 := or_shr f k v 0 Hk.out hv (by decide)
  have e1 := or_shr f k v 1 Hk.out hv (by decide)
  have e2 := or_shr f k v 2 Hk.out hv (by decide)
  have e3 := or_shr f k v 3 Hk.out hv (by decide)
  rw [Hs.out, e0, e1, e2, e3]
  exact bodyPost_ret (ret_holds Tryd.results46 rfl (kr.set4 (cofF f v true))) rfl ⟨rfl, below_set4 kw (by omega)⟩

set_option maxRecDepth 100000 in
set_option maxHeartbeats 4000000 in
theorem cofInFalse (f : Fn) (v : Nat) (w : World) (hl : LowW w) (hv : v < 6) :
    Calls Tryd.prog 46 #[fv f, .int .i64 v, .bool false] w fun e w' => e = .returned (fv (cofF f v false)) ∧ Below w.heap.size w w' := by
  have Hl := Lib.hid hl
  have hp := hl.pos
  clear hl
  have hv0 : (0 : Int) ≤ v := by omega
  have hv1 : (v : Int) < 6 := by omega
  have hvar : varAny (v : Int) = varF v := by rw [varAny, if_pos (by omega), Int.toNat_natCast]
  have Hv := Lib.hid hvar
  have hs : wrap64 (2 ^ v) = ((2 ^ v : Nat) : Int) ∧ (2 : Nat) ^ v ≤ 32 := by
    rcases (by omega : v = 0 ∨ v = 1 ∨ v = 2 ∨ v = 3 ∨ v = 4 ∨ v = 5) with rfl | rfl | rfl | rfl | rfl | rfl <;> decide +kernel
  obtain ⟨hs, hs32⟩ := hs
  have hsn : 0 ≤ wrap64 (2 ^ v) ∧ wrap64 (2 ^ v) ≤ 32 := by rw [hs]; exact ⟨Int.natCast_nonneg _, Int.ofNat_le.2 hs32⟩
  have Hs := Lib.hid (show (wrap64 (2 ^ v)).toNat = 2 ^ v by rw [hs]; exact Int.toNat_natCast _)
  clear hvar hs hs32
  simp only [fv]
  go_enter Tryd.func46, Tryd.ntmps46
  go_wp2
  have hb : Below w.heap.size w ((w.alloc (.cells #[.int .u64 (wd f 0), .int .u64 (wd f 1), .int .u64 (wd f 2), .int .u64 (wd f 3)] 35)).alloc (.cells #[.int .u64 0, .int .u64 0, .int .u64 0, .int .u64 0] 35)) := by go_grown
  have h0 : Holds ((w.alloc (.cells #[.int .u64 (wd f 0), .int .u64 (wd f 1), .int .u64 (wd f 2), .int .u64 (wd f 3)] 35)).alloc (.cells #[.int .u64 0, .int .u64 0, .int .u64 0, .int .u64 0] 35)) w.heap.size f := (Holds.new _ _ _).alloc _
  have h1 : Holds ((w.alloc (.cells #[.int .u64 (wd f 0), .int .u64 (wd f 1), .int .u64 (wd f 2), .int .u64 (wd f 3)] 35)).alloc (.cells #[.int .u64 0, .int .u64 0, .int .u64 0, .int .u64 0] 35)) (w.heap.size + 1) 0#256 := Holds.new0 _ _
  generalize (w.alloc (.cells #[.int .u64 (wd f 0), .int .u64 (wd f 1), .int .u64 (wd f 2), .int .u64 (wd f 3)] 35)).alloc (.cells #[.int .u64 0, .int .u64 0, .int .u64 0, .int .u64 0] 35) = W at *
  have HL : Hid (∀ x, Below W.heap.size W x → LowW x) := Lib.hid fun x hx => Hl.out.keep (hb.trans (hx.mono hb.size))
  refine wp_region_alloc_tail 5 _ (.cells #[.int .u64 0, .int .u64 0, .int .u64 0, .int .u64 0] 35) (by kernel_rfl) (by kernel_rfl) rfl (fun a w => by simp [go_sem]; done) ?_
  apply Exists.intro
  refine ⟨fun V hV => ?_, ?_⟩
  · have c0 : ∀ u : Sub V, u.1.cell? ⟨w.heap.size, 0, none⟩ = some (.int .u64 (wd f 0)) := fun u => ((h0.keep hV h0.lt).sub u).cells.1
    have c1 : ∀ u : Sub V, u.1.cell? ⟨w.heap.size, 1, none⟩ = some (.int .u64 (wd f 1)) := fun u => ((h0.keep hV h0.lt).sub u).cells.2.1
    have c2 : ∀ u : Sub V, u.1.cell? ⟨w.heap.size, 2, none⟩ = some (.int .u64 (wd f 2)) := fun u => ((h0.keep hV h0.lt).sub u).cells.2.2.1
    have c3 : ∀ u : Sub V, u.1.cell? ⟨w.heap.size, 3, none⟩ = some (.int .u64 (wd f 3)) := fun u => ((h0.keep hV h0.lt).sub u).cells.2.2.2
    have hlV : ∀ u : Sub V, LowW u.1 := fun u => HL.out _ (hV.trans (u.2.mono hV.size))
    simp only [List.take_succ_cons, List.take_zero]
    iterate 2 (go_big_quiet_step (fail))
    go_big_quiet_step (exact sub_below (tabVar v _ (hlV _)))
    go_big_quiet_step (exact sub_below (tabNot (varAny v) _))
    go_big_quiet_step (exact sub_below (tabAnd f (~~~varAny v) _))
    exact wpQuiet_nil rfl
  intro B V hV hB hz
  have k1 := h1.keep hV h1.lt
  have kb := hb.trans (hV.mono hb.size)
  have kz : Holds V B 0#256 := by unfold Holds; rw [hz]; simp [wd]
  rw [Hv.out]
  have hne : w.heap.size + 1 ≠ B := by have := h1.lt; omega
  have hBw : w.heap.size ≤ B := by have := h1.lt; omega
  clear h0 h1 hb hV hB hz HL
  obtain ⟨c0, c1, c2, c3⟩ := kz.cells
  obtain ⟨z0, z1, z2, z3⟩ := kz.free
  simp only [List.drop_succ_cons, List.drop_zero]
  generalize hk : f &&& ~~~varF v = k
  have Hk := Lib.hid hk.symm
  clear hk
  simp only [fv]
  go_wp2
  have kk := kz.set4 k
  have kr := k1.other4 (x0 := .int .u64 (wd k 0)) (x1 := .int .u64 (wd k 1)) (x2 := .int .u64 (wd k 2)) (x3 := .int .u64 (wd k 3)) hne
  have kw := below_set4 (x0 := .int .u64 (wd k 0)) (x1 := .int .u64 (wd k 1)) (x2 := .int .u64 (wd k 2)) (x3 := .int .u64 (wd k 3)) kb hBw
  clear c0 c1 c2 c3 z0 z1 z2 z3 kz k1 kb
  generalize (((V.setCell ⟨B, 0, none⟩ (.int .u64 (wd k 0))).setCell ⟨B, 1, none⟩ (.int .u64 (wd k 1))).setCell ⟨B, 2, none⟩ (.int .u64 (wd k 2))).setCell ⟨B, 3, none⟩ (.int .u64 (wd k 3)) = U0 at *
  generalize wrap64 (2 ^ v) = s at *
  replace kk := kk.has4
  obtain ⟨c0, c1, c2, c3⟩ := kk.cells
  obtain ⟨z0, z1, z2, z3⟩ := kk.free
  refine wp_loop_rounds 5 ?_
  rw [rounds_succ]
  go_wp2
  refine wp_region_draws_tail 9 (by kernel_rfl) (by kernel_rfl) ?_
  simp only [List.take_succ_cons, List.take_zero, List.drop_succ_cons, List.drop_zero]
  iterate 9 (go_big_quiet_step (fail))
  refine wpQuiet_nil ?_
  intro w' hw'
  obtain ⟨nq, hw''⟩ := hw'
  subst hw''
  go_wp2
  replace kk := (kk.set0 (bits .or .u64 (wd k 0) (IntKind.u64.wrap ((wd k 0 : Int) * 2 ^ s.toNat)))).drewN (n := nq)
  replace kr := (kr.other1 (i := 0) (x := .int .u64 (bits .or .u64 (wd k 0) (IntKind.u64.wrap ((wd k 0 : Int) * 2 ^ s.toNat)))) hne).drewN (n := nq)
  replace kw := below_drewN (n := nq) (kw.setCell (p := ⟨B, 0, none⟩) hBw (.int .u64 (bits .or .u64 (wd k 0) (IntKind.u64.wrap ((wd k 0 : Int) * 2 ^ s.toNat)))))
  clear c0 c1 c2 c3 z0 z1 z2 z3
  generalize (U0.setCell ⟨B, 0, none⟩ (.int .u64 (bits .or .u64 (wd k 0) (IntKind.u64.wrap ((wd k 0 : Int) * 2 ^ s.toNat))))).drewN nq = U1 at *
  obtain ⟨c0, c1, c2, c3⟩ := kk.cells
  obtain ⟨z0, z1, z2, z3⟩ := kk.free
  rw [rounds_succ]
  go_wp2
  refine wp_region_draws_tail 9 (by kernel_rfl) (by kernel_rfl) ?_
  simp only [List.take_succ_cons, List.take_zero, List.drop_succ_cons, List.drop_zero]
  iterate 9 (go_big_quiet_step (fail))
  refine wpQuiet_nil ?_
  intro w' hw'
  obtain ⟨nq, hw''⟩ := hw'
  subst hw''
  go_wp2
  replace kk := (kk.set1 (bits .or .u64 (wd k 1) (IntKind.u64.wrap ((wd k 1 : Int) * 2 ^ s.toNat)))).drewN (n := nq)
  replace kr := (kr.other1 (i := 1) (x := .int .u64 (bits .or .u64 (wd k 1) (IntKind.u64.wrap ((wd k 1 : Int) * 2 ^ s.toNat)))) hne).drewN (n := nq)
  replace kw := below_drewN (n := nq) (kw.setCell (p := ⟨B, 1, none⟩) hBw (.int .u64 (bits .or .u64 (wd k 1) (IntKind.u64.wrap ((wd k 1 : Int) * 2 ^ s.toNat)))))
  clear c0 c1 c2 c3 z0 z1 z2 z3
  generalize (U1.setCell ⟨B, 1, none⟩ (.int .u64 (bits .or .u64 (wd k 1) (IntKind.u64.wrap ((wd k 1 : Int) * 2 ^ s.toNat))))).drewN nq = U2 at *
  obtain ⟨c0, c1, c2, c3⟩ := kk.cells
  obtain ⟨z0, z1, z2, z3⟩ := kk.free
  rw [rounds_succ]
  go_wp2
  refine wp_region_draws_tail 9 (by kernel_rfl) (by kernel_rfl) ?_
  simp only [List.take_succ_cons, List.take_zero, List.drop_succ_cons, List.drop_zero]
  iterate 9 (go_big_quiet_step (fail))
  refine wpQuiet_nil ?_
  intro w' hw'
  obtain ⟨nq, hw''⟩ := hw'
  subst hw''
  go_wp2
  replace kk := (kk.set2 (bits .or .u64 (wd k 2) (IntKind.u64.wrap ((wd k 2 : Int) * 2 ^ s.toNat)))).drewN (n := nq)
  replace kr := (kr.other1 (i := 2) (x := .int .u64 (bits .or .u64 (wd k 2) (IntKind.u64.wrap ((wd k 2 : Int) * 2 ^ s.toNat)))) hne).drewN (n := nq)
  replace kw := below_drewN (n := nq) (kw.setCell (p := ⟨B, 2, none⟩) hBw (.int .u64 (bits .or .u64 (wd k 2) (IntKind.u64.wrap ((wd k 2 : Int) * 2 ^ s.toNat)))))
  clear c0 c1 c2 c3 z0 z1 z2 z3
  generalize (U2.setCell ⟨B, 2, none⟩ (.int .u64 (bits .or .u64 (wd k 2) (IntKind.u64.wrap ((wd k 2 : Int) * 2 ^ s.toNat))))).drewN nq = U3 at *
  obtain ⟨c0, c1, c2, c3⟩ := kk.cells
  obtain ⟨z0, z1, z2, z3⟩ := kk.free
  rw [rounds_succ]
  go_wp2
  refine wp_region_draws_tail 9 (by kernel_rfl) (by kernel_rfl) ?_
  simp only [List.take_succ_cons, List.take_zero, List.drop_succ_cons, List.drop_zero]
  iterate 9 (go_big_quiet_step (fail))
  refine wpQuiet_nil ?_
  intro w' hw'
  obtain ⟨nq, hw''⟩ := hw'
  subst hw''
  go_wp2
  replace kk := (kk.set3 (bits .or .u64 (wd k 3) (IntKind.u64.wrap ((wd k 3 : Int) * 2 ^ s.toNat)))).drewN (n := nq)
  replace kr := (kr.other1 (i := 3) (x := .int .u64 (bits .or .u64 (wd k 3) (IntKind.u64.wrap ((wd k 3 : Int) * 2 ^ s.toNat)))) hne).drewN (n := nq)
  replace kw := below_drewN (n := nq) (kw.setCell (p := ⟨B, 3, none⟩) hBw (.int .u64 (bits .or .u64 (wd k 3) (IntKind.u64.wrap ((wd k 3 : Int) * 2 ^ s.toNat)))))
  clear c0 c1 c2 c3 z0 z1 z2 z3
  generalize (U3.setCell ⟨B, 3, none⟩ (.int .u64 (bits .or .u64 (wd k 3) (IntKind.u64.wrap ((wd k 3 : Int) * 2 ^ s.toNat))))).drewN nq = U4 at *
  obtain ⟨c0, c1, c2, c3⟩ := kk.cells
  obtain ⟨z0, z1, z2, z3⟩ := kk.free
  rw [rounds_succ]
  obtain ⟨d0, d1, d2, d3⟩ := kr.cells
  obtain ⟨y0, y1, y2, y3⟩ := kr.free
  go_wp2
  clear c0 c1 c2 c3 z0 z1 z2 z3 d0 d1 d2 d3 y0 y1 y2 y3
  have e0 := or_shl f k v 0 Hk.out hv (by decide)
  have e1 := or_shl f k v 1 Hk.out hv (by decide)
  have e2 := or_shl f k v 2 Hk.out hv (by decide)
  have e3 := or_shl f k v 3 Hk.out hv (by decide)
  rw [Hs.out, e0, e1, e2, e3]
  exact bodyPost_ret (ret_holds Tryd.results46 rfl (kr.set4 (cofF f v false))) rfl ⟨rfl, below_set4 kw (by omega)⟩

end Go.Proofs.YtipocmbplcdmjaaDoor

/-
  Walks of package cof.
-/
namespace Go.Proofs.YtipocmbplcdmjaaDoor
open Go Go.RowKit
attribute [local go_sem] run_eql_fv run_neq_fv run_guard_fv

theorem cofIn (f : Fn) (v : Nat) (b : Bool) (w : World) (hl : LowW w) (hv : v < 6) :
    Calls Tryd.prog 46 #[fv f, .int .i64 v, .bool b] w fun e w' => e = .returned (fv (cofF f v b)) ∧ Below w.heap.size w w' := by
  cases b
  · exact cofInFalse f v w hl hv
  · exact cofInTrue f v w hl hv

set_option maxRecDepth 100000 in
set_option maxHeartbeats 1000000 in
theorem cofCof (f : Fn) (v : Int) (b : Bool) (w : World) (hl : LowW w) :
    Calls Tryd.prog 27 #[fv f, .int .i64 v, .bool b] w fun e w' => e = .returned (fv (cofAny f v b)) ∧ Below w.heap.size w w' := by
  by_cases hv : 0 ≤ v ∧ v < 8
  · obtain ⟨m, rfl⟩ := Int.eq_ofNat_of_zero_le hv.1
    have hm0 : (0 : Int) ≤ m := hv.1
    have hm8 : (m : Int) < 8 := hv.2
    have e : cofAny f (m : Int) b = cofF f m b := by rw [cofAny, if_pos hv, Int.toNat_natCast]
    rw [e]
    clear e hv
    have hk : Holds ((w.alloc (.cells #[.int .u64 (wd f 0), .int .u64 (wd f 1), .int .u64 (wd f 2), .int .u64 (wd f 3)] 35)).alloc (.cells #[.int .u64 0, .int .u64 0, .int .u64 0, .int .u64 0] 35)) (w.heap.size + 1) 0#256 := Holds.new0 _ _
    have Hk := Lib.hid hk
    have Hl : Hid (LowW ((w.alloc (.cells #[.int .u64 (wd f 0), .int .u64 (wd f 1), .int .u64 (wd f 2), .int .u64 (wd f 3)] 35)).alloc (.cells #[.int .u64 0, .int .u64 0, .int .u64 0, .int .u64 0] 35))) := Lib.hid (hl.keep (by go_grown))
    clear hk hl
    by_cases h6 : (m : Int) < 6
    · simp only [fv]
      go_enter Tryd.func27, Tryd.ntmps27
      go_wp2_with fail
      refine (cofIn f m b _ Hl.out (by omega)).mono ?_
      generalize hg : cofF f m b = g
      have Hg := Lib.hid hg
      clear hg
      rintro e w1 ⟨rfl, hb1⟩
      have k := Hk.out.keep hb1 (by simp)
      have hb2 : Below w.heap.size w w1 := below_from hb1 (by go_grown)
      clear hb1 Hk Hl
      obtain ⟨c0, c1, c2, c3⟩ := k.cells
      obtain ⟨z0, z1, z2, z3⟩ := k.free
      simp only [fv]
      go_wp2
      exact bodyPost_ret (ret_holds Tryd.results27 rfl (k.set4 g)) rfl ⟨by rw [Hg.out]; rfl, below_set4 hb2 (by omega)⟩
    · have h6' : (6 : Int) ≤ m := by omega
      simp only [fv]
      go_enter Tryd.func27, Tryd.ntmps27
      go_wp2_with fail
      refine (cofOf f m b _ (by omega)).mono ?_
      generalize hg : cofF f m b = g
      have Hg := Lib.hid hg
      clear hg
      rintro e w1 ⟨rfl, hb1⟩
      have k := Hk.out.keep hb1 (by simp)
      have hb2 : Below w.heap.size w w1 := below_from hb1 (by go_grown)
      clear hb1 Hk Hl
      obtain ⟨c0, c1, c2, c3⟩ := k.cells
      obtain ⟨z0, z1, z2, z3⟩ := k.free
      simp only [fv]
      go_wp2
      exact bodyPost_ret (ret_holds Tryd.results27 rfl (k.set4 g)) rfl ⟨by rw [Hg.out]; rfl, below_set4 hb2 (by omega)⟩
  · have e : cofAny f v b = f := by rw [cofAny, if_neg hv]
    rw [e]
    clear e
    simp only [fv]
    go_enter Tryd.func27, Tryd.ntmps27
    go_wp2
    all_goals exact bodyPost_ret (v := .agg #[.int .u64 (wd f 0), .int .u64 (wd f 1), .int .u64 (wd f 2), .int .u64 (wd f 3)]) (by simp [results, Tryd.results27, go_sem]) rfl ⟨rfl, by go_grown⟩

set_option maxRecDepth 100000 in
set_option maxHeartbeats 1000000 in
theorem cofDepends (f : Fn) (v : Int) (w : World) (hl : LowW w) :
    Calls Tryd.prog 44 #[fv f, .int .i64 v] w fun e w' => e = .returned (.bool (depAny f v)) ∧ Below w.heap.size w w' := by
  rw [← dep_iff f v]
  simp only [fv]
  go_enter Tryd.func44, Tryd.ntmps44
  go_wp2
  have h0 : Holds (w.alloc (.cells #[.int .u64 (wd f 0), .int .u64 (wd f 1), .int .u64 (wd f 2), .int .u64 (wd f 3)] 35)) w.heap.size f := Holds.new _ _ _
  have hb : Below w.heap.size w (w.alloc (.cells #[.int .u64 (wd f 0), .int .u64 (wd f 1), .int .u64 (wd f 2), .int .u64 (wd f 3)] 35)) := by go_grown
  generalize (w.alloc (.cells #[.int .u64 (wd f 0), .int .u64 (wd f 1), .int .u64 (wd f 2), .int .u64 (wd f 3)] 35)) = W at *
  have c0 : ∀ u : Sub W, u.1.cell? ⟨w.heap.size, 0, none⟩ = some (.int .u64 (wd f 0)) := fun u => (h0.sub u).cells.1
  have c1 : ∀ u : Sub W, u.1.cell? ⟨w.heap.size, 1, none⟩ = some (.int .u64 (wd f 1)) := fun u => (h0.sub u).cells.2.1
  have c2 : ∀ u : Sub W, u.1.cell? ⟨w.heap.size, 2, none⟩ = some (.int .u64 (wd f 2)) := fun u => (h0.sub u).cells.2.2.1
  have c3 : ∀ u : Sub W, u.1.cell? ⟨w.heap.size, 3, none⟩ = some (.int .u64 (wd f 3)) := fun u => (h0.sub u).cells.2.2.2
  have hlW : ∀ u : Sub W, LowW u.1 := fun u => hl.keep (hb.trans (u.2.mono hb.size))
  refine wp_region_quiet_all (C := fun w' => ∃ u : Sub W, w' = u.1) (by kernel_rfl) (by kernel_rfl) (InSub.drew W) ?_
  iterate 2 (go_big_quiet_step (fail))
  go_big_quiet_step (exact sub_below (cofCof f v false _ (hlW _)))
  iterate 2 (go_big_quiet_step (fail))
  go_big_quiet_step (exact sub_below (cofCof f v true _ (hlW _)))
  iterate 2 (go_big_quiet_step (fail))
  refine wpQuiet_nil ?_
  clear c0 c1 c2 c3 hlW
  intro w' hw'
  obtain ⟨u, rfl⟩ := hw'
  have hb2 := hb.trans (u.2.mono hb.size)
  generalize u.1 = w1 at *
  go_wp2
  go_ret
  exact ⟨rfl, hb2⟩

end Go.Proofs.YtipocmbplcdmjaaDoor

/-
  Walks of package read over the store's contracts: Table, Value, Count, Support.
-/
namespace Go.Proofs.YtipocmbplcdmjaaDoor
open Go Go.RowKit

theorem MS.tab_constB {s : MS} {n : Int} (h : s.has n = false) : s.tab n = if (n == 1) then BitVec.allOnes 256 else 0#256 := by
  rw [MS.tab_const h]
  by_cases e : n = 1
  · rw [if_pos e, if_pos (by simpa using e)]
  · rw [if_neg e, if_neg (by simpa using e)]

set_option maxRecDepth 100000 in
set_option maxHeartbeats 2000000 in
theorem readTable_const {StAt : World → Nat → (Nat → Prop) → MS → Prop} (H : StoreC StAt) {w : World} {b : Nat} {F : Nat → Prop} {s : MS} (h : StAt w b F s) (ok : s.Ok) (n : Int) (hn : n ≤ 9223372036854775807 ∧ -9223372036854775808 ≤ n) (hh : s.has n = false) :
    Calls Tryd.prog 12 #[.pointer (some ⟨b, 0, none⟩), .int .i64 n] w fun e w' => e = .returned (fv (s.tab n)) ∧ Below w.heap.size w w' := by
  have HN := fun W (hb : Below w.heap.size w W) => H.node (H.below h hb) ok n hn
  simp only [nodeV, hh, Bool.false_eq_true, if_false, nv] at HN
  rw [MS.tab_constB hh]
  have HC := fun W => tabConst (n == 1) W
  generalize (if (n == 1) then BitVec.allOnes 256 else 0#256) = R at *
  simp only [fv] at HC
  clear h hh
  go_enter Tryd.func12, Tryd.ntmps12
  go_wp2_with fail
  have hR := Holds.new0 w w.heap.size rfl
  have hb := (Below.refl w.heap.size w).alloc (Nat.le_refl _) (.cells #[.int .u64 0, .int .u64 0, .int .u64 0, .int .u64 0] 35)
  generalize w.alloc (.cells #[.int .u64 0, .int .u64 0, .int .u64 0, .int .u64 0] 35) = W at *
  refine (HN _ hb).mono ?_
  rintro e w1 ⟨rfl, hb1⟩
  have hb2 := hb.trans (hb1.mono hb.size)
  replace hR := hR.keep hb1 (by have := hR.lt; exact this)
  replace hR := hR.alloc (.cells #[.int .i64 0, .int .i64 0, .int .i64 0] 58)
  replace hb2 := hb2.alloc hb2.size (.cells #[.int .i64 0, .int .i64 0, .int .i64 0] 58)
  clear HN hb hb1
  go_wp2_with fail
  generalize w1.alloc (.cells #[.int .i64 0, .int .i64 0, .int .i64 0] 58) = W2 at *
  refine (HC _).mono ?_
  rintro e w2 ⟨rfl, hb3⟩
  replace hR := hR.keep hb3 hR.lt
  replace hb2 := hb2.trans (hb3.mono hb2.size)
  obtain ⟨c0, c1, c2, c3⟩ := hR.cells
  obtain ⟨z0, z1, z2, z3⟩ := hR.free
  have hR4 := Lib.hid (hR.set4 R)
  clear hR HC hb3
  go_wp2
  exact bodyPost_ret (ret_holds Tryd.results12 rfl hR4.out) rfl ⟨rfl, below_set4 hb2 (Nat.le_refl _)⟩

set_option maxRecDepth 100000 in
set_option maxHeartbeats 2000000 in
theorem readTable {StAt : World → Nat → (Nat → Prop) → MS → Prop} (H : StoreC StAt) {b : Nat} {F : Nat → Prop} {s : MS} (ok : s.Ok) : ∀ (k : Nat) (n : Int) (w : World), LowW w → StAt w b F s → s.dep n ≤ k → (n ≤ 9223372036854775807 ∧ -9223372036854775808 ≤ n) →
    Calls Tryd.prog 12 #[.pointer (some ⟨b, 0, none⟩), .int .i64 n] w fun e w' => e = .returned (fv (s.tab n)) ∧ Below w.heap.size w w' := by
  intro k
  induction k with
  | zero =>
    intro n w _ h hd hn
    have hh : s.has n = false := by
      cases hh : s.has n
      · rfl
      · have := ok.dep_pos hh; omega
    exact readTable_const H h ok n hn hh
  | succ k ih =>
    intro n w hL h hd hn
    cases hh : s.has n
    · exact readTable_const H h ok n hn hh
    · have HN := fun W (hb : Below w.heap.size w W) => H.node (H.below h hb) ok n hn
      simp only [nodeV, hh, if_true, nv] at HN
      have d1 := ok.dep_behind hh (ok.lo n hh)
      have d2 := ok.dep_behind hh (ok.hi n hh)
      have b1 := ok.toBase.behind_le (ok.lo n hh)
      have b2 := ok.toBase.behind_le (ok.hi n hh)
      have I1 := fun W (hb : Below w.heap.size w W) => ih (s.nd n).lo W (hL.keep hb) (H.below h hb) (by omega) ⟨by omega, by omega⟩
      have I2 := fun W (hb : Below w.heap.size w W) => ih (s.nd n).hi W (hL.keep hb) (H.below h hb) (by omega) ⟨by omega, by omega⟩
      have hT := ok.tab_node hh
      rw [hT]
      have HV := fun W (hb : Below w.heap.size w W) => tabVar (s.nd n).var W (hL.keep hb)
      have HI := fun W => tabIte (varAny (s.nd n).var) (s.tab (s.nd n).hi) (s.tab (s.nd n).lo) W
      clear hT d1 d2 b1 b2 ih hd hL
      generalize s.nd n = x at *
      obtain ⟨x0, x1, x2⟩ := x
      dsimp only at *
      generalize (varAny x0 &&& s.tab x2 ||| ~~~varAny x0 &&& s.tab x1) = R at *
      generalize s.tab x1 = f1 at *
      generalize s.tab x2 = f2 at *
      generalize varAny x0 = f0 at *
      simp only [fv] at I1 I2 HV HI
      go_enter Tryd.func12, Tryd.ntmps12
      go_wp2_with fail
      have hR := Holds.new0 w w.heap.size rfl
      have hb := (Below.refl w.heap.size w).alloc (Nat.le_refl _) (.cells #[.int .u64 0, .int .u64 0, .int .u64 0, .int .u64 0] 35)
      generalize w.alloc (.cells #[.int .u64 0, .int .u64 0, .int .u64 0, .int .u64 0] 35) = W at *
      refine (HN _ hb).mono ?_
      rintro e w1 ⟨rfl, hb1⟩
      have hb2 := hb.trans (hb1.mono hb.size)
      replace hR := hR.keep hb1 (by have := hR.lt; exact this)
      have hRl := hR.lt
      have hX := HoldsN.new w1 ⟨x0, x1, x2⟩
      replace hR := hR.alloc (.cells #[.int .i64 x0, .int .i64 x1, .int .i64 x2] 58)
      replace hb2 := hb2.alloc hb2.size (.cells #[.int .i64 x0, .int .i64 x1, .int .i64 x2] 58)
      dsimp only at hX
      clear HN hb hb1
      go_wp2
      generalize w1.alloc (.cells #[.int .i64 x0, .int .i64 x1, .int .i64 x2] 58) = W2 at *
      generalize w1.heap.size = bX at *
      have e0 := fun u : Sub W2 => (hX.sub u).cells.1
      have e1 := fun u : Sub W2 => (hX.sub u).cells.2.1
      have e2 := fun u : Sub W2 => (hX.sub u).cells.2.2
      dsimp only at e0 e1 e2
      have J1 := fun u : Sub W2 => I1 _ (hb2.trans (u.2.mono hb2.size))
      have J2 := fun u : Sub W2 => I2 _ (hb2.trans (u.2.mono hb2.size))
      have JV := fun u : Sub W2 => HV _ (hb2.trans (u.2.mono hb2.size))
      refine wp_region_quiet_tail (C := fun w' => ∃ u : Sub W2, w' = u.1) 12 (by kernel_rfl) (by kernel_rfl) (InSub.drew W2) ?_
      simp only [List.take_succ_cons, List.take_zero]
      iterate 2 (go_big_quiet_step (fail))
      go_big_quiet_step (exact subBelow (JV _))
      iterate 3 (go_big_quiet_step (fail))
      go_big_quiet_step (exact subBelow (J2 _))
      iterate 3 (go_big_quiet_step (fail))
      go_big_quiet_step (exact subBelow (J1 _))
      go_big_quiet_step (exact subBelow (HI _))
      refine wpQuiet_nil ?_
      clear e0 e1 e2 J1 J2 JV HV HI I1 I2
      intro w' hw'
      obtain ⟨u, rfl⟩ := hw'
      replace hR := hR.keep u.2 hR.lt
      replace hb2 := hb2.trans (u.2.mono hb2.size)
      generalize u.1 = W3 at *
      obtain ⟨c0, c1, c2, c3⟩ := hR.cells
      obtain ⟨z0, z1, z2, z3⟩ := hR.free
      have hR4 := Lib.hid (hR.set4 R)
      clear hR hX
      simp only [List.drop_succ_cons, List.drop_zero]
      go_wp2
      exact bodyPost_ret (ret_holds Tryd.results12 rfl hR4.out) rfl ⟨rfl, below_set4 hb2 (Nat.le_refl _)⟩

end Go.Proofs.YtipocmbplcdmjaaDoor
