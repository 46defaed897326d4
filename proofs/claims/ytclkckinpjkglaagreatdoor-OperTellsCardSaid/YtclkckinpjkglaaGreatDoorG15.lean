/-
  Texts of this proof, one behind the other: RefOps, Eq, CofW, Cof, ReadT, ReadB.
-/
import Derived.Test.YtclkckinpjkglaaGreatDoorG14
import Derived.ChangeKeysEq
import Derived.Test.YtclkckinpjkglaaGreatDoorG3
import Derived.Test.YtclkckinpjkglaaGreatDoorG8
import Derived.Test.YtclkckinpjkglaaGreatDoorG6
import Derived.Test.YtclkckinpjkglaaGreatDoorG13
/-
  Walks of the document's Not, And, Or, Xor.
-/
namespace Go.Proofs.YtclkckinpjkglaaGreatDoor
open Go Go.RowKit





theorem ofRow_const (b : Bool) : ofRow (fun _ => b) = if b then BitVec.allOnes 256 else 0#256 := fn_ext fun x hx => by
  rw [ofRow_bit _ _ hx]
  cases b with
  | false => rw [if_neg (by decide)]; exact (BitVec.getLsbD_zero).symm
  | true => rw [if_pos rfl, BitVec.getLsbD_allOnes]; exact (decide_eq_true hx).symm





end Go.Proofs.YtclkckinpjkglaaGreatDoor

/-
  Two functions compared: '==' and '!=' on arrays of four words.
-/
namespace Go.Proofs.YtclkckinpjkglaaGreatDoor
open Go Go.RowKit

theorem fv_fold (f : Fn) : Value.agg #[.int .u64 (wd f 0), .int .u64 (wd f 1), .int .u64 (wd f 2), .int .u64 (wd f 3)] = fv f := rfl

theorem wd_ext {f g : Fn} (h0 : wd f 0 = wd g 0) (h1 : wd f 1 = wd g 1) (h2 : wd f 2 = wd g 2) (h3 : wd f 3 = wd g 3) : f = g := fn_ext fun k hk => by
  rw [wd_bit, wd_bit]
  rcases (by omega : k / 64 = 0 ∨ k / 64 = 1 ∨ k / 64 = 2 ∨ k / 64 = 3) with h | h | h | h <;> rw [h]
  · rw [h0]
  · rw [h1]
  · rw [h2]
  · rw [h3]

theorem fv_inj {f g : Fn} (h : fv f = fv g) : f = g := by
  unfold fv at h
  simp at h
  exact wd_ext (by omega) (by omega) (by omega) (by omega)

theorem run_equal_fv (d : Nat) (f g : Fn) (w : World) : (Op.equalIn (d + 1 + 1) 54 (fv f) (fv g)).run Tryz.prog w = .ok (f == g) w := by
  obtain ⟨i, hi⟩ : ∃ i, Tryz.prog.info? 52 = some i := info_of_underlying Tryz.underlying52
  unfold fv
  rw [run_equalIn_array w (d + 1) _ _ Tryz.underlying54 hi]
  have hc : Tryz.prog.cellsOf 52 = 1 := by kernel_rfl
  have hr : List.range 4 = [0, 1, 2, 3] := rfl
  rw [hc, hr]
  have e : (f == g) = (((wd f 0 : Int) == wd g 0) && (((wd f 1 : Int) == wd g 1) && (((wd f 2 : Int) == wd g 2) && ((wd f 3 : Int) == wd g 3)))) := by
    rw [Bool.eq_iff_iff]
    simp only [Bool.and_eq_true, beq_iff_eq]
    constructor
    · rintro rfl; simp
    · rintro ⟨h0, h1, h2, h3⟩; exact wd_ext (by omega) (by omega) (by omega) (by omega)
  rw [e]
  clear e
  generalize ((wd f 0 : Nat) : Int) = a0
  generalize ((wd f 1 : Nat) : Int) = a1
  generalize ((wd f 2 : Nat) : Int) = a2
  generalize ((wd f 3 : Nat) : Int) = a3
  generalize ((wd g 0 : Nat) : Int) = b0
  generalize ((wd g 1 : Nat) : Int) = b1
  generalize ((wd g 2 : Nat) : Int) = b2
  generalize ((wd g 3 : Nat) : Int) = b3
  have hq : ∀ (w : World) (a b : Int), (Op.equalIn (d + 1) 52 (.int .u64 a) (.int .u64 b)).run Tryz.prog w = .ok (a == b) w := fun w a b => run_equalIn_int w d _ _ _ _ _ Tryz.underlying52
  by_cases h0 : a0 = b0
  · by_cases h1 : a1 = b1
    · by_cases h2 : a2 = b2
      · by_cases h3 : a3 = b3
        · simp [Op.eqItems, part, go_sem, hq, h0, h1, h2, h3]
        · simp [Op.eqItems, part, go_sem, hq, h0, h1, h2, h3]
      · simp [Op.eqItems, part, go_sem, hq, h0, h1, h2]
    · simp [Op.eqItems, part, go_sem, hq, h0, h1]
  · simp [Op.eqItems, part, go_sem, hq, h0]

theorem run_eql_fv (f g : Fn) (w : World) : (binOp .eql 54 (fv f) (fv g)).run Tryz.prog w = .ok (.bool (f == g)) w := by
  have h := run_equal_fv 9998 f g w
  unfold fv at *
  rw [run_eql_struct, h]
  rfl

theorem run_neq_fv (f g : Fn) (w : World) : (binOp .neq 54 (fv f) (fv g)).run Tryz.prog w = .ok (.bool (!(f == g))) w := by
  have h := run_equal_fv 9998 f g w
  unfold fv at *
  rw [run_neq_struct, h]
  rfl

theorem run_guard_fv (op : BinOp) (x y : Operand) (f g : Fn) (w : World) : (eqGuard op 54 x y (fv f) (fv g)).run Tryz.prog w = .ok () w :=
  run_eqGuard_agg w op _ x y _ _ (by kernel_rfl)

theorem run_eql_fv1 (g f : Fn) (w : World) : (binOp .eql 54 (fv g) (.agg #[.int .u64 (wd f 0), .int .u64 (wd f 1), .int .u64 (wd f 2), .int .u64 (wd f 3)])).run Tryz.prog w = .ok (.bool (g == f)) w := run_eql_fv g f w
theorem run_neq_fv1 (g f : Fn) (w : World) : (binOp .neq 54 (fv g) (.agg #[.int .u64 (wd f 0), .int .u64 (wd f 1), .int .u64 (wd f 2), .int .u64 (wd f 3)])).run Tryz.prog w = .ok (.bool (!(g == f))) w := run_neq_fv g f w
theorem run_guard_fv1 (op : BinOp) (x y : Operand) (g f : Fn) (w : World) : (eqGuard op 54 x y (fv g) (.agg #[.int .u64 (wd f 0), .int .u64 (wd f 1), .int .u64 (wd f 2), .int .u64 (wd f 3)])).run Tryz.prog w = .ok () w := run_guard_fv op x y g f w
theorem run_eql_fv2 (g f : Fn) (w : World) : (binOp .eql 54 (.agg #[.int .u64 (wd g 0), .int .u64 (wd g 1), .int .u64 (wd g 2), .int .u64 (wd g 3)]) (.agg #[.int .u64 (wd f 0), .int .u64 (wd f 1), .int .u64 (wd f 2), .int .u64 (wd f 3)])).run Tryz.prog w = .ok (.bool (g == f)) w := run_eql_fv g f w
theorem run_guard_fv2 (op : BinOp) (x y : Operand) (g f : Fn) (w : World) : (eqGuard op 54 x y (.agg #[.int .u64 (wd g 0), .int .u64 (wd g 1), .int .u64 (wd g 2), .int .u64 (wd g 3)]) (.agg #[.int .u64 (wd f 0), .int .u64 (wd f 1), .int .u64 (wd f 2), .int .u64 (wd f 3)])).run Tryz.prog w = .ok () w := run_guard_fv op x y g f w
theorem run_equal_fv2 (g f : Fn) (w : World) : (Op.equalIn 10000 54 (.agg #[.int .u64 (wd g 0), .int .u64 (wd g 1), .int .u64 (wd g 2), .int .u64 (wd g 3)]) (.agg #[.int .u64 (wd f 0), .int .u64 (wd f 1), .int .u64 (wd f 2), .int .u64 (wd f 3)])).run Tryz.prog w = .ok (g == f) w := run_equal_fv 9998 g f w

end Go.Proofs.YtclkckinpjkglaaGreatDoor

/-
  Walks of package cof: by words.
-/
namespace Go.Proofs.YtclkckinpjkglaaGreatDoor
open Go Go.RowKit
attribute [local go_sem] run_eql_fv run_neq_fv run_guard_fv setCell_drewN alloc_drewN

theorem bits_or_0_1 : bits .or .i64 0 1 = 1 := by decide +kernel
theorem bits_or_0_2 : bits .or .i64 0 2 = 2 := by decide +kernel
theorem bits_or_1_1 : bits .or .i64 1 1 = 1 := by decide +kernel
theorem bits_or_1_2 : bits .or .i64 1 2 = 3 := by decide +kernel
theorem bits_or_2_1 : bits .or .i64 2 1 = 3 := by decide +kernel
theorem bits_or_2_2 : bits .or .i64 2 2 = 2 := by decide +kernel
theorem bits_or_3_1 : bits .or .i64 3 1 = 3 := by decide +kernel
theorem bits_or_3_2 : bits .or .i64 3 2 = 3 := by decide +kernel
theorem bits_an_0_1 : bits .andNot .i64 0 1 = 0 := by decide +kernel
theorem bits_an_0_2 : bits .andNot .i64 0 2 = 0 := by decide +kernel
theorem bits_an_1_1 : bits .andNot .i64 1 1 = 0 := by decide +kernel
theorem bits_an_1_2 : bits .andNot .i64 1 2 = 1 := by decide +kernel
theorem bits_an_2_1 : bits .andNot .i64 2 1 = 2 := by decide +kernel
theorem bits_an_2_2 : bits .andNot .i64 2 2 = 0 := by decide +kernel
theorem bits_an_3_1 : bits .andNot .i64 3 1 = 2 := by decide +kernel
theorem bits_an_3_2 : bits .andNot .i64 3 2 = 1 := by decide +kernel
attribute [local go_sem] bits_or_0_1 bits_or_0_2 bits_or_1_1 bits_or_1_2 bits_or_2_1 bits_or_2_2 bits_or_3_1 bits_or_3_2 bits_an_0_1 bits_an_0_2 bits_an_1_1 bits_an_1_2 bits_an_2_1 bits_an_2_2 bits_an_3_1 bits_an_3_2

/-- Block b is a variable that holds four words. -/
def Has4 (w : World) (b : Nat) (x0 x1 x2 x3 : Int) : Prop := w.heap[b]? = some (.cells #[.int .u64 x0, .int .u64 x1, .int .u64 x2, .int .u64 x3] 54 (0, 0))

theorem Holds.has4 {w : World} {b : Nat} {f : Fn} (h : Holds w b f) : Has4 w b (wd f 0) (wd f 1) (wd f 2) (wd f 3) := h
theorem Has4.cells {w : World} {b : Nat} {x0 x1 x2 x3 : Int} (h : Has4 w b x0 x1 x2 x3) :
    w.cell? ⟨b, 0, none⟩ = some (.int .u64 x0) ∧ w.cell? ⟨b, 1, none⟩ = some (.int .u64 x1) ∧ w.cell? ⟨b, 2, none⟩ = some (.int .u64 x2) ∧ w.cell? ⟨b, 3, none⟩ = some (.int .u64 x3) :=
  ⟨cell_of_row _ _ _ _ _ _ h, cell_of_row _ _ _ _ _ _ h, cell_of_row _ _ _ _ _ _ h, cell_of_row _ _ _ _ _ _ h⟩
theorem Has4.free {w : World} {b : Nat} {x0 x1 x2 x3 : Int} (h : Has4 w b x0 x1 x2 x3) :
    w.frozen? ⟨b, 0, none⟩ = false ∧ w.frozen? ⟨b, 1, none⟩ = false ∧ w.frozen? ⟨b, 2, none⟩ = false ∧ w.frozen? ⟨b, 3, none⟩ = false :=
  ⟨frozen_of_row _ _ _ _ _ h, frozen_of_row _ _ _ _ _ h, frozen_of_row _ _ _ _ _ h, frozen_of_row _ _ _ _ _ h⟩
theorem Has4.set0 {w : World} {b : Nat} {x0 x1 x2 x3 : Int} (h : Has4 w b x0 x1 x2 x3) (y : Int) : Has4 (w.setCell ⟨b, 0, none⟩ (.int .u64 y)) b y x1 x2 x3 := heap_setCell_same _ _ _ _ _ _ h
theorem Has4.set1 {w : World} {b : Nat} {x0 x1 x2 x3 : Int} (h : Has4 w b x0 x1 x2 x3) (y : Int) : Has4 (w.setCell ⟨b, 1, none⟩ (.int .u64 y)) b x0 y x2 x3 := heap_setCell_same _ _ _ _ _ _ h
theorem Has4.set2 {w : World} {b : Nat} {x0 x1 x2 x3 : Int} (h : Has4 w b x0 x1 x2 x3) (y : Int) : Has4 (w.setCell ⟨b, 2, none⟩ (.int .u64 y)) b x0 x1 y x3 := heap_setCell_same _ _ _ _ _ _ h
theorem Has4.set3 {w : World} {b : Nat} {x0 x1 x2 x3 : Int} (h : Has4 w b x0 x1 x2 x3) (y : Int) : Has4 (w.setCell ⟨b, 3, none⟩ (.int .u64 y)) b x0 x1 x2 y := heap_setCell_same _ _ _ _ _ _ h
theorem Has4.drewN {w : World} {b n : Nat} {x0 x1 x2 x3 : Int} (h : Has4 w b x0 x1 x2 x3) : Has4 (w.drewN n) b x0 x1 x2 x3 := h
theorem Holds.drewN {w : World} {b n : Nat} {f : Fn} (h : Holds w b f) : Holds (w.drewN n) b f := h
theorem Holds.other1 {w : World} {b c i : Nat} {f : Fn} {x : Value} (h : Holds w b f) (hne : b ≠ c) : Holds (w.setCell ⟨c, i, none⟩ x) b f := by
  unfold Holds; rw [heap_setCell_other _ _ _ _ hne]; exact h

set_option maxHeartbeats 1000000 in
theorem cofOf (f : Fn) (v : Nat) (b : Bool) (w : World) (hv : v = 6 ∨ v = 7) :
    Calls Tryz.prog 76 #[fv f, .int .i64 v, .bool b] w fun e w' => e = .returned (fv (cofF f v b)) ∧ Below w.heap.size w w' := by
  obtain ⟨⟨a0, a1, a2, a3⟩, ⟨b0, b1, b2, b3⟩, ⟨c0, c1, c2, c3⟩, ⟨d0, d1, d2, d3⟩⟩ := cof_of_words f
  rcases hv with rfl | rfl <;> cases b <;> simp only [fv, a0, a1, a2, a3, b0, b1, b2, b3, c0, c1, c2, c3, d0, d1, d2, d3] <;> clear a0 a1 a2 a3 b0 b1 b2 b3 c0 c1 c2 c3 d0 d1 d2 d3
  all_goals
    go_enter Tryz.func76, Tryz.ntmps76
    go_wp2
    refine wp_loop_rounds 5 ?_
    iterate 4 (rw [rounds_succ]; go_wp2)
    rw [rounds_succ]
    go_wp2
    exact bodyPost_ret (v := _) (by simp [results, Tryz.results76, go_sem]) rfl ⟨rfl, by go_grown⟩

theorem or_shr (f k : Fn) (v i : Nat) (hk : k = f &&& varF v) (hv : v < 6) (hi : i < 4) : bits .or .u64 (wd k i) ((wd k i : Int) / 2 ^ 2 ^ v) = (wd (cofF f v true) i : Nat) := by
  subst hk
  have hx := wd_lt (f &&& varF v) i
  rw [show ((wd (f &&& varF v) i : Int) / 2 ^ 2 ^ v) = ((wd (f &&& varF v) i / 2 ^ 2 ^ v : Nat) : Int) by simp, bits_or_u64_nat _ _ hx (Nat.lt_of_le_of_lt (Nat.div_le_self _ _) hx), cof_in_true f v i hv hi]

theorem or_shl (f k : Fn) (v i : Nat) (hk : k = f &&& ~~~varF v) (hv : v < 6) (hi : i < 4) : bits .or .u64 (wd k i) (IntKind.u64.wrap ((wd k i : Int) * 2 ^ 2 ^ v)) = (wd (cofF f v false) i : Nat) := by
  subst hk
  have hx := wd_lt (f &&& ~~~varF v) i
  have e : IntKind.u64.wrap ((wd (f &&& ~~~varF v) i : Int) * 2 ^ 2 ^ v) = ((wd (f &&& ~~~varF v) i * 2 ^ 2 ^ v % 18446744073709551616 : Nat) : Int) := by
    rw [IntKind.wrap_u64]
    simp
  rw [e, bits_or_u64_nat _ _ hx (Nat.mod_lt _ (by decide)), cof_in_false f v i hv hi]

set_option maxRecDepth 100000 in
set_option maxHeartbeats 4000000 in
theorem cofInTrue (f : Fn) (v : Nat) (w : World) (hl : LowW w) (hv : v < 6) :
    Calls Tryz.prog 75 #[fv f, .int .i64 v, .bool true] w fun e w' => e = .returned (fv (cofF f v true)) ∧ Below w.heap.size w w' := by
  have Hl := Lib.hid hl
  have hp := hl.pos
  clear hl
  have hv0 : (0 : Int) ≤ v := by omega
  have hv1 : (v : Int) < 6 := by omega
  have hvar : varAny (v : Int) = varF v := by rw [varAny, if_pos (by omega), Int.toNat_natCast]
  have Hv := Lib.hid hvar
  have hs : wrap64 (2 ^ v) = ((2 ^ v : Nat) : Int) ∧ (2 : Nat) ^ v ≤ 32 := by
    rcases (by omega : v = 0 ∨ v = 1 ∨ v = 2 ∨ v = 3 ∨ v = 4 ∨ v = 5) with rfl | rfl | rfl | rfl | rfl | rfl <;> decide +kernel
  obtain ⟨hs, hs32⟩ := hs
  have hsn : 0 ≤ wrap64 (2 ^ v) ∧ wrap64 (2 ^ v) ≤ 32 := by rw [hs]; exact ⟨Int.natCast_nonneg _, Int.ofNat_le.2 hs32⟩
  have Hs := Lib.hid (show (wrap64 (2 ^ v)).toNat = 2 ^ v by rw [hs]; exact Int.toNat_natCast _)
  clear hvar hs hs32
  simp only [fv]
  go_enter Tryz.func75, Tryz.ntmps75
  go_wp2
  have hb : Below w.heap.size w ((w.alloc (.cells #[.int .u64 (wd f 0), .int .u64 (wd f 1), .int .u64 (wd f 2), .int .u64 (wd f 3)] 54)).alloc (.cells #[.int .u64 0, .int .u64 0, .int .u64 0, .int .u64 0] 54)) := by go_grown
  have h0 : Holds ((w.alloc (.cells #[.int .u64 (wd f 0), .int .u64 (wd f 1), .int .u64 (wd f 2), .int .u64 (wd f 3)] 54)).alloc (.cells #[.int .u64 0, .int .u64 0, .int .u64 0, .int .u64 0] 54)) w.heap.size f := (Holds.new _ _ _).alloc _
  have h1 : Holds ((w.alloc (.cells #[.int .u64 (wd f 0), .int .u64 (wd f 1), .int .u64 (wd f 2), .int .u64 (wd f 3)] 54)).alloc (.cells #[.int .u64 0, .int .u64 0, .int .u64 0, .int .u64 0] 54)) (w.heap.size + 1) 0#256 := Holds.new0 _ _
  generalize (w.alloc (.cells #[.int .u64 (wd f 0), .int .u64 (wd f 1), .int .u64 (wd f 2), .int .u64 (wd f 3)] 54)).alloc (.cells #[.int .u64 0, .int .u64 0, .int .u64 0, .int .u64 0] 54) = W at *
  have HL : Hid (∀ x, Below W.heap.size W x → LowW x) := Lib.hid fun x hx => Hl.out.keep (hb.trans (hx.mono hb.size))
  refine wp_region_alloc_tail 4 _ (.cells #[.int .u64 0, .int .u64 0, .int .u64 0, .int .u64 0] 54) (by kernel_rfl) (by kernel_rfl) rfl (fun a w => by simp [go_sem]; done) ?_
  apply Exists.intro
  refine ⟨fun V hV => ?_, ?_⟩
  · have c0 : ∀ u : Sub V, u.1.cell? ⟨w.heap.size, 0, none⟩ = some (.int .u64 (wd f 0)) := fun u => ((h0.keep hV h0.lt).sub u).cells.1
    have c1 : ∀ u : Sub V, u.1.cell? ⟨w.heap.size, 1, none⟩ = some (.int .u64 (wd f 1)) := fun u => ((h0.keep hV h0.lt).sub u).cells.2.1
    have c2 : ∀ u : Sub V, u.1.cell? ⟨w.heap.size, 2, none⟩ = some (.int .u64 (wd f 2)) := fun u => ((h0.keep hV h0.lt).sub u).cells.2.2.1
    have c3 : ∀ u : Sub V, u.1.cell? ⟨w.heap.size, 3, none⟩ = some (.int .u64 (wd f 3)) := fun u => ((h0.keep hV h0.lt).sub u).cells.2.2.2
    have hlV : ∀ u : Sub V, LowW u.1 := fun u => HL.out _ (hV.trans (u.2.mono hV.size))
    simp only [List.take_succ_cons, List.take_zero]
    iterate 2 (go_big_quiet_step (fail))
    go_big_quiet_step (exact sub_below (tabVar v _ (hlV _)))
    go_big_quiet_step (exact sub_below (tabAnd f (varAny v) _))
    exact wpQuiet_nil rfl
  intro B V hV hB hz
  have k1 := h1.keep hV h1.lt
  have kb := hb.trans (hV.mono hb.size)
  have kz : Holds V B 0#256 := by unfold Holds; rw [hz]; simp [wd]
  rw [Hv.out]
  have hne : w.heap.size + 1 ≠ B := by have := h1.lt; omega
  have hBw : w.heap.size ≤ B := by have := h1.lt; omega
  clear h0 h1 hb hV hB hz HL
  obtain ⟨c0, c1, c2, c3⟩ := kz.cells
  obtain ⟨z0, z1, z2, z3⟩ := kz.free
  simp only [List.drop_succ_cons, List.drop_zero]
  generalize hk : f &&& varF v = k
  have Hk := Lib.hid hk.symm
  clear hk
  simp only [fv]
  go_wp2
  have kk := kz.set4 k
  have kr := k1.other4 (x0 := .int .u64 (wd k 0)) (x1 := .int .u64 (wd k 1)) (x2 := .int .u64 (wd k 2)) (x3 := .int .u64 (wd k 3)) hne
  have kw := below_set4 (x0 := .int .u64 (wd k 0)) (x1 := .int .u64 (wd k 1)) (x2 := .int .u64 (wd k 2)) (x3 := .int .u64 (wd k 3)) kb hBw
  clear c0 c1 c2 c3 z0 z1 z2 z3 kz k1 kb
  generalize (((V.setCell ⟨B, 0, none⟩ (.int .u64 (wd k 0))).setCell ⟨B, 1, none⟩ (.int .u64 (wd k 1))).setCell ⟨B, 2, none⟩ (.int .u64 (wd k 2))).setCell ⟨B, 3, none⟩ (.int .u64 (wd k 3)) = U0 at *
  generalize wrap64 (2 ^ v) = s at *
  replace kk := kk.has4
  obtain ⟨c0, c1, c2, c3⟩ := kk.cells
  obtain ⟨z0, z1, z2, z3⟩ := kk.free
  refine wp_loop_rounds 5 ?_
  rw [rounds_succ]
  go_wp2
  refine wp_region_draws_tail 9 (by kernel_rfl) (by kernel_rfl) ?_
  simp only [List.take_succ_cons, List.take_zero, List.drop_succ_cons, List.drop_zero]
  iterate 9 (go_big_quiet_step (fail))
  refine wpQuiet_nil ?_
  intro w' hw'
  obtain ⟨nq, hw''⟩ := hw'
  subst hw''
  go_wp2
  replace kk := (kk.set0 (bits .or .u64 (wd k 0) ((wd k 0 : Int) / 2 ^ s.toNat))).drewN (n := nq)
  replace kr := (kr.other1 (i := 0) (x := .int .u64 (bits .or .u64 (wd k 0) ((wd k 0 : Int) / 2 ^ s.toNat))) hne).drewN (n := nq)
  replace kw := below_drewN (n := nq) (kw.setCell (p := ⟨B, 0, none⟩) hBw (.int .u64 (bits .or .u64 (wd k 0) ((wd k 0 : Int) / 2 ^ s.toNat))))
  clear c0 c1 c2 c3 z0 z1 z2 z3
  generalize (U0.setCell ⟨B, 0, none⟩ (.int .u64 (bits .or .u64 (wd k 0) ((wd k 0 : Int) / 2 ^ s.toNat)))).drewN nq = U1 at *
  obtain ⟨c0, c1, c2, c3⟩ := kk.cells
  obtain ⟨z0, z1, z2, z3⟩ := kk.free
  rw [rounds_succ]
  go_wp2
  refine wp_region_draws_tail 9 (by kernel_rfl) (by kernel_rfl) ?_
  simp only [List.take_succ_cons, List.take_zero, List.drop_succ_cons, List.drop_zero]
  iterate 9 (go_big_quiet_step (fail))
  refine wpQuiet_nil ?_
  intro w' hw'
  obtain ⟨nq, hw''⟩ := hw'
  subst hw''
  go_wp2
  replace kk := (kk.set1 (bits .or .u64 (wd k 1) ((wd k 1 : Int) / 2 ^ s.toNat))).drewN (n := nq)
  replace kr := (kr.other1 (i := 1) (x := .int .u64 (bits .or .u64 (wd k 1) ((wd k 1 : Int) / 2 ^ s.toNat))) hne).drewN (n := nq)
  replace kw := below_drewN (n := nq) (kw.setCell (p := ⟨B, 1, none⟩) hBw (.int .u64 (bits .or .u64 (wd k 1) ((wd k 1 : Int) / 2 ^ s.toNat))))
  clear c0 c1 c2 c3 z0 z1 z2 z3
  generalize (U1.setCell ⟨B, 1, none⟩ (.int .u64 (bits .or .u64 (wd k 1) ((wd k 1 : Int) / 2 ^ s.toNat)))).drewN nq = U2 at *
  obtain ⟨c0, c1, c2, c3⟩ := kk.cells
  obtain ⟨z0, z1, z2, z3⟩ := kk.free
  rw [rounds_succ]
  go_wp2
  refine wp_region_draws_tail 9 (by kernel_rfl) (by kernel_rfl) ?_
  simp only [List.take_succ_cons, List.take_zero, List.drop_succ_cons, List.drop_zero]
  iterate 9 (go_big_quiet_step (fail))
  refine wpQuiet_nil ?_
  intro w' hw'
  obtain ⟨nq, hw''⟩ := hw'
  subst hw''
  go_wp2
  replace kk := (kk.set2 (bits .or .u64 (wd k 2) ((wd k 2 : Int) / 2 ^ s.toNat))).drewN (n := nq)
  replace kr := (kr.other1 (i := 2) (x := .int .u64 (bits .or .u64 (wd k 2) ((wd k 2 : Int) / 2 ^ s.toNat))) hne).drewN (n := nq)
  replace kw := below_drewN (n := nq) (kw.setCell (p := ⟨B, 2, none⟩) hBw (.int .u64 (bits .or .u64 (wd k 2) ((wd k 2 : Int) / 2 ^ s.toNat))))
  clear c0 c1 c2 c3 z0 z1 z2 z3
  generalize (U2.setCell ⟨B, 2, none⟩ (.int .u64 (bits .or .u64 (wd k 2) ((wd k 2 : Int) / 2 ^ s.toNat)))).drewN nq = U3 at *
  obtain ⟨c0, c1, c2, c3⟩ := kk.cells
  obtain ⟨z0, z1, z2, z3⟩ := kk.free
  rw [rounds_succ]
  go_wp2
  refine wp_region_draws_tail 9 (by kernel_rfl) (by kernel_rfl) ?_
  simp only [List.take_succ_cons, List.take_zero, List.drop_succ_cons, List.drop_zero]
  iterate 9 (go_big_quiet_step (fail))
  refine wpQuiet_nil ?_
  intro w' hw'
  obtain ⟨nq, hw''⟩ := hw'
  subst hw''
  go_wp2
  replace kk := (kk.set3 (bits .or .u64 (wd k 3) ((wd k 3 : Int) / 2 ^ s.toNat))).drewN (n := nq)
  replace kr := (kr.other1 (i := 3) (x := .int .u64 (bits .or .u64 (wd k 3) ((wd k 3 : Int) / 2 ^ s.toNat))) hne).drewN (n := nq)
  replace kw := below_drewN (n := nq) (kw.setCell (p := ⟨B, 3, none⟩) hBw (.int .u64 (bits .or .u64 (wd k 3) ((wd k 3 : Int) / 2 ^ s.toNat))))
  clear c0 c1 c2 c3 z0 z1 z2 z3
  generalize (U3.setCell ⟨B, 3, none⟩ (.int .u64 (bits .or .u64 (wd k 3) ((wd k 3 : Int) / 2 ^ s.toNat)))).drewN nq = U4 at *
  obtain ⟨c0, c1, c2, c3⟩ := kk.cells
  obtain ⟨z0, z1, z2, z3⟩ := kk.free
  rw [rounds_succ]
  obtain ⟨d0, d1, d2, d3⟩ := kr.cells
  obtain ⟨y0, y1, y2, y3⟩ := kr.free
  go_wp2
  clear c0 c1 c2 c3 z0 z1 z2 z3 d0 d1 d2 d3 y0 y1 y2 y3
  have e0 := or_shr f k v 0 Hk.out hv (by decide)
  have e1 := or_shr f k v 1 Hk.out hv (by decide)
  have e2 := or_shr f k v 2 Hk.out hv (by decide)
  have e3 := or_shr f k v 3 Hk.out hv (by decide)
  rw [Hs.out, e0, e1, e2, e3]
  exact bodyPost_ret (ret_holds Tryz.results75 rfl (kr.set4 (cofF f v true))) rfl ⟨rfl, below_set4 kw (by omega)⟩

set_option maxRecDepth 100000 in
set_option maxHeartbeats 4000000 in
theorem cofInFalse (f : Fn) (v : Nat) (w : World) (hl : LowW w) (hv : v < 6) :
    Calls Tryz.prog 75 #[fv f, .int .i64 v, .bool false] w fun e w' => e = .returned (fv (cofF f v false)) ∧ Below w.heap.size w w' := by
  have Hl := Lib.hid hl
  have hp := hl.pos
  clear hl
  have hv0 : (0 : Int) ≤ v := by omega
  have hv1 : (v : Int) < 6 := by omega
  have hvar : varAny (v : Int) = varF v := by rw [varAny, if_pos (by omega), Int.toNat_natCast]
  have Hv := Lib.hid hvar
  have hs : wrap64 (2 ^ v) = ((2 ^ v : Nat) : Int) ∧ (2 : Nat) ^ v ≤ 32 := by
    rcases (by omega : v = 0 ∨ v = 1 ∨ v = 2 ∨ v = 3 ∨ v = 4 ∨ v = 5) with rfl | rfl | rfl | rfl | rfl | rfl <;> decide +kernel
  obtain ⟨hs, hs32⟩ := hs
  have hsn : 0 ≤ wrap64 (2 ^ v) ∧ wrap64 (2 ^ v) ≤ 32 := by rw [hs]; exact ⟨Int.natCast_nonneg _, Int.ofNat_le.2 hs32⟩
  have Hs := Lib.hid (show (wrap64 (2 ^ v)).toNat = 2 ^ v by rw [hs]; exact Int.toNat_natCast _)
  clear hvar hs hs32
  simp only [fv]
  go_enter Tryz.func75, Tryz.ntmps75
  go_wp2
  have hb : Below w.heap.size w ((w.alloc (.cells #[.int .u64 (wd f 0), .int .u64 (wd f 1), .int .u64 (wd f 2), .int .u64 (wd f 3)] 54)).alloc (.cells #[.int .u64 0, .int .u64 0, .int .u64 0, .int .u64 0] 54)) := by go_grown
  have h0 : Holds ((w.alloc (.cells #[.int .u64 (wd f 0), .int .u64 (wd f 1), .int .u64 (wd f 2), .int .u64 (wd f 3)] 54)).alloc (.cells #[.int .u64 0, .int .u64 0, .int .u64 0, .int .u64 0] 54)) w.heap.size f := (Holds.new _ _ _).alloc _
  have h1 : Holds ((w.alloc (.cells #[.int .u64 (wd f 0), .int .u64 (wd f 1), .int .u64 (wd f 2), .int .u64 (wd f 3)] 54)).alloc (.cells #[.int .u64 0, .int .u64 0, .int .u64 0, .int .u64 0] 54)) (w.heap.size + 1) 0#256 := Holds.new0 _ _
  generalize (w.alloc (.cells #[.int .u64 (wd f 0), .int .u64 (wd f 1), .int .u64 (wd f 2), .int .u64 (wd f 3)] 54)).alloc (.cells #[.int .u64 0, .int .u64 0, .int .u64 0, .int .u64 0] 54) = W at *
  have HL : Hid (∀ x, Below W.heap.size W x → LowW x) := Lib.hid fun x hx => Hl.out.keep (hb.trans (hx.mono hb.size))
  refine wp_region_alloc_tail 5 _ (.cells #[.int .u64 0, .int .u64 0, .int .u64 0, .int .u64 0] 54) (by kernel_rfl) (by kernel_rfl) rfl (fun a w => by simp [go_sem]; done) ?_
  apply Exists.intro
  refine ⟨fun V hV => ?_, ?_⟩
  · have c0 : ∀ u : Sub V, u.1.cell? ⟨w.heap.size, 0, none⟩ = some (.int .u64 (wd f 0)) := fun u => ((h0.keep hV h0.lt).sub u).cells.1
    have c1 : ∀ u : Sub V, u.1.cell? ⟨w.heap.size, 1, none⟩ = some (.int .u64 (wd f 1)) := fun u => ((h0.keep hV h0.lt).sub u).cells.2.1
    have c2 : ∀ u : Sub V, u.1.cell? ⟨w.heap.size, 2, none⟩ = some (.int .u64 (wd f 2)) := fun u => ((h0.keep hV h0.lt).sub u).cells.2.2.1
    have c3 : ∀ u : Sub V, u.1.cell? ⟨w.heap.size, 3, none⟩ = some (.int .u64 (wd f 3)) := fun u => ((h0.keep hV h0.lt).sub u).cells.2.2.2
    have hlV : ∀ u : Sub V, LowW u.1 := fun u => HL.out _ (hV.trans (u.2.mono hV.size))
    simp only [List.take_succ_cons, List.take_zero]
    iterate 2 (go_big_quiet_step (fail))
    go_big_quiet_step (exact sub_below (tabVar v _ (hlV _)))
    go_big_quiet_step (exact sub_below (tabNot (varAny v) _))
    go_big_quiet_step (exact sub_below (tabAnd f (~~~varAny v) _))
    exact wpQuiet_nil rfl
  intro B V hV hB hz
  have k1 := h1.keep hV h1.lt
  have kb := hb.trans (hV.mono hb.size)
  have kz : Holds V B 0#256 := by unfold Holds; rw [hz]; simp [wd]
  rw [Hv.out]
  have hne : w.heap.size + 1 ≠ B := by have := h1.lt; omega
  have hBw : w.heap.size ≤ B := by have := h1.lt; omega
  clear h0 h1 hb hV hB hz HL
  obtain ⟨c0, c1, c2, c3⟩ := kz.cells
  obtain ⟨z0, z1, z2, z3⟩ := kz.free
  simp only [List.drop_succ_cons, List.drop_zero]
  generalize hk : f &&& ~~~varF v = k
  have Hk := Lib.hid hk.symm
  clear hk
  simp only [fv]
  go_wp2
  have kk := kz.set4 k
  have kr := k1.other4 (x0 := .int .u64 (wd k 0)) (x1 := .int .u64 (wd k 1)) (x2 := .int .u64 (wd k 2)) (x3 := .int .u64 (wd k 3)) hne
  have kw := below_set4 (x0 := .int .u64 (wd k 0)) (x1 := .int .u64 (wd k 1)) (x2 := .int .u64 (wd k 2)) (x3 := .int .u64 (wd k 3)) kb hBw
  clear c0 c1 c2 c3 z0 z1 z2 z3 kz k1 kb
  generalize (((V.setCell ⟨B, 0, none⟩ (.int .u64 (wd k 0))).setCell ⟨B, 1, none⟩ (.int .u64 (wd k 1))).setCell ⟨B, 2, none⟩ (.int .u64 (wd k 2))).setCell ⟨B, 3, none⟩ (.int .u64 (wd k 3)) = U0 at *
  generalize wrap64 (2 ^ v) = s at *
  replace kk := kk.has4
  obtain ⟨c0, c1, c2, c3⟩ := kk.cells
  obtain ⟨z0, z1, z2, z3⟩ := kk.free
  refine wp_loop_rounds 5 ?_
  rw [rounds_succ]
  go_wp2
  refine wp_region_draws_tail 9 (by kernel_rfl) (by kernel_rfl) ?_
  simp only [List.take_succ_cons, List.take_zero, List.drop_succ_cons, List.drop_zero]
  iterate 9 (go_big_quiet_step (fail))
  refine wpQuiet_nil ?_
  intro w' hw'
  obtain ⟨nq, hw''⟩ := hw'
  subst hw''
  go_wp2
  replace kk := (kk.set0 (bits .or .u64 (wd k 0) (IntKind.u64.wrap ((wd k 0 : Int) * 2 ^ s.toNat)))).drewN (n := nq)
  replace kr := (kr.other1 (i := 0) (x := .int .u64 (bits .or .u64 (wd k 0) (IntKind.u64.wrap ((wd k 0 : Int) * 2 ^ s.toNat)))) hne).drewN (n := nq)
  replace kw := below_drewN (n := nq) (kw.setCell (p := ⟨B, 0, none⟩) hBw (.int .u64 (bits .or .u64 (wd k 0) (IntKind.u64.wrap ((wd k 0 : Int) * 2 ^ s.toNat)))))
  clear c0 c1 c2 c3 z0 z1 z2 z3
  generalize (U0.setCell ⟨B, 0, none⟩ (.int .u64 (bits .or .u64 (wd k 0) (IntKind.u64.wrap ((wd k 0 : Int) * 2 ^ s.toNat))))).drewN nq = U1 at *
  obtain ⟨c0, c1, c2, c3⟩ := kk.cells
  obtain ⟨z0, z1, z2, z3⟩ := kk.free
  rw [rounds_succ]
  go_wp2
  refine wp_region_draws_tail 9 (by kernel_rfl) (by kernel_rfl) ?_
  simp only [List.take_succ_cons, List.take_zero, List.drop_succ_cons, List.drop_zero]
  iterate 9 (go_big_quiet_step (fail))
  refine wpQuiet_nil ?_
  intro w' hw'
  obtain ⟨nq, hw''⟩ := hw'
  subst hw''
  go_wp2
  replace kk := (kk.set1 (bits .or .u64 (wd k 1) (IntKind.u64.wrap ((wd k 1 : Int) * 2 ^ s.toNat)))).drewN (n := nq)
  replace kr := (kr.other1 (i := 1) (x := .int .u64 (bits .or .u64 (wd k 1) (IntKind.u64.wrap ((wd k 1 : Int) * 2 ^ s.toNat)))) hne).drewN (n := nq)
  replace kw := below_drewN (n := nq) (kw.setCell (p := ⟨B, 1, none⟩) hBw (.int .u64 (bits .or .u64 (wd k 1) (IntKind.u64.wrap ((wd k 1 : Int) * 2 ^ s.toNat)))))
  clear c0 c1 c2 c3 z0 z1 z2 z3
  generalize (U1.setCell ⟨B, 1, none⟩ (.int .u64 (bits .or .u64 (wd k 1) (IntKind.u64.wrap ((wd k 1 : Int) * 2 ^ s.toNat))))).drewN nq = U2 at *
  obtain ⟨c0, c1, c2, c3⟩ := kk.cells
  obtain ⟨z0, z1, z2, z3⟩ := kk.free
  rw [rounds_succ]
  go_wp2
  refine wp_region_draws_tail 9 (by kernel_rfl) (by kernel_rfl) ?_
  simp only [List.take_succ_cons, List.take_zero, List.drop_succ_cons, List.drop_zero]
  iterate 9 (go_big_quiet_step (fail))
  refine wpQuiet_nil ?_
  intro w' hw'
  obtain ⟨nq, hw''⟩ := hw'
  subst hw''
  go_wp2
  replace kk := (kk.set2 (bits .or .u64 (wd k 2) (IntKind.u64.wrap ((wd k 2 : Int) * 2 ^ s.toNat)))).drewN (n := nq)
  replace kr := (kr.other1 (i := 2) (x := .int .u64 (bits .or .u64 (wd k 2) (IntKind.u64.wrap ((wd k 2 : Int) * 2 ^ s.toNat)))) hne).drewN (n := nq)
  replace kw := below_drewN (n := nq) (kw.setCell (p := ⟨B, 2, none⟩) hBw (.int .u64 (bits .or .u64 (wd k 2) (IntKind.u64.wrap ((wd k 2 : Int) * 2 ^ s.toNat)))))
  clear c0 c1 c2 c3 z0 z1 z2 z3
  generalize (U2.setCell ⟨B, 2, none⟩ (.int .u64 (bits .or .u64 (wd k 2) (IntKind.u64.wrap ((wd k 2 : Int) * 2 ^ s.toNat))))).drewN nq = U3 at *
  obtain ⟨c0, c1, c2, c3⟩ := kk.cells
  obtain ⟨z0, z1, z2, z3⟩ := kk.free
  rw [rounds_succ]
  go_wp2
  refine wp_region_draws_tail 9 (by kernel_rfl) (by kernel_rfl) ?_
  simp only [List.take_succ_cons, List.take_zero, List.drop_succ_cons, List.drop_zero]
  iterate 9 (go_big_quiet_step (fail))
  refine wpQuiet_nil ?_
  intro w' hw'
  obtain ⟨nq, hw''⟩ := hw'
  subst hw''
  go_wp2
  replace kk := (kk.set3 (bits .or .u64 (wd k 3) (IntKind.u64.wrap ((wd k 3 : Int) * 2 ^ s.toNat)))).drewN (n := nq)
  replace kr := (kr.other1 (i := 3) (x := .int .u64 (bits .or .u64 (wd k 3) (IntKind.u64.wrap ((wd k 3 : Int) * 2 ^ s.toNat)))) hne).drewN (n := nq)
  replace kw := below_drewN (n := nq) (kw.setCell (p := ⟨B, 3, none⟩) hBw (.int .u64 (bits .or .u64 (wd k 3) (IntKind.u64.wrap ((wd k 3 : Int) * 2 ^ s.toNat)))))
  clear c0 c1 c2 c3 z0 z1 z2 z3
  generalize (U3.setCell ⟨B, 3, none⟩ (.int .u64 (bits .or .u64 (wd k 3) (IntKind.u64.wrap ((wd k 3 : Int) * 2 ^ s.toNat))))).drewN nq = U4 at *
  obtain ⟨c0, c1, c2, c3⟩ := kk.cells
  obtain ⟨z0, z1, z2, z3⟩ := kk.free
  rw [rounds_succ]
  obtain ⟨d0, d1, d2, d3⟩ := kr.cells
  obtain ⟨y0, y1, y2, y3⟩ := kr.free
  go_wp2
  clear c0 c1 c2 c3 z0 z1 z2 z3 d0 d1 d2 d3 y0 y1 y2 y3
  have e0 := or_shl f k v 0 Hk.out hv (by decide)
  have e1 := or_shl f k v 1 Hk.out hv (by decide)
  have e2 := or_shl f k v 2 Hk.out hv (by decide)
  have e3 := or_shl f k v 3 Hk.out hv (by decide)
  rw [Hs.out, e0, e1, e2, e3]
  exact bodyPost_ret (ret_holds Tryz.results75 rfl (kr.set4 (cofF f v false))) rfl ⟨rfl, below_set4 kw (by omega)⟩

end Go.Proofs.YtclkckinpjkglaaGreatDoor

/-
  Walks of package cof.
-/
namespace Go.Proofs.YtclkckinpjkglaaGreatDoor
open Go Go.RowKit
attribute [local go_sem] run_eql_fv run_neq_fv run_guard_fv

theorem cofIn (f : Fn) (v : Nat) (b : Bool) (w : World) (hl : LowW w) (hv : v < 6) :
    Calls Tryz.prog 75 #[fv f, .int .i64 v, .bool b] w fun e w' => e = .returned (fv (cofF f v b)) ∧ Below w.heap.size w w' := by
  cases b
  · exact cofInFalse f v w hl hv
  · exact cofInTrue f v w hl hv

set_option maxRecDepth 100000 in
set_option maxHeartbeats 1000000 in
theorem cofCof (f : Fn) (v : Int) (b : Bool) (w : World) (hl : LowW w) :
    Calls Tryz.prog 46 #[fv f, .int .i64 v, .bool b] w fun e w' => e = .returned (fv (cofAny f v b)) ∧ Below w.heap.size w w' := by
  by_cases hv : 0 ≤ v ∧ v < 8
  · obtain ⟨m, rfl⟩ := Int.eq_ofNat_of_zero_le hv.1
    have hm0 : (0 : Int) ≤ m := hv.1
    have hm8 : (m : Int) < 8 := hv.2
    have e : cofAny f (m : Int) b = cofF f m b := by rw [cofAny, if_pos hv, Int.toNat_natCast]
    rw [e]
    clear e hv
    have hk : Holds ((w.alloc (.cells #[.int .u64 (wd f 0), .int .u64 (wd f 1), .int .u64 (wd f 2), .int .u64 (wd f 3)] 54)).alloc (.cells #[.int .u64 0, .int .u64 0, .int .u64 0, .int .u64 0] 54)) (w.heap.size + 1) 0#256 := Holds.new0 _ _
    have Hk := Lib.hid hk
    have Hl : Hid (LowW ((w.alloc (.cells #[.int .u64 (wd f 0), .int .u64 (wd f 1), .int .u64 (wd f 2), .int .u64 (wd f 3)] 54)).alloc (.cells #[.int .u64 0, .int .u64 0, .int .u64 0, .int .u64 0] 54))) := Lib.hid (hl.keep (by go_grown))
    clear hk hl
    by_cases h6 : (m : Int) < 6
    · simp only [fv]
      go_enter Tryz.func46, Tryz.ntmps46
      go_wp2_with fail
      refine (cofIn f m b _ Hl.out (by omega)).mono ?_
      generalize hg : cofF f m b = g
      have Hg := Lib.hid hg
      clear hg
      rintro e w1 ⟨rfl, hb1⟩
      have k := Hk.out.keep hb1 (by simp)
      have hb2 : Below w.heap.size w w1 := below_from hb1 (by go_grown)
      clear hb1 Hk Hl
      obtain ⟨c0, c1, c2, c3⟩ := k.cells
      obtain ⟨z0, z1, z2, z3⟩ := k.free
      simp only [fv]
      go_wp2
      exact bodyPost_ret (ret_holds Tryz.results46 rfl (k.set4 g)) rfl ⟨by rw [Hg.out]; rfl, below_set4 hb2 (by omega)⟩
    · have h6' : (6 : Int) ≤ m := by omega
      simp only [fv]
      go_enter Tryz.func46, Tryz.ntmps46
      go_wp2_with fail
      refine (cofOf f m b _ (by omega)).mono ?_
      generalize hg : cofF f m b = g
      have Hg := Lib.hid hg
      clear hg
      rintro e w1 ⟨rfl, hb1⟩
      have k := Hk.out.keep hb1 (by simp)
      have hb2 : Below w.heap.size w w1 := below_from hb1 (by go_grown)
      clear hb1 Hk Hl
      obtain ⟨c0, c1, c2, c3⟩ := k.cells
      obtain ⟨z0, z1, z2, z3⟩ := k.free
      simp only [fv]
      go_wp2
      exact bodyPost_ret (ret_holds Tryz.results46 rfl (k.set4 g)) rfl ⟨by rw [Hg.out]; rfl, below_set4 hb2 (by omega)⟩
  · have e : cofAny f v b = f := by rw [cofAny, if_neg hv]
    rw [e]
    clear e
    simp only [fv]
    go_enter Tryz.func46, Tryz.ntmps46
    go_wp2
    all_goals exact bodyPost_ret (v := .agg #[.int .u64 (wd f 0), .int .u64 (wd f 1), .int .u64 (wd f 2), .int .u64 (wd f 3)]) (by simp [results, Tryz.results46, go_sem]) rfl ⟨rfl, by go_grown⟩




set_option maxRecDepth 100000 in
set_option maxHeartbeats 1000000 in
theorem cofDepends (f : Fn) (v : Int) (w : World) (hl : LowW w) :
    Calls Tryz.prog 73 #[fv f, .int .i64 v] w fun e w' => e = .returned (.bool (depAny f v)) ∧ Below w.heap.size w w' := by
  rw [← dep_iff f v]
  simp only [fv]
  go_enter Tryz.func73, Tryz.ntmps73
  go_wp2
  have h0 : Holds (w.alloc (.cells #[.int .u64 (wd f 0), .int .u64 (wd f 1), .int .u64 (wd f 2), .int .u64 (wd f 3)] 54)) w.heap.size f := Holds.new _ _ _
  have hb : Below w.heap.size w (w.alloc (.cells #[.int .u64 (wd f 0), .int .u64 (wd f 1), .int .u64 (wd f 2), .int .u64 (wd f 3)] 54)) := by go_grown
  generalize (w.alloc (.cells #[.int .u64 (wd f 0), .int .u64 (wd f 1), .int .u64 (wd f 2), .int .u64 (wd f 3)] 54)) = W at *
  have c0 : ∀ u : Sub W, u.1.cell? ⟨w.heap.size, 0, none⟩ = some (.int .u64 (wd f 0)) := fun u => (h0.sub u).cells.1
  have c1 : ∀ u : Sub W, u.1.cell? ⟨w.heap.size, 1, none⟩ = some (.int .u64 (wd f 1)) := fun u => (h0.sub u).cells.2.1
  have c2 : ∀ u : Sub W, u.1.cell? ⟨w.heap.size, 2, none⟩ = some (.int .u64 (wd f 2)) := fun u => (h0.sub u).cells.2.2.1
  have c3 : ∀ u : Sub W, u.1.cell? ⟨w.heap.size, 3, none⟩ = some (.int .u64 (wd f 3)) := fun u => (h0.sub u).cells.2.2.2
  have hlW : ∀ u : Sub W, LowW u.1 := fun u => hl.keep (hb.trans (u.2.mono hb.size))
  refine wp_region_quiet_all (C := fun w' => ∃ u : Sub W, w' = u.1) (by kernel_rfl) (by kernel_rfl) (InSub.drew W) ?_
  iterate 2 (go_big_quiet_step (fail))
  go_big_quiet_step (exact sub_below (cofCof f v false _ (hlW _)))
  iterate 2 (go_big_quiet_step (fail))
  go_big_quiet_step (exact sub_below (cofCof f v true _ (hlW _)))
  iterate 2 (go_big_quiet_step (fail))
  refine wpQuiet_nil ?_
  clear c0 c1 c2 c3 hlW
  intro w' hw'
  obtain ⟨u, rfl⟩ := hw'
  have hb2 := hb.trans (u.2.mono hb.size)
  generalize u.1 = w1 at *
  go_wp2
  go_ret
  exact ⟨rfl, hb2⟩



end Go.Proofs.YtclkckinpjkglaaGreatDoor

/-
  Walks of package read over the store's contracts: Table, Value, Count, Support.
-/
namespace Go.Proofs.YtclkckinpjkglaaGreatDoor
open Go Go.RowKit

theorem MS.tab_constB {s : MS} {n : Int} (h : s.has n = false) : s.tab n = if (n == 1) then BitVec.allOnes 256 else 0#256 := by
  rw [MS.tab_const h]
  by_cases e : n = 1
  · rw [if_pos e, if_pos (by simpa using e)]
  · rw [if_neg e, if_neg (by simpa using e)]





end Go.Proofs.YtclkckinpjkglaaGreatDoor

/-
  Walks of package read over the store's contracts: top, constant, Build.
-/
namespace Go.Proofs.YtclkckinpjkglaaGreatDoor
open Go Go.RowKit

theorem idx_ov (o : Nat → Int) (n : Nat) (hn : n < 8) (w : World) : (Instr.index 70 (.agg #[.int .i64 (o 0), .int .i64 (o 1), .int .i64 (o 2), .int .i64 (o 3), .int .i64 (o 4), .int .i64 (o 5), .int .i64 (o 6), .int .i64 (o 7)]) (.int .i64 (n : Int))).run Tryz.prog w = .ok (.int .i64 (o n)) w := by
  have h1 : (0 : Int) ≤ (n : Int) ∧ (n : Int) < 8 := ⟨by omega, by omega⟩
  rcases (by omega : n = 0 ∨ n = 1 ∨ n = 2 ∨ n = 3 ∨ n = 4 ∨ n = 5 ∨ n = 6 ∨ n = 7) with rfl | rfl | rfl | rfl | rfl | rfl | rfl | rfl <;> simp [Instr.index, run_underlying Tryz.underlying70, asIntOf, go_sem]

theorem topFrom_none8 (f : Fn) (o : Nat → Int) (n : Nat) : ∀ i, ¬ 0 ≤ topFrom f o n i → topFrom f o n i = -1 := by
  induction n with
  | zero => intro i _; rfl
  | succ n ih =>
    intro i h
    simp only [topFrom] at h ⊢
    split
    · rename_i hd
      rw [if_pos hd] at h
      exact absurd (depAny_range hd).1 h
    · rename_i hd
      rw [if_neg hd] at h
      exact ih (i + 1) h

set_option maxRecDepth 100000 in
set_option maxHeartbeats 1000000 in
theorem readTop (f : Fn) (o : Nat → Int) (w : World) (hl : LowW w) :
    Calls Tryz.prog 44 #[fv f, ov o] w fun e w' => e = .returned (.tuple #[.int .i64 (if 0 ≤ topF f o then topF f o else 0), .bool (decide (0 ≤ topF f o))]) ∧ Below w.heap.size w w' := by
  have Hl := Lib.hid hl
  have HD := fun (v : Int) (W : World) (hb : Below w.heap.size w W) => cofDepends f v W (hl.keep hb)
  replace HD := Lib.hid HD
  clear hl
  generalize hr1 : (if 0 ≤ topF f o then topF f o else 0) = r1
  generalize hr2 : decide (0 ≤ topF f o) = r2
  replace hr1 := Lib.hid hr1
  replace hr2 := Lib.hid hr2
  simp only [fv, ov]
  go_enter Tryz.func44, Tryz.ntmps44
  go_wp2
  go_loopw [9] (fun i wr => ∃ n : Nat, n ≤ 8 ∧ i = .int .i64 n ∧ Hid (topF f o = topFrom f o (8 - n) n) ∧ Holds wr w.heap.size f ∧ Below w.heap.size w wr) (fun i _ => 8 - (intOf i).toNat)
  case atStart => exact ⟨0, Nat.zero_le _, rfl, rfl, (Holds.new _ _ _).alloc _, by go_grown⟩
  case round =>
    obtain ⟨n, hn, rfl, ht, h0, hb⟩ := hrel
    by_cases hlt : n < 8
    · have Hs : Hid (topF f o = if depAny f (o n) then o n else topFrom f o (8 - (n + 1)) (n + 1)) := by
        have := ht.out
        rw [show 8 - n = (8 - (n + 1)) + 1 by omega] at this
        exact this
      clear ht
      have hn0 : (0 : Int) ≤ (n : Int) := by omega
      have hn8 : (n : Int) < 8 := by omega
      obtain ⟨c0, c1, c2, c3⟩ := h0.cells
      have hix := idx_ov o n hlt wr
      have hd := HD.out (o n) wr hb
      simp only [fv] at hd
      go_wp2_with fail
      refine hd.mono ?_
      rintro e w1 ⟨rfl, hb1⟩
      replace h0 := h0.keep hb1 h0.lt
      replace hb := hb.trans (hb1.mono hb.size)
      clear hd hix c0 c1 c2 c3 hb1
      cases hdp : depAny f (o n)
      · rw [hdp] at Hs
        go_wp2
        exact ⟨⟨n + 1, by omega, by go_num, Hs.out, h0, hb⟩, by simp [intOf]; omega⟩
      · rw [hdp] at Hs
        have h00 := (depAny_range hdp).1
        have e1 : topF f o = o n := Hs.out
        have hres : r1 = o n ∧ r2 = true := by rw [← hr1.out, ← hr2.out, e1, if_pos h00, decide_eq_true h00]; exact ⟨rfl, rfl⟩
        replace hres := Lib.hid hres
        clear Hs HD e1 h00 hr1 hr2
        go_wp2
        go_ret2
        exact ⟨by rw [hres.out.1, hres.out.2]; rfl, hb⟩
    · obtain rfl : n = 8 := by omega
      have e1 : topF f o = -1 := ht.out
      have hres : r1 = 0 ∧ r2 = false := by rw [← hr1.out, ← hr2.out, e1]; exact ⟨rfl, rfl⟩
      replace hres := Lib.hid hres
      clear ht e1 HD hr1 hr2
      go_wp2
      go_ret2
      exact ⟨by rw [hres.out.1, hres.out.2]; rfl, hb⟩

set_option maxRecDepth 100000 in
theorem readConstant (f : Fn) (w : World) :
    Calls Tryz.prog 45 #[fv f] w fun e w' => e = .returned (.int .i64 (constN f)) ∧ Below w.heap.size w w' := by
  have HA := fun W => tabAt f 0 W
  have hc : constN f = if atF f 0 then 1 else 0 := rfl
  generalize constN f = c at *
  generalize atF f 0 = z at *
  simp only [fv] at *
  have hb : Below w.heap.size w (w.alloc (.cells #[.int .u64 (wd f 0), .int .u64 (wd f 1), .int .u64 (wd f 2), .int .u64 (wd f 3)] 54)) := by go_grown
  have hF := Holds.new w f w.heap.size rfl
  cases z
  · simp only [Bool.false_eq_true, if_false] at hc
    subst hc
    go_enter Tryz.func45, Tryz.ntmps45
    go_wp2_with fail
    generalize w.alloc (.cells #[.int .u64 (wd f 0), .int .u64 (wd f 1), .int .u64 (wd f 2), .int .u64 (wd f 3)] 54) = W at *
    refine (HA _).mono ?_
    rintro e w3 ⟨rfl, hb3⟩
    go_wp2
    go_ret
    exact ⟨rfl, hb.trans (hb3.mono hb.size)⟩
  · simp only [if_true] at hc
    subst hc
    go_enter Tryz.func45, Tryz.ntmps45
    go_wp2_with fail
    generalize w.alloc (.cells #[.int .u64 (wd f 0), .int .u64 (wd f 1), .int .u64 (wd f 2), .int .u64 (wd f 3)] 54) = W at *
    refine (HA _).mono ?_
    rintro e w3 ⟨rfl, hb3⟩
    go_wp2
    go_ret
    exact ⟨rfl, hb.trans (hb3.mono hb.size)⟩

theorem LowW.keepK {w w' : World} {F : Nat → Prop} (h : LowW w) (K : Keeps F w w') (hF : ¬ F 0) : LowW w' := fun i hi => by
  have := K.block 0 h.pos hF
  have h1 := h i hi
  unfold World.cell? at *
  rw [this]
  exact h1

theorem MS.Ok.in64 {s : MS} (ok : s.Ok) {n : Int} (h : s.there n = true) : n ≤ 9223372036854775807 ∧ -9223372036854775808 ≤ n := by
  rcases MS.there_cases h with ⟨h, _⟩ | h
  · omega
  · have := ok.toBase.has_le h; omega

/-- What Build comes to: a number, an error, and the store. -/
def BldPost (StAt : World → Nat → (Nat → Prop) → MS → Prop) (w : World) (b : Nat) (F : Nat → Prop) (r : Int × Int × MS) (e : Ending) (w' : World) : Prop := e = .returned (.tuple #[.int .i64 r.1, errV r.2.1]) ∧ ∃ F', StAt w' b F' r.2.2 ∧ Keeps F w w' ∧ Within w F F'

set_option maxRecDepth 100000 in
set_option maxHeartbeats 2000000 in
theorem readBuild_const {StAt : World → Nat → (Nat → Prop) → MS → Prop} (H : StoreC StAt) {w : World} {b : Nat} {F : Nat → Prop} {s : MS} (hL : LowW w) (h : StAt w b F s) (ok : s.Ok) (f : Fn) (ht : topF f s.o < 0) :
    Calls Tryz.prog 20 #[.pointer (some ⟨b, 0, none⟩), fv f] w (BldPost StAt w b F (constN f, 0, s)) := by
  have HO := fun W (hb : Below w.heap.size w W) => H.order (H.below h hb) ok
  have HT := fun W (hb : Below w.heap.size w W) => readTop f s.o W (hL.keep hb)
  simp only [if_neg (show ¬ 0 ≤ topF f s.o by omega), decide_eq_false (show ¬ 0 ≤ topF f s.o by omega)] at HT
  have HA := fun W => readConstant f W
  have hend : ∀ w', Below w.heap.size w w' → ∃ F', StAt w' b F' s ∧ Keeps F w w' ∧ Within w F F' := fun w' hb => ⟨F, H.below h hb, Keeps.of_below hb _, Within.refl _ _⟩
  unfold BldPost errV
  simp only [if_true]
  generalize constN f = z at *
  clear h ht hL ok
  simp only [fv, ov] at *
  go_enter Tryz.func20, Tryz.ntmps20
  go_wp2
  have hF := Holds.new w f w.heap.size rfl
  have hb := (Below.refl w.heap.size w).alloc (Nat.le_refl _) (.cells #[.int .u64 (wd f 0), .int .u64 (wd f 1), .int .u64 (wd f 2), .int .u64 (wd f 3)] 54)
  generalize w.alloc (.cells #[.int .u64 (wd f 0), .int .u64 (wd f 1), .int .u64 (wd f 2), .int .u64 (wd f 3)] 54) = W at *
  have c0 := fun u : Sub W => (hF.sub u).cells.1
  have c1 := fun u : Sub W => (hF.sub u).cells.2.1
  have c2 := fun u : Sub W => (hF.sub u).cells.2.2.1
  have c3 := fun u : Sub W => (hF.sub u).cells.2.2.2
  have JO := fun u : Sub W => HO _ (hb.trans (u.2.mono hb.size))
  have JT := fun u : Sub W => HT _ (hb.trans (u.2.mono hb.size))
  refine wp_region_quiet_all (C := fun w' => ∃ u : Sub W, w' = u.1) (by kernel_rfl) (by kernel_rfl) (InSub.drew W) ?_
  iterate 2 (go_big_quiet_step (fail))
  go_big_quiet_step (exact subBelow (JO _))
  go_big_quiet_step (exact subBelow (JT _))
  iterate 5 (go_big_quiet_step (fail))
  refine wpQuiet_nil ?_
  clear c0 c1 c2 c3 JO JT HO HT
  intro w' hw'
  obtain ⟨u, rfl⟩ := hw'
  replace hF := hF.keep u.2 hF.lt
  replace hb := hb.trans (u.2.mono hb.size)
  generalize u.1 = W2 at *
  obtain ⟨c0, c1, c2, c3⟩ := hF.cells
  go_wp2_with fail
  refine (HA _).mono ?_
  rintro e w3 ⟨rfl, hb3⟩
  have hb4 := hb.trans (hb3.mono hb.size)
  clear HA c0 c1 c2 c3
  go_wp2
  go_ret2
  exact ⟨rfl, hend _ hb4⟩

set_option maxRecDepth 100000 in
set_option maxHeartbeats 4000000 in
theorem readBuild {StAt : World → Nat → (Nat → Prop) → MS → Prop} (H : StoreC StAt) {b : Nat} : ∀ (k : Nat) (s : MS) (f : Fn) (w : World) (F : Nat → Prop), LowW w → (∀ k, F k → 0 < k) → StAt w b F s → s.Ok → supN f ≤ k →
    Calls Tryz.prog 20 #[.pointer (some ⟨b, 0, none⟩), fv f] w (BldPost StAt w b F (MS.bld k s f)) := by
  intro k
  induction k with
  | zero =>
    intro s f w F hL _ h ok hk
    refine readBuild_const H hL h ok f ?_
    have := (top_neg (f := f) (full_of ok.order)).2 (supN_zero (f := f) (by omega))
    omega
  | succ k ih =>
    intro s f w F hL hlow h ok hk
    unfold MS.bld
    by_cases ht : topF f s.o < 0
    · rw [if_pos ht]
      exact readBuild_const H hL h ok f ht
    · rw [if_neg ht]
      have ht0 : 0 ≤ topF f s.o := by omega
      have k0 := supN_cof f s.o false ht0
      have k1 := supN_cof f s.o true ht0
      have ra := MS.bld_spec k s (cofAny f (topF f s.o) false) ok (by omega)
      have IA := fun W (hb : Below w.heap.size w W) => ih s (cofAny f (topF f s.o) false) W F (hL.keep hb) hlow (H.below h hb) ok (by omega)
      have rb := fun hA => MS.bld_spec k (MS.bld k s (cofAny f (topF f s.o) false)).2.2 (cofAny f (topF f s.o) true) hA (by omega)
      have IB := fun W F' hlW hl hW hA => ih (MS.bld k s (cofAny f (topF f s.o) false)).2.2 (cofAny f (topF f s.o) true) W F' hlW hl hW hA (by omega)
      have HO := fun W (hb : Below w.heap.size w W) => H.order (H.below h hb) ok
      have HT := fun W (hb : Below w.heap.size w W) => readTop f s.o W (hL.keep hb)
      simp only [if_pos ht0, decide_eq_true ht0] at HT
      have HC0 := fun W (hb : Below w.heap.size w W) => cofCof f (topF f s.o) false W (hL.keep hb)
      have HC1 := fun W (hlW : LowW W) => cofCof f (topF f s.o) true W hlW
      dsimp only
      generalize hA : MS.bld k s (cofAny f (topF f s.o) false) = A at *
      generalize hB : MS.bld k A.2.2 (cofAny f (topF f s.o) true) = B at *
      have hFlt := H.lt h
      have hp := hL.pos
      generalize topF f s.o = v at *
      generalize cofAny f v false = f0 at *
      generalize cofAny f v true = f1 at *
      clear ih hA hB k0 k1 hk
      obtain ⟨A0, A1, sA⟩ := A
      obtain ⟨B0, B1, sB⟩ := B
      dsimp only at *
      generalize hr : (if A1 ≠ 0 then ((0, A1, sA) : Int × Int × MS) else if B1 ≠ 0 then (0, B1, sB) else sB.mk v A0 B0 []) = r
      simp only [fv, ov] at *
      obtain ⟨okA, _, _, resA, _⟩ := ra
      unfold BldPost at *
      dsimp only at IA IB
      replace hL := Lib.hid hL
      go_enter Tryz.func20, Tryz.ntmps20
      go_wp2
      have hF := Holds.new w f w.heap.size rfl
      have hb := (Below.refl w.heap.size w).alloc (Nat.le_refl _) (.cells #[.int .u64 (wd f 0), .int .u64 (wd f 1), .int .u64 (wd f 2), .int .u64 (wd f 3)] 54)
      generalize w.alloc (.cells #[.int .u64 (wd f 0), .int .u64 (wd f 1), .int .u64 (wd f 2), .int .u64 (wd f 3)] 54) = W at *
      have c0 := fun u : Sub W => (hF.sub u).cells.1
      have c1 := fun u : Sub W => (hF.sub u).cells.2.1
      have c2 := fun u : Sub W => (hF.sub u).cells.2.2.1
      have c3 := fun u : Sub W => (hF.sub u).cells.2.2.2
      have JO := fun u : Sub W => HO _ (hb.trans (u.2.mono hb.size))
      have JT := fun u : Sub W => HT _ (hb.trans (u.2.mono hb.size))
      refine wp_region_quiet_all (C := fun w' => ∃ u : Sub W, w' = u.1) (by kernel_rfl) (by kernel_rfl) (InSub.drew W) ?_
      iterate 2 (go_big_quiet_step (fail))
      go_big_quiet_step (exact subBelow (JO _))
      go_big_quiet_step (exact subBelow (JT _))
      iterate 5 (go_big_quiet_step (fail))
      refine wpQuiet_nil ?_
      clear c0 c1 c2 c3 JO JT HO HT
      intro w' hw'
      obtain ⟨u, rfl⟩ := hw'
      replace hF := hF.keep u.2 hF.lt
      replace hb := hb.trans (u.2.mono hb.size)
      generalize u.1 = W2 at *
      obtain ⟨c0, c1, c2, c3⟩ := hF.cells
      go_wp2_with fail
      refine (HC0 _ hb).mono ?_
      rintro e w3 ⟨rfl, hb3⟩
      replace hF := hF.keep hb3 hF.lt
      replace hb := hb.trans (hb3.mono hb.size)
      clear HC0 c0 c1 c2 c3 hb3
      go_wp2_with fail
      refine (IA _ hb).mono ?_
      rintro e w4 ⟨rfl, FA4, hA4, hK4, hW4⟩
      have hBn : ¬ F w.heap.size := fun e => by have := hFlt _ e; omega
      have hF4 : Holds w4 w.heap.size f := by
        have := hK4.block w.heap.size hF.lt hBn
        unfold Holds at *
        rw [this]; exact hF
      have HK := (Keeps.of_below hb F).trans hK4 (Within.refl _ _)
      have HW := (Within.refl w F).trans hW4 hb.size
      have hL4 := hL.out.keepK HK (fun e => by have := hlow _ e; omega)
      have hlow4 : ∀ k, FA4 k → 0 < k := fun k hk => (HW k hk).elim (hlow k) (fun h => by omega)
      clear IA hK4 hW4 hF hb hL hlow
      by_cases hA1 : A1 = 0
      · subst hA1
        rw [if_neg (by decide)] at hr
        obtain ⟨thA, _⟩ := resA rfl
        obtain ⟨c0, c1, c2, c3⟩ := hF4.cells
        rw [errV0]
        go_wp2_with fail
        refine (HC1 _ hL4).mono ?_
        rintro e w5 ⟨rfl, hb5⟩
        clear HC1 c0 c1 c2 c3
        obtain ⟨okB, extB, _, resB, _⟩ := rb okA
        go_wp2_with fail
        refine (IB _ _ (hL4.keep hb5) hlow4 (H.below hA4 hb5) okA).mono ?_
        rintro e w6 ⟨rfl, FB6, hB6, hK6, hW6⟩
        replace HK := HK.trans ((Keeps.of_below hb5 FA4).trans hK6 (Within.refl _ _)) HW
        replace HW := HW.trans ((Within.refl w4 FA4).trans hW6 hb5.size) (by have := hF4.lt; omega)
        clear IB hK6 hb5
        by_cases hB1 : B1 = 0
        · subst hB1
          rw [if_neg (by decide)] at hr
          obtain ⟨thB, _⟩ := resB rfl
          have HM := H.make hB6 okB v A0 B0 (okB.in64 (extB.there thA)) (okB.in64 thB)
          rw [hr] at HM
          rw [errV0]
          go_wp2_with fail
          refine HM.mono ?_
          rintro e w7 ⟨rfl, F7, hM7, hK7, hW7⟩
          go_wp2
          go_ret2
          exact ⟨rfl, F7, hM7, HK.trans hK7 HW, HW.trans hW7 HK.size⟩
        · rw [if_pos hB1] at hr
          subst hr
          simp only [errV, if_neg hB1]
          go_wp2
          go_ret2
          exact ⟨by first | rfl | (simp only [errV, if_neg hB1]; rfl), FB6, hB6, HK, HW⟩
      · rw [if_pos hA1] at hr
        subst hr
        simp only [errV, if_neg hA1]
        clear IB rb
        go_wp2
        go_ret2
        exact ⟨by first | rfl | (simp only [errV, if_neg hA1]; rfl), FA4, hA4, HK, HW⟩

end Go.Proofs.YtclkckinpjkglaaGreatDoor
