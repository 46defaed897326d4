/-
  Two functions compared: '==' and '!=' on arrays of four words.
-/
import Derived.Test.YtgccgjeehggagaaDoorRefOps
import Derived.ChangeKeysEq
namespace Go.Proofs.YtgccgjeehggagaaDoor
open Go Go.RowKit

theorem fv_fold (f : Fn) : Value.agg #[.int .u64 (wd f 0), .int .u64 (wd f 1), .int .u64 (wd f 2), .int .u64 (wd f 3)] = fv f := rfl

theorem wd_ext {f g : Fn} (h0 : wd f 0 = wd g 0) (h1 : wd f 1 = wd g 1) (h2 : wd f 2 = wd g 2) (h3 : wd f 3 = wd g 3) : f = g := fn_ext fun k hk => by
  rw [wd_bit, wd_bit]
  rcases (by omega : k / 64 = 0 ∨ k / 64 = 1 ∨ k / 64 = 2 ∨ k / 64 = 3) with h | h | h | h <;> rw [h]
  · rw [h0]
  · rw [h1]
  · rw [h2]
  · rw [h3]

theorem fv_inj {f g : Fn} (h : fv f = fv g) : f = g := by
  unfold fv at h
  simp at h
  exact wd_ext (by omega) (by omega) (by omega) (by omega)

theorem run_equal_fv (d : Nat) (f g : Fn) (w : World) : (Op.equalIn (d + 1 + 1) 26 (fv f) (fv g)).run Tryd.prog w = .ok (f == g) w := by
  obtain ⟨i, hi⟩ : ∃ i, Tryd.prog.info? 24 = some i := info_of_underlying Tryd.underlying24
  unfold fv
  rw [run_equalIn_array w (d + 1) _ _ Tryd.underlying26 hi]
  have hc : Tryd.prog.cellsOf 24 = 1 := by kernel_rfl
  have hr : List.range 4 = [0, 1, 2, 3] := rfl
  rw [hc, hr]
  have e : (f == g) = (((wd f 0 : Int) == wd g 0) && (((wd f 1 : Int) == wd g 1) && (((wd f 2 : Int) == wd g 2) && ((wd f 3 : Int) == wd g 3)))) := by
    rw [Bool.eq_iff_iff]
    simp only [Bool.and_eq_true, beq_iff_eq]
    constructor
    · rintro rfl; simp
    · rintro ⟨h0, h1, h2, h3⟩; exact wd_ext (by omega) (by omega) (by omega) (by omega)
  rw [e]
  clear e
  generalize ((wd f 0 : Nat) : Int) = a0
  generalize ((wd f 1 : Nat) : Int) = a1
  generalize ((wd f 2 : Nat) : Int) = a2
  generalize ((wd f 3 : Nat) : Int) = a3
  generalize ((wd g 0 : Nat) : Int) = b0
  generalize ((wd g 1 : Nat) : Int) = b1
  generalize ((wd g 2 : Nat) : Int) = b2
  generalize ((wd g 3 : Nat) : Int) = b3
  have hq : ∀ (w : World) (a b : Int), (Op.equalIn (d + 1) 24 (.int .u64 a) (.int .u64 b)).run Tryd.prog w = .ok (a == b) w := fun w a b => run_equalIn_int w d _ _ _ _ _ Tryd.underlying24
  by_cases h0 : a0 = b0
  · by_cases h1 : a1 = b1
    · by_cases h2 : a2 = b2
      · by_cases h3 : a3 = b3
        · simp [Op.eqItems, part, go_sem, hq, h0, h1, h2, h3]
        · simp [Op.eqItems, part, go_sem, hq, h0, h1, h2, h3]
      · simp [Op.eqItems, part, go_sem, hq, h0, h1, h2]
    · simp [Op.eqItems, part, go_sem, hq, h0, h1]
  · simp [Op.eqItems, part, go_sem, hq, h0]

theorem run_eql_fv (f g : Fn) (w : World) : (binOp .eql 26 (fv f) (fv g)).run Tryd.prog w = .ok (.bool (f == g)) w := by
  have h := run_equal_fv 9998 f g w
  unfold fv at *
  rw [run_eql_struct, h]
  rfl

theorem run_neq_fv (f g : Fn) (w : World) : (binOp .neq 26 (fv f) (fv g)).run Tryd.prog w = .ok (.bool (!(f == g))) w := by
  have h := run_equal_fv 9998 f g w
  unfold fv at *
  rw [run_neq_struct, h]
  rfl

theorem run_guard_fv (op : BinOp) (x y : Operand) (f g : Fn) (w : World) : (eqGuard op 26 x y (fv f) (fv g)).run Tryd.prog w = .ok () w :=
  run_eqGuard_agg w op _ x y _ _ (by kernel_rfl)

end Go.Proofs.YtgccgjeehggagaaDoor
