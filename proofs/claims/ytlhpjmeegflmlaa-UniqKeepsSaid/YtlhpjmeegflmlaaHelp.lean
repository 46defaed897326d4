/-
  Walks of Pick and Code.
-/
import Derived.Test.YtlhpjmeegflmlaaArr
import Derived.Lib.IfaceEq
namespace Go.Proofs.Ytlhpjmeegflmlaa
open Go Go.RowKit

theorem neg_lt_tmod (n : Int) {m : Int} (h : 0 < m) : -m < n.tmod m := by
  have := Int.tmod_lt_of_pos (-n) h
  rw [Int.neg_tmod] at this
  omega

theorem pick_mod (n by' : Int) (h : 0 < by') : (n.tmod by' < 0 → n.tmod by' + by' = n % by') ∧ (¬ n.tmod by' < 0 → n.tmod by' = n % by') := by
  have h1 := Int.emod_nonneg n (show by' ≠ 0 by omega)
  have h2 := Int.emod_lt_of_pos n h
  have h3 := Int.tmod_lt_of_pos n h
  have h5 := neg_lt_tmod n h
  have h6 : (n.tmod by') % by' = n % by' := by
    rw [Int.tmod_def, Int.sub_emod, Int.mul_emod_right]; simp
  constructor
  · intro h4
    rw [← h6, ← Int.add_emod_right, Int.emod_eq_of_lt (by omega) (by omega)]
  · intro h4
    rw [← h6, Int.emod_eq_of_lt (by omega) (by omega)]

set_option maxRecDepth 100000 in
theorem lawPick (n by' : Int) (w : World) (h : 0 < by') (h2 : by' ≤ 1000000) (_hn : (Lit.int .i64 n).wf = true) :
    Calls Try.prog 7 #[.int .i64 n, .int .i64 by'] w fun e w' => e = .returned (.int .i64 (n % by')) ∧ w = w' := by
  obtain ⟨hy, hno⟩ := pick_mod n by' h
  have h3 := Int.tmod_lt_of_pos n h
  have h5 := neg_lt_tmod n h
  have hz : (by' == 0) = false := by rw [beq_eq_false_iff_ne]; omega
  by_cases h0 : n.tmod by' < 0
  · have HY := Lib.hid (hy h0)
    clear hy hno
    go_enter Try.func7, Try.ntmps7
    go_wp2
    go_ret
    exact ⟨by rw [← HY.out]; rfl, rfl⟩
  · have HN := Lib.hid (hno h0)
    clear hy hno
    go_enter Try.func7, Try.ntmps7
    go_wp2
    go_ret
    exact ⟨by rw [← HN.out]; rfl, rfl⟩


end Go.Proofs.Ytlhpjmeegflmlaa
