/-
  Walks of Pick and Code.
-/
import Derived.Test.YtbnjbnjhpccomaaArr
import Derived.Lib.IfaceEq
namespace Go.Proofs.Ytbnjbnjhpccomaa
open Go Go.RowKit

theorem neg_lt_tmod (n : Int) {m : Int} (h : 0 < m) : -m < n.tmod m := by
  have := Int.tmod_lt_of_pos (-n) h
  rw [Int.neg_tmod] at this
  omega

theorem pick_mod (n by' : Int) (h : 0 < by') : (n.tmod by' < 0 → n.tmod by' + by' = n % by') ∧ (¬ n.tmod by' < 0 → n.tmod by' = n % by') := by
  have h1 := Int.emod_nonneg n (show by' ≠ 0 by omega)
  have h2 := Int.emod_lt_of_pos n h
  have h3 := Int.tmod_lt_of_pos n h
  have h5 := neg_lt_tmod n h
  have h6 : (n.tmod by') % by' = n % by' := by
    rw [Int.tmod_def, Int.sub_emod, Int.mul_emod_right]; simp
  constructor
  · intro h4
    rw [← h6, ← Int.add_emod_right, Int.emod_eq_of_lt (by omega) (by omega)]
  · intro h4
    rw [← h6, Int.emod_eq_of_lt (by omega) (by omega)]

set_option maxRecDepth 100000 in
theorem lawPick (n by' : Int) (w : World) (h : 0 < by') (h2 : by' ≤ 1000000) (_hn : (Lit.int .i64 n).wf = true) :
    Calls Try.prog 14 #[.int .i64 n, .int .i64 by'] w fun e w' => e = .returned (.int .i64 (n % by')) ∧ w = w' := by
  obtain ⟨hy, hno⟩ := pick_mod n by' h
  have h3 := Int.tmod_lt_of_pos n h
  have h5 := neg_lt_tmod n h
  have hz : (by' == 0) = false := by rw [beq_eq_false_iff_ne]; omega
  by_cases h0 : n.tmod by' < 0
  · have HY := Lib.hid (hy h0)
    clear hy hno
    go_enter Try.func14, Try.ntmps14
    go_wp2
    go_ret
    exact ⟨by rw [← HY.out]; rfl, rfl⟩
  · have HN := Lib.hid (hno h0)
    clear hy hno
    go_enter Try.func14, Try.ntmps14
    go_wp2
    go_ret
    exact ⟨by rw [← HN.out]; rfl, rfl⟩

/-- An error of this number; 0: none. -/
def errV (c : Int) : Value := if c = 0 then .nilIface else .iface 77 (.int .i64 c)

theorem eql_codes (a b : Int) (w : World) : (binOp .eql 47 (.iface 77 (.int .i64 a)) (.iface 77 (.int .i64 b))).run Try.prog w = .ok (.bool (a == b)) w :=
  Lib.run_eql_iface_int w a b Try.underlying47 (by kernel_rfl) Try.underlying77

set_option maxRecDepth 100000 in
theorem lawCode (c : Int) (w : World) (h0 : 0 ≤ c) (h8 : c ≤ 8) :
    Calls Try.prog 17 #[errV c] w fun e w' => e = .returned (.int .i64 c) ∧ w = w' := by
  by_cases hz : c = 0
  · subst hz
    rw [errV, if_pos rfl]
    go_enter Try.func17, Try.ntmps17
    go_wp2
    go_ret
    exact ⟨rfl, rfl⟩
  · rw [errV, if_neg hz]
    go_enter Try.func17, Try.ntmps17
    go_wp2
    go_loop [3] (fun i => ∃ k : Nat, 1 ≤ k ∧ (k : Int) ≤ c ∧ i = .int .i64 k) (fun i => 9 - (intOf i).toNat)
    case atStart => exact ⟨1, by omega, by omega, rfl⟩
    case round =>
      obtain ⟨k, h1, hk, rfl⟩ := hrel
      have hk8 : (k : Int) ≤ 8 := by omega
      by_cases he : (k : Int) = c
      · have heb : (c == (k : Int)) = true := by rw [beq_iff_eq]; omega
        have hq := eql_codes c k
        rw [heb] at hq
        rw [he] at *
        go_wp2
        go_ret
        exact ⟨rfl, rfl⟩
      · have heb : (c == (k : Int)) = false := by rw [beq_eq_false_iff_ne]; omega
        have hq := eql_codes c k
        rw [heb] at hq
        go_wp2
        exact ⟨⟨k + 1, by omega, by omega, by go_num⟩, by simp [intOf]; omega⟩

end Go.Proofs.Ytbnjbnjhpccomaa
