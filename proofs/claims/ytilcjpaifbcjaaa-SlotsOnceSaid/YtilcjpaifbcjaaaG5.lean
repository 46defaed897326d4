/-
  Texts of this proof, one behind the other: Hand, Help.
-/
import Derived.Test.YtilcjpaifbcjaaaG1
import Derived.Test.YtilcjpaifbcjaaaG2
import Derived.Test.YtilcjpaifbcjaaaProg
import Derived.BigQuiet
import Derived.Deep.QuietTactic
import Derived.RegionTactic
import Derived.KernelRfl
import Derived.Lib.Hide
import Derived.Test.YtilcjpaifbcjaaaG4
import Derived.Lib.IfaceEq
/-
  Walks of package hand, and of the document's layer 15.
-/
namespace Go.Proofs.Ytilcjpaifbcjaaa
open Go Go.RowKit

theorem results_tmp4 {fn : Func} {t u v x : Tmp} (h : fn.results = #[.tmp t, .tmp u, .tmp v, .tmp x]) (tmps : Array Value) (P : Program) (w : World) :
    (results fn tmps).run P w = .ok (.tuple #[tmps.getD t undef, tmps.getD u undef, tmps.getD v undef, tmps.getD x undef]) w := by
  simp [results, h]

theorem eq_bool {p : Bool} {q : Prop} [Decidable q] (h : p = true ↔ q) : p = decide q := by
  by_cases hq : q
  · rw [decide_eq_true hq]; exact h.2 hq
  · rw [decide_eq_false hq, Bool.eq_false_iff]; exact fun hp => hq (h.1 hp)

set_option maxRecDepth 100000 in
set_option maxHeartbeats 4000000 in
theorem handMay (t s g : Int) (w : World) :
    Calls Try.prog 38 #[.int .i64 t, .int .i64 s, .int .i64 g] w fun e w' => e = .returned (.bool (decide (mayH t s g))) ∧ w = w' := by
  go_enter Try.func38, Try.ntmps38
  go_wp2
  all_goals go_ret
  all_goals refine ⟨congrArg (fun b => Ending.returned (.bool b)) (eq_bool ?_), rfl⟩
  all_goals unfold mayH
  · rw [show ∀ b : Bool, (b : Prop) = (b = true) from fun _ => rfl]
    refine Iff.trans (decide_eq_true_iff) ?_
    omega
  all_goals exact ⟨fun h => Bool.noConfusion h, fun h => (by omega)⟩

set_option maxRecDepth 100000 in
set_option maxHeartbeats 4000000 in
theorem handPack (t s g : Int) (w : World) :
    Calls Try.prog 37 #[.int .i64 t, .int .i64 s, .int .i64 g] w fun e w' => e = .returned (.int .u64 (packN t s g)) ∧ w = w' := by
  have hm := handMay t s g w
  by_cases h : mayH t s g
  · rw [decide_eq_true h] at hm
    obtain ⟨a, b, c, rfl, rfl, rfl, h1, h2, h3, h4⟩ := h.nat
    have hz : ((packN (a : Int) (b : Int) (c : Int) : Nat) : Int) = bits BinOp.or IntKind.u64 (bits BinOp.or IntKind.u64 ((a : Int) * 72057594037927936) ((b : Int) * 281474976710656)) c := by
      rw [packN_yes h, ← laid_or a b c (by omega) (by omega), show (a : Int) * 72057594037927936 = ((72057594037927936 * a : Nat) : Int) by omega, show (b : Int) * 281474976710656 = ((281474976710656 * b : Nat) : Int) by omega,
        bits_or_u64_nat _ _ (by omega) (by omega), bits_or_u64_nat _ _ (by rw [show 72057594037927936 * a ||| 281474976710656 * b = 72057594037927936 * a ||| 281474976710656 * b ||| 0 from (Nat.or_zero _).symm, laid_or a b 0 (by omega) (by omega)]; omega) (by omega)]
    rw [hz]
    clear h hz
    go_enter Try.func37, Try.ntmps37
    go_wp2_with fail
    refine hm.mono ?_
    rintro e w' ⟨rfl, rfl⟩
    clear hm
    go_wp2
    go_ret
    exact ⟨rfl, rfl⟩
  · rw [decide_eq_false h] at hm
    rw [packN_no h]
    clear h
    go_enter Try.func37, Try.ntmps37
    go_wp2_with fail
    refine hm.mono ?_
    rintro e w' ⟨rfl, rfl⟩
    clear hm
    go_wp2
    go_ret
    exact ⟨rfl, rfl⟩

set_option maxRecDepth 100000 in
set_option maxHeartbeats 4000000 in
theorem refHPack (t s g : Int) (w : World) :
    Calls Try.prog 22 #[.int .i64 t, .int .i64 s, .int .i64 g] w fun e w' => e = .returned (.int .u64 (packN t s g)) ∧ w = w' := by
  by_cases h : mayH t s g
  · obtain ⟨a, b, c, rfl, rfl, rfl, h1, h2, h3, h4⟩ := h.nat
    have hz : ((packN (a : Int) (b : Int) (c : Int) : Nat) : Int) = 72057594037927936 * (a : Int) + 281474976710656 * (b : Int) + (c : Int) := by rw [packN_yes h]; omega
    rw [hz]
    clear h hz
    go_enter Try.func22, Try.ntmps22
    go_wp2
    all_goals go_ret
    all_goals first | exact ⟨rfl, rfl⟩ | omega
  · rw [packN_no h]
    unfold mayH at h
    go_enter Try.func22, Try.ntmps22
    go_wp2
    all_goals go_ret
    all_goals first | exact ⟨rfl, rfl⟩ | omega

set_option maxRecDepth 100000 in
set_option maxHeartbeats 4000000 in
theorem handUnpack (h : Nat) (hh : h < 18446744073709551616) (w : World) :
    Calls Try.prog 36 #[.int .u64 h] w fun e w' => e = .returned (.tuple #[.int .i64 (upT h), .int .i64 (upS h), .int .i64 (upG h), .bool (upB h)]) ∧ w = w' := by
  have hp := handPack (unT h : Nat) (unS h : Nat) (unG h : Nat) w
  have e1 : ((unT h : Nat) : Int) = (h : Int) / 72057594037927936 := by unfold unT; omega
  have hq : h / 281474976710656 < 18446744073709551616 := Nat.lt_of_le_of_lt (Nat.div_le_self _ _) hh
  have e2 : ((unS h : Nat) : Int) = wrap64 (bits BinOp.and IntKind.u64 ((h : Int) / 281474976710656) 255) := by
    rw [show (h : Int) / 281474976710656 = ((h / 281474976710656 : Nat) : Int) by omega, show (255 : Int) = ((255 : Nat) : Int) from rfl, bits_and_u64_nat _ _ hq (by decide), and_255, wrap64]
    unfold unS
    omega
  have e3 : ((unG h : Nat) : Int) = wrap64 (bits BinOp.and IntKind.u64 (h : Int) 255) := by
    rw [show (255 : Int) = ((255 : Nat) : Int) from rfl, bits_and_u64_nat _ _ hh (by decide), and_255, wrap64]
    unfold unG
    omega
  by_cases h0 : h = 0
  · obtain ⟨u1, u2, u3, u4⟩ := up_isnt (h := h) fun hi => hi.1 h0
    rw [u1, u2, u3, u4]
    have k0 : ((h : Int) == 0) = true := by subst h0; rfl
    clear h0 hp u1 u2 u3 u4
    replace e1 := Lib.hid e1
    replace e2 := Lib.hid e2
    replace e3 := Lib.hid e3
    go_enter Try.func36, Try.ntmps36
    go_wp2
    refine bodyPost_ret (results_tmp4 rfl _ _ _) rfl ?_
    exact ⟨rfl, rfl⟩
  · have k0 : ((h : Int) == 0) = false := by rw [beq_eq_false_iff_ne]; omega
    generalize hP : packN (unT h : Nat) (unS h : Nat) (unG h : Nat) = P at hp
    by_cases hi : P = h
    · obtain ⟨u1, u2, u3, u4⟩ := up_is (h := h) ⟨h0, hP.trans hi⟩
      rw [u1, u2, u3, u4, e1, e2, e3]
      rw [e1, e2, e3] at hp
      have k1 : ((P : Int) != (h : Int)) = false := by subst hi; exact bne_self_eq_false _
      clear h0 hi hP u1 u2 u3 u4
      replace e1 := Lib.hid e1
      replace e2 := Lib.hid e2
      replace e3 := Lib.hid e3
      go_enter Try.func36, Try.ntmps36
      go_wp2_with fail
      refine hp.mono ?_
      rintro e w' ⟨rfl, rfl⟩
      clear hp
      go_wp2
      refine bodyPost_ret (results_tmp4 rfl _ _ _) rfl ?_
      exact ⟨rfl, rfl⟩
    · obtain ⟨u1, u2, u3, u4⟩ := up_isnt (h := h) fun hi' => hi (hP.symm.trans hi'.2)
      rw [u1, u2, u3, u4]
      rw [e1, e2, e3] at hp
      have k1 : ((P : Int) != (h : Int)) = true := by rw [bne_iff_ne]; omega
      clear h0 hi hP u1 u2 u3 u4
      replace e1 := Lib.hid e1
      replace e2 := Lib.hid e2
      replace e3 := Lib.hid e3
      go_enter Try.func36, Try.ntmps36
      go_wp2_with fail
      refine hp.mono ?_
      rintro e w' ⟨rfl, rfl⟩
      clear hp
      go_wp2
      refine bodyPost_ret (results_tmp4 rfl _ _ _) rfl ?_
      exact ⟨rfl, rfl⟩


end Go.Proofs.Ytilcjpaifbcjaaa

/-
  Walks of Pick and Code.
-/
namespace Go.Proofs.Ytilcjpaifbcjaaa
open Go Go.RowKit

theorem neg_lt_tmod (n : Int) {m : Int} (h : 0 < m) : -m < n.tmod m := by
  have := Int.tmod_lt_of_pos (-n) h
  rw [Int.neg_tmod] at this
  omega

theorem pick_mod (n by' : Int) (h : 0 < by') : (n.tmod by' < 0 → n.tmod by' + by' = n % by') ∧ (¬ n.tmod by' < 0 → n.tmod by' = n % by') := by
  have h1 := Int.emod_nonneg n (show by' ≠ 0 by omega)
  have h2 := Int.emod_lt_of_pos n h
  have h3 := Int.tmod_lt_of_pos n h
  have h5 := neg_lt_tmod n h
  have h6 : (n.tmod by') % by' = n % by' := by
    rw [Int.tmod_def, Int.sub_emod, Int.mul_emod_right]; simp
  constructor
  · intro h4
    rw [← h6, ← Int.add_emod_right, Int.emod_eq_of_lt (by omega) (by omega)]
  · intro h4
    rw [← h6, Int.emod_eq_of_lt (by omega) (by omega)]

set_option maxRecDepth 100000 in
theorem lawPick (n by' : Int) (w : World) (h : 0 < by') (h2 : by' ≤ 1000000) (_hn : (Lit.int .i64 n).wf = true) :
    Calls Try.prog 8 #[.int .i64 n, .int .i64 by'] w fun e w' => e = .returned (.int .i64 (n % by')) ∧ w = w' := by
  obtain ⟨hy, hno⟩ := pick_mod n by' h
  have h3 := Int.tmod_lt_of_pos n h
  have h5 := neg_lt_tmod n h
  have hz : (by' == 0) = false := by rw [beq_eq_false_iff_ne]; omega
  by_cases h0 : n.tmod by' < 0
  · have HY := Lib.hid (hy h0)
    clear hy hno
    go_enter Try.func8, Try.ntmps8
    go_wp2
    go_ret
    exact ⟨by rw [← HY.out]; rfl, rfl⟩
  · have HN := Lib.hid (hno h0)
    clear hy hno
    go_enter Try.func8, Try.ntmps8
    go_wp2
    go_ret
    exact ⟨by rw [← HN.out]; rfl, rfl⟩

/-- An error of this number; 0: none. -/
def errV (c : Int) : Value := if c = 0 then .nilIface else .iface 65 (.int .i64 c)

theorem eql_codes (a b : Int) (w : World) : (binOp .eql 34 (.iface 65 (.int .i64 a)) (.iface 65 (.int .i64 b))).run Try.prog w = .ok (.bool (a == b)) w :=
  Lib.run_eql_iface_int w a b Try.underlying34 (by kernel_rfl) Try.underlying65

set_option maxRecDepth 100000 in
theorem lawCode (c : Int) (w : World) (h0 : 0 ≤ c) (h8 : c ≤ 8) :
    Calls Try.prog 11 #[errV c] w fun e w' => e = .returned (.int .i64 c) ∧ w = w' := by
  by_cases hz : c = 0
  · subst hz
    rw [errV, if_pos rfl]
    go_enter Try.func11, Try.ntmps11
    go_wp2
    go_ret
    exact ⟨rfl, rfl⟩
  · rw [errV, if_neg hz]
    go_enter Try.func11, Try.ntmps11
    go_wp2
    go_loop [3] (fun i => ∃ k : Nat, 1 ≤ k ∧ (k : Int) ≤ c ∧ i = .int .i64 k) (fun i => 9 - (intOf i).toNat)
    case atStart => exact ⟨1, by omega, by omega, rfl⟩
    case round =>
      obtain ⟨k, h1, hk, rfl⟩ := hrel
      have hk8 : (k : Int) ≤ 8 := by omega
      by_cases he : (k : Int) = c
      · have heb : (c == (k : Int)) = true := by rw [beq_iff_eq]; omega
        have hq := eql_codes c k
        rw [heb] at hq
        rw [he] at *
        go_wp2
        go_ret
        exact ⟨rfl, rfl⟩
      · have heb : (c == (k : Int)) = false := by rw [beq_eq_false_iff_ne]; omega
        have hq := eql_codes c k
        rw [heb] at hq
        go_wp2
        exact ⟨⟨k + 1, by omega, by omega, by go_num⟩, by simp [intOf]; omega⟩

end Go.Proofs.Ytilcjpaifbcjaaa
