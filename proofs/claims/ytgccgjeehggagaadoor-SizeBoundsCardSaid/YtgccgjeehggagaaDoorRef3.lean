/-
  Walks of the document's Depends, Support, Count.
-/
import Derived.Test.YtgccgjeehggagaaDoorRef2
namespace Go.Proofs.YtgccgjeehggagaaDoor
open Go Go.RowKit

theorem cmp_row (f : Fn) (m n : Nat) (hn : n < 256) (hm : m < 8) (h0 : n / 2 ^ m % 2 = 0) : shows f m n = (atF f n != atF f ((n : Int) + ((2 ^ m : Nat) : Int))) := by
  have h1 : n + 2 ^ m < 256 := by rcases pow8 hm with h | h | h | h | h | h | h | h <;> rw [h] at h0 ⊢ <;> omega
  have e : ((n : Int) + ((2 ^ m : Nat) : Int)) = ((n + 2 ^ m : Nat) : Int) := by simp
  rw [e, atF_nat _ _ hn, atF_nat _ _ h1, shows, decide_eq_true h0, Bool.true_and]

set_option maxRecDepth 100000 in
set_option maxHeartbeats 1000000 in
theorem refDepends (f : Fn) (v : Int) (w : World) :
    Calls Tryd.prog 19 #[fv f, .int .i64 v] w fun e w' => e = .returned (.bool (depAny f v)) ∧ Below w.heap.size w w' := by
  by_cases hv : 0 ≤ v ∧ v < 8
  · obtain ⟨m, rfl⟩ := Int.eq_ofNat_of_zero_le hv.1
    have hm : m < 8 := by omega
    have hm0 : (0 : Int) ≤ (m : Int) := by omega
    have hm7 : (m : Int) ≤ 7 := by omega
    have e : depAny f (m : Int) = depF f m := by rw [depAny, if_pos hv, Int.toNat_natCast]
    rw [e]
    clear e
    simp only [fv]
    go_enter Tryd.func19, Tryd.ntmps19
    go_wp2
    have hy := pow8 hm
    have ew : wrap64 (2 ^ m) = ((2 ^ m : Nat) : Int) := by
      have e2 : ((2 : Int) ^ m) = ((2 ^ m : Nat) : Int) := by simp
      rw [e2]
      exact IntWalk.wrap64_in _ ⟨by omega, by omega⟩
    rw [ew]
    clear ew
    have Hs : ∀ n, n < 256 → n / 2 ^ m % 2 = 0 → Hid (shows f m n = !(atF f n == atF f ((n : Int) + ((2 ^ m : Nat) : Int)))) := fun n hn h0 => cmp_row f m n hn hm h0
    have Hz : ∀ n, ¬ n / 2 ^ m % 2 = 0 → Hid (shows f m n = false) := fun n h0 => by show _ = _; rw [shows, decide_eq_false h0, Bool.false_and]
    generalize 2 ^ m = y at *
    have hy1 : 1 ≤ y ∧ y ≤ 128 := by omega
    clear hy
    go_loopw [6] (fun i wr => ∃ n : Nat, n ≤ 256 ∧ i = .int .i64 n ∧ Hid (∀ x, x < n → shows f m x = false) ∧ Holds wr w.heap.size f ∧ Below w.heap.size w wr) (fun i _ => 256 - (intOf i).toNat)
    case atStart => exact ⟨0, Nat.zero_le _, rfl, fun x hx => absurd hx (Nat.not_lt_zero _), Holds.new _ _ _, by go_grown⟩
    case round =>
      obtain ⟨n, hn, rfl, hno, h0, hb⟩ := hrel
      by_cases hlt : n < 256
      · have hq : n / y ≤ n := Nat.div_le_self _ _
        have hqe : (n : Int) / (y : Int) = ((n / y : Nat) : Int) := by simp
        have hq0 : (0 : Int) ≤ (n : Int) / (y : Int) := by rw [hqe]; exact Int.natCast_nonneg _
        have hq1 : (n : Int) / (y : Int) ≤ 255 := by rw [hqe]; generalize n / y = z at hq; omega
        by_cases hbit : n / y % 2 = 0
        · have hs := Hs n hlt hbit
          have hB : ((n : Int) / (y : Int) % 2 == 0) = true := by rw [beq_iff_eq, hqe]; generalize n / y = z at hbit; omega
          clear Hs Hz hqe
          have hyz : ((y : Int) == 0) = false := by rw [beq_eq_false_iff_ne]; omega
          have c0 : ∀ u : Sub wr, u.1.cell? ⟨w.heap.size, 0, none⟩ = some (.int .u64 (wd f 0)) := fun u => (h0.sub u).cells.1
          have c1 : ∀ u : Sub wr, u.1.cell? ⟨w.heap.size, 1, none⟩ = some (.int .u64 (wd f 1)) := fun u => (h0.sub u).cells.2.1
          have c2 : ∀ u : Sub wr, u.1.cell? ⟨w.heap.size, 2, none⟩ = some (.int .u64 (wd f 2)) := fun u => (h0.sub u).cells.2.2.1
          have c3 : ∀ u : Sub wr, u.1.cell? ⟨w.heap.size, 3, none⟩ = some (.int .u64 (wd f 3)) := fun u => (h0.sub u).cells.2.2.2
          go_wp2
          refine wp_region_quiet_all (C := fun w' => ∃ u : Sub wr, w' = u.1) (by kernel_rfl) (by kernel_rfl) (InSub.drew wr) ?_
          iterate 8 (go_big_quiet_step (fail))
          go_big_quiet_step (exact sub_below (refAt f _ _))
          iterate 4 (go_big_quiet_step (fail))
          go_big_quiet_step (exact sub_below (refAt f _ _))
          iterate 2 (go_big_quiet_step (fail))
          refine wpQuiet_nil ?_
          clear c0 c1 c2 c3
          intro w' hw'
          obtain ⟨u, rfl⟩ := hw'
          have k0 := h0.sub u
          have kb := hb.trans (u.2.mono hb.size)
          clear h0 hb
          generalize u.1 = w1 at *
          generalize (!(atF f n == atF f ((n : Int) + (y : Int)))) = q at *
          cases q
          · go_wp2
            exact ⟨⟨n + 1, by omega, by go_num, fun x hx => by
              rcases Nat.lt_or_ge x n with h | h
              · exact hno.out x h
              · obtain rfl : x = n := by omega
                exact hs.out, k0, kb⟩, by simp [intOf]; omega⟩
          · go_wp2
            go_ret
            exact ⟨ret_bool (depF_true hlt hs.out).symm, kb⟩
        · have hs := Hz n hbit
          have hB : ((n : Int) / (y : Int) % 2 == 0) = false := by rw [beq_eq_false_iff_ne, hqe]; generalize n / y = z at hbit; omega
          clear Hs Hz hqe
          have hyz : ((y : Int) == 0) = false := by rw [beq_eq_false_iff_ne]; omega
          go_wp2
          refine wp_region_quiet_all (C := fun w' => ∃ u : Sub wr, w' = u.1) (by kernel_rfl) (by kernel_rfl) (InSub.drew wr) ?_
          iterate 6 (go_big_quiet_step (fail))
          iterate 9 go_big_quiet_skip
          go_big_quiet_step (fail)
          refine wpQuiet_nil ?_
          intro w' hw'
          obtain ⟨u, rfl⟩ := hw'
          have k0 := h0.sub u
          have kb := hb.trans (u.2.mono hb.size)
          clear h0 hb
          generalize u.1 = w1 at *
          go_wp2
          exact ⟨⟨n + 1, by omega, by go_num, fun x hx => by
            rcases Nat.lt_or_ge x n with h | h
            · exact hno.out x h
            · obtain rfl : x = n := by omega
              exact hs.out, k0, kb⟩, by simp [intOf]; omega⟩
      · obtain rfl : n = 256 := by omega
        have Hd := Lib.hid (depF_false hno.out)
        clear Hs Hz
        go_wp2
        go_ret
        exact ⟨ret_bool Hd.out.symm, hb⟩
  · have e : depAny f v = false := by rw [depAny, if_neg hv]
    rw [e]
    clear e
    simp only [fv]
    go_enter Tryd.func19, Tryd.ntmps19
    go_wp2
    all_goals
      go_ret
      exact ⟨rfl, by go_grown⟩


end Go.Proofs.YtgccgjeehggagaaDoor
