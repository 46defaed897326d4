/-
  Walks of the document's row, Cof, Depends, Support, Count.
-/
import Derived.Test.YtgccgjeehggagaaDoorMath2
import Derived.Test.YtgccgjeehggagaaDoorRefOps
namespace Go.Proofs.YtgccgjeehggagaaDoor
open Go Go.RowKit

theorem ret_int {k : IntKind} {a b : Int} (h : a = b) : Ending.returned (.int k a) = .returned (.int k b) := by rw [h]

set_option maxRecDepth 100000 in
set_option maxHeartbeats 400000 in
theorem refRow (x m : Nat) (b : Bool) (w : World) (hx : x < 256) (hm : m < 8) :
    Calls Tryd.prog 24 #[.int .i64 x, .int .i64 m, .bool b] w fun e w' => e = .returned (.int .i64 (rowF x m b)) ∧ w = w' := by
  go_enter Tryd.func24, Tryd.ntmps24
  go_wp2
  go_loop [7, 8] (fun p i => ∃ j : Nat, j ≤ m ∧ i = .int .i64 j ∧ p = .int .i64 ((2 ^ j : Nat) : Int)) (fun _ i => m - (intOf i).toNat)
  case atStart => exact ⟨0, Nat.zero_le _, rfl, rfl⟩
  case round =>
    obtain ⟨j, hj, rfl, rfl⟩ := hrel
    have hp := pow8 (show j < 8 by omega)
    have Hn : Hid (2 ^ (j + 1) = 2 * 2 ^ j) := by show _ = _; rw [Nat.pow_succ, Nat.mul_comm]
    by_cases hlt : j < m
    · generalize 2 ^ j = y at *
      have hy : 1 ≤ y ∧ y ≤ 128 := by omega
      clear hp
      go_wp2
      go_round
      case rel => exact ⟨j + 1, by omega, by go_num, by rw [Hn.out]; go_num⟩
      case measure => simp [intOf]; omega
    · obtain rfl : j = m := by omega
      have Hr := Lib.hid (show rowF x j b = (if x / 2 ^ j % 2 = 1 then x - 2 ^ j else x) + (if b then 2 ^ j else 0) from rfl)
      clear Hn
      generalize 2 ^ j = y at *
      rcases hp with rfl | rfl | rfl | rfl | rfl | rfl | rfl | rfl
      all_goals
        cases b <;> go_wp2 <;> go_ret <;> (rename_i hbit _; (first | rw [beq_iff_eq] at hbit | rw [beq_eq_false_iff_ne] at hbit); refine ⟨ret_int ?_, rfl⟩; rw [Hr.out]; simp only [if_true, if_false, Bool.false_eq_true]; split <;> omega)

/-- At the loop's head of Cof: what came in, the result's variable, the one that is filled. -/
def Coffing (w : World) (f o : Fn) (wr : World) : Prop :=
  Holds wr w.heap.size f ∧ Holds wr (w.heap.size + 1) 0#256 ∧ Holds wr (w.heap.size + 1 + 1) o ∧ Below w.heap.size w wr

set_option maxRecDepth 100000 in
set_option maxHeartbeats 1000000 in
theorem refCof (f : Fn) (v : Int) (b : Bool) (w : World) :
    Calls Tryd.prog 15 #[fv f, .int .i64 v, .bool b] w fun e w' => e = .returned (fv (cofAny f v b)) ∧ Below w.heap.size w w' := by
  by_cases hv : 0 ≤ v ∧ v < 8
  · obtain ⟨m, rfl⟩ := Int.eq_ofNat_of_zero_le hv.1
    have hm : m < 8 := by omega
    have hm0 : (0 : Int) ≤ (m : Int) := by omega
    have hm7 : (m : Int) ≤ 7 := by omega
    have e : cofAny f (m : Int) b = ofRow (fun x => f.getLsbD (rowF x m b)) := by rw [cofAny, if_pos hv, Int.toNat_natCast]; rfl
    rw [e]
    clear e
    simp only [fv]
    go_enter Tryd.func15, Tryd.ntmps15
    go_wp2
    go_loopw [8] (fun i wr => ∃ n : Nat, n ≤ 256 ∧ i = .int .i64 n ∧ Coffing w f (upTo (fun x => f.getLsbD (rowF x m b)) n) wr) (fun i _ => 256 - (intOf i).toNat)
    case atStart => exact ⟨0, Nat.zero_le _, rfl, by rw [upTo_zero]; exact ⟨((Holds.new _ _ _).alloc _).alloc _, (Holds.new0 _ _).alloc _, Holds.new0 _ _, by go_grown⟩⟩
    case round =>
      obtain ⟨n, hn, rfl, h0, h1, h2, hb⟩ := hrel
      by_cases hlt : n < 256
      · have hr := rowF_lt n m b hlt hm
        have Hf := Lib.hid (upTo_put (fun x => f.getLsbD (rowF x m b)) n (atF f (rowF n m b)) (atF_nat f _ hr))
        generalize upTo (fun x => f.getLsbD (rowF x m b)) n = g at *
        have c0 : ∀ u : Sub wr, u.1.cell? ⟨w.heap.size, 0, none⟩ = some (.int .u64 (wd f 0)) := fun u => (h0.sub u).cells.1
        have c1 : ∀ u : Sub wr, u.1.cell? ⟨w.heap.size, 1, none⟩ = some (.int .u64 (wd f 1)) := fun u => (h0.sub u).cells.2.1
        have c2 : ∀ u : Sub wr, u.1.cell? ⟨w.heap.size, 2, none⟩ = some (.int .u64 (wd f 2)) := fun u => (h0.sub u).cells.2.2.1
        have c3 : ∀ u : Sub wr, u.1.cell? ⟨w.heap.size, 3, none⟩ = some (.int .u64 (wd f 3)) := fun u => (h0.sub u).cells.2.2.2
        have d0 : ∀ u : Sub wr, u.1.cell? ⟨w.heap.size + 1 + 1, 0, none⟩ = some (.int .u64 (wd g 0)) := fun u => (h2.sub u).cells.1
        have d1 : ∀ u : Sub wr, u.1.cell? ⟨w.heap.size + 1 + 1, 1, none⟩ = some (.int .u64 (wd g 1)) := fun u => (h2.sub u).cells.2.1
        have d2 : ∀ u : Sub wr, u.1.cell? ⟨w.heap.size + 1 + 1, 2, none⟩ = some (.int .u64 (wd g 2)) := fun u => (h2.sub u).cells.2.2.1
        have d3 : ∀ u : Sub wr, u.1.cell? ⟨w.heap.size + 1 + 1, 3, none⟩ = some (.int .u64 (wd g 3)) := fun u => (h2.sub u).cells.2.2.2
        go_wp2
        refine wp_region_quiet_tail (C := fun w' => ∃ u : Sub wr, w' = u.1) 9 (by kernel_rfl) (by kernel_rfl) (InSub.drew wr) ?_
        simp only [List.take_succ_cons, List.take_zero, List.drop_succ_cons, List.drop_zero]
        iterate 6 (go_big_quiet_step (fail))
        go_big_quiet_step (exact sub_same (refRow n m b _ hlt hm))
        go_big_quiet_step (exact sub_below (refAt f _ _))
        go_big_quiet_step (exact sub_below (refPut g n _ _ hlt))
        refine wpQuiet_nil ?_
        rw [Hf.out]
        clear c0 c1 c2 c3 d0 d1 d2 d3
        intro w' hw'
        obtain ⟨u, rfl⟩ := hw'
        have k0 := h0.sub u
        have k1 := h1.sub u
        have k2 := h2.sub u
        have hb1 := u.2
        generalize u.1 = w1 at *
        obtain ⟨c0, c1, c2, c3⟩ := k2.cells
        obtain ⟨z0, z1, z2, z3⟩ := k2.free
        simp only [fv]
        go_wp2
        exact ⟨⟨n + 1, by omega, by go_num, k0.other4 (by omega), k1.other4 (by omega), k2.set4 _, below_set4 (hb.trans (hb1.mono hb.size)) (by omega)⟩, by simp [intOf]; omega⟩
      · obtain rfl : n = 256 := by omega
        rw [upTo_all] at h2
        generalize hg : ofRow (fun x => f.getLsbD (rowF x m b)) = g at *
        have Hg := Lib.hid hg
        clear hg
        obtain ⟨c0, c1, c2, c3⟩ := h2.cells
        obtain ⟨d0, d1, d2, d3⟩ := h1.cells
        obtain ⟨z0, z1, z2, z3⟩ := h1.free
        go_wp2
        exact bodyPost_ret (ret_holds Tryd.results15 rfl (h1.set4 g)) rfl ⟨by rw [Hg.out]; rfl, below_set4 hb (by omega)⟩
  · have e : cofAny f v b = f := by rw [cofAny, if_neg hv]
    rw [e]
    clear e
    simp only [fv]
    go_enter Tryd.func15, Tryd.ntmps15
    go_wp2
    all_goals exact bodyPost_ret (v := .agg #[.int .u64 (wd f 0), .int .u64 (wd f 1), .int .u64 (wd f 2), .int .u64 (wd f 3)]) (by simp [results, Tryd.results15, go_sem]) rfl ⟨rfl, by go_grown⟩

end Go.Proofs.YtgccgjeehggagaaDoor
