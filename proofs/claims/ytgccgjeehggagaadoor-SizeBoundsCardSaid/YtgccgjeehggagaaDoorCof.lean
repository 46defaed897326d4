/-
  Walks of package cof.
-/
import Derived.Test.YtgccgjeehggagaaDoorCofW
namespace Go.Proofs.YtgccgjeehggagaaDoor
open Go Go.RowKit
attribute [local go_sem] run_eql_fv run_neq_fv run_guard_fv

theorem cofIn (f : Fn) (v : Nat) (b : Bool) (w : World) (hl : LowW w) (hv : v < 6) :
    Calls Tryd.prog 26 #[fv f, .int .i64 v, .bool b] w fun e w' => e = .returned (fv (cofF f v b)) ∧ Below w.heap.size w w' := by
  cases b
  · exact cofInFalse f v w hl hv
  · exact cofInTrue f v w hl hv

set_option maxRecDepth 100000 in
set_option maxHeartbeats 1000000 in
theorem cofCof (f : Fn) (v : Int) (b : Bool) (w : World) (hl : LowW w) :
    Calls Tryd.prog 18 #[fv f, .int .i64 v, .bool b] w fun e w' => e = .returned (fv (cofAny f v b)) ∧ Below w.heap.size w w' := by
  by_cases hv : 0 ≤ v ∧ v < 8
  · obtain ⟨m, rfl⟩ := Int.eq_ofNat_of_zero_le hv.1
    have hm0 : (0 : Int) ≤ m := hv.1
    have hm8 : (m : Int) < 8 := hv.2
    have e : cofAny f (m : Int) b = cofF f m b := by rw [cofAny, if_pos hv, Int.toNat_natCast]
    rw [e]
    clear e hv
    have hk : Holds ((w.alloc (.cells #[.int .u64 (wd f 0), .int .u64 (wd f 1), .int .u64 (wd f 2), .int .u64 (wd f 3)] 26)).alloc (.cells #[.int .u64 0, .int .u64 0, .int .u64 0, .int .u64 0] 26)) (w.heap.size + 1) 0#256 := Holds.new0 _ _
    have Hk := Lib.hid hk
    have Hl : Hid (LowW ((w.alloc (.cells #[.int .u64 (wd f 0), .int .u64 (wd f 1), .int .u64 (wd f 2), .int .u64 (wd f 3)] 26)).alloc (.cells #[.int .u64 0, .int .u64 0, .int .u64 0, .int .u64 0] 26))) := Lib.hid (hl.keep (by go_grown))
    clear hk hl
    by_cases h6 : (m : Int) < 6
    · simp only [fv]
      go_enter Tryd.func18, Tryd.ntmps18
      go_wp2_with fail
      refine (cofIn f m b _ Hl.out (by omega)).mono ?_
      generalize hg : cofF f m b = g
      have Hg := Lib.hid hg
      clear hg
      rintro e w1 ⟨rfl, hb1⟩
      have k := Hk.out.keep hb1 (by simp)
      have hb2 : Below w.heap.size w w1 := below_from hb1 (by go_grown)
      clear hb1 Hk Hl
      obtain ⟨c0, c1, c2, c3⟩ := k.cells
      obtain ⟨z0, z1, z2, z3⟩ := k.free
      simp only [fv]
      go_wp2
      exact bodyPost_ret (ret_holds Tryd.results18 rfl (k.set4 g)) rfl ⟨by rw [Hg.out]; rfl, below_set4 hb2 (by omega)⟩
    · have h6' : (6 : Int) ≤ m := by omega
      simp only [fv]
      go_enter Tryd.func18, Tryd.ntmps18
      go_wp2_with fail
      refine (cofOf f m b _ (by omega)).mono ?_
      generalize hg : cofF f m b = g
      have Hg := Lib.hid hg
      clear hg
      rintro e w1 ⟨rfl, hb1⟩
      have k := Hk.out.keep hb1 (by simp)
      have hb2 : Below w.heap.size w w1 := below_from hb1 (by go_grown)
      clear hb1 Hk Hl
      obtain ⟨c0, c1, c2, c3⟩ := k.cells
      obtain ⟨z0, z1, z2, z3⟩ := k.free
      simp only [fv]
      go_wp2
      exact bodyPost_ret (ret_holds Tryd.results18 rfl (k.set4 g)) rfl ⟨by rw [Hg.out]; rfl, below_set4 hb2 (by omega)⟩
  · have e : cofAny f v b = f := by rw [cofAny, if_neg hv]
    rw [e]
    clear e
    simp only [fv]
    go_enter Tryd.func18, Tryd.ntmps18
    go_wp2
    all_goals exact bodyPost_ret (v := .agg #[.int .u64 (wd f 0), .int .u64 (wd f 1), .int .u64 (wd f 2), .int .u64 (wd f 3)]) (by simp [results, Tryd.results18, go_sem]) rfl ⟨rfl, by go_grown⟩




set_option maxRecDepth 100000 in
set_option maxHeartbeats 1000000 in
theorem cofDepends (f : Fn) (v : Int) (w : World) (hl : LowW w) :
    Calls Tryd.prog 31 #[fv f, .int .i64 v] w fun e w' => e = .returned (.bool (depAny f v)) ∧ Below w.heap.size w w' := by
  rw [← dep_iff f v]
  simp only [fv]
  go_enter Tryd.func31, Tryd.ntmps31
  go_wp2
  have h0 : Holds (w.alloc (.cells #[.int .u64 (wd f 0), .int .u64 (wd f 1), .int .u64 (wd f 2), .int .u64 (wd f 3)] 26)) w.heap.size f := Holds.new _ _ _
  have hb : Below w.heap.size w (w.alloc (.cells #[.int .u64 (wd f 0), .int .u64 (wd f 1), .int .u64 (wd f 2), .int .u64 (wd f 3)] 26)) := by go_grown
  generalize (w.alloc (.cells #[.int .u64 (wd f 0), .int .u64 (wd f 1), .int .u64 (wd f 2), .int .u64 (wd f 3)] 26)) = W at *
  have c0 : ∀ u : Sub W, u.1.cell? ⟨w.heap.size, 0, none⟩ = some (.int .u64 (wd f 0)) := fun u => (h0.sub u).cells.1
  have c1 : ∀ u : Sub W, u.1.cell? ⟨w.heap.size, 1, none⟩ = some (.int .u64 (wd f 1)) := fun u => (h0.sub u).cells.2.1
  have c2 : ∀ u : Sub W, u.1.cell? ⟨w.heap.size, 2, none⟩ = some (.int .u64 (wd f 2)) := fun u => (h0.sub u).cells.2.2.1
  have c3 : ∀ u : Sub W, u.1.cell? ⟨w.heap.size, 3, none⟩ = some (.int .u64 (wd f 3)) := fun u => (h0.sub u).cells.2.2.2
  have hlW : ∀ u : Sub W, LowW u.1 := fun u => hl.keep (hb.trans (u.2.mono hb.size))
  refine wp_region_quiet_all (C := fun w' => ∃ u : Sub W, w' = u.1) (by kernel_rfl) (by kernel_rfl) (InSub.drew W) ?_
  iterate 2 (go_big_quiet_step (fail))
  go_big_quiet_step (exact sub_below (cofCof f v false _ (hlW _)))
  iterate 2 (go_big_quiet_step (fail))
  go_big_quiet_step (exact sub_below (cofCof f v true _ (hlW _)))
  iterate 2 (go_big_quiet_step (fail))
  refine wpQuiet_nil ?_
  clear c0 c1 c2 c3 hlW
  intro w' hw'
  obtain ⟨u, rfl⟩ := hw'
  have hb2 := hb.trans (u.2.mono hb.size)
  generalize u.1 = w1 at *
  go_wp2
  go_ret
  exact ⟨rfl, hb2⟩

set_option maxRecDepth 100000 in
set_option maxHeartbeats 1000000 in
theorem cofSupport (f : Fn) (w : World) (hl : LowW w) :
    Calls Tryd.prog 28 #[fv f] w fun e w' => e = .returned (.int .i64 (supF f)) ∧ Below w.heap.size w w' := by
  rw [← supTo_eq]
  have Hl := Lib.hid hl
  clear hl
  simp only [fv]
  go_enter Tryd.func28, Tryd.ntmps28
  go_wp2
  go_loopw [3, 5] (fun s i wr => ∃ j : Nat, j ≤ 8 ∧ i = .int .i64 j ∧ s = .int .i64 (supTo f j) ∧ Holds wr w.heap.size f ∧ Below w.heap.size w wr) (fun _ i _ => 8 - (intOf i).toNat)
  case atStart => exact ⟨0, Nat.zero_le _, rfl, rfl, Holds.new _ _ _, by go_grown⟩
  case round =>
    obtain ⟨j, hj, rfl, rfl, h0, hb⟩ := hrel
    by_cases hlt : j < 8
    · have Hs := Lib.hid (show supTo f (j + 1) = supTo f j + (if depF f j then 2 ^ j else 0) from rfl)
      have hs : supTo f j < 256 := Nat.lt_of_lt_of_le (supTo_lt f j) (Nat.pow_le_pow_right (n := 2) (j := 8) (by decide) hj)
      have hp := pow8 hlt
      have Hp := Lib.hid (show wrap64 (2 ^ j) = ((2 ^ j : Nat) : Int) by rcases (by omega : j = 0 ∨ j = 1 ∨ j = 2 ∨ j = 3 ∨ j = 4 ∨ j = 5 ∨ j = 6 ∨ j = 7) with rfl | rfl | rfl | rfl | rfl | rfl | rfl | rfl <;> decide +kernel)
      generalize supTo f j = y at *
      obtain ⟨c0, c1, c2, c3⟩ := h0.cells
      go_wp2_with fail
      clear c0 c1 c2 c3
      refine (cofDepends f j _ (Hl.out.keep hb)).mono ?_
      rw [depAny, if_pos (by omega), Int.toNat_natCast]
      rintro e w1 ⟨rfl, hb1⟩
      have k0 := h0.keep hb1 h0.lt
      have kb := hb.trans (hb1.mono hb.size)
      clear h0 hb hb1
      cases hd : depF f j
      · rw [hd] at Hs
        go_wp2
        exact ⟨⟨j + 1, by omega, by go_num, by rw [Hs.out]; rfl, k0, kb⟩, by simp [intOf]; omega⟩
      · rw [hd] at Hs
        go_wp2
        refine ⟨⟨j + 1, by omega, by go_num, ?_, k0, kb⟩, by simp [intOf]; omega⟩
        rw [Hp.out, Hs.out, if_pos trivial]
        clear Hp Hs
        generalize 2 ^ j = q at *
        rw [show wrap64 ((y : Int) + (q : Int)) = ((y + q : Nat) : Int) by rw [wrap64]; omega]
    · obtain rfl : j = 8 := by omega
      go_wp2
      go_ret
      exact ⟨rfl, hb⟩


end Go.Proofs.YtgccgjeehggagaaDoor
