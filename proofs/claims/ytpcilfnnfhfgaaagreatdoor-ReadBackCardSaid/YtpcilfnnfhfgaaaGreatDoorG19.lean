/-
  Texts of this proof, one behind the other: Cof, ReadT, IMap, BSet, ReachM, GathM.
-/
import Derived.Test.YtpcilfnnfhfgaaaGreatDoorG18
import Derived.Test.YtpcilfnnfhfgaaaGreatDoorG10
import Derived.Test.YtpcilfnnfhfgaaaGreatDoorG8
import Derived.Test.YtpcilfnnfhfgaaaGreatDoorG16
import Derived.Test.YtpcilfnnfhfgaaaGreatDoorG17
import Derived.Maps.Own
import Derived.Maps.OwnOps
import Derived.Maps.Views
import Derived.WalkKit
import Derived.Maps.OwnSet
import Derived.Test.YtpcilfnnfhfgaaaGreatDoorG2
/-
  Walks of package cof.
-/
namespace Go.Proofs.YtpcilfnnfhfgaaaGreatDoor
open Go Go.RowKit
attribute [local go_sem] run_eql_fv run_neq_fv run_guard_fv

theorem cofIn (f : Fn) (v : Nat) (b : Bool) (w : World) (hl : LowW w) (hv : v < 6) :
    Calls Tryz.prog 94 #[fv f, .int .i64 v, .bool b] w fun e w' => e = .returned (fv (cofF f v b)) ∧ Below w.heap.size w w' := by
  cases b
  · exact cofInFalse f v w hl hv
  · exact cofInTrue f v w hl hv

set_option maxRecDepth 100000 in
set_option maxHeartbeats 1000000 in
theorem cofCof (f : Fn) (v : Int) (b : Bool) (w : World) (hl : LowW w) :
    Calls Tryz.prog 57 #[fv f, .int .i64 v, .bool b] w fun e w' => e = .returned (fv (cofAny f v b)) ∧ Below w.heap.size w w' := by
  by_cases hv : 0 ≤ v ∧ v < 8
  · obtain ⟨m, rfl⟩ := Int.eq_ofNat_of_zero_le hv.1
    have hm0 : (0 : Int) ≤ m := hv.1
    have hm8 : (m : Int) < 8 := hv.2
    have e : cofAny f (m : Int) b = cofF f m b := by rw [cofAny, if_pos hv, Int.toNat_natCast]
    rw [e]
    clear e hv
    have hk : Holds ((w.alloc (.cells #[.int .u64 (wd f 0), .int .u64 (wd f 1), .int .u64 (wd f 2), .int .u64 (wd f 3)] 35)).alloc (.cells #[.int .u64 0, .int .u64 0, .int .u64 0, .int .u64 0] 35)) (w.heap.size + 1) 0#256 := Holds.new0 _ _
    have Hk := Lib.hid hk
    have Hl : Hid (LowW ((w.alloc (.cells #[.int .u64 (wd f 0), .int .u64 (wd f 1), .int .u64 (wd f 2), .int .u64 (wd f 3)] 35)).alloc (.cells #[.int .u64 0, .int .u64 0, .int .u64 0, .int .u64 0] 35))) := Lib.hid (hl.keep (by go_grown))
    clear hk hl
    by_cases h6 : (m : Int) < 6
    · simp only [fv]
      go_enter Tryz.func57, Tryz.ntmps57
      go_wp2_with fail
      refine (cofIn f m b _ Hl.out (by omega)).mono ?_
      generalize hg : cofF f m b = g
      have Hg := Lib.hid hg
      clear hg
      rintro e w1 ⟨rfl, hb1⟩
      have k := Hk.out.keep hb1 (by simp)
      have hb2 : Below w.heap.size w w1 := below_from hb1 (by go_grown)
      clear hb1 Hk Hl
      obtain ⟨c0, c1, c2, c3⟩ := k.cells
      obtain ⟨z0, z1, z2, z3⟩ := k.free
      simp only [fv]
      go_wp2
      exact bodyPost_ret (ret_holds Tryz.results57 rfl (k.set4 g)) rfl ⟨by rw [Hg.out]; rfl, below_set4 hb2 (by omega)⟩
    · have h6' : (6 : Int) ≤ m := by omega
      simp only [fv]
      go_enter Tryz.func57, Tryz.ntmps57
      go_wp2_with fail
      refine (cofOf f m b _ (by omega)).mono ?_
      generalize hg : cofF f m b = g
      have Hg := Lib.hid hg
      clear hg
      rintro e w1 ⟨rfl, hb1⟩
      have k := Hk.out.keep hb1 (by simp)
      have hb2 : Below w.heap.size w w1 := below_from hb1 (by go_grown)
      clear hb1 Hk Hl
      obtain ⟨c0, c1, c2, c3⟩ := k.cells
      obtain ⟨z0, z1, z2, z3⟩ := k.free
      simp only [fv]
      go_wp2
      exact bodyPost_ret (ret_holds Tryz.results57 rfl (k.set4 g)) rfl ⟨by rw [Hg.out]; rfl, below_set4 hb2 (by omega)⟩
  · have e : cofAny f v b = f := by rw [cofAny, if_neg hv]
    rw [e]
    clear e
    simp only [fv]
    go_enter Tryz.func57, Tryz.ntmps57
    go_wp2
    all_goals exact bodyPost_ret (v := .agg #[.int .u64 (wd f 0), .int .u64 (wd f 1), .int .u64 (wd f 2), .int .u64 (wd f 3)]) (by simp [results, Tryz.results57, go_sem]) rfl ⟨rfl, by go_grown⟩




set_option maxRecDepth 100000 in
set_option maxHeartbeats 1000000 in
theorem cofDepends (f : Fn) (v : Int) (w : World) (hl : LowW w) :
    Calls Tryz.prog 90 #[fv f, .int .i64 v] w fun e w' => e = .returned (.bool (depAny f v)) ∧ Below w.heap.size w w' := by
  rw [← dep_iff f v]
  simp only [fv]
  go_enter Tryz.func90, Tryz.ntmps90
  go_wp2
  have h0 : Holds (w.alloc (.cells #[.int .u64 (wd f 0), .int .u64 (wd f 1), .int .u64 (wd f 2), .int .u64 (wd f 3)] 35)) w.heap.size f := Holds.new _ _ _
  have hb : Below w.heap.size w (w.alloc (.cells #[.int .u64 (wd f 0), .int .u64 (wd f 1), .int .u64 (wd f 2), .int .u64 (wd f 3)] 35)) := by go_grown
  generalize (w.alloc (.cells #[.int .u64 (wd f 0), .int .u64 (wd f 1), .int .u64 (wd f 2), .int .u64 (wd f 3)] 35)) = W at *
  have c0 : ∀ u : Sub W, u.1.cell? ⟨w.heap.size, 0, none⟩ = some (.int .u64 (wd f 0)) := fun u => (h0.sub u).cells.1
  have c1 : ∀ u : Sub W, u.1.cell? ⟨w.heap.size, 1, none⟩ = some (.int .u64 (wd f 1)) := fun u => (h0.sub u).cells.2.1
  have c2 : ∀ u : Sub W, u.1.cell? ⟨w.heap.size, 2, none⟩ = some (.int .u64 (wd f 2)) := fun u => (h0.sub u).cells.2.2.1
  have c3 : ∀ u : Sub W, u.1.cell? ⟨w.heap.size, 3, none⟩ = some (.int .u64 (wd f 3)) := fun u => (h0.sub u).cells.2.2.2
  have hlW : ∀ u : Sub W, LowW u.1 := fun u => hl.keep (hb.trans (u.2.mono hb.size))
  refine wp_region_quiet_all (C := fun w' => ∃ u : Sub W, w' = u.1) (by kernel_rfl) (by kernel_rfl) (InSub.drew W) ?_
  iterate 2 (go_big_quiet_step (fail))
  go_big_quiet_step (exact sub_below (cofCof f v false _ (hlW _)))
  iterate 2 (go_big_quiet_step (fail))
  go_big_quiet_step (exact sub_below (cofCof f v true _ (hlW _)))
  iterate 2 (go_big_quiet_step (fail))
  refine wpQuiet_nil ?_
  clear c0 c1 c2 c3 hlW
  intro w' hw'
  obtain ⟨u, rfl⟩ := hw'
  have hb2 := hb.trans (u.2.mono hb.size)
  generalize u.1 = w1 at *
  go_wp2
  go_ret
  exact ⟨rfl, hb2⟩

set_option maxRecDepth 100000 in
set_option maxHeartbeats 1000000 in
theorem cofSupport (f : Fn) (w : World) (hl : LowW w) :
    Calls Tryz.prog 50 #[fv f] w fun e w' => e = .returned (.int .i64 (supF f)) ∧ Below w.heap.size w w' := by
  rw [← supTo_eq]
  have Hl := Lib.hid hl
  clear hl
  simp only [fv]
  go_enter Tryz.func50, Tryz.ntmps50
  go_wp2
  go_loopw [3, 5] (fun s i wr => ∃ j : Nat, j ≤ 8 ∧ i = .int .i64 j ∧ s = .int .i64 (supTo f j) ∧ Holds wr w.heap.size f ∧ Below w.heap.size w wr) (fun _ i _ => 8 - (intOf i).toNat)
  case atStart => exact ⟨0, Nat.zero_le _, rfl, rfl, Holds.new _ _ _, by go_grown⟩
  case round =>
    obtain ⟨j, hj, rfl, rfl, h0, hb⟩ := hrel
    by_cases hlt : j < 8
    · have Hs := Lib.hid (show supTo f (j + 1) = supTo f j + (if depF f j then 2 ^ j else 0) from rfl)
      have hs : supTo f j < 256 := Nat.lt_of_lt_of_le (supTo_lt f j) (Nat.pow_le_pow_right (n := 2) (j := 8) (by decide) hj)
      have hp := pow8 hlt
      have Hp := Lib.hid (show wrap64 (2 ^ j) = ((2 ^ j : Nat) : Int) by rcases (by omega : j = 0 ∨ j = 1 ∨ j = 2 ∨ j = 3 ∨ j = 4 ∨ j = 5 ∨ j = 6 ∨ j = 7) with rfl | rfl | rfl | rfl | rfl | rfl | rfl | rfl <;> decide +kernel)
      generalize supTo f j = y at *
      obtain ⟨c0, c1, c2, c3⟩ := h0.cells
      go_wp2_with fail
      clear c0 c1 c2 c3
      refine (cofDepends f j _ (Hl.out.keep hb)).mono ?_
      rw [depAny, if_pos (by omega), Int.toNat_natCast]
      rintro e w1 ⟨rfl, hb1⟩
      have k0 := h0.keep hb1 h0.lt
      have kb := hb.trans (hb1.mono hb.size)
      clear h0 hb hb1
      cases hd : depF f j
      · rw [hd] at Hs
        go_wp2
        exact ⟨⟨j + 1, by omega, by go_num, by rw [Hs.out]; rfl, k0, kb⟩, by simp [intOf]; omega⟩
      · rw [hd] at Hs
        go_wp2
        refine ⟨⟨j + 1, by omega, by go_num, ?_, k0, kb⟩, by simp [intOf]; omega⟩
        rw [Hp.out, Hs.out, if_pos trivial]
        clear Hp Hs
        generalize 2 ^ j = q at *
        rw [show wrap64 ((y : Int) + (q : Int)) = ((y + q : Nat) : Int) by rw [wrap64]; omega]
    · obtain rfl : j = 8 := by omega
      go_wp2
      go_ret
      exact ⟨rfl, hb⟩

set_option maxRecDepth 100000 in
set_option maxHeartbeats 1000000 in
theorem cofCount (f : Fn) (w : World) (_ : LowW w) :
    Calls Tryz.prog 49 #[fv f] w fun e w' => e = .returned (.int .i64 (cntF f 256)) ∧ Below w.heap.size w w' := by
  rw [cntF_words]
  have l0 := bitSum_le (wd f 0) 64
  have l1 := bitSum_le (wd f 1) 64
  have l2 := bitSum_le (wd f 2) 64
  have l3 := bitSum_le (wd f 3) 64
  have b0 := Lib.hid (wd_lt f 0)
  have b1 := Lib.hid (wd_lt f 1)
  have b2 := Lib.hid (wd_lt f 2)
  have b3 := Lib.hid (wd_lt f 3)
  have i0 : ∀ w, (Instr.index 35 (.agg #[.int .u64 (wd f 0), .int .u64 (wd f 1), .int .u64 (wd f 2), .int .u64 (wd f 3)]) (.int .i64 0)).run Tryz.prog w = .ok (.int .u64 (wd f 0)) w := fun _ => by kernel_rfl
  have i1 : ∀ w, (Instr.index 35 (.agg #[.int .u64 (wd f 0), .int .u64 (wd f 1), .int .u64 (wd f 2), .int .u64 (wd f 3)]) (.int .i64 1)).run Tryz.prog w = .ok (.int .u64 (wd f 1)) w := fun _ => by kernel_rfl
  have i2 : ∀ w, (Instr.index 35 (.agg #[.int .u64 (wd f 0), .int .u64 (wd f 1), .int .u64 (wd f 2), .int .u64 (wd f 3)]) (.int .i64 2)).run Tryz.prog w = .ok (.int .u64 (wd f 2)) w := fun _ => by kernel_rfl
  have i3 : ∀ w, (Instr.index 35 (.agg #[.int .u64 (wd f 0), .int .u64 (wd f 1), .int .u64 (wd f 2), .int .u64 (wd f 3)]) (.int .i64 3)).run Tryz.prog w = .ok (.int .u64 (wd f 3)) w := fun _ => by kernel_rfl
  simp only [fv]
  go_enter Tryz.func49, Tryz.ntmps49
  go_wp2
  refine wp_loop_rounds 5 ?_
  rw [rounds_succ]
  go_wp2_with fail
  refine (ones64 (wd f 0) _ b0.out).mono ?_
  rintro e w1 ⟨rfl, rfl⟩
  go_wp2
  rw [rounds_succ]
  go_wp2_with fail
  refine (ones64 (wd f 1) _ b1.out).mono ?_
  rintro e w1 ⟨rfl, rfl⟩
  go_wp2
  rw [rounds_succ]
  go_wp2_with fail
  refine (ones64 (wd f 2) _ b2.out).mono ?_
  rintro e w1 ⟨rfl, rfl⟩
  go_wp2
  rw [rounds_succ]
  go_wp2_with fail
  refine (ones64 (wd f 3) _ b3.out).mono ?_
  rintro e w1 ⟨rfl, rfl⟩
  go_wp2
  rw [rounds_succ]
  go_wp2
  go_ret
  exact ⟨rfl, by go_grown⟩

end Go.Proofs.YtpcilfnnfhfgaaaGreatDoor

/-
  Walks of package read over the store's contracts: Table, Value, Count, Support.
-/
namespace Go.Proofs.YtpcilfnnfhfgaaaGreatDoor
open Go Go.RowKit

theorem MS.tab_constB {s : MS} {n : Int} (h : s.has n = false) : s.tab n = if (n == 1) then BitVec.allOnes 256 else 0#256 := by
  rw [MS.tab_const h]
  by_cases e : n = 1
  · rw [if_pos e, if_pos (by simpa using e)]
  · rw [if_neg e, if_neg (by simpa using e)]

set_option maxRecDepth 100000 in
set_option maxHeartbeats 2000000 in
theorem readTable_const {StAt : World → Nat → (Nat → Prop) → MS → Prop} (H : StoreC StAt) {w : World} {b : Nat} {F : Nat → Prop} {s : MS} (h : StAt w b F s) (ok : s.Ok) (n : Int) (hn : n ≤ 9223372036854775807 ∧ -9223372036854775808 ≤ n) (hh : s.has n = false) :
    Calls Tryz.prog 11 #[.pointer (some ⟨b, 0, none⟩), .int .i64 n] w fun e w' => e = .returned (fv (s.tab n)) ∧ Below w.heap.size w w' := by
  have HN := fun W (hb : Below w.heap.size w W) => H.node (H.below h hb) ok n hn
  simp only [nodeV, hh, Bool.false_eq_true, if_false, nv] at HN
  rw [MS.tab_constB hh]
  have HC := fun W => tabConst (n == 1) W
  generalize (if (n == 1) then BitVec.allOnes 256 else 0#256) = R at *
  simp only [fv] at HC
  clear h hh
  go_enter Tryz.func11, Tryz.ntmps11
  go_wp2_with fail
  have hR := Holds.new0 w w.heap.size rfl
  have hb := (Below.refl w.heap.size w).alloc (Nat.le_refl _) (.cells #[.int .u64 0, .int .u64 0, .int .u64 0, .int .u64 0] 35)
  generalize w.alloc (.cells #[.int .u64 0, .int .u64 0, .int .u64 0, .int .u64 0] 35) = W at *
  refine (HN _ hb).mono ?_
  rintro e w1 ⟨rfl, hb1⟩
  have hb2 := hb.trans (hb1.mono hb.size)
  replace hR := hR.keep hb1 (by have := hR.lt; exact this)
  replace hR := hR.alloc (.cells #[.int .i64 0, .int .i64 0, .int .i64 0] 69)
  replace hb2 := hb2.alloc hb2.size (.cells #[.int .i64 0, .int .i64 0, .int .i64 0] 69)
  clear HN hb hb1
  go_wp2_with fail
  generalize w1.alloc (.cells #[.int .i64 0, .int .i64 0, .int .i64 0] 69) = W2 at *
  refine (HC _).mono ?_
  rintro e w2 ⟨rfl, hb3⟩
  replace hR := hR.keep hb3 hR.lt
  replace hb2 := hb2.trans (hb3.mono hb2.size)
  obtain ⟨c0, c1, c2, c3⟩ := hR.cells
  obtain ⟨z0, z1, z2, z3⟩ := hR.free
  have hR4 := Lib.hid (hR.set4 R)
  clear hR HC hb3
  go_wp2
  exact bodyPost_ret (ret_holds Tryz.results11 rfl hR4.out) rfl ⟨rfl, below_set4 hb2 (Nat.le_refl _)⟩

set_option maxRecDepth 100000 in
set_option maxHeartbeats 2000000 in
theorem readTable {StAt : World → Nat → (Nat → Prop) → MS → Prop} (H : StoreC StAt) {b : Nat} {F : Nat → Prop} {s : MS} (ok : s.Ok) : ∀ (k : Nat) (n : Int) (w : World), LowW w → StAt w b F s → s.dep n ≤ k → (n ≤ 9223372036854775807 ∧ -9223372036854775808 ≤ n) →
    Calls Tryz.prog 11 #[.pointer (some ⟨b, 0, none⟩), .int .i64 n] w fun e w' => e = .returned (fv (s.tab n)) ∧ Below w.heap.size w w' := by
  intro k
  induction k with
  | zero =>
    intro n w _ h hd hn
    have hh : s.has n = false := by
      cases hh : s.has n
      · rfl
      · have := ok.dep_pos hh; omega
    exact readTable_const H h ok n hn hh
  | succ k ih =>
    intro n w hL h hd hn
    cases hh : s.has n
    · exact readTable_const H h ok n hn hh
    · have HN := fun W (hb : Below w.heap.size w W) => H.node (H.below h hb) ok n hn
      simp only [nodeV, hh, if_true, nv] at HN
      have d1 := ok.dep_behind hh (ok.lo n hh)
      have d2 := ok.dep_behind hh (ok.hi n hh)
      have b1 := ok.toBase.behind_le (ok.lo n hh)
      have b2 := ok.toBase.behind_le (ok.hi n hh)
      have I1 := fun W (hb : Below w.heap.size w W) => ih (s.nd n).lo W (hL.keep hb) (H.below h hb) (by omega) ⟨by omega, by omega⟩
      have I2 := fun W (hb : Below w.heap.size w W) => ih (s.nd n).hi W (hL.keep hb) (H.below h hb) (by omega) ⟨by omega, by omega⟩
      have hT := ok.tab_node hh
      rw [hT]
      have HV := fun W (hb : Below w.heap.size w W) => tabVar (s.nd n).var W (hL.keep hb)
      have HI := fun W => tabIte (varAny (s.nd n).var) (s.tab (s.nd n).hi) (s.tab (s.nd n).lo) W
      clear hT d1 d2 b1 b2 ih hd hL
      generalize s.nd n = x at *
      obtain ⟨x0, x1, x2⟩ := x
      dsimp only at *
      generalize (varAny x0 &&& s.tab x2 ||| ~~~varAny x0 &&& s.tab x1) = R at *
      generalize s.tab x1 = f1 at *
      generalize s.tab x2 = f2 at *
      generalize varAny x0 = f0 at *
      simp only [fv] at I1 I2 HV HI
      go_enter Tryz.func11, Tryz.ntmps11
      go_wp2_with fail
      have hR := Holds.new0 w w.heap.size rfl
      have hb := (Below.refl w.heap.size w).alloc (Nat.le_refl _) (.cells #[.int .u64 0, .int .u64 0, .int .u64 0, .int .u64 0] 35)
      generalize w.alloc (.cells #[.int .u64 0, .int .u64 0, .int .u64 0, .int .u64 0] 35) = W at *
      refine (HN _ hb).mono ?_
      rintro e w1 ⟨rfl, hb1⟩
      have hb2 := hb.trans (hb1.mono hb.size)
      replace hR := hR.keep hb1 (by have := hR.lt; exact this)
      have hRl := hR.lt
      have hX := HoldsN.new w1 ⟨x0, x1, x2⟩
      replace hR := hR.alloc (.cells #[.int .i64 x0, .int .i64 x1, .int .i64 x2] 69)
      replace hb2 := hb2.alloc hb2.size (.cells #[.int .i64 x0, .int .i64 x1, .int .i64 x2] 69)
      dsimp only at hX
      clear HN hb hb1
      go_wp2
      generalize w1.alloc (.cells #[.int .i64 x0, .int .i64 x1, .int .i64 x2] 69) = W2 at *
      generalize w1.heap.size = bX at *
      have e0 := fun u : Sub W2 => (hX.sub u).cells.1
      have e1 := fun u : Sub W2 => (hX.sub u).cells.2.1
      have e2 := fun u : Sub W2 => (hX.sub u).cells.2.2
      dsimp only at e0 e1 e2
      have J1 := fun u : Sub W2 => I1 _ (hb2.trans (u.2.mono hb2.size))
      have J2 := fun u : Sub W2 => I2 _ (hb2.trans (u.2.mono hb2.size))
      have JV := fun u : Sub W2 => HV _ (hb2.trans (u.2.mono hb2.size))
      refine wp_region_quiet_tail (C := fun w' => ∃ u : Sub W2, w' = u.1) 12 (by kernel_rfl) (by kernel_rfl) (InSub.drew W2) ?_
      simp only [List.take_succ_cons, List.take_zero]
      iterate 2 (go_big_quiet_step (fail))
      go_big_quiet_step (exact subBelow (JV _))
      iterate 3 (go_big_quiet_step (fail))
      go_big_quiet_step (exact subBelow (J2 _))
      iterate 3 (go_big_quiet_step (fail))
      go_big_quiet_step (exact subBelow (J1 _))
      go_big_quiet_step (exact subBelow (HI _))
      refine wpQuiet_nil ?_
      clear e0 e1 e2 J1 J2 JV HV HI I1 I2
      intro w' hw'
      obtain ⟨u, rfl⟩ := hw'
      replace hR := hR.keep u.2 hR.lt
      replace hb2 := hb2.trans (u.2.mono hb2.size)
      generalize u.1 = W3 at *
      obtain ⟨c0, c1, c2, c3⟩ := hR.cells
      obtain ⟨z0, z1, z2, z3⟩ := hR.free
      have hR4 := Lib.hid (hR.set4 R)
      clear hR hX
      simp only [List.drop_succ_cons, List.drop_zero]
      go_wp2
      exact bodyPost_ret (ret_holds Tryz.results11 rfl hR4.out) rfl ⟨rfl, below_set4 hb2 (Nat.le_refl _)⟩

set_option maxRecDepth 100000 in
set_option maxHeartbeats 2000000 in
theorem readValue {StAt : World → Nat → (Nat → Prop) → MS → Prop} (H : StoreC StAt) {w : World} {b : Nat} {F : Nat → Prop} {s : MS} (hL : LowW w) (h : StAt w b F s) (ok : s.Ok) (n x : Int) (hn : n ≤ 9223372036854775807 ∧ -9223372036854775808 ≤ n) :
    Calls Tryz.prog 12 #[.pointer (some ⟨b, 0, none⟩), .int .i64 n, .int .i64 x] w fun e w' => e = .returned (.bool (atF (s.tab n) x)) ∧ Below w.heap.size w w' := by
  have HT := readTable H ok 8 n w hL h (ok.dep_le n) hn
  have HA := fun W => tabAt (s.tab n) x W
  generalize s.tab n = f at *
  simp only [fv] at HT HA
  clear h hL
  go_enter Tryz.func12, Tryz.ntmps12
  go_wp2_with fail
  refine HT.mono ?_
  rintro e w1 ⟨rfl, hb1⟩
  go_wp2_with fail
  refine (HA _).mono ?_
  rintro e w2 ⟨rfl, hb2⟩
  go_wp2
  go_ret
  exact ⟨rfl, hb1.trans (hb2.mono hb1.size)⟩

set_option maxRecDepth 100000 in
set_option maxHeartbeats 2000000 in
theorem readCount {StAt : World → Nat → (Nat → Prop) → MS → Prop} (H : StoreC StAt) {w : World} {b : Nat} {F : Nat → Prop} {s : MS} (hL : LowW w) (h : StAt w b F s) (ok : s.Ok) (n : Int) (hn : n ≤ 9223372036854775807 ∧ -9223372036854775808 ≤ n) :
    Calls Tryz.prog 14 #[.pointer (some ⟨b, 0, none⟩), .int .i64 n] w fun e w' => e = .returned (.int .i64 (cntF (s.tab n) 256)) ∧ Below w.heap.size w w' := by
  have HT := readTable H ok 8 n w hL h (ok.dep_le n) hn
  have HA := fun W (hb : Below w.heap.size w W) => cofCount (s.tab n) W (hL.keep hb)
  generalize s.tab n = f at *
  generalize cntF f 256 = c at *
  simp only [fv] at HT HA
  clear h hL
  go_enter Tryz.func14, Tryz.ntmps14
  go_wp2_with fail
  refine HT.mono ?_
  rintro e w1 ⟨rfl, hb1⟩
  go_wp2_with fail
  refine (HA _ hb1).mono ?_
  rintro e w2 ⟨rfl, hb2⟩
  go_wp2
  go_ret
  exact ⟨rfl, hb1.trans (hb2.mono hb1.size)⟩

set_option maxRecDepth 100000 in
set_option maxHeartbeats 2000000 in
theorem readSupport {StAt : World → Nat → (Nat → Prop) → MS → Prop} (H : StoreC StAt) {w : World} {b : Nat} {F : Nat → Prop} {s : MS} (hL : LowW w) (h : StAt w b F s) (ok : s.Ok) (n : Int) (hn : n ≤ 9223372036854775807 ∧ -9223372036854775808 ≤ n) :
    Calls Tryz.prog 16 #[.pointer (some ⟨b, 0, none⟩), .int .i64 n] w fun e w' => e = .returned (.int .i64 (supF (s.tab n))) ∧ Below w.heap.size w w' := by
  have HT := readTable H ok 8 n w hL h (ok.dep_le n) hn
  have HA := fun W (hb : Below w.heap.size w W) => cofSupport (s.tab n) W (hL.keep hb)
  generalize s.tab n = f at *
  generalize supF f = c at *
  simp only [fv] at HT HA
  clear h hL
  go_enter Tryz.func16, Tryz.ntmps16
  go_wp2_with fail
  refine HT.mono ?_
  rintro e w1 ⟨rfl, hb1⟩
  go_wp2_with fail
  refine (HA _ hb1).mono ?_
  rintro e w2 ⟨rfl, hb2⟩
  go_wp2
  go_ret
  exact ⟨rfl, hb1.trans (hb2.mono hb1.size)⟩

end Go.Proofs.YtpcilfnnfhfgaaaGreatDoor

/-
  A map of the call's own whose elements are numbers, as a function from its keys; nothing of the program is read here.
-/
namespace Go.Proofs.YtpcilfnnfhfgaaaGreatDoor
open Go Go.RowKit Go.Maps

/-- How values of α stand as keys of type K. -/
structure KeyEnc (P : Program) (K : TypeId) (α : Type) where
  val : α → Value
  lit : α → Lit
  key : ∀ a, keyOf P K (val a) = some (lit a)
  inj : ∀ a b, val a = val b → a = b
  law : Keyed P K

section
variable {P : Program} {K e : TypeId} {α : Type} {E : KeyEnc P K α}

theorem KeyEnc.lit_inj (E : KeyEnc P K α) {a b : α} (h : E.lit a = E.lit b) : a = b := by
  have ha := E.key a
  have hb := E.key b
  rw [h] at ha
  exact E.inj a b (E.law.inj ha hb)

/-- Block b is a map of at most n entries; at key a it has m a, and 0 where there is none. -/
def IMap (E : KeyEnc P K α) (e : TypeId) (w : World) (b n : Nat) (m : α → Int) : Prop :=
  ∃ D : DataW Unit, w.ownsMap P K (plainElem P e) b n D ∧ IsMap D ∧ ∀ a, D.atKey (E.lit a) (.lit (.int .i64 0)) = .lit (.int .i64 (m a))

theorem IMap.made (E : KeyEnc P K α) (e : TypeId) (w : World) : IMap E e (w.alloc (.map #[] 0)) w.heap.size 0 (fun _ => 0) :=
  ⟨.map [], World.ownsMap_made _ _ _ _, isMap_empty, fun _ => rfl⟩

theorem IMap.block {w w' : World} {b n : Nat} {m : α → Int} (h : IMap E e w b n m) (hb : w'.heap[b]? = w.heap[b]?) : IMap E e w' b n m := by
  obtain ⟨D, ⟨es, clock, h1, h2, h3, h4⟩, hm, ha⟩ := h
  exact ⟨D, ⟨es, clock, hb.trans h1, h2, h3, h4⟩, hm, ha⟩

theorem IMap.lt {w : World} {b n : Nat} {m : α → Int} (h : IMap E e w b n m) : b < w.heap.size := by
  obtain ⟨D, ho, _⟩ := h; exact ho.lt

theorem IMap.keep {w w' : World} {b n B : Nat} {m : α → Int} (h : IMap E e w b n m) (hb : Below B w w') (hB : b < B) : IMap E e w' b n m := h.block (hb.block b hB)
theorem IMap.alloc {w : World} {b n : Nat} {m : α → Int} (h : IMap E e w b n m) (o : Obj) : IMap E e (w.alloc o) b n m := h.block (heap_alloc_old _ _ h.lt)
theorem IMap.grown {w w' : World} {b n : Nat} {m : α → Int} {row : Option Nat} (h : IMap E e w b n m) (hg : w.grownBy w' row) (hne : some b ≠ row) : IMap E e w' b n m := by
  obtain ⟨D, ho, hm, ha⟩ := h; exact ⟨D, ho.kept hg hne, hm, ha⟩

theorem IMap.le {w : World} {b n : Nat} {m : α → Int} (h : IMap E e w b n m) : IMap E e w b (n + 1) m := by
  obtain ⟨D, ho, hm, ha⟩ := h; exact ⟨D, ho.mono (Nat.le_succ _), hm, ha⟩

/-- m[a], read. -/
theorem IMap.look {w : World} {b n : Nat} {m : α → Int} {t : TypeId} (h : IMap E e w b n m) (ht : P.underlying t = some (.map K e)) (he : P.underlying e = some (.int .i64)) (hz : (zeroValue e).run P w = .ok (.int .i64 0) w) (a : α) :
    (Instr.lookup t (.map (some b)) (E.val a) false).run P w = .ok (.int .i64 (m a)) w := by
  obtain ⟨D, ho, _, ha⟩ := h
  obtain ⟨c, hr, hc, _⟩ := ho.lookup_int E.law ht he hz (E.key a)
  rw [ha a] at hc
  injection hc with hc
  injection hc with _ hc
  rw [hr, hc]

/-- m[a] = x, stored. -/
theorem IMap.put [DecidableEq α] {ops : Array Oper} {rest : List Oper} {o : Oper} {A : Act} {Q : Exit → Act → World → Prop} {w : World} {b n : Nat} {m : α → Int} {t : TypeId}
    (h : IMap E e w b n m) (ht : P.underlying t = some (.map K e)) (he : P.underlying e = some (.int .i64)) (hn : n < maxLen) (hg : o.guard = none) (x y v : Operand) (hop : o.op = Op.mapUpdate t x y v)
    (a : α) (c : Int) (hc : (Lit.int .i64 c).wf = true) (hx : A.eval x = .map (some b)) (hy : A.eval y = E.val a) (hv : A.eval v = .int .i64 c)
    (hK : ∀ w', IMap E e w' b (n + 1) (fun z => if z = a then c else m z) → w.grownBy w' (some b) → wpList P ops Q rest (A.put o.dst undef) w') : wpList P ops Q (o :: rest) A w := by
  obtain ⟨D, ho, hm, ha⟩ := h
  refine wpList_mapUpdate_own w hg x y v t hop K e E.law ht _ b n D hx ho hn _ _ _ hy hv (E.key a) _ [] (plainElem_int he hc) ?_
  intro w' ho' hgr
  refine hK w' ⟨_, ho', hm.put _ _, fun z => ?_⟩ hgr
  by_cases hz : z = a
  · subst hz
    rw [atKey_put_same hm (E.law.key (E.key z))]
    dsimp only
    rw [if_pos rfl]
  · rw [atKey_put_other (fun h => hz (E.lit_inj h)), ha z]
    dsimp only
    rw [if_neg hz]
end

end Go.Proofs.YtpcilfnnfhfgaaaGreatDoor

/-
  A map whose elements are bools and that holds true at some keys and nothing else, as the list of these keys; nothing of the program is read here.
-/
namespace Go.Proofs.YtpcilfnnfhfgaaaGreatDoor
open Go Go.RowKit Go.Maps

section
variable {P : Program} {K e : TypeId} {α : Type} [DecidableEq α] {E : KeyEnc P K α}

/-- Block b is a map that holds true at the keys S, and nothing else. -/
def BSet (E : KeyEnc P K α) (e : TypeId) (w : World) (b : Nat) (S : List α) : Prop :=
  ∃ D : DataW Unit, w.ownsMap P K (plainElem P e) b S.length D ∧ (∀ a, D.atKey (E.lit a) (.lit (.bool false)) = .lit (.bool (decide (a ∈ S)))) ∧ (∀ a, has D (E.lit a) = decide (a ∈ S)) ∧ Maps.size D = S.length

theorem BSet.made (E : KeyEnc P K α) (e : TypeId) (w : World) : BSet E e (w.alloc (.map #[] 0)) w.heap.size [] :=
  ⟨.map [], World.ownsMap_made _ _ _ _, fun _ => rfl, fun _ => rfl, rfl⟩

theorem BSet.block {w w' : World} {b : Nat} {S : List α} (h : BSet E e w b S) (hb : w'.heap[b]? = w.heap[b]?) : BSet E e w' b S := by
  obtain ⟨D, ⟨es, clock, h1, h2, h3, h4⟩, r⟩ := h
  exact ⟨D, ⟨es, clock, hb.trans h1, h2, h3, h4⟩, r⟩

theorem BSet.lt {w : World} {b : Nat} {S : List α} (h : BSet E e w b S) : b < w.heap.size := by
  obtain ⟨D, ho, _⟩ := h; exact ho.lt

theorem BSet.keep {w w' : World} {b B : Nat} {S : List α} (h : BSet E e w b S) (hb : Below B w w') (hB : b < B) : BSet E e w' b S := h.block (hb.block b hB)
theorem BSet.alloc {w : World} {b : Nat} {S : List α} (h : BSet E e w b S) (o : Obj) : BSet E e (w.alloc o) b S := h.block (heap_alloc_old _ _ h.lt)

theorem plainElem_bool_inv {e : TypeId} (he : P.underlying e = some .bool) {v : Value} {z : DataW Unit × List MemPlace} (h : plainElem P e v = some z) : ∃ x, v = .bool x ∧ z = (.lit (.bool x), []) := by
  unfold plainElem at h
  rw [he] at h
  cases v <;> simp at h
  exact ⟨_, rfl, h.symm⟩

/-- m[a], read. -/
theorem BSet.look {w : World} {b : Nat} {S : List α} {t : TypeId} (h : BSet E e w b S) (ht : P.underlying t = some (.map K e)) (he : P.underlying e = some .bool) (hz : (zeroValue e).run P w = .ok (.bool false) w) (a : α) :
    (Instr.lookup t (.map (some b)) (E.val a) false).run P w = .ok (.bool (decide (a ∈ S))) w := by
  obtain ⟨D, ho, ha, _⟩ := h
  obtain ⟨v, ps, hr, hv⟩ := ho.lookup E.law ht hz (plainElem_bool he false) (E.key a)
  obtain ⟨x, rfl, hx⟩ := plainElem_bool_inv he hv
  rw [ha a] at hx
  simp only [Prod.mk.injEq, DataW.lit.injEq, Lit.bool.injEq] at hx
  rw [hr, hx.1]

/-- len(m). -/
theorem BSet.len {w : World} {b : Nat} {S : List α} {t : TypeId} (h : BSet E e w b S) (ht : P.underlying t = some (.map K e)) (ty : TypeId) : (Builtin.len_ #[t] ty #[.map (some b)]).run P w = .ok (.int .i64 S.length) w := by
  obtain ⟨D, ho, _, _, hs⟩ := h
  rw [ho.len ht ty, hs]

/-- m[a] = true, stored. -/
theorem BSet.put {ops : Array Oper} {rest : List Oper} {o : Oper} {A : Act} {Q : Exit → Act → World → Prop} {w : World} {b : Nat} {S : List α} {t : TypeId}
    (h : BSet E e w b S) (ht : P.underlying t = some (.map K e)) (he : P.underlying e = some .bool) (hn : S.length < maxLen) (hg : o.guard = none) (x y v : Operand) (hop : o.op = Op.mapUpdate t x y v)
    (a : α) (hna : a ∉ S) (hx : A.eval x = .map (some b)) (hy : A.eval y = E.val a) (hv : A.eval v = .bool true)
    (hK : ∀ w', BSet E e w' b (S ++ [a]) → w.grownBy w' (some b) → wpList P ops Q rest (A.put o.dst undef) w') : wpList P ops Q (o :: rest) A w := by
  obtain ⟨D, ho, ha, hh, hs⟩ := h
  have hm := ho.isMap
  have htd := ho.tidy E.law
  refine wpList_mapUpdate_own w hg x y v t hop K e E.law ht _ b _ D hx ho hn _ _ _ hy hv (E.key a) _ [] (plainElem_bool he true) ?_
  intro w' ho' hgr
  refine hK w' ⟨_, by rw [List.length_append, List.length_singleton]; exact ho', fun z => ?_, fun z => ?_, ?_⟩ hgr
  · by_cases hz : z = a
    · subst hz
      rw [atKey_put_same hm (E.law.key (E.key z)), decide_eq_true (List.mem_append_right _ (List.mem_singleton.2 rfl))]
    · rw [atKey_put_other (fun h => hz (E.lit_inj h)), ha z]
      simp [hz]
  · by_cases hz : z = a
    · subst hz
      rw [has_put_same hm (E.law.key (E.key z)), decide_eq_true (List.mem_append_right _ (List.mem_singleton.2 rfl))]
    · rw [has_put_other (fun h => hz (E.lit_inj h)), hh z]
      simp [hz]
  · rw [size_put htd, hh a, decide_eq_false hna, hs]
    simp
end

end Go.Proofs.YtpcilfnnfhfgaaaGreatDoor

/-
  Mathematics of layer 8: what is reached. Nothing of the program is read here.
-/
namespace Go.Proofs.YtpcilfnnfhfgaaaGreatDoor

/-- Reached from roots. -/
inductive MS.Rch (s : MS) (roots : List Int) : Int → Prop
  | root {r : Int} (h : r ∈ roots) (hh : s.has r = true) : MS.Rch s roots r
  | lo {n : Int} (h : MS.Rch s roots n) (hh : s.has (s.nd n).lo = true) : MS.Rch s roots (s.nd n).lo
  | hi {n : Int} (h : MS.Rch s roots n) (hh : s.has (s.nd n).hi = true) : MS.Rch s roots (s.nd n).hi
theorem MS.Rch.has {s : MS} {roots : List Int} {n : Int} (h : s.Rch roots n) : s.has n = true := by cases h <;> assumption
open Classical in
/-- Their numbers, rising. -/
noncomputable def MS.reach (s : MS) (roots : List Int) : List Int := s.all.filter fun n => decide (s.Rch roots n)

/-- While what is reached is marked: so much of the work is done. -/
structure RInv (s : MS) (roots : List Int) (seen : List Bool) (work : List Int) (i : Nat) : Prop where
  len : seen.length = s.N.length + 2
  sound : ∀ n : Int, 0 ≤ n → seen.getD n.toNat false = true → s.Rch roots n
  wk : ∀ m ∈ work, s.has m = true → s.Rch roots m
  done : ∀ j (hj : j < work.length), j < i → s.has work[j] = true → seen.getD work[j].toNat false = true
  kids : ∀ n : Int, 0 ≤ n → seen.getD n.toNat false = true → (s.nd n).lo ∈ work ∧ (s.nd n).hi ∈ work
  rt : ∀ r ∈ roots, r ∈ work
  count : work.length = roots.length + 2 * seen.count true

section
variable {s : MS} {roots work : List Int} {seen : List Bool} {i : Nat}
theorem RInv.start (s : MS) (roots : List Int) : RInv s roots (List.replicate (s.N.length + 2) false) roots 0 := by
  have h0 : ∀ n : Nat, (List.replicate (s.N.length + 2) false).getD n false = false := fun n => by
    rw [List.getD, List.getElem?_replicate]; split <;> rfl
  exact ⟨by simp, fun n _ h => (by rw [h0] at h; cases h), fun m hm hh => .root hm hh, fun j hj h => by omega, fun n _ h => (by rw [h0] at h; cases h), fun r hr => hr, by simp [List.count_replicate]⟩
theorem RInv.old (h : RInv s roots seen work i) (hi : i < work.length) (hs : s.has work[i] = true → seen.getD work[i].toNat false = true) : RInv s roots seen work (i + 1) :=
  ⟨h.len, h.sound, h.wk, fun j hj hlt hh => by
    by_cases e : j = i
    · subst e; exact hs hh
    · exact h.done j hj (by omega) hh, h.kids, h.rt, h.count⟩
theorem getD_set (l : List Bool) (k j : Nat) (hk : k < l.length) : (l.set k true).getD j false = if j = k then true else l.getD j false := by
  rw [List.getD, List.getElem?_set]
  by_cases e : k = j
  · subst e; simp [hk]
  · rw [if_neg e, if_neg (fun e' => e e'.symm)]; rfl
theorem RInv.new (h : RInv s roots seen work i) (ok : s.Base) (hi : i < work.length) (hh : s.has work[i] = true) (hs : seen.getD work[i].toNat false = false) :
    RInv s roots (seen.set work[i].toNat true) (work ++ [(s.nd work[i]).lo, (s.nd work[i]).hi]) (i + 1) := by
  obtain ⟨r1, r2, _⟩ := ok.range hh
  have hk : work[i].toNat < seen.length := by rw [h.len]; omega
  have hR := h.wk _ (List.getElem_mem hi) hh
  have e : ∀ n : Int, 0 ≤ n → (n.toNat = work[i].toNat ↔ n = work[i]) := fun n hn => by omega
  refine ⟨by rw [List.length_set]; exact h.len, fun n hn hc => ?_, fun m hm hmh => ?_, fun j hj hlt hjh => ?_, fun n hn hc => ?_, fun r hr => List.mem_append_left _ (h.rt r hr), ?_⟩
  · rw [getD_set _ _ _ hk] at hc
    by_cases en : n = work[i]
    · rw [en]; exact hR
    · rw [if_neg (fun q => en ((e n hn).1 q))] at hc
      exact h.sound n hn hc
  · rcases List.mem_append.1 hm with hm | hm
    · exact h.wk m hm hmh
    · simp only [List.mem_cons, List.not_mem_nil, or_false] at hm
      rcases hm with rfl | rfl
      · exact .lo hR hmh
      · exact .hi hR hmh
  · rw [getD_set _ _ _ hk]
    by_cases ej : j = i
    · subst ej
      rw [List.getElem_append_left hi, if_pos rfl]
    · have hj' : j < work.length := by omega
      rw [List.getElem_append_left hj'] at hjh ⊢
      split
      · rfl
      · exact h.done j hj' (by omega) hjh
  · rw [getD_set _ _ _ hk] at hc
    by_cases en : n = work[i]
    · rw [en]; simp
    · rw [if_neg (fun q => en ((e n hn).1 q))] at hc
      have := h.kids n hn hc
      exact ⟨List.mem_append_left _ this.1, List.mem_append_left _ this.2⟩
  · have hc := List.count_set (a := true) (b := true) hk
    have h0 : seen[work[i].toNat] = false := by
      rw [List.getD, List.getElem?_eq_getElem hk] at hs
      exact hs
    rw [hc, h0, List.length_append, h.count]
    simp
    omega
theorem RInv.all (h : RInv s roots seen work i) (hi : work.length ≤ i) {n : Int} (hn : s.Rch roots n) : seen.getD n.toNat false = true := by
  have key : ∀ m ∈ work, s.has m = true → seen.getD m.toNat false = true := fun m hm hh => by
    obtain ⟨j, hj, rfl⟩ := List.mem_iff_getElem.1 hm
    exact h.done j hj (by omega) hh
  induction hn with
  | root hr hh => exact key _ (h.rt _ hr) hh
  | lo hR hh ih => exact key _ (h.kids _ (by have := hR.has; simp only [MS.has, Bool.and_eq_true, decide_eq_true_eq] at this; omega) ih).1 hh
  | hi hR hh ih => exact key _ (h.kids _ (by have := hR.has; simp only [MS.has, Bool.and_eq_true, decide_eq_true_eq] at this; omega) ih).2 hh
theorem RInv.bound (h : RInv s roots seen work i) : work.length ≤ roots.length + 2 * (s.N.length + 2) := by
  have := List.count_le_length (a := true) (l := seen)
  rw [h.len] at this
  rw [h.count]
  omega
theorem RInv.reach (h : RInv s roots seen work i) (hi : work.length ≤ i) : ((List.range s.N.length).map fun k : Nat => (k : Int) + 2).filter (fun n => seen.getD n.toNat false) = s.reach roots := by
  unfold MS.reach MS.all
  rw [List.filter_filter]
  refine List.filter_congr fun n hn => ?_
  obtain ⟨k, _, rfl⟩ := List.mem_map.1 hn
  have h1 : seen.getD ((k : Int) + 2).toNat false = true ↔ s.Rch roots ((k : Int) + 2) := ⟨fun q => h.sound _ (by omega) q, fun q => h.all hi q⟩
  by_cases hR : s.Rch roots ((k : Int) + 2)
  · rw [h1.2 hR, hR.has]; simp [hR]
  · have : seen.getD ((k : Int) + 2).toNat false = false := by
      cases hc : seen.getD ((k : Int) + 2).toNat false
      · rfl
      · exact absurd (h1.1 hc) hR
    rw [this]; simp [hR]
end

end Go.Proofs.YtpcilfnnfhfgaaaGreatDoor

/-
  Mathematics of package read: what a search from a node adds to what was met. Nothing of the program is read here.
-/
namespace Go.Proofs.YtpcilfnnfhfgaaaGreatDoor

/-- As deep as k all that is met has its parts met. -/
def MS.Clo (s : MS) (k : Nat) (S : List Int) : Prop := ∀ m ∈ S, s.dep m ≤ k → (s.has (s.nd m).lo = true → (s.nd m).lo ∈ S) ∧ (s.has (s.nd m).hi = true → (s.nd m).hi ∈ S)

/-- T is what a search from n adds to S. -/
structure GthP (s : MS) (n : Int) (S T : List Int) : Prop where
  nodup : (S ++ T).Nodup
  rch : ∀ m ∈ T, s.Rch [n] m ∧ s.dep m ≤ s.dep n
  inn : s.has n = true → n ∈ S ++ T
  clo : s.Clo (s.dep n) S → s.Clo (s.dep n) (S ++ T)

theorem MS.Rch.via {s : MS} {r : List Int} {m k : Int} (h : s.Rch [m] k) (hm : s.has m = true → s.Rch r m) : s.Rch r k := by
  induction h with
  | root h hh => obtain rfl := List.mem_singleton.1 h; exact hm hh
  | lo _ hh ih => exact .lo ih hh
  | hi _ hh ih => exact .hi ih hh

theorem GthP.none {s : MS} {n : Int} {S : List Int} (hS : S.Nodup) (h : s.has n = true → n ∈ S) : GthP s n S [] :=
  ⟨by rwa [List.append_nil], (by intro m hm; cases hm), fun hh => by rw [List.append_nil]; exact h hh, fun h => by rwa [List.append_nil]⟩

theorem GthP.node {s : MS} (ok : s.Ok) {n : Int} {S T1 T2 : List Int} (hn : s.has n = true) (_hS : n ∉ S) (h1 : GthP s (s.nd n).lo (S ++ [n]) T1) (h2 : GthP s (s.nd n).hi (S ++ [n] ++ T1) T2) :
    GthP s n S ([n] ++ T1 ++ T2) := by
  have d1 := ok.dep_behind hn (ok.lo n hn)
  have d2 := ok.dep_behind hn (ok.hi n hn)
  have e : S ++ ([n] ++ T1 ++ T2) = S ++ [n] ++ T1 ++ T2 := by simp
  have hr : s.Rch [n] n := .root (List.mem_singleton.2 rfl) hn
  refine ⟨by rw [e]; exact h2.nodup, fun m hm => ?_, fun _ => by simp, fun hc => ?_⟩
  · simp only [List.mem_append, List.mem_singleton] at hm
    rcases hm with (rfl | hm) | hm
    · exact ⟨hr, Nat.le_refl _⟩
    · obtain ⟨r, d⟩ := h1.rch m hm
      exact ⟨MS.Rch.via r (fun hh => .lo hr hh), by omega⟩
    · obtain ⟨r, d⟩ := h2.rch m hm
      exact ⟨MS.Rch.via r (fun hh => .hi hr hh), by omega⟩
  · rw [e]
    have c1 : s.Clo (s.dep (s.nd n).lo) (S ++ [n]) := fun m hm hd => by
      rcases List.mem_append.1 hm with hm | hm
      · obtain ⟨a, b⟩ := hc m hm (by omega)
        exact ⟨fun h => List.mem_append_left _ (a h), fun h => List.mem_append_left _ (b h)⟩
      · obtain rfl := List.mem_singleton.1 hm; omega
    replace c1 := h1.clo c1
    have c2 : s.Clo (s.dep (s.nd n).hi) (S ++ [n] ++ T1) := fun m hm hd => by
      rcases List.mem_append.1 hm with hm' | hm'
      · rcases List.mem_append.1 hm' with hm' | hm'
        · obtain ⟨a, b⟩ := hc m hm' (by omega)
          exact ⟨fun h => List.mem_append_left _ (List.mem_append_left _ (a h)), fun h => List.mem_append_left _ (List.mem_append_left _ (b h))⟩
        · obtain rfl := List.mem_singleton.1 hm'; omega
      · exact c1 m hm (h1.rch m hm').2
    replace c2 := h2.clo c2
    intro m hm hd
    rcases List.mem_append.1 hm with hm1 | hm1
    · rcases List.mem_append.1 hm1 with hm2 | hm2
      · rcases List.mem_append.1 hm2 with hm3 | hm3
        · obtain ⟨a, b⟩ := hc m hm3 hd
          exact ⟨fun h => by have := a h; simp [this], fun h => by have := b h; simp [this]⟩
        · obtain rfl := List.mem_singleton.1 hm3
          exact ⟨fun h => List.mem_append_left _ (h1.inn h), fun h => h2.inn h⟩
      · obtain ⟨a, b⟩ := c1 m (List.mem_append_right _ hm2) (h1.rch m hm2).2
        exact ⟨fun h => List.mem_append_left _ (a h), fun h => List.mem_append_left _ (b h)⟩
    · exact c2 m hm (h2.rch m hm1).2

/-- At the loop's head of Reach. -/
structure RchI (s : MS) (roots : List Int) (i : Nat) (S : List Int) : Prop where
  nodup : S.Nodup
  rch : ∀ m ∈ S, s.Rch roots m
  rt : ∀ j (hj : j < roots.length), j < i → s.has roots[j] = true → roots[j] ∈ S
  clo : ∀ k, s.Clo k S

theorem RchI.start (s : MS) (roots : List Int) : RchI s roots 0 [] := ⟨List.nodup_nil, (by intro m hm; cases hm), fun j _ h => by omega, fun k m hm => by cases hm⟩
theorem RchI.step {s : MS} {roots S T : List Int} {i : Nat} (h : RchI s roots i S) (hi : i < roots.length) (g : GthP s roots[i] S T) : RchI s roots (i + 1) (S ++ T) := by
  refine ⟨g.nodup, fun m hm => ?_, fun j hj hlt hh => ?_, fun k m hm hd => ?_⟩
  · rcases List.mem_append.1 hm with hm1 | hm1
    · exact h.rch m hm1
    · have r := (g.rch m hm1).1
      clear h hm hm1 g
      induction r with
      | root h hh => obtain rfl := List.mem_singleton.1 h; exact .root (List.getElem_mem hi) hh
      | lo _ hh ih => exact .lo ih hh
      | hi _ hh ih => exact .hi ih hh
  · by_cases e : j = i
    · subst e; exact g.inn hh
    · exact List.mem_append_left _ (h.rt j hj (by omega) hh)
  · rcases List.mem_append.1 hm with hm' | hm'
    · obtain ⟨a, b⟩ := h.clo k m hm' hd
      exact ⟨fun h => List.mem_append_left _ (a h), fun h => List.mem_append_left _ (b h)⟩
    · exact g.clo (h.clo _) m hm (g.rch m hm').2
theorem RchI.all {s : MS} {roots S : List Int} {i : Nat} (h : RchI s roots i S) (hi : roots.length ≤ i) {m : Int} (hm : s.Rch roots m) : m ∈ S := by
  induction hm with
  | root h1 hh =>
    obtain ⟨j, hj, rfl⟩ := List.mem_iff_getElem.1 h1
    exact h.rt j hj (by omega) hh
  | lo _ hh ih => exact (h.clo _ _ ih (Nat.le_refl _)).1 hh
  | hi _ hh ih => exact (h.clo _ _ ih (Nat.le_refl _)).2 hh

open Classical in
theorem MS.Base.reach_iff {s : MS} (ok : s.Base) {roots : List Int} {m : Int} : m ∈ s.reach roots ↔ s.Rch roots m := by
  unfold MS.reach
  rw [List.mem_filter]
  exact ⟨fun h => of_decide_eq_true h.2, fun h => ⟨ok.mem_all.2 h.has, decide_eq_true h⟩⟩
theorem MS.reach_sorted (s : MS) (roots : List Int) : (s.reach roots).Pairwise (· < ·) := by
  unfold MS.reach MS.all
  refine List.Pairwise.filter _ (List.Pairwise.filter _ ?_)
  rw [List.pairwise_map]
  exact List.Pairwise.imp (fun h => by omega) List.pairwise_lt_range
theorem RchI.sorted {s : MS} (ok : s.Base) {roots S ss : List Int} {i : Nat} (h : RchI s roots i S) (hi : roots.length ≤ i) (hp : ss.Perm S) : ss.mergeSort (fun x y => decide (x ≤ y)) = s.reach roots := by
  have hs := s.reach_sorted roots
  have hnd : (s.reach roots).Nodup := List.Pairwise.imp (fun h e => by omega) hs
  have hperm : ss.Perm (s.reach roots) := hp.trans ((List.perm_ext_iff_of_nodup h.nodup hnd).2 fun m => by
    rw [ok.reach_iff]
    exact ⟨h.rch m, h.all hi⟩)
  have tr : ∀ a b c : Int, decide (a ≤ b) = true → decide (b ≤ c) = true → decide (a ≤ c) = true := fun a b c h1 h2 => by simp only [decide_eq_true_eq] at *; omega
  have to : ∀ a b : Int, (decide (a ≤ b) || decide (b ≤ a)) = true := fun a b => by simp only [Bool.or_eq_true, decide_eq_true_eq]; omega
  refine List.Perm.eq_of_pairwise (le := fun a b => decide (a ≤ b) = true) (fun a b _ _ h1 h2 => ?_) (List.pairwise_mergeSort tr to ss) (hs.imp fun h => by simp only [decide_eq_true_eq]; omega) ((List.mergeSort_perm ss _).trans hperm)
  simp only [decide_eq_true_eq] at h1 h2
  omega
/-- No more are met than there may be. -/
theorem met_few {s : MS} (ok : s.Base) {S : List Int} (hS : S.Nodup) (h : ∀ m ∈ S, s.has m = true) : S.length ≤ 20000 := by
  have := List.Nodup.length_le_of_subset (l₁ := S) (l₂ := (List.range 20000).map fun k : Nat => (k : Int) + 2) hS fun m hm => by
    have := ok.has_le (h m hm)
    rw [List.mem_map]
    exact ⟨(m - 2).toNat, List.mem_range.2 (by omega), by omega⟩
  simpa using this

end Go.Proofs.YtpcilfnnfhfgaaaGreatDoor
