/-
  Texts of this proof, one behind the other: Cof, ReadT, ReadB, OrdEq, Law7, Do7, OneS, Up7, Plays7.
-/
import Derived.Test.YtipocmbplcdmjaaGreatDoorG15
import Derived.Test.YtipocmbplcdmjaaGreatDoorG9
import Derived.Test.YtipocmbplcdmjaaGreatDoorG6
import Derived.Test.YtipocmbplcdmjaaGreatDoorG13
import Derived.Test.YtipocmbplcdmjaaGreatDoorG14
import Derived.ChangeKeysEq
import Derived.WalkKit
import Derived.KernelRfl
import Derived.Deep.RegionHeld3
/-
  Walks of package cof.
-/
namespace Go.Proofs.YtipocmbplcdmjaaGreatDoor
open Go Go.RowKit
attribute [local go_sem] run_eql_fv run_neq_fv run_guard_fv

theorem cofIn (f : Fn) (v : Nat) (b : Bool) (w : World) (hl : LowW w) (hv : v < 6) :
    Calls Tryz.prog 64 #[fv f, .int .i64 v, .bool b] w fun e w' => e = .returned (fv (cofF f v b)) ∧ Below w.heap.size w w' := by
  cases b
  · exact cofInFalse f v w hl hv
  · exact cofInTrue f v w hl hv

set_option maxRecDepth 100000 in
set_option maxHeartbeats 1000000 in
theorem cofCof (f : Fn) (v : Int) (b : Bool) (w : World) (hl : LowW w) :
    Calls Tryz.prog 38 #[fv f, .int .i64 v, .bool b] w fun e w' => e = .returned (fv (cofAny f v b)) ∧ Below w.heap.size w w' := by
  by_cases hv : 0 ≤ v ∧ v < 8
  · obtain ⟨m, rfl⟩ := Int.eq_ofNat_of_zero_le hv.1
    have hm0 : (0 : Int) ≤ m := hv.1
    have hm8 : (m : Int) < 8 := hv.2
    have e : cofAny f (m : Int) b = cofF f m b := by rw [cofAny, if_pos hv, Int.toNat_natCast]
    rw [e]
    clear e hv
    have hk : Holds ((w.alloc (.cells #[.int .u64 (wd f 0), .int .u64 (wd f 1), .int .u64 (wd f 2), .int .u64 (wd f 3)] 48)).alloc (.cells #[.int .u64 0, .int .u64 0, .int .u64 0, .int .u64 0] 48)) (w.heap.size + 1) 0#256 := Holds.new0 _ _
    have Hk := Lib.hid hk
    have Hl : Hid (LowW ((w.alloc (.cells #[.int .u64 (wd f 0), .int .u64 (wd f 1), .int .u64 (wd f 2), .int .u64 (wd f 3)] 48)).alloc (.cells #[.int .u64 0, .int .u64 0, .int .u64 0, .int .u64 0] 48))) := Lib.hid (hl.keep (by go_grown))
    clear hk hl
    by_cases h6 : (m : Int) < 6
    · simp only [fv]
      go_enter Tryz.func38, Tryz.ntmps38
      go_wp2_with fail
      refine (cofIn f m b _ Hl.out (by omega)).mono ?_
      generalize hg : cofF f m b = g
      have Hg := Lib.hid hg
      clear hg
      rintro e w1 ⟨rfl, hb1⟩
      have k := Hk.out.keep hb1 (by simp)
      have hb2 : Below w.heap.size w w1 := below_from hb1 (by go_grown)
      clear hb1 Hk Hl
      obtain ⟨c0, c1, c2, c3⟩ := k.cells
      obtain ⟨z0, z1, z2, z3⟩ := k.free
      simp only [fv]
      go_wp2
      exact bodyPost_ret (ret_holds Tryz.results38 rfl (k.set4 g)) rfl ⟨by rw [Hg.out]; rfl, below_set4 hb2 (by omega)⟩
    · have h6' : (6 : Int) ≤ m := by omega
      simp only [fv]
      go_enter Tryz.func38, Tryz.ntmps38
      go_wp2_with fail
      refine (cofOf f m b _ (by omega)).mono ?_
      generalize hg : cofF f m b = g
      have Hg := Lib.hid hg
      clear hg
      rintro e w1 ⟨rfl, hb1⟩
      have k := Hk.out.keep hb1 (by simp)
      have hb2 : Below w.heap.size w w1 := below_from hb1 (by go_grown)
      clear hb1 Hk Hl
      obtain ⟨c0, c1, c2, c3⟩ := k.cells
      obtain ⟨z0, z1, z2, z3⟩ := k.free
      simp only [fv]
      go_wp2
      exact bodyPost_ret (ret_holds Tryz.results38 rfl (k.set4 g)) rfl ⟨by rw [Hg.out]; rfl, below_set4 hb2 (by omega)⟩
  · have e : cofAny f v b = f := by rw [cofAny, if_neg hv]
    rw [e]
    clear e
    simp only [fv]
    go_enter Tryz.func38, Tryz.ntmps38
    go_wp2
    all_goals exact bodyPost_ret (v := .agg #[.int .u64 (wd f 0), .int .u64 (wd f 1), .int .u64 (wd f 2), .int .u64 (wd f 3)]) (by simp [results, Tryz.results38, go_sem]) rfl ⟨rfl, by go_grown⟩

set_option maxRecDepth 100000 in
set_option maxHeartbeats 1000000 in
theorem cofDepends (f : Fn) (v : Int) (w : World) (hl : LowW w) :
    Calls Tryz.prog 62 #[fv f, .int .i64 v] w fun e w' => e = .returned (.bool (depAny f v)) ∧ Below w.heap.size w w' := by
  rw [← dep_iff f v]
  simp only [fv]
  go_enter Tryz.func62, Tryz.ntmps62
  go_wp2
  have h0 : Holds (w.alloc (.cells #[.int .u64 (wd f 0), .int .u64 (wd f 1), .int .u64 (wd f 2), .int .u64 (wd f 3)] 48)) w.heap.size f := Holds.new _ _ _
  have hb : Below w.heap.size w (w.alloc (.cells #[.int .u64 (wd f 0), .int .u64 (wd f 1), .int .u64 (wd f 2), .int .u64 (wd f 3)] 48)) := by go_grown
  generalize (w.alloc (.cells #[.int .u64 (wd f 0), .int .u64 (wd f 1), .int .u64 (wd f 2), .int .u64 (wd f 3)] 48)) = W at *
  have c0 : ∀ u : Sub W, u.1.cell? ⟨w.heap.size, 0, none⟩ = some (.int .u64 (wd f 0)) := fun u => (h0.sub u).cells.1
  have c1 : ∀ u : Sub W, u.1.cell? ⟨w.heap.size, 1, none⟩ = some (.int .u64 (wd f 1)) := fun u => (h0.sub u).cells.2.1
  have c2 : ∀ u : Sub W, u.1.cell? ⟨w.heap.size, 2, none⟩ = some (.int .u64 (wd f 2)) := fun u => (h0.sub u).cells.2.2.1
  have c3 : ∀ u : Sub W, u.1.cell? ⟨w.heap.size, 3, none⟩ = some (.int .u64 (wd f 3)) := fun u => (h0.sub u).cells.2.2.2
  have hlW : ∀ u : Sub W, LowW u.1 := fun u => hl.keep (hb.trans (u.2.mono hb.size))
  refine wp_region_quiet_all (C := fun w' => ∃ u : Sub W, w' = u.1) (by kernel_rfl) (by kernel_rfl) (InSub.drew W) ?_
  iterate 2 (go_big_quiet_step (fail))
  go_big_quiet_step (exact sub_below (cofCof f v false _ (hlW _)))
  iterate 2 (go_big_quiet_step (fail))
  go_big_quiet_step (exact sub_below (cofCof f v true _ (hlW _)))
  iterate 2 (go_big_quiet_step (fail))
  refine wpQuiet_nil ?_
  clear c0 c1 c2 c3 hlW
  intro w' hw'
  obtain ⟨u, rfl⟩ := hw'
  have hb2 := hb.trans (u.2.mono hb.size)
  generalize u.1 = w1 at *
  go_wp2
  go_ret
  exact ⟨rfl, hb2⟩

end Go.Proofs.YtipocmbplcdmjaaGreatDoor

/-
  Walks of package read over the store's contracts: Table, Value, Count, Support.
-/
namespace Go.Proofs.YtipocmbplcdmjaaGreatDoor
open Go Go.RowKit

theorem MS.tab_constB {s : MS} {n : Int} (h : s.has n = false) : s.tab n = if (n == 1) then BitVec.allOnes 256 else 0#256 := by
  rw [MS.tab_const h]
  by_cases e : n = 1
  · rw [if_pos e, if_pos (by simpa using e)]
  · rw [if_neg e, if_neg (by simpa using e)]

set_option maxRecDepth 100000 in
set_option maxHeartbeats 2000000 in
theorem readTable_const {StAt : World → Nat → (Nat → Prop) → MS → Prop} (H : StoreC StAt) {w : World} {b : Nat} {F : Nat → Prop} {s : MS} (h : StAt w b F s) (ok : s.Ok) (n : Int) (hn : n ≤ 9223372036854775807 ∧ -9223372036854775808 ≤ n) (hh : s.has n = false) :
    Calls Tryz.prog 23 #[.pointer (some ⟨b, 0, none⟩), .int .i64 n] w fun e w' => e = .returned (fv (s.tab n)) ∧ Below w.heap.size w w' := by
  have HN := fun W (hb : Below w.heap.size w W) => H.node (H.below h hb) ok n hn
  simp only [nodeV, hh, Bool.false_eq_true, if_false, nv] at HN
  rw [MS.tab_constB hh]
  have HC := fun W => tabConst (n == 1) W
  generalize (if (n == 1) then BitVec.allOnes 256 else 0#256) = R at *
  simp only [fv] at HC
  clear h hh
  go_enter Tryz.func23, Tryz.ntmps23
  go_wp2_with fail
  have hR := Holds.new0 w w.heap.size rfl
  have hb := (Below.refl w.heap.size w).alloc (Nat.le_refl _) (.cells #[.int .u64 0, .int .u64 0, .int .u64 0, .int .u64 0] 48)
  generalize w.alloc (.cells #[.int .u64 0, .int .u64 0, .int .u64 0, .int .u64 0] 48) = W at *
  refine (HN _ hb).mono ?_
  rintro e w1 ⟨rfl, hb1⟩
  have hb2 := hb.trans (hb1.mono hb.size)
  replace hR := hR.keep hb1 (by have := hR.lt; exact this)
  replace hR := hR.alloc (.cells #[.int .i64 0, .int .i64 0, .int .i64 0] 69)
  replace hb2 := hb2.alloc hb2.size (.cells #[.int .i64 0, .int .i64 0, .int .i64 0] 69)
  clear HN hb hb1
  go_wp2_with fail
  generalize w1.alloc (.cells #[.int .i64 0, .int .i64 0, .int .i64 0] 69) = W2 at *
  refine (HC _).mono ?_
  rintro e w2 ⟨rfl, hb3⟩
  replace hR := hR.keep hb3 hR.lt
  replace hb2 := hb2.trans (hb3.mono hb2.size)
  obtain ⟨c0, c1, c2, c3⟩ := hR.cells
  obtain ⟨z0, z1, z2, z3⟩ := hR.free
  have hR4 := Lib.hid (hR.set4 R)
  clear hR HC hb3
  go_wp2
  exact bodyPost_ret (ret_holds Tryz.results23 rfl hR4.out) rfl ⟨rfl, below_set4 hb2 (Nat.le_refl _)⟩

set_option maxRecDepth 100000 in
set_option maxHeartbeats 2000000 in
theorem readTable {StAt : World → Nat → (Nat → Prop) → MS → Prop} (H : StoreC StAt) {b : Nat} {F : Nat → Prop} {s : MS} (ok : s.Ok) : ∀ (k : Nat) (n : Int) (w : World), LowW w → StAt w b F s → s.dep n ≤ k → (n ≤ 9223372036854775807 ∧ -9223372036854775808 ≤ n) →
    Calls Tryz.prog 23 #[.pointer (some ⟨b, 0, none⟩), .int .i64 n] w fun e w' => e = .returned (fv (s.tab n)) ∧ Below w.heap.size w w' := by
  intro k
  induction k with
  | zero =>
    intro n w _ h hd hn
    have hh : s.has n = false := by
      cases hh : s.has n
      · rfl
      · have := ok.dep_pos hh; omega
    exact readTable_const H h ok n hn hh
  | succ k ih =>
    intro n w hL h hd hn
    cases hh : s.has n
    · exact readTable_const H h ok n hn hh
    · have HN := fun W (hb : Below w.heap.size w W) => H.node (H.below h hb) ok n hn
      simp only [nodeV, hh, if_true, nv] at HN
      have d1 := ok.dep_behind hh (ok.lo n hh)
      have d2 := ok.dep_behind hh (ok.hi n hh)
      have b1 := ok.toBase.behind_le (ok.lo n hh)
      have b2 := ok.toBase.behind_le (ok.hi n hh)
      have I1 := fun W (hb : Below w.heap.size w W) => ih (s.nd n).lo W (hL.keep hb) (H.below h hb) (by omega) ⟨by omega, by omega⟩
      have I2 := fun W (hb : Below w.heap.size w W) => ih (s.nd n).hi W (hL.keep hb) (H.below h hb) (by omega) ⟨by omega, by omega⟩
      have hT := ok.tab_node hh
      rw [hT]
      have HV := fun W (hb : Below w.heap.size w W) => tabVar (s.nd n).var W (hL.keep hb)
      have HI := fun W => tabIte (varAny (s.nd n).var) (s.tab (s.nd n).hi) (s.tab (s.nd n).lo) W
      clear hT d1 d2 b1 b2 ih hd hL
      generalize s.nd n = x at *
      obtain ⟨x0, x1, x2⟩ := x
      dsimp only at *
      generalize (varAny x0 &&& s.tab x2 ||| ~~~varAny x0 &&& s.tab x1) = R at *
      generalize s.tab x1 = f1 at *
      generalize s.tab x2 = f2 at *
      generalize varAny x0 = f0 at *
      simp only [fv] at I1 I2 HV HI
      go_enter Tryz.func23, Tryz.ntmps23
      go_wp2_with fail
      have hR := Holds.new0 w w.heap.size rfl
      have hb := (Below.refl w.heap.size w).alloc (Nat.le_refl _) (.cells #[.int .u64 0, .int .u64 0, .int .u64 0, .int .u64 0] 48)
      generalize w.alloc (.cells #[.int .u64 0, .int .u64 0, .int .u64 0, .int .u64 0] 48) = W at *
      refine (HN _ hb).mono ?_
      rintro e w1 ⟨rfl, hb1⟩
      have hb2 := hb.trans (hb1.mono hb.size)
      replace hR := hR.keep hb1 (by have := hR.lt; exact this)
      have hRl := hR.lt
      have hX := HoldsN.new w1 ⟨x0, x1, x2⟩
      replace hR := hR.alloc (.cells #[.int .i64 x0, .int .i64 x1, .int .i64 x2] 69)
      replace hb2 := hb2.alloc hb2.size (.cells #[.int .i64 x0, .int .i64 x1, .int .i64 x2] 69)
      dsimp only at hX
      clear HN hb hb1
      go_wp2
      generalize w1.alloc (.cells #[.int .i64 x0, .int .i64 x1, .int .i64 x2] 69) = W2 at *
      generalize w1.heap.size = bX at *
      have e0 := fun u : Sub W2 => (hX.sub u).cells.1
      have e1 := fun u : Sub W2 => (hX.sub u).cells.2.1
      have e2 := fun u : Sub W2 => (hX.sub u).cells.2.2
      dsimp only at e0 e1 e2
      have J1 := fun u : Sub W2 => I1 _ (hb2.trans (u.2.mono hb2.size))
      have J2 := fun u : Sub W2 => I2 _ (hb2.trans (u.2.mono hb2.size))
      have JV := fun u : Sub W2 => HV _ (hb2.trans (u.2.mono hb2.size))
      refine wp_region_quiet_tail (C := fun w' => ∃ u : Sub W2, w' = u.1) 12 (by kernel_rfl) (by kernel_rfl) (InSub.drew W2) ?_
      simp only [List.take_succ_cons, List.take_zero]
      iterate 2 (go_big_quiet_step (fail))
      go_big_quiet_step (exact subBelow (JV _))
      iterate 3 (go_big_quiet_step (fail))
      go_big_quiet_step (exact subBelow (J2 _))
      iterate 3 (go_big_quiet_step (fail))
      go_big_quiet_step (exact subBelow (J1 _))
      go_big_quiet_step (exact subBelow (HI _))
      refine wpQuiet_nil ?_
      clear e0 e1 e2 J1 J2 JV HV HI I1 I2
      intro w' hw'
      obtain ⟨u, rfl⟩ := hw'
      replace hR := hR.keep u.2 hR.lt
      replace hb2 := hb2.trans (u.2.mono hb2.size)
      generalize u.1 = W3 at *
      obtain ⟨c0, c1, c2, c3⟩ := hR.cells
      obtain ⟨z0, z1, z2, z3⟩ := hR.free
      have hR4 := Lib.hid (hR.set4 R)
      clear hR hX
      simp only [List.drop_succ_cons, List.drop_zero]
      go_wp2
      exact bodyPost_ret (ret_holds Tryz.results23 rfl hR4.out) rfl ⟨rfl, below_set4 hb2 (Nat.le_refl _)⟩

end Go.Proofs.YtipocmbplcdmjaaGreatDoor

/-
  Walks of package read over the store's contracts: top, constant, Build.
-/
namespace Go.Proofs.YtipocmbplcdmjaaGreatDoor
open Go Go.RowKit

theorem idx_ov (o : Nat → Int) (n : Nat) (hn : n < 8) (w : World) : (Instr.index 62 (.agg #[.int .i64 (o 0), .int .i64 (o 1), .int .i64 (o 2), .int .i64 (o 3), .int .i64 (o 4), .int .i64 (o 5), .int .i64 (o 6), .int .i64 (o 7)]) (.int .i64 (n : Int))).run Tryz.prog w = .ok (.int .i64 (o n)) w := by
  have h1 : (0 : Int) ≤ (n : Int) ∧ (n : Int) < 8 := ⟨by omega, by omega⟩
  rcases (by omega : n = 0 ∨ n = 1 ∨ n = 2 ∨ n = 3 ∨ n = 4 ∨ n = 5 ∨ n = 6 ∨ n = 7) with rfl | rfl | rfl | rfl | rfl | rfl | rfl | rfl <;> simp [Instr.index, run_underlying Tryz.underlying62, asIntOf, go_sem]

set_option maxRecDepth 100000 in
set_option maxHeartbeats 1000000 in
theorem readTop (f : Fn) (o : Nat → Int) (w : World) (hl : LowW w) :
    Calls Tryz.prog 36 #[fv f, ov o] w fun e w' => e = .returned (.tuple #[.int .i64 (if 0 ≤ topF f o then topF f o else 0), .bool (decide (0 ≤ topF f o))]) ∧ Below w.heap.size w w' := by
  have Hl := Lib.hid hl
  have HD := fun (v : Int) (W : World) (hb : Below w.heap.size w W) => cofDepends f v W (hl.keep hb)
  replace HD := Lib.hid HD
  clear hl
  generalize hr1 : (if 0 ≤ topF f o then topF f o else 0) = r1
  generalize hr2 : decide (0 ≤ topF f o) = r2
  replace hr1 := Lib.hid hr1
  replace hr2 := Lib.hid hr2
  simp only [fv, ov]
  go_enter Tryz.func36, Tryz.ntmps36
  go_wp2
  go_loopw [9] (fun i wr => ∃ n : Nat, n ≤ 8 ∧ i = .int .i64 n ∧ Hid (topF f o = topFrom f o (8 - n) n) ∧ Holds wr w.heap.size f ∧ Below w.heap.size w wr) (fun i _ => 8 - (intOf i).toNat)
  case atStart => exact ⟨0, Nat.zero_le _, rfl, rfl, (Holds.new _ _ _).alloc _, by go_grown⟩
  case round =>
    obtain ⟨n, hn, rfl, ht, h0, hb⟩ := hrel
    by_cases hlt : n < 8
    · have Hs : Hid (topF f o = if depAny f (o n) then o n else topFrom f o (8 - (n + 1)) (n + 1)) := by
        have := ht.out
        rw [show 8 - n = (8 - (n + 1)) + 1 by omega] at this
        exact this
      clear ht
      have hn0 : (0 : Int) ≤ (n : Int) := by omega
      have hn8 : (n : Int) < 8 := by omega
      obtain ⟨c0, c1, c2, c3⟩ := h0.cells
      have hix := idx_ov o n hlt wr
      have hd := HD.out (o n) wr hb
      simp only [fv] at hd
      go_wp2_with fail
      refine hd.mono ?_
      rintro e w1 ⟨rfl, hb1⟩
      replace h0 := h0.keep hb1 h0.lt
      replace hb := hb.trans (hb1.mono hb.size)
      clear hd hix c0 c1 c2 c3 hb1
      cases hdp : depAny f (o n)
      · rw [hdp] at Hs
        go_wp2
        exact ⟨⟨n + 1, by omega, by go_num, Hs.out, h0, hb⟩, by simp [intOf]; omega⟩
      · rw [hdp] at Hs
        have h00 := (depAny_range hdp).1
        have e1 : topF f o = o n := Hs.out
        have hres : r1 = o n ∧ r2 = true := by rw [← hr1.out, ← hr2.out, e1, if_pos h00, decide_eq_true h00]; exact ⟨rfl, rfl⟩
        replace hres := Lib.hid hres
        clear Hs HD e1 h00 hr1 hr2
        go_wp2
        go_ret2
        exact ⟨by rw [hres.out.1, hres.out.2]; rfl, hb⟩
    · obtain rfl : n = 8 := by omega
      have e1 : topF f o = -1 := ht.out
      have hres : r1 = 0 ∧ r2 = false := by rw [← hr1.out, ← hr2.out, e1]; exact ⟨rfl, rfl⟩
      replace hres := Lib.hid hres
      clear ht e1 HD hr1 hr2
      go_wp2
      go_ret2
      exact ⟨by rw [hres.out.1, hres.out.2]; rfl, hb⟩

set_option maxRecDepth 100000 in
theorem readConstant (f : Fn) (w : World) :
    Calls Tryz.prog 37 #[fv f] w fun e w' => e = .returned (.int .i64 (constN f)) ∧ Below w.heap.size w w' := by
  have HA := fun W => tabAt f 0 W
  have hc : constN f = if atF f 0 then 1 else 0 := rfl
  generalize constN f = c at *
  generalize atF f 0 = z at *
  simp only [fv] at *
  have hb : Below w.heap.size w (w.alloc (.cells #[.int .u64 (wd f 0), .int .u64 (wd f 1), .int .u64 (wd f 2), .int .u64 (wd f 3)] 48)) := by go_grown
  have hF := Holds.new w f w.heap.size rfl
  cases z
  · simp only [Bool.false_eq_true, if_false] at hc
    subst hc
    go_enter Tryz.func37, Tryz.ntmps37
    go_wp2_with fail
    generalize w.alloc (.cells #[.int .u64 (wd f 0), .int .u64 (wd f 1), .int .u64 (wd f 2), .int .u64 (wd f 3)] 48) = W at *
    refine (HA _).mono ?_
    rintro e w3 ⟨rfl, hb3⟩
    go_wp2
    go_ret
    exact ⟨rfl, hb.trans (hb3.mono hb.size)⟩
  · simp only [if_true] at hc
    subst hc
    go_enter Tryz.func37, Tryz.ntmps37
    go_wp2_with fail
    generalize w.alloc (.cells #[.int .u64 (wd f 0), .int .u64 (wd f 1), .int .u64 (wd f 2), .int .u64 (wd f 3)] 48) = W at *
    refine (HA _).mono ?_
    rintro e w3 ⟨rfl, hb3⟩
    go_wp2
    go_ret
    exact ⟨rfl, hb.trans (hb3.mono hb.size)⟩

theorem LowW.keepK {w w' : World} {F : Nat → Prop} (h : LowW w) (K : Keeps F w w') (hF : ¬ F 0) : LowW w' := fun i hi => by
  have := K.block 0 h.pos hF
  have h1 := h i hi
  unfold World.cell? at *
  rw [this]
  exact h1

theorem MS.Ok.in64 {s : MS} (ok : s.Ok) {n : Int} (h : s.there n = true) : n ≤ 9223372036854775807 ∧ -9223372036854775808 ≤ n := by
  rcases MS.there_cases h with ⟨h, _⟩ | h
  · omega
  · have := ok.toBase.has_le h; omega

/-- What Build comes to: a number, an error, and the store. -/
def BldPost (StAt : World → Nat → (Nat → Prop) → MS → Prop) (w : World) (b : Nat) (F : Nat → Prop) (r : Int × Int × MS) (e : Ending) (w' : World) : Prop := e = .returned (.tuple #[.int .i64 r.1, errV r.2.1]) ∧ ∃ F', StAt w' b F' r.2.2 ∧ Keeps F w w' ∧ Within w F F'

set_option maxRecDepth 100000 in
set_option maxHeartbeats 2000000 in
theorem readBuild_const {StAt : World → Nat → (Nat → Prop) → MS → Prop} (H : StoreC StAt) {w : World} {b : Nat} {F : Nat → Prop} {s : MS} (hL : LowW w) (h : StAt w b F s) (ok : s.Ok) (f : Fn) (ht : topF f s.o < 0) :
    Calls Tryz.prog 16 #[.pointer (some ⟨b, 0, none⟩), fv f] w (BldPost StAt w b F (constN f, 0, s)) := by
  have HO := fun W (hb : Below w.heap.size w W) => H.order (H.below h hb) ok
  have HT := fun W (hb : Below w.heap.size w W) => readTop f s.o W (hL.keep hb)
  simp only [if_neg (show ¬ 0 ≤ topF f s.o by omega), decide_eq_false (show ¬ 0 ≤ topF f s.o by omega)] at HT
  have HA := fun W => readConstant f W
  have hend : ∀ w', Below w.heap.size w w' → ∃ F', StAt w' b F' s ∧ Keeps F w w' ∧ Within w F F' := fun w' hb => ⟨F, H.below h hb, Keeps.of_below hb _, Within.refl _ _⟩
  unfold BldPost errV
  simp only [if_true]
  generalize constN f = z at *
  clear h ht hL ok
  simp only [fv, ov] at *
  go_enter Tryz.func16, Tryz.ntmps16
  go_wp2
  have hF := Holds.new w f w.heap.size rfl
  have hb := (Below.refl w.heap.size w).alloc (Nat.le_refl _) (.cells #[.int .u64 (wd f 0), .int .u64 (wd f 1), .int .u64 (wd f 2), .int .u64 (wd f 3)] 48)
  generalize w.alloc (.cells #[.int .u64 (wd f 0), .int .u64 (wd f 1), .int .u64 (wd f 2), .int .u64 (wd f 3)] 48) = W at *
  have c0 := fun u : Sub W => (hF.sub u).cells.1
  have c1 := fun u : Sub W => (hF.sub u).cells.2.1
  have c2 := fun u : Sub W => (hF.sub u).cells.2.2.1
  have c3 := fun u : Sub W => (hF.sub u).cells.2.2.2
  have JO := fun u : Sub W => HO _ (hb.trans (u.2.mono hb.size))
  have JT := fun u : Sub W => HT _ (hb.trans (u.2.mono hb.size))
  refine wp_region_quiet_all (C := fun w' => ∃ u : Sub W, w' = u.1) (by kernel_rfl) (by kernel_rfl) (InSub.drew W) ?_
  iterate 2 (go_big_quiet_step (fail))
  go_big_quiet_step (exact subBelow (JO _))
  go_big_quiet_step (exact subBelow (JT _))
  iterate 5 (go_big_quiet_step (fail))
  refine wpQuiet_nil ?_
  clear c0 c1 c2 c3 JO JT HO HT
  intro w' hw'
  obtain ⟨u, rfl⟩ := hw'
  replace hF := hF.keep u.2 hF.lt
  replace hb := hb.trans (u.2.mono hb.size)
  generalize u.1 = W2 at *
  obtain ⟨c0, c1, c2, c3⟩ := hF.cells
  go_wp2_with fail
  refine (HA _).mono ?_
  rintro e w3 ⟨rfl, hb3⟩
  have hb4 := hb.trans (hb3.mono hb.size)
  clear HA c0 c1 c2 c3
  go_wp2
  go_ret2
  exact ⟨rfl, hend _ hb4⟩

set_option maxRecDepth 100000 in
set_option maxHeartbeats 4000000 in
theorem readBuild {StAt : World → Nat → (Nat → Prop) → MS → Prop} (H : StoreC StAt) {b : Nat} : ∀ (k : Nat) (s : MS) (f : Fn) (w : World) (F : Nat → Prop), LowW w → (∀ k, F k → 0 < k) → StAt w b F s → s.Ok → supN f ≤ k →
    Calls Tryz.prog 16 #[.pointer (some ⟨b, 0, none⟩), fv f] w (BldPost StAt w b F (MS.bld k s f)) := by
  intro k
  induction k with
  | zero =>
    intro s f w F hL _ h ok hk
    refine readBuild_const H hL h ok f ?_
    have := (top_neg (f := f) (full_of ok.order)).2 (supN_zero (f := f) (by omega))
    omega
  | succ k ih =>
    intro s f w F hL hlow h ok hk
    unfold MS.bld
    by_cases ht : topF f s.o < 0
    · rw [if_pos ht]
      exact readBuild_const H hL h ok f ht
    · rw [if_neg ht]
      have ht0 : 0 ≤ topF f s.o := by omega
      have k0 := supN_cof f s.o false ht0
      have k1 := supN_cof f s.o true ht0
      have ra := MS.bld_spec k s (cofAny f (topF f s.o) false) ok (by omega)
      have IA := fun W (hb : Below w.heap.size w W) => ih s (cofAny f (topF f s.o) false) W F (hL.keep hb) hlow (H.below h hb) ok (by omega)
      have rb := fun hA => MS.bld_spec k (MS.bld k s (cofAny f (topF f s.o) false)).2.2 (cofAny f (topF f s.o) true) hA (by omega)
      have IB := fun W F' hlW hl hW hA => ih (MS.bld k s (cofAny f (topF f s.o) false)).2.2 (cofAny f (topF f s.o) true) W F' hlW hl hW hA (by omega)
      have HO := fun W (hb : Below w.heap.size w W) => H.order (H.below h hb) ok
      have HT := fun W (hb : Below w.heap.size w W) => readTop f s.o W (hL.keep hb)
      simp only [if_pos ht0, decide_eq_true ht0] at HT
      have HC0 := fun W (hb : Below w.heap.size w W) => cofCof f (topF f s.o) false W (hL.keep hb)
      have HC1 := fun W (hlW : LowW W) => cofCof f (topF f s.o) true W hlW
      dsimp only
      generalize hA : MS.bld k s (cofAny f (topF f s.o) false) = A at *
      generalize hB : MS.bld k A.2.2 (cofAny f (topF f s.o) true) = B at *
      have hFlt := H.lt h
      have hp := hL.pos
      generalize topF f s.o = v at *
      generalize cofAny f v false = f0 at *
      generalize cofAny f v true = f1 at *
      clear ih hA hB k0 k1 hk
      obtain ⟨A0, A1, sA⟩ := A
      obtain ⟨B0, B1, sB⟩ := B
      dsimp only at *
      generalize hr : (if A1 ≠ 0 then ((0, A1, sA) : Int × Int × MS) else if B1 ≠ 0 then (0, B1, sB) else sB.mk v A0 B0 []) = r
      simp only [fv, ov] at *
      obtain ⟨okA, _, _, resA, _⟩ := ra
      unfold BldPost at *
      dsimp only at IA IB
      replace hL := Lib.hid hL
      go_enter Tryz.func16, Tryz.ntmps16
      go_wp2
      have hF := Holds.new w f w.heap.size rfl
      have hb := (Below.refl w.heap.size w).alloc (Nat.le_refl _) (.cells #[.int .u64 (wd f 0), .int .u64 (wd f 1), .int .u64 (wd f 2), .int .u64 (wd f 3)] 48)
      generalize w.alloc (.cells #[.int .u64 (wd f 0), .int .u64 (wd f 1), .int .u64 (wd f 2), .int .u64 (wd f 3)] 48) = W at *
      have c0 := fun u : Sub W => (hF.sub u).cells.1
      have c1 := fun u : Sub W => (hF.sub u).cells.2.1
      have c2 := fun u : Sub W => (hF.sub u).cells.2.2.1
      have c3 := fun u : Sub W => (hF.sub u).cells.2.2.2
      have JO := fun u : Sub W => HO _ (hb.trans (u.2.mono hb.size))
      have JT := fun u : Sub W => HT _ (hb.trans (u.2.mono hb.size))
      refine wp_region_quiet_all (C := fun w' => ∃ u : Sub W, w' = u.1) (by kernel_rfl) (by kernel_rfl) (InSub.drew W) ?_
      iterate 2 (go_big_quiet_step (fail))
      go_big_quiet_step (exact subBelow (JO _))
      go_big_quiet_step (exact subBelow (JT _))
      iterate 5 (go_big_quiet_step (fail))
      refine wpQuiet_nil ?_
      clear c0 c1 c2 c3 JO JT HO HT
      intro w' hw'
      obtain ⟨u, rfl⟩ := hw'
      replace hF := hF.keep u.2 hF.lt
      replace hb := hb.trans (u.2.mono hb.size)
      generalize u.1 = W2 at *
      obtain ⟨c0, c1, c2, c3⟩ := hF.cells
      go_wp2_with fail
      refine (HC0 _ hb).mono ?_
      rintro e w3 ⟨rfl, hb3⟩
      replace hF := hF.keep hb3 hF.lt
      replace hb := hb.trans (hb3.mono hb.size)
      clear HC0 c0 c1 c2 c3 hb3
      go_wp2_with fail
      refine (IA _ hb).mono ?_
      rintro e w4 ⟨rfl, FA4, hA4, hK4, hW4⟩
      have hBn : ¬ F w.heap.size := fun e => by have := hFlt _ e; omega
      have hF4 : Holds w4 w.heap.size f := by
        have := hK4.block w.heap.size hF.lt hBn
        unfold Holds at *
        rw [this]; exact hF
      have HK := (Keeps.of_below hb F).trans hK4 (Within.refl _ _)
      have HW := (Within.refl w F).trans hW4 hb.size
      have hL4 := hL.out.keepK HK (fun e => by have := hlow _ e; omega)
      have hlow4 : ∀ k, FA4 k → 0 < k := fun k hk => (HW k hk).elim (hlow k) (fun h => by omega)
      clear IA hK4 hW4 hF hb hL hlow
      by_cases hA1 : A1 = 0
      · subst hA1
        rw [if_neg (by decide)] at hr
        obtain ⟨thA, _⟩ := resA rfl
        obtain ⟨c0, c1, c2, c3⟩ := hF4.cells
        rw [errV0]
        go_wp2_with fail
        refine (HC1 _ hL4).mono ?_
        rintro e w5 ⟨rfl, hb5⟩
        clear HC1 c0 c1 c2 c3
        obtain ⟨okB, extB, _, resB, _⟩ := rb okA
        go_wp2_with fail
        refine (IB _ _ (hL4.keep hb5) hlow4 (H.below hA4 hb5) okA).mono ?_
        rintro e w6 ⟨rfl, FB6, hB6, hK6, hW6⟩
        replace HK := HK.trans ((Keeps.of_below hb5 FA4).trans hK6 (Within.refl _ _)) HW
        replace HW := HW.trans ((Within.refl w4 FA4).trans hW6 hb5.size) (by have := hF4.lt; omega)
        clear IB hK6 hb5
        by_cases hB1 : B1 = 0
        · subst hB1
          rw [if_neg (by decide)] at hr
          obtain ⟨thB, _⟩ := resB rfl
          have HM := H.make hB6 okB v A0 B0 (okB.in64 (extB.there thA)) (okB.in64 thB)
          rw [hr] at HM
          rw [errV0]
          go_wp2_with fail
          refine HM.mono ?_
          rintro e w7 ⟨rfl, F7, hM7, hK7, hW7⟩
          go_wp2
          go_ret2
          exact ⟨rfl, F7, hM7, HK.trans hK7 HW, HW.trans hW7 HK.size⟩
        · rw [if_pos hB1] at hr
          subst hr
          simp only [errV, if_neg hB1]
          go_wp2
          go_ret2
          exact ⟨by first | rfl | (simp only [errV, if_neg hB1]; rfl), FB6, hB6, HK, HW⟩
      · rw [if_pos hA1] at hr
        subst hr
        simp only [errV, if_neg hA1]
        clear IB rb
        go_wp2
        go_ret2
        exact ⟨by first | rfl | (simp only [errV, if_neg hA1]; rfl), FA4, hA4, HK, HW⟩

end Go.Proofs.YtipocmbplcdmjaaGreatDoor

/-
  Orders compared.
-/
namespace Go.Proofs.YtipocmbplcdmjaaGreatDoor
open Go Go.RowKit

theorem run_equal_same (d : Nat) (a0 a1 a2 a3 a4 a5 a6 a7 : Int) (w : World) : (Op.equalIn (d + 1 + 1) 62 (.agg #[.int .i64 a0, .int .i64 a1, .int .i64 a2, .int .i64 a3, .int .i64 a4, .int .i64 a5, .int .i64 a6, .int .i64 a7]) (.agg #[.int .i64 a0, .int .i64 a1, .int .i64 a2, .int .i64 a3, .int .i64 a4, .int .i64 a5, .int .i64 a6, .int .i64 a7])).run Tryz.prog w = .ok true w := by
  obtain ⟨i, hi⟩ : ∃ i, Tryz.prog.info? 3 = some i := info_of_underlying Tryz.underlying3
  rw [run_equalIn_array w (d + 1) _ _ Tryz.underlying62 hi]
  have hc : Tryz.prog.cellsOf 3 = 1 := by kernel_rfl
  have hr : List.range 8 = [0, 1, 2, 3, 4, 5, 6, 7] := rfl
  rw [hc, hr]
  have hq : ∀ (w : World) (a b : Int), (Op.equalIn (d + 1) 3 (.int .i64 a) (.int .i64 b)).run Tryz.prog w = .ok (a == b) w := fun w a b => run_equalIn_int w d _ _ _ _ _ Tryz.underlying3
  simp [Op.eqItems, part, go_sem, hq]

theorem run_eql_same (a0 a1 a2 a3 a4 a5 a6 a7 : Int) (w : World) : (binOp .eql 62 (.agg #[.int .i64 a0, .int .i64 a1, .int .i64 a2, .int .i64 a3, .int .i64 a4, .int .i64 a5, .int .i64 a6, .int .i64 a7]) (.agg #[.int .i64 a0, .int .i64 a1, .int .i64 a2, .int .i64 a3, .int .i64 a4, .int .i64 a5, .int .i64 a6, .int .i64 a7])).run Tryz.prog w = .ok (.bool true) w := by
  rw [run_eql_struct, run_equal_same 9998]
  rfl
theorem run_neq_same (a0 a1 a2 a3 a4 a5 a6 a7 : Int) (w : World) : (binOp .neq 62 (.agg #[.int .i64 a0, .int .i64 a1, .int .i64 a2, .int .i64 a3, .int .i64 a4, .int .i64 a5, .int .i64 a6, .int .i64 a7]) (.agg #[.int .i64 a0, .int .i64 a1, .int .i64 a2, .int .i64 a3, .int .i64 a4, .int .i64 a5, .int .i64 a6, .int .i64 a7])).run Tryz.prog w = .ok (.bool false) w := by
  rw [run_neq_struct, run_equal_same 9998]
  rfl
theorem run_guard_order (op : BinOp) (x y : Operand) (a b : Array Value) (w : World) : (eqGuard op 62 x y (.agg a) (.agg b)).run Tryz.prog w = .ok () w :=
  run_eqGuard_agg w op _ x y _ _ (by kernel_rfl)
theorem run_equal_same' (a0 a1 a2 a3 a4 a5 a6 a7 : Int) (w : World) : (Op.equalIn 10000 62 (.agg #[.int .i64 a0, .int .i64 a1, .int .i64 a2, .int .i64 a3, .int .i64 a4, .int .i64 a5, .int .i64 a6, .int .i64 a7]) (.agg #[.int .i64 a0, .int .i64 a1, .int .i64 a2, .int .i64 a3, .int .i64 a4, .int .i64 a5, .int .i64 a6, .int .i64 a7])).run Tryz.prog w = .ok true w := run_equal_same 9998 _ _ _ _ _ _ _ _ w

end Go.Proofs.YtipocmbplcdmjaaGreatDoor

/-
  Layer 7's law: the two stores compared; a deed.
-/
namespace Go.Proofs.YtipocmbplcdmjaaGreatDoor
open Go Go.RowKit
attribute [local go_sem] run_equal_same' run_eql_same run_neq_same run_guard_order

theorem run_neq_nodes (a0 a1 a2 : Int) (w : World) : (binOp .neq 69 (.agg #[.int .i64 a0, .int .i64 a1, .int .i64 a2]) (.agg #[.int .i64 a0, .int .i64 a1, .int .i64 a2])).run Tryz.prog w = .ok (.bool false) w := by
  have hq : ∀ (w : World) (a b : Int), (Op.equalIn 9999 3 (.int .i64 a) (.int .i64 b)).run Tryz.prog w = .ok (a == b) w := fun w a b => run_equalIn_int w 9998 _ _ _ _ _ Tryz.underlying3
  rw [run_neq_struct, run_equalIn_agg w 9999 _ _ _ (by kernel_rfl) (by kernel_rfl)]
  simp [Op.eqFields, part, go_sem, hq]

section
variable {StAt : World → Nat → (Nat → Prop) → MS → Prop} {w0 W W' : World} {bA bM : Nat} {FA FM FA' FM' : Nat → Prop} {sA sM s' : MS}
/-- The order's cells. -/
def OrdAt (w : World) (b : Nat) (o : Nat → Int) : Prop := w.cell? ⟨b, 2, none⟩ = some (.int .i64 (o 0)) ∧ w.cell? ⟨b, 3, none⟩ = some (.int .i64 (o 1)) ∧ w.cell? ⟨b, 4, none⟩ = some (.int .i64 (o 2)) ∧ w.cell? ⟨b, 5, none⟩ = some (.int .i64 (o 3)) ∧
    w.cell? ⟨b, 6, none⟩ = some (.int .i64 (o 4)) ∧ w.cell? ⟨b, 7, none⟩ = some (.int .i64 (o 5)) ∧ w.cell? ⟨b, 8, none⟩ = some (.int .i64 (o 6)) ∧ w.cell? ⟨b, 9, none⟩ = some (.int .i64 (o 7))
theorem P2.order (h : P2 StAt w0 bA bM FA FM sA sM W) : OrdAt W bM sM.o := by
  obtain ⟨_, _, _, _, hR⟩ := h.m
  exact hR.order
end

set_option maxRecDepth 100000 in
set_option maxHeartbeats 8000000 in
theorem lawSame {StAt : World → Nat → (Nat → Prop) → MS → Prop} (H : StoreC StAt) {w0 w : World} {bA bM : Nat} {FA FM : Nat → Prop} {s : MS} (P : P2 StAt w0 bA bM FA FM s s w) (ok : s.Ok) :
    Calls Tryz.prog 10 #[.pointer (some ⟨bA, 0, none⟩), .pointer (some ⟨bM, 0, none⟩)] w fun e w' => e = .returned (.int .i64 1) ∧ Below w.heap.size w w' := by
  have hal : s.all.length ≤ 20000 := Nat.le_trans (numsTo_filter_length s.has s.N.length) ok.toBase.few
  go_enter Tryz.func10, Tryz.ntmps10
  go_wp2_with fail
  refine (refSAll P.m ok.toBase).mono ?_
  rintro e w1 ⟨vA, rfl, RA⟩
  replace P := P.keep H RA.below
  obtain ⟨aA, cA, rfl, _⟩ := RA.own.form
  replace P := P.keep H (Below.refl w1.heap.size w1).drew
  have hb1 := RA.below.drew
  have hA := RA.own.reads.keep (Below.refl w1.heap.size w1).drew
  clear RA
  go_wp2
  have hS0 := P.order
  simp only [OrdAt] at hS0
  replace P := Lib.hid P
  replace hA := Lib.hid hA
  replace H := Lib.hid H
  go_region_held3 (fun w' => w'.cell? ⟨bM, 2, none⟩ = some (.int .i64 (s.o 0)) ∧ w'.cell? ⟨bM, 3, none⟩ = some (.int .i64 (s.o 1)) ∧ w'.cell? ⟨bM, 4, none⟩ = some (.int .i64 (s.o 2)) ∧ w'.cell? ⟨bM, 5, none⟩ = some (.int .i64 (s.o 3)) ∧
    w'.cell? ⟨bM, 6, none⟩ = some (.int .i64 (s.o 4)) ∧ w'.cell? ⟨bM, 7, none⟩ = some (.int .i64 (s.o 5)) ∧ w'.cell? ⟨bM, 8, none⟩ = some (.int .i64 (s.o 6)) ∧ w'.cell? ⟨bM, 9, none⟩ = some (.int .i64 (s.o 7))) (first | assumption)
    (first
      | (go_at_call 28; refine (H.out.all P.out.a ok).mono ?_; rintro e W1 ⟨v1, rfl, R1⟩; have P1 := Lib.hid (P.out.keep H.out R1.below); have hb2 := hb1.trans (R1.below.mono hb1.size); have hA1 := Lib.hid (hA.out.keep R1.below); have hS1 := P1.out.order; simp only [OrdAt] at hS1)
      | (go_at_call 11; refine (lawInts s.all v1 _ _ R1.own.reads hA1.out (by omega)).mono ?_; rintro e W2 ⟨rfl, R2⟩; have P2 := Lib.hid (P1.out.keep H.out R2); have hb3 := hb2.trans (R2.mono hb2.size); have hA2 := Lib.hid (hA1.out.keep R2); have hS2 := P2.out.order; simp only [OrdAt] at hS2)
      | (go_at_call 13; refine (H.out.live P2.out.a ok).mono ?_; rintro e W3 ⟨rfl, R3⟩; have P3 := Lib.hid (P2.out.keep H.out R3); have hb4 := hb3.trans (R3.mono hb3.size); have hA3 := Lib.hid (hA2.out.keep R3); have hS3 := P3.out.order; simp only [OrdAt] at hS3)
      | (go_at_call 14; refine (H.out.room P3.out.a ok).mono ?_; rintro e W4 ⟨rfl, R4⟩; have P4 := Lib.hid (P3.out.keep H.out R4); have hb5 := hb4.trans (R4.mono hb4.size); have hA4 := Lib.hid (hA3.out.keep R4); have hS4 := P4.out.order; simp only [OrdAt] at hS4)
      | (go_at_call 29; refine (refSRoom P4.out.m ok.toBase).mono ?_; rintro e W5 ⟨rfl, R5⟩; have P5 := Lib.hid (P4.out.keep H.out R5); have hb6 := hb5.trans (R5.mono hb5.size); have hA5 := Lib.hid (hA4.out.keep R5); have hS5 := P5.out.order; simp only [OrdAt] at hS5)
      | (go_at_call 30; refine (H.out.order P5.out.a ok).mono ?_; rintro e W6 ⟨rfl, R6⟩; have P6 := Lib.hid (P5.out.keep H.out R6); have hb7 := hb6.trans (R6.mono hb6.size); have hA6 := Lib.hid (hA5.out.keep R6); have hS6 := P6.out.order; simp only [OrdAt] at hS6; simp only [ov]))
  replace P := P6.out
  replace hA := hA6.out
  replace H := H.out
  clear hS0 hS1 hS2 hS3 hS4 hS5 hS6 P1 P2 P3 P4 P5 P6 hA1 hA2 hA3 hA4 hA5 hA6 R1 R2 R3 R4 R5 R6 hb1 hb2 hb3 hb4 hb5 hb6
  go_wp2
  go_loopw [6] (fun i wr => ∃ k : Nat, k ≤ s.all.length ∧ i = .int .i64 k ∧ Below W6.heap.size W6 wr) (fun i _ => s.all.length - (intOf i).toNat)
  case atStart => exact ⟨0, Nat.zero_le _, rfl, Below.refl _ _⟩
  case round =>
    obtain ⟨k, hk, rfl, hb⟩ := hrel
    by_cases hlt : k < s.all.length
    · replace P := P.keep H hb
      obtain ⟨ad, rfl, hc⟩ := (hA.keep hb).intAt k hlt
      have hhas : s.has s.all[k] = true := ok.toBase.mem_all.1 (List.getElem_mem hlt)
      generalize s.all[k] = n at *
      have hle := ok.toBase.has_le hhas
      have hk0 : (0 : Int) ≤ (k : Int) := by omega
      have hk1 : (k : Int) < (s.all.length : Int) := by omega
      have HA := H.node P.a ok n (by omega)
      have HM := fun V (hV : Below wr.heap.size wr V) => refSNode (P.m.below hV) ok.toBase n (by omega)
      simp only [nodeV, hhas, if_true, nv] at HA HM
      generalize s.nd n = x at *
      obtain ⟨x0, x1, x2⟩ := x
      dsimp only at HA HM
      have hq := run_neq_nodes x0 x1 x2
      clear hA P
      go_wp2_with fail
      refine HA.mono ?_
      rintro e w2 ⟨rfl, hb2⟩
      have hb3 := hb2.alloc hb2.size (.cells #[.int .i64 x0, .int .i64 x1, .int .i64 x2] 69)
      have y0 := HoldsN.new w2 ⟨x0, x1, x2⟩
      dsimp only at y0
      have hc3 := (hb3.cell (p := ad.add k) (block_lt_of_cell hc)).trans hc
      go_wp2_with fail
      generalize w2.alloc (.cells #[.int .i64 x0, .int .i64 x1, .int .i64 x2] 69) = W3 at *
      refine (HM _ hb3).mono ?_
      rintro e w4 ⟨rfl, hb4⟩
      replace y0 := y0.below hb4
      replace hb4 := hb3.trans (hb4.mono hb3.size)
      clear HA HM hc3 hc
      have z0 := HoldsN.new w4 ⟨x0, x1, x2⟩
      have hb5 : Below wr.heap.size wr (w4.alloc (.cells #[.int .i64 x0, .int .i64 x1, .int .i64 x2] 69)) := hb4.alloc hb4.size _
      have y1 : HoldsN (w4.alloc (.cells #[.int .i64 x0, .int .i64 x1, .int .i64 x2] 69)) w2.heap.size ⟨x0, x1, x2⟩ := y0.keep (Keeps.of_alloc noBlock _ _) (fun h => h)
      dsimp only at z0
      obtain ⟨a0, a1, a2⟩ := y1.cells
      obtain ⟨c0, c1, c2⟩ := z0.cells
      dsimp only at a0 a1 a2 c0 c1 c2
      clear y0 y1 z0
      go_wp2
      exact ⟨⟨k + 1, by omega, by go_num, hb.trans (hb5.mono hb.size)⟩, by simp [intOf]; omega⟩
    · obtain rfl : k = s.all.length := by omega
      go_wp2
      go_ret
      exact ⟨rfl, hb7.trans (hb.mono hb7.size)⟩

end Go.Proofs.YtipocmbplcdmjaaGreatDoor

/-
  Layer 7's law: a deed.
-/
namespace Go.Proofs.YtipocmbplcdmjaaGreatDoor
open Go Go.RowKit

theorem le_of_wf {n : Int} (h : (Lit.int .i64 n).wf = true) : n ≤ 9223372036854775807 := by
  simp only [Lit.wf, Bool.and_eq_true, decide_eq_true_eq] at h
  exact h.2
theorem ge_of_wf {n : Int} (h : (Lit.int .i64 n).wf = true) : -9223372036854775808 ≤ n := by
  simp only [Lit.wf, Bool.and_eq_true, decide_eq_true_eq] at h
  exact h.1

end Go.Proofs.YtipocmbplcdmjaaGreatDoor

/-
  A store of one node.
-/
namespace Go.Proofs.YtipocmbplcdmjaaGreatDoor
open Go Go.RowKit

end Go.Proofs.YtipocmbplcdmjaaGreatDoor

/-
  The document's example of layer 7; a store and its model at the beginning.
-/
namespace Go.Proofs.YtipocmbplcdmjaaGreatDoor
open Go Go.RowKit

end Go.Proofs.YtipocmbplcdmjaaGreatDoor

/-
  StorePlays: the walk.
-/
namespace Go.Proofs.YtipocmbplcdmjaaGreatDoor
open Go Go.RowKit

set_option maxRecDepth 100000 in
set_option maxHeartbeats 4000000 in
theorem lawBegin {StAt : World → Nat → (Nat → Prop) → MS → Prop} (H : StoreC StAt) (most : Int) (w : World) (h0 : 0 ≤ most) (h1 : most ≤ 20000) :
    Calls Tryz.prog 15 #[.int .i64 most] w fun e w' => ∃ bA bM FA FM, e = .returned (.tuple #[.pointer (some ⟨bA, 0, none⟩), .pointer (some ⟨bM, 0, none⟩)]) ∧ P2 StAt w bA bM FA FM (MS.none most.toNat) (MS.none most.toNat) w' := by
  go_enter Tryz.func15, Tryz.ntmps15
  go_wp2_with fail
  refine (H.new most w h0 h1).mono ?_
  rintro e w1 ⟨b, rfl, ⟨F, hA, hF⟩, hb⟩
  go_wp2_with fail
  refine (refSNew most _ h0).mono ?_
  rintro e w2 ⟨b2, rfl, ⟨F2, hM, hF2⟩, hb2⟩
  have P : P2 StAt w b b2 F F2 (MS.none most.toNat) (MS.none most.toNat) w2 := ⟨H.below hA hb2, hM, fun k hk e => by have := H.lt hA k hk; have := hF2 k e; omega, hF, fun k hk => Nat.le_trans hb.size (hF2 k hk), hb.trans (hb2.mono hb.size)⟩
  go_wp2
  go_ret2
  exact ⟨b, b2, F, F2, rfl, P⟩

set_option maxRecDepth 100000 in
set_option maxHeartbeats 4000000 in
theorem lawBegin_no {StAt : World → Nat → (Nat → Prop) → MS → Prop} (H : StoreC StAt) (most : Int) (w : World) (h : most < 0 ∨ 20000 < most) :
    Calls Tryz.prog 15 #[.int .i64 most] w fun e w' => e = .returned (.tuple #[.pointer none, .pointer none]) ∧ Below w.heap.size w w' := by
  go_enter Tryz.func15, Tryz.ntmps15
  go_wp2_with fail
  refine (H.no most w h).mono ?_
  rintro e w1 ⟨rfl, hb⟩
  go_wp2
  go_ret2
  exact ⟨rfl, hb⟩

end Go.Proofs.YtipocmbplcdmjaaGreatDoor
