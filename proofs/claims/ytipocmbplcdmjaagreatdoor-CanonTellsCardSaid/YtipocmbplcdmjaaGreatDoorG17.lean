/-
  Texts of this proof, one behind the other: Ref2, Ref3, Ref4, IMap, FMap, RefTop, RefB, ReachM.
-/
import Derived.Test.YtipocmbplcdmjaaGreatDoorG12
import Derived.Test.YtipocmbplcdmjaaGreatDoorG15
import Derived.Maps.Own
import Derived.Maps.OwnOps
import Derived.Maps.Views
import Derived.WalkKit
import Derived.DeepKeys4
import Derived.Test.YtipocmbplcdmjaaGreatDoorG6
import Derived.Test.YtipocmbplcdmjaaGreatDoorG8
import Derived.Test.YtipocmbplcdmjaaGreatDoorG13
import Derived.Test.YtipocmbplcdmjaaGreatDoorG14
import Derived.Test.YtipocmbplcdmjaaGreatDoorG1
/-
  Walks of the document's row, Cof, Depends, Support, Count.
-/
namespace Go.Proofs.YtipocmbplcdmjaaGreatDoor
open Go Go.RowKit

theorem ret_int {k : IntKind} {a b : Int} (h : a = b) : Ending.returned (.int k a) = .returned (.int k b) := by rw [h]

set_option maxRecDepth 100000 in
set_option maxHeartbeats 400000 in
theorem refRow (x m : Nat) (b : Bool) (w : World) (hx : x < 256) (hm : m < 8) :
    Calls Tryz.prog 71 #[.int .i64 x, .int .i64 m, .bool b] w fun e w' => e = .returned (.int .i64 (rowF x m b)) ∧ w = w' := by
  go_enter Tryz.func71, Tryz.ntmps71
  go_wp2
  go_loop [7, 8] (fun p i => ∃ j : Nat, j ≤ m ∧ i = .int .i64 j ∧ p = .int .i64 ((2 ^ j : Nat) : Int)) (fun _ i => m - (intOf i).toNat)
  case atStart => exact ⟨0, Nat.zero_le _, rfl, rfl⟩
  case round =>
    obtain ⟨j, hj, rfl, rfl⟩ := hrel
    have hp := pow8 (show j < 8 by omega)
    have Hn : Hid (2 ^ (j + 1) = 2 * 2 ^ j) := by show _ = _; rw [Nat.pow_succ, Nat.mul_comm]
    by_cases hlt : j < m
    · generalize 2 ^ j = y at *
      have hy : 1 ≤ y ∧ y ≤ 128 := by omega
      clear hp
      go_wp2
      go_round
      case rel => exact ⟨j + 1, by omega, by go_num, by rw [Hn.out]; go_num⟩
      case measure => simp [intOf]; omega
    · obtain rfl : j = m := by omega
      have Hr := Lib.hid (show rowF x j b = (if x / 2 ^ j % 2 = 1 then x - 2 ^ j else x) + (if b then 2 ^ j else 0) from rfl)
      clear Hn
      generalize 2 ^ j = y at *
      rcases hp with rfl | rfl | rfl | rfl | rfl | rfl | rfl | rfl
      all_goals
        cases b <;> go_wp2 <;> go_ret <;> (rename_i hbit _; (first | rw [beq_iff_eq] at hbit | rw [beq_eq_false_iff_ne] at hbit); refine ⟨ret_int ?_, rfl⟩; rw [Hr.out]; simp only [if_true, if_false, Bool.false_eq_true]; split <;> omega)

/-- At the loop's head of Cof: what came in, the result's variable, the one that is filled. -/
def Coffing (w : World) (f o : Fn) (wr : World) : Prop :=
  Holds wr w.heap.size f ∧ Holds wr (w.heap.size + 1) 0#256 ∧ Holds wr (w.heap.size + 1 + 1) o ∧ Below w.heap.size w wr

set_option maxRecDepth 100000 in
set_option maxHeartbeats 1000000 in
theorem refCof (f : Fn) (v : Int) (b : Bool) (w : World) :
    Calls Tryz.prog 42 #[fv f, .int .i64 v, .bool b] w fun e w' => e = .returned (fv (cofAny f v b)) ∧ Below w.heap.size w w' := by
  by_cases hv : 0 ≤ v ∧ v < 8
  · obtain ⟨m, rfl⟩ := Int.eq_ofNat_of_zero_le hv.1
    have hm : m < 8 := by omega
    have hm0 : (0 : Int) ≤ (m : Int) := by omega
    have hm7 : (m : Int) ≤ 7 := by omega
    have e : cofAny f (m : Int) b = ofRow (fun x => f.getLsbD (rowF x m b)) := by rw [cofAny, if_pos hv, Int.toNat_natCast]; rfl
    rw [e]
    clear e
    simp only [fv]
    go_enter Tryz.func42, Tryz.ntmps42
    go_wp2
    go_loopw [8] (fun i wr => ∃ n : Nat, n ≤ 256 ∧ i = .int .i64 n ∧ Coffing w f (upTo (fun x => f.getLsbD (rowF x m b)) n) wr) (fun i _ => 256 - (intOf i).toNat)
    case atStart => exact ⟨0, Nat.zero_le _, rfl, by rw [upTo_zero]; exact ⟨((Holds.new _ _ _).alloc _).alloc _, (Holds.new0 _ _).alloc _, Holds.new0 _ _, by go_grown⟩⟩
    case round =>
      obtain ⟨n, hn, rfl, h0, h1, h2, hb⟩ := hrel
      by_cases hlt : n < 256
      · have hr := rowF_lt n m b hlt hm
        have Hf := Lib.hid (upTo_put (fun x => f.getLsbD (rowF x m b)) n (atF f (rowF n m b)) (atF_nat f _ hr))
        generalize upTo (fun x => f.getLsbD (rowF x m b)) n = g at *
        have c0 : ∀ u : Sub wr, u.1.cell? ⟨w.heap.size, 0, none⟩ = some (.int .u64 (wd f 0)) := fun u => (h0.sub u).cells.1
        have c1 : ∀ u : Sub wr, u.1.cell? ⟨w.heap.size, 1, none⟩ = some (.int .u64 (wd f 1)) := fun u => (h0.sub u).cells.2.1
        have c2 : ∀ u : Sub wr, u.1.cell? ⟨w.heap.size, 2, none⟩ = some (.int .u64 (wd f 2)) := fun u => (h0.sub u).cells.2.2.1
        have c3 : ∀ u : Sub wr, u.1.cell? ⟨w.heap.size, 3, none⟩ = some (.int .u64 (wd f 3)) := fun u => (h0.sub u).cells.2.2.2
        have d0 : ∀ u : Sub wr, u.1.cell? ⟨w.heap.size + 1 + 1, 0, none⟩ = some (.int .u64 (wd g 0)) := fun u => (h2.sub u).cells.1
        have d1 : ∀ u : Sub wr, u.1.cell? ⟨w.heap.size + 1 + 1, 1, none⟩ = some (.int .u64 (wd g 1)) := fun u => (h2.sub u).cells.2.1
        have d2 : ∀ u : Sub wr, u.1.cell? ⟨w.heap.size + 1 + 1, 2, none⟩ = some (.int .u64 (wd g 2)) := fun u => (h2.sub u).cells.2.2.1
        have d3 : ∀ u : Sub wr, u.1.cell? ⟨w.heap.size + 1 + 1, 3, none⟩ = some (.int .u64 (wd g 3)) := fun u => (h2.sub u).cells.2.2.2
        go_wp2
        refine wp_region_quiet_tail (C := fun w' => ∃ u : Sub wr, w' = u.1) 9 (by kernel_rfl) (by kernel_rfl) (InSub.drew wr) ?_
        simp only [List.take_succ_cons, List.take_zero, List.drop_succ_cons, List.drop_zero]
        iterate 6 (go_big_quiet_step (fail))
        go_big_quiet_step (exact sub_same (refRow n m b _ hlt hm))
        go_big_quiet_step (exact sub_below (refAt f _ _))
        go_big_quiet_step (exact sub_below (refPut g n _ _ hlt))
        refine wpQuiet_nil ?_
        rw [Hf.out]
        clear c0 c1 c2 c3 d0 d1 d2 d3
        intro w' hw'
        obtain ⟨u, rfl⟩ := hw'
        have k0 := h0.sub u
        have k1 := h1.sub u
        have k2 := h2.sub u
        have hb1 := u.2
        generalize u.1 = w1 at *
        obtain ⟨c0, c1, c2, c3⟩ := k2.cells
        obtain ⟨z0, z1, z2, z3⟩ := k2.free
        simp only [fv]
        go_wp2
        exact ⟨⟨n + 1, by omega, by go_num, k0.other4 (by omega), k1.other4 (by omega), k2.set4 _, below_set4 (hb.trans (hb1.mono hb.size)) (by omega)⟩, by simp [intOf]; omega⟩
      · obtain rfl : n = 256 := by omega
        rw [upTo_all] at h2
        generalize hg : ofRow (fun x => f.getLsbD (rowF x m b)) = g at *
        have Hg := Lib.hid hg
        clear hg
        obtain ⟨c0, c1, c2, c3⟩ := h2.cells
        obtain ⟨d0, d1, d2, d3⟩ := h1.cells
        obtain ⟨z0, z1, z2, z3⟩ := h1.free
        go_wp2
        exact bodyPost_ret (ret_holds Tryz.results42 rfl (h1.set4 g)) rfl ⟨by rw [Hg.out]; rfl, below_set4 hb (by omega)⟩
  · have e : cofAny f v b = f := by rw [cofAny, if_neg hv]
    rw [e]
    clear e
    simp only [fv]
    go_enter Tryz.func42, Tryz.ntmps42
    go_wp2
    all_goals exact bodyPost_ret (v := .agg #[.int .u64 (wd f 0), .int .u64 (wd f 1), .int .u64 (wd f 2), .int .u64 (wd f 3)]) (by simp [results, Tryz.results42, go_sem]) rfl ⟨rfl, by go_grown⟩

end Go.Proofs.YtipocmbplcdmjaaGreatDoor

/-
  Walks of the document's Depends, Support, Count.
-/
namespace Go.Proofs.YtipocmbplcdmjaaGreatDoor
open Go Go.RowKit

theorem cmp_row (f : Fn) (m n : Nat) (hn : n < 256) (hm : m < 8) (h0 : n / 2 ^ m % 2 = 0) : shows f m n = (atF f n != atF f ((n : Int) + ((2 ^ m : Nat) : Int))) := by
  have h1 : n + 2 ^ m < 256 := by rcases pow8 hm with h | h | h | h | h | h | h | h <;> rw [h] at h0 ⊢ <;> omega
  have e : ((n : Int) + ((2 ^ m : Nat) : Int)) = ((n + 2 ^ m : Nat) : Int) := by simp
  rw [e, atF_nat _ _ hn, atF_nat _ _ h1, shows, decide_eq_true h0, Bool.true_and]

set_option maxRecDepth 100000 in
set_option maxHeartbeats 1000000 in
theorem refDepends (f : Fn) (v : Int) (w : World) :
    Calls Tryz.prog 69 #[fv f, .int .i64 v] w fun e w' => e = .returned (.bool (depAny f v)) ∧ Below w.heap.size w w' := by
  by_cases hv : 0 ≤ v ∧ v < 8
  · obtain ⟨m, rfl⟩ := Int.eq_ofNat_of_zero_le hv.1
    have hm : m < 8 := by omega
    have hm0 : (0 : Int) ≤ (m : Int) := by omega
    have hm7 : (m : Int) ≤ 7 := by omega
    have e : depAny f (m : Int) = depF f m := by rw [depAny, if_pos hv, Int.toNat_natCast]
    rw [e]
    clear e
    simp only [fv]
    go_enter Tryz.func69, Tryz.ntmps69
    go_wp2
    have hy := pow8 hm
    have ew : wrap64 (2 ^ m) = ((2 ^ m : Nat) : Int) := by
      have e2 : ((2 : Int) ^ m) = ((2 ^ m : Nat) : Int) := by simp
      rw [e2]
      exact IntWalk.wrap64_in _ ⟨by omega, by omega⟩
    rw [ew]
    clear ew
    have Hs : ∀ n, n < 256 → n / 2 ^ m % 2 = 0 → Hid (shows f m n = !(atF f n == atF f ((n : Int) + ((2 ^ m : Nat) : Int)))) := fun n hn h0 => cmp_row f m n hn hm h0
    have Hz : ∀ n, ¬ n / 2 ^ m % 2 = 0 → Hid (shows f m n = false) := fun n h0 => by show _ = _; rw [shows, decide_eq_false h0, Bool.false_and]
    generalize 2 ^ m = y at *
    have hy1 : 1 ≤ y ∧ y ≤ 128 := by omega
    clear hy
    go_loopw [6] (fun i wr => ∃ n : Nat, n ≤ 256 ∧ i = .int .i64 n ∧ Hid (∀ x, x < n → shows f m x = false) ∧ Holds wr w.heap.size f ∧ Below w.heap.size w wr) (fun i _ => 256 - (intOf i).toNat)
    case atStart => exact ⟨0, Nat.zero_le _, rfl, fun x hx => absurd hx (Nat.not_lt_zero _), Holds.new _ _ _, by go_grown⟩
    case round =>
      obtain ⟨n, hn, rfl, hno, h0, hb⟩ := hrel
      by_cases hlt : n < 256
      · have hq : n / y ≤ n := Nat.div_le_self _ _
        have hqe : (n : Int) / (y : Int) = ((n / y : Nat) : Int) := by simp
        have hq0 : (0 : Int) ≤ (n : Int) / (y : Int) := by rw [hqe]; exact Int.natCast_nonneg _
        have hq1 : (n : Int) / (y : Int) ≤ 255 := by rw [hqe]; generalize n / y = z at hq; omega
        by_cases hbit : n / y % 2 = 0
        · have hs := Hs n hlt hbit
          have hB : ((n : Int) / (y : Int) % 2 == 0) = true := by rw [beq_iff_eq, hqe]; generalize n / y = z at hbit; omega
          clear Hs Hz hqe
          have hyz : ((y : Int) == 0) = false := by rw [beq_eq_false_iff_ne]; omega
          have c0 : ∀ u : Sub wr, u.1.cell? ⟨w.heap.size, 0, none⟩ = some (.int .u64 (wd f 0)) := fun u => (h0.sub u).cells.1
          have c1 : ∀ u : Sub wr, u.1.cell? ⟨w.heap.size, 1, none⟩ = some (.int .u64 (wd f 1)) := fun u => (h0.sub u).cells.2.1
          have c2 : ∀ u : Sub wr, u.1.cell? ⟨w.heap.size, 2, none⟩ = some (.int .u64 (wd f 2)) := fun u => (h0.sub u).cells.2.2.1
          have c3 : ∀ u : Sub wr, u.1.cell? ⟨w.heap.size, 3, none⟩ = some (.int .u64 (wd f 3)) := fun u => (h0.sub u).cells.2.2.2
          go_wp2
          refine wp_region_quiet_all (C := fun w' => ∃ u : Sub wr, w' = u.1) (by kernel_rfl) (by kernel_rfl) (InSub.drew wr) ?_
          iterate 8 (go_big_quiet_step (fail))
          go_big_quiet_step (exact sub_below (refAt f _ _))
          iterate 4 (go_big_quiet_step (fail))
          go_big_quiet_step (exact sub_below (refAt f _ _))
          iterate 2 (go_big_quiet_step (fail))
          refine wpQuiet_nil ?_
          clear c0 c1 c2 c3
          intro w' hw'
          obtain ⟨u, rfl⟩ := hw'
          have k0 := h0.sub u
          have kb := hb.trans (u.2.mono hb.size)
          clear h0 hb
          generalize u.1 = w1 at *
          generalize (!(atF f n == atF f ((n : Int) + (y : Int)))) = q at *
          cases q
          · go_wp2
            exact ⟨⟨n + 1, by omega, by go_num, fun x hx => by
              rcases Nat.lt_or_ge x n with h | h
              · exact hno.out x h
              · obtain rfl : x = n := by omega
                exact hs.out, k0, kb⟩, by simp [intOf]; omega⟩
          · go_wp2
            go_ret
            exact ⟨ret_bool (depF_true hlt hs.out).symm, kb⟩
        · have hs := Hz n hbit
          have hB : ((n : Int) / (y : Int) % 2 == 0) = false := by rw [beq_eq_false_iff_ne, hqe]; generalize n / y = z at hbit; omega
          clear Hs Hz hqe
          have hyz : ((y : Int) == 0) = false := by rw [beq_eq_false_iff_ne]; omega
          go_wp2
          refine wp_region_quiet_all (C := fun w' => ∃ u : Sub wr, w' = u.1) (by kernel_rfl) (by kernel_rfl) (InSub.drew wr) ?_
          iterate 6 (go_big_quiet_step (fail))
          iterate 9 go_big_quiet_skip
          go_big_quiet_step (fail)
          refine wpQuiet_nil ?_
          intro w' hw'
          obtain ⟨u, rfl⟩ := hw'
          have k0 := h0.sub u
          have kb := hb.trans (u.2.mono hb.size)
          clear h0 hb
          generalize u.1 = w1 at *
          go_wp2
          exact ⟨⟨n + 1, by omega, by go_num, fun x hx => by
            rcases Nat.lt_or_ge x n with h | h
            · exact hno.out x h
            · obtain rfl : x = n := by omega
              exact hs.out, k0, kb⟩, by simp [intOf]; omega⟩
      · obtain rfl : n = 256 := by omega
        have Hd := Lib.hid (depF_false hno.out)
        clear Hs Hz
        go_wp2
        go_ret
        exact ⟨ret_bool Hd.out.symm, hb⟩
  · have e : depAny f v = false := by rw [depAny, if_neg hv]
    rw [e]
    clear e
    simp only [fv]
    go_enter Tryz.func69, Tryz.ntmps69
    go_wp2
    all_goals
      go_ret
      exact ⟨rfl, by go_grown⟩

end Go.Proofs.YtipocmbplcdmjaaGreatDoor

/-
  Walks of the document's Support, Exists, Forall, Compose.
-/
namespace Go.Proofs.YtipocmbplcdmjaaGreatDoor
open Go Go.RowKit

end Go.Proofs.YtipocmbplcdmjaaGreatDoor

/-
  A map of the call's own whose elements are numbers, as a function from its keys; nothing of the program is read here.
-/
namespace Go.Proofs.YtipocmbplcdmjaaGreatDoor
open Go Go.RowKit Go.Maps

/-- How values of α stand as keys of type K. -/
structure KeyEnc (P : Program) (K : TypeId) (α : Type) where
  val : α → Value
  lit : α → Lit
  key : ∀ a, keyOf P K (val a) = some (lit a)
  inj : ∀ a b, val a = val b → a = b
  law : Keyed P K

section
variable {P : Program} {K e : TypeId} {α : Type} {E : KeyEnc P K α}

end

end Go.Proofs.YtipocmbplcdmjaaGreatDoor

/-
  Maps whose keys are functions of eight variables; slices of such functions.
-/
namespace Go.Proofs.YtipocmbplcdmjaaGreatDoor
open Go Go.RowKit Go.Maps

theorem Tryz.laidOut : laidOutB Tryz.prog = true := by kernel_rfl

/-- The cells of a list of functions. -/
def cellsL : List Fn → List Value
  | [] => []
  | f :: l => .int .u64 (wd f 0) :: .int .u64 (wd f 1) :: .int .u64 (wd f 2) :: .int .u64 (wd f 3) :: cellsL l

theorem cellsL_length (l : List Fn) : (cellsL l).length = l.length * 4 := by
  induction l with
  | nil => rfl
  | cons f l ih => simp only [cellsL, List.length_cons, ih]; omega

theorem cellsL_get (l : List Fn) : ∀ (i : Nat) (h : i < l.length) (j : Nat), j < 4 → (cellsL l)[i * 4 + j]? = some (.int .u64 (wd l[i] j)) := by
  induction l with
  | nil => intro i h; cases h
  | cons f l ih =>
    intro i h j hj
    cases i with
    | zero => rcases (by omega : j = 0 ∨ j = 1 ∨ j = 2 ∨ j = 3) with rfl | rfl | rfl | rfl <;> rfl
    | succ i =>
      have := ih i (by simpa using h) j hj
      rw [show (i + 1) * 4 + j = (i * 4 + j) + 4 by omega]
      simpa [cellsL] using this

end Go.Proofs.YtipocmbplcdmjaaGreatDoor

/-
  Walks of the document's Top and Plain.
-/
namespace Go.Proofs.YtipocmbplcdmjaaGreatDoor
open Go Go.RowKit

set_option maxRecDepth 100000 in
set_option maxHeartbeats 1000000 in
theorem refTop (f : Fn) (o : Nat → Int) (w : World) :
    Calls Tryz.prog 40 #[fv f, ov o] w fun e w' => e = .returned (.int .i64 (topF f o)) ∧ Below w.heap.size w w' := by
  simp only [fv, ov]
  go_enter Tryz.func40, Tryz.ntmps40
  go_wp2
  go_loopw [5] (fun i wr => ∃ n : Nat, n ≤ 8 ∧ i = .int .i64 n ∧ Hid (topF f o = topFrom f o (8 - n) n) ∧ Holds wr w.heap.size f ∧ HoldsO wr (w.heap.size + 1) o ∧ Below w.heap.size w wr) (fun i _ => 8 - (intOf i).toNat)
  case atStart => exact ⟨0, Nat.zero_le _, rfl, rfl, (Holds.new _ _ _).alloc _, HoldsO.new _ _ _, by go_grown⟩
  case round =>
    obtain ⟨n, hn, rfl, ht, h0, h1, hb⟩ := hrel
    by_cases hlt : n < 8
    · have Hs : Hid (topF f o = if depAny f (o n) then o n else topFrom f o (8 - (n + 1)) (n + 1)) := by
        have := ht.out
        rw [show 8 - n = (8 - (n + 1)) + 1 by omega] at this
        exact this
      clear ht
      have hn0 : (0 : Int) ≤ (n : Int) := by omega
      have hn8 : (n : Int) < 8 := by omega
      have c0 : ∀ u : Sub wr, u.1.cell? ⟨w.heap.size, 0, none⟩ = some (.int .u64 (wd f 0)) := fun u => (h0.sub u).cells.1
      have c1 : ∀ u : Sub wr, u.1.cell? ⟨w.heap.size, 1, none⟩ = some (.int .u64 (wd f 1)) := fun u => (h0.sub u).cells.2.1
      have c2 : ∀ u : Sub wr, u.1.cell? ⟨w.heap.size, 2, none⟩ = some (.int .u64 (wd f 2)) := fun u => (h0.sub u).cells.2.2.1
      have c3 : ∀ u : Sub wr, u.1.cell? ⟨w.heap.size, 3, none⟩ = some (.int .u64 (wd f 3)) := fun u => (h0.sub u).cells.2.2.2
      have d0 : ∀ u : Sub wr, u.1.cell? ⟨w.heap.size + 1, n, none⟩ = some (.int .i64 (o n)) := fun u => (h1.sub u).cell n hlt
      go_wp2
      refine wp_region_quiet_all (C := fun w' => ∃ u : Sub wr, w' = u.1) (by kernel_rfl) (by kernel_rfl) (InSub.drew wr) ?_
      iterate 4 (go_big_quiet_step (fail))
      go_big_quiet_step (exact sub_below (refDepends f (o n) _))
      refine wpQuiet_nil ?_
      clear c0 c1 c2 c3 d0
      intro w' hw'
      obtain ⟨u, rfl⟩ := hw'
      have k0 := h0.sub u
      have k1 := h1.sub u
      have kb := hb.trans (u.2.mono hb.size)
      clear h0 h1 hb
      generalize u.1 = w1 at *
      have hc := k1.cell n hlt
      cases hd : depAny f (o n)
      · rw [hd] at Hs
        go_wp2
        exact ⟨⟨n + 1, by omega, by go_num, Hs.out, k0, k1, kb⟩, by simp [intOf]; omega⟩
      · rw [hd] at Hs
        go_wp2
        go_ret
        exact ⟨ret_int Hs.out.symm, kb⟩
    · obtain rfl : n = 8 := by omega
      go_wp2
      go_ret
      exact ⟨ret_int ht.out.symm, hb⟩

end Go.Proofs.YtipocmbplcdmjaaGreatDoor

/-
  The document's store: Table, Build.
-/
namespace Go.Proofs.YtipocmbplcdmjaaGreatDoor
open Go Go.RowKit

theorem MS.tab_const' {s : MS} {n : Int} (h : s.has n = false) : s.tab n = ofRow fun _ => (n == 1) := fn_ext fun k hk => by
  rw [MS.tab_bit _ _ hk, MS.val_const _ h, ofRow_bit _ _ hk]

set_option maxRecDepth 100000 in
set_option maxHeartbeats 2000000 in
theorem refSTable_const {w : World} {b : Nat} {F : Nat → Prop} {s : MS} (h : RefSAt w b F s) (ok : s.Base) (n : Int) (hn : n ≤ 9223372036854775807) (hh : s.has n = false) :
    Calls Tryz.prog 26 #[.pointer (some ⟨b, 0, none⟩), .int .i64 n] w fun e w' => e = .returned (fv (s.tab n)) ∧ Below w.heap.size w w' := by
  have HN := fun W (hb : Below w.heap.size w W) => refSNode (h.below hb) ok n hn
  simp only [nodeV, hh, Bool.false_eq_true, if_false, nv] at HN
  rw [MS.tab_const' hh]
  have HC := fun W => refConst (n == 1) W
  generalize (ofRow fun _ => (n == 1)) = R at *
  simp only [fv] at HC
  clear h hh
  go_enter Tryz.func26, Tryz.ntmps26
  go_wp2_with fail
  have hR := Holds.new0 w w.heap.size rfl
  have hb := (Below.refl w.heap.size w).alloc (Nat.le_refl _) (.cells #[.int .u64 0, .int .u64 0, .int .u64 0, .int .u64 0] 48)
  generalize w.alloc (.cells #[.int .u64 0, .int .u64 0, .int .u64 0, .int .u64 0] 48) = W at *
  refine (HN _ hb).mono ?_
  rintro e w1 ⟨rfl, hb1⟩
  have hb2 := hb.trans (hb1.mono hb.size)
  replace hR := hR.keep hb1 (by have := hR.lt; exact this)
  replace hR := hR.alloc (.cells #[.int .i64 0, .int .i64 0, .int .i64 0] 69)
  replace hb2 := hb2.alloc hb2.size (.cells #[.int .i64 0, .int .i64 0, .int .i64 0] 69)
  clear HN hb hb1
  go_wp2_with fail
  generalize w1.alloc (.cells #[.int .i64 0, .int .i64 0, .int .i64 0] 69) = W2 at *
  refine (HC _).mono ?_
  rintro e w2 ⟨rfl, hb3⟩
  replace hR := hR.keep hb3 hR.lt
  replace hb2 := hb2.trans (hb3.mono hb2.size)
  obtain ⟨c0, c1, c2, c3⟩ := hR.cells
  obtain ⟨z0, z1, z2, z3⟩ := hR.free
  have hR4 := Lib.hid (hR.set4 R)
  clear hR HC hb3
  go_wp2
  exact bodyPost_ret (ret_holds Tryz.results26 rfl hR4.out) rfl ⟨rfl, below_set4 hb2 (Nat.le_refl _)⟩

set_option maxRecDepth 100000 in
set_option maxHeartbeats 2000000 in
theorem refSTable {b : Nat} {F : Nat → Prop} {s : MS} (ok : s.Ok) : ∀ (k : Nat) (n : Int) (w : World), RefSAt w b F s → s.dep n ≤ k → n ≤ 9223372036854775807 →
    Calls Tryz.prog 26 #[.pointer (some ⟨b, 0, none⟩), .int .i64 n] w fun e w' => e = .returned (fv (s.tab n)) ∧ Below w.heap.size w w' := by
  intro k
  induction k with
  | zero =>
    intro n w h hd hn
    have hh : s.has n = false := by
      cases hh : s.has n
      · rfl
      · have := ok.dep_pos hh; omega
    exact refSTable_const h ok.toBase n hn hh
  | succ k ih =>
    intro n w h hd hn
    cases hh : s.has n
    · exact refSTable_const h ok.toBase n hn hh
    · have HN := fun W (hb : Below w.heap.size w W) => refSNode (h.below hb) ok.toBase n hn
      simp only [nodeV, hh, if_true, nv] at HN
      have d1 := ok.dep_behind hh (ok.lo n hh)
      have d2 := ok.dep_behind hh (ok.hi n hh)
      have b1 := ok.toBase.behind_le (ok.lo n hh)
      have b2 := ok.toBase.behind_le (ok.hi n hh)
      have I1 := fun W (hb : Below w.heap.size w W) => ih (s.nd n).lo W (h.below hb) (by omega) (by omega)
      have I2 := fun W (hb : Below w.heap.size w W) => ih (s.nd n).hi W (h.below hb) (by omega) (by omega)
      have hT := ok.tab_node hh
      rw [hT]
      have HV := fun W => refVar (s.nd n).var W
      have HI := fun W => refIte (varAny (s.nd n).var) (s.tab (s.nd n).hi) (s.tab (s.nd n).lo) W
      clear hT d1 d2 b1 b2 ih hd
      generalize s.nd n = x at *
      obtain ⟨x0, x1, x2⟩ := x
      dsimp only at *
      generalize (varAny x0 &&& s.tab x2 ||| ~~~varAny x0 &&& s.tab x1) = R at *
      generalize s.tab x1 = f1 at *
      generalize s.tab x2 = f2 at *
      generalize varAny x0 = f0 at *
      simp only [fv] at I1 I2 HV HI
      go_enter Tryz.func26, Tryz.ntmps26
      go_wp2_with fail
      have hR := Holds.new0 w w.heap.size rfl
      have hb := (Below.refl w.heap.size w).alloc (Nat.le_refl _) (.cells #[.int .u64 0, .int .u64 0, .int .u64 0, .int .u64 0] 48)
      generalize w.alloc (.cells #[.int .u64 0, .int .u64 0, .int .u64 0, .int .u64 0] 48) = W at *
      refine (HN _ hb).mono ?_
      rintro e w1 ⟨rfl, hb1⟩
      have hb2 := hb.trans (hb1.mono hb.size)
      replace hR := hR.keep hb1 (by have := hR.lt; exact this)
      have hRl := hR.lt
      have hX := HoldsN.new w1 ⟨x0, x1, x2⟩
      replace hR := hR.alloc (.cells #[.int .i64 x0, .int .i64 x1, .int .i64 x2] 69)
      replace hb2 := hb2.alloc hb2.size (.cells #[.int .i64 x0, .int .i64 x1, .int .i64 x2] 69)
      dsimp only at hX
      clear HN hb hb1
      go_wp2
      generalize w1.alloc (.cells #[.int .i64 x0, .int .i64 x1, .int .i64 x2] 69) = W2 at *
      generalize w1.heap.size = bX at *
      have e0 := fun u : Sub W2 => (hX.sub u).cells.1
      have e1 := fun u : Sub W2 => (hX.sub u).cells.2.1
      have e2 := fun u : Sub W2 => (hX.sub u).cells.2.2
      dsimp only at e0 e1 e2
      have J1 := fun u : Sub W2 => I1 _ (hb2.trans (u.2.mono hb2.size))
      have J2 := fun u : Sub W2 => I2 _ (hb2.trans (u.2.mono hb2.size))
      refine wp_region_quiet_tail (C := fun w' => ∃ u : Sub W2, w' = u.1) 12 (by kernel_rfl) (by kernel_rfl) (InSub.drew W2) ?_
      simp only [List.take_succ_cons, List.take_zero]
      iterate 2 (go_big_quiet_step (fail))
      go_big_quiet_step (exact subBelow (HV _))
      iterate 3 (go_big_quiet_step (fail))
      go_big_quiet_step (exact subBelow (J2 _))
      iterate 3 (go_big_quiet_step (fail))
      go_big_quiet_step (exact subBelow (J1 _))
      go_big_quiet_step (exact subBelow (HI _))
      refine wpQuiet_nil ?_
      clear e0 e1 e2 J1 J2 HV HI I1 I2
      intro w' hw'
      obtain ⟨u, rfl⟩ := hw'
      replace hR := hR.keep u.2 hR.lt
      replace hb2 := hb2.trans (u.2.mono hb2.size)
      generalize u.1 = W3 at *
      obtain ⟨c0, c1, c2, c3⟩ := hR.cells
      obtain ⟨z0, z1, z2, z3⟩ := hR.free
      have hR4 := Lib.hid (hR.set4 R)
      clear hR hX
      simp only [List.drop_succ_cons, List.drop_zero]
      go_wp2
      exact bodyPost_ret (ret_holds Tryz.results26 rfl hR4.out) rfl ⟨rfl, below_set4 hb2 (Nat.le_refl _)⟩

theorem MS.Base.there_le {s : MS} (ok : s.Base) {n : Int} (h : s.there n = true) : n ≤ 9223372036854775807 := by
  rcases MS.there_cases h with ⟨h, _⟩ | h
  · omega
  · have := ok.has_le h; omega

set_option maxRecDepth 100000 in
set_option maxHeartbeats 2000000 in
theorem refSBuild_const {w : World} {b : Nat} {F : Nat → Prop} {s : MS} (h : RefSAt w b F s) (f : Fn) (ht : topF f s.o < 0) :
    Calls Tryz.prog 17 #[.pointer (some ⟨b, 0, none⟩), fv f] w (MkPost w b F (constN f, 0, s)) := by
  have HT := fun W => refTop f s.o W
  have HA := fun W => refAt f 0 W
  have hend : ∀ w', Below w.heap.size w w' → ∃ F', RefSAt w' b F' s ∧ Keeps F w w' ∧ Within w F F' := fun w' hb => ⟨F, h.below hb, Keeps.of_below hb _, Within.refl _ _⟩
  unfold constN MkPost
  generalize topF f s.o = v at *
  generalize atF f 0 = z at *
  obtain ⟨bA, FA, vN, rfl, hR⟩ := h
  simp only [fv, ov] at *
  go_enter Tryz.func17, Tryz.ntmps17
  go_wp2
  have hF := Holds.new w f w.heap.size rfl
  have hb := (Below.refl w.heap.size w).alloc (Nat.le_refl _) (.cells #[.int .u64 (wd f 0), .int .u64 (wd f 1), .int .u64 (wd f 2), .int .u64 (wd f 3)] 48)
  generalize w.alloc (.cells #[.int .u64 (wd f 0), .int .u64 (wd f 1), .int .u64 (wd f 2), .int .u64 (wd f 3)] 48) = W at *
  have hRW := hR.below hb
  have o0 := fun u : Sub W => (hRW.sub u).order.1
  have o1 := fun u : Sub W => (hRW.sub u).order.2.1
  have o2 := fun u : Sub W => (hRW.sub u).order.2.2.1
  have o3 := fun u : Sub W => (hRW.sub u).order.2.2.2.1
  have o4 := fun u : Sub W => (hRW.sub u).order.2.2.2.2.1
  have o5 := fun u : Sub W => (hRW.sub u).order.2.2.2.2.2.1
  have o6 := fun u : Sub W => (hRW.sub u).order.2.2.2.2.2.2.1
  have o7 := fun u : Sub W => (hRW.sub u).order.2.2.2.2.2.2.2
  have c0 := fun u : Sub W => (hF.sub u).cells.1
  have c1 := fun u : Sub W => (hF.sub u).cells.2.1
  have c2 := fun u : Sub W => (hF.sub u).cells.2.2.1
  have c3 := fun u : Sub W => (hF.sub u).cells.2.2.2
  refine wp_region_quiet_all (C := fun w' => ∃ u : Sub W, w' = u.1) (by kernel_rfl) (by kernel_rfl) (InSub.drew W) ?_
  iterate 5 (go_big_quiet_step (fail))
  go_big_quiet_step (exact subBelow (HT _))
  go_big_quiet_step (fail)
  refine wpQuiet_nil ?_
  clear o0 o1 o2 o3 o4 o5 o6 o7 c0 c1 c2 c3 hRW HT
  intro w' hw'
  obtain ⟨u, rfl⟩ := hw'
  replace hF := hF.keep u.2 hF.lt
  replace hb := hb.trans (u.2.mono hb.size)
  generalize u.1 = W2 at *
  obtain ⟨c0, c1, c2, c3⟩ := hF.cells
  go_wp2_with fail
  refine (HA _).mono ?_
  rintro e w3 ⟨rfl, hb3⟩
  have hb4 := hb.trans (hb3.mono hb.size)
  clear HA c0 c1 c2 c3
  cases z
  · go_wp2
    go_ret2
    exact ⟨rfl, hend _ hb4⟩
  · go_wp2
    go_ret2
    exact ⟨rfl, hend _ hb4⟩

set_option maxRecDepth 100000 in
set_option maxHeartbeats 4000000 in
theorem refSBuild {b : Nat} : ∀ (k : Nat) (s : MS) (f : Fn) (w : World) (F : Nat → Prop), RefSAt w b F s → s.Ok → supN f ≤ k →
    Calls Tryz.prog 17 #[.pointer (some ⟨b, 0, none⟩), fv f] w (MkPost w b F (MS.bld k s f)) := by
  intro k
  induction k with
  | zero =>
    intro s f w F h ok hk
    refine refSBuild_const h f ?_
    have := (top_neg (f := f) (full_of ok.order)).2 (supN_zero (f := f) (by omega))
    omega
  | succ k ih =>
    intro s f w F h ok hk
    unfold MS.bld
    by_cases ht : topF f s.o < 0
    · rw [if_pos ht]
      exact refSBuild_const h f ht
    · rw [if_neg ht]
      have ht0 : 0 ≤ topF f s.o := by omega
      have k0 := supN_cof f s.o false ht0
      have k1 := supN_cof f s.o true ht0
      have ra := MS.bld_spec k s (cofAny f (topF f s.o) false) ok (by omega)
      have IA := fun W (hb : Below w.heap.size w W) => ih s (cofAny f (topF f s.o) false) W F (h.below hb) ok (by omega)
      have rb := fun hA => MS.bld_spec k (MS.bld k s (cofAny f (topF f s.o) false)).2.2 (cofAny f (topF f s.o) true) hA (by omega)
      have IB := fun W F' hW hA => ih (MS.bld k s (cofAny f (topF f s.o) false)).2.2 (cofAny f (topF f s.o) true) W F' hW hA (by omega)
      have HT := fun W => refTop f s.o W
      have HC0 := fun W => refCof f (topF f s.o) false W
      have HC1 := fun W => refCof f (topF f s.o) true W
      dsimp only
      generalize hA : MS.bld k s (cofAny f (topF f s.o) false) = A at *
      generalize hB : MS.bld k A.2.2 (cofAny f (topF f s.o) true) = B at *
      have hFlt := h.lt
      obtain ⟨bA, FA, vN, rfl, hR⟩ := h
      generalize topF f s.o = v at *
      generalize cofAny f v false = f0 at *
      generalize cofAny f v true = f1 at *
      clear ih hA hB k0 k1 hk
      obtain ⟨A0, A1, sA⟩ := A
      obtain ⟨B0, B1, sB⟩ := B
      dsimp only at *
      generalize hr : (if A1 ≠ 0 then ((0, A1, sA) : Int × Int × MS) else if B1 ≠ 0 then (0, B1, sB) else sB.mk v A0 B0 []) = r
      simp only [fv, ov] at *
      obtain ⟨okA, _, _, resA, _⟩ := ra
      unfold MkPost at *
      dsimp only at IA IB
      go_enter Tryz.func17, Tryz.ntmps17
      go_wp2
      have hF := Holds.new w f w.heap.size rfl
      have hb := (Below.refl w.heap.size w).alloc (Nat.le_refl _) (.cells #[.int .u64 (wd f 0), .int .u64 (wd f 1), .int .u64 (wd f 2), .int .u64 (wd f 3)] 48)
      generalize w.alloc (.cells #[.int .u64 (wd f 0), .int .u64 (wd f 1), .int .u64 (wd f 2), .int .u64 (wd f 3)] 48) = W at *
      have hRW := hR.below hb
      have o0 := fun u : Sub W => (hRW.sub u).order.1
      have o1 := fun u : Sub W => (hRW.sub u).order.2.1
      have o2 := fun u : Sub W => (hRW.sub u).order.2.2.1
      have o3 := fun u : Sub W => (hRW.sub u).order.2.2.2.1
      have o4 := fun u : Sub W => (hRW.sub u).order.2.2.2.2.1
      have o5 := fun u : Sub W => (hRW.sub u).order.2.2.2.2.2.1
      have o6 := fun u : Sub W => (hRW.sub u).order.2.2.2.2.2.2.1
      have o7 := fun u : Sub W => (hRW.sub u).order.2.2.2.2.2.2.2
      have c0 := fun u : Sub W => (hF.sub u).cells.1
      have c1 := fun u : Sub W => (hF.sub u).cells.2.1
      have c2 := fun u : Sub W => (hF.sub u).cells.2.2.1
      have c3 := fun u : Sub W => (hF.sub u).cells.2.2.2
      refine wp_region_quiet_all (C := fun w' => ∃ u : Sub W, w' = u.1) (by kernel_rfl) (by kernel_rfl) (InSub.drew W) ?_
      iterate 5 (go_big_quiet_step (fail))
      go_big_quiet_step (exact subBelow (HT _))
      go_big_quiet_step (fail)
      refine wpQuiet_nil ?_
      clear o0 o1 o2 o3 o4 o5 o6 o7 c0 c1 c2 c3 hRW HT
      intro w' hw'
      obtain ⟨u, rfl⟩ := hw'
      replace hF := hF.keep u.2 hF.lt
      replace hb := hb.trans (u.2.mono hb.size)
      generalize u.1 = W2 at *
      obtain ⟨c0, c1, c2, c3⟩ := hF.cells
      go_wp2_with fail
      refine (HC0 _).mono ?_
      rintro e w3 ⟨rfl, hb3⟩
      replace hF := hF.keep hb3 hF.lt
      replace hb := hb.trans (hb3.mono hb.size)
      clear HC0 c0 c1 c2 c3 hb3
      go_wp2_with fail
      refine (IA _ hb).mono ?_
      rintro e w4 ⟨rfl, FA4, hA4, hK4, hW4⟩
      have hBn : ¬ footS b FA vN w.heap.size := fun e => by have := hFlt _ e; omega
      have hF4 : Holds w4 w.heap.size f := by
        have := hK4.block w.heap.size hF.lt hBn
        unfold Holds at *
        rw [this]; exact hF
      have HK := (Keeps.of_below hb (footS b FA vN)).trans hK4 (Within.refl _ _)
      have HW := (Within.refl w (footS b FA vN)).trans hW4 hb.size
      have hsz4 := hF.lt
      clear IA hK4 hF hb hR
      by_cases hA1 : A1 = 0
      · subst hA1
        rw [if_neg (by decide)] at hr
        obtain ⟨thA, _⟩ := resA rfl
        obtain ⟨c0, c1, c2, c3⟩ := hF4.cells
        go_wp2_with fail
        refine (HC1 _).mono ?_
        rintro e w5 ⟨rfl, hb5⟩
        clear HC1 c0 c1 c2 c3
        obtain ⟨okB, extB, _, resB, _⟩ := rb okA
        go_wp2_with fail
        refine (IB _ _ (hA4.below hb5) okA).mono ?_
        rintro e w6 ⟨rfl, FB6, hB6, hK6, hW6⟩
        replace HK := HK.trans ((Keeps.of_below hb5 FA4).trans hK6 (Within.refl _ _)) HW
        replace HW := HW.trans ((Within.refl w4 FA4).trans hW6 hb5.size) (by have := hA4.lt; exact (show w.heap.size ≤ w4.heap.size from by have := hF4.lt; omega))
        clear IB hK6 hb5
        by_cases hB1 : B1 = 0
        · subst hB1
          rw [if_neg (by decide)] at hr
          obtain ⟨thB, _⟩ := resB rfl
          have HM := refSMk hB6 okB.toBase v A0 B0 (okB.toBase.there_le (extB.there thA)) (okB.toBase.there_le thB)
          rw [hr] at HM
          unfold MkPost at HM
          go_wp2_with fail
          refine HM.mono ?_
          rintro e w7 ⟨rfl, F7, hM7, hK7, hW7⟩
          go_wp2
          go_ret2
          exact ⟨rfl, F7, hM7, HK.trans hK7 HW, HW.trans hW7 HK.size⟩
        · have hBb : (B1 == 0) = false := by rw [beq_eq_false_iff_ne]; exact hB1
          rw [if_pos hB1] at hr
          subst hr
          go_wp2
          go_ret2
          exact ⟨rfl, FB6, hB6, HK, HW⟩
      · have hAb : (A1 == 0) = false := by rw [beq_eq_false_iff_ne]; exact hA1
        rw [if_pos hA1] at hr
        subst hr
        clear IB rb
        go_wp2
        go_ret2
        exact ⟨rfl, FA4, hA4, HK, HW⟩

end Go.Proofs.YtipocmbplcdmjaaGreatDoor

/-
  Mathematics of layer 8: what is reached. Nothing of the program is read here.
-/
namespace Go.Proofs.YtipocmbplcdmjaaGreatDoor

section
variable {s : MS} {roots work : List Int} {seen : List Bool} {i : Nat}
end

end Go.Proofs.YtipocmbplcdmjaaGreatDoor
