/-
  Walks of package size: Plain and Top.
-/
import Derived.Test.YtgccgjeehggagaaDoorCof
import Derived.Test.YtgccgjeehggagaaDoorMath3h
import Derived.Test.YtgccgjeehggagaaDoorRefTop
namespace Go.Proofs.YtgccgjeehggagaaDoor
open Go Go.RowKit Go.Maps
theorem run_neq_fvU (g f : Fn) (w : World) : (binOp .neq 26 (fv g) (.agg #[.int .u64 (wd f 0), .int .u64 (wd f 1), .int .u64 (wd f 2), .int .u64 (wd f 3)])).run Tryd.prog w = .ok (.bool (!(g == f))) w := run_neq_fv g f w
theorem run_guard_fvU (op : BinOp) (x y : Operand) (g f : Fn) (w : World) : (eqGuard op 26 x y (fv g) (.agg #[.int .u64 (wd f 0), .int .u64 (wd f 1), .int .u64 (wd f 2), .int .u64 (wd f 3)])).run Tryd.prog w = .ok () w := run_guard_fv op x y g f w
attribute [local go_sem] run_eql_fv run_neq_fv run_guard_fv run_neq_fvU run_guard_fvU

theorem HoldsO.put {w : World} {b : Nat} {o : Nat → Int} (h : HoldsO w b o) (n : Nat) (hn : n < 8) (x : Int) : HoldsO (w.setCell ⟨b, n, none⟩ (.int .i64 x)) b (fun i => if i = n then x else o i) := by
  have h' := heap_setCell_same w b n _ _ (.int .i64 x) h
  unfold HoldsO
  rw [h']
  rcases (by omega : n = 0 ∨ n = 1 ∨ n = 2 ∨ n = 3 ∨ n = 4 ∨ n = 5 ∨ n = 6 ∨ n = 7) with rfl | rfl | rfl | rfl | rfl | rfl | rfl | rfl <;> rfl

theorem HoldsO.free {w : World} {b : Nat} {o : Nat → Int} (h : HoldsO w b o) (n : Nat) : w.frozen? ⟨b, n, none⟩ = false := frozen_of_row _ _ _ _ _ h

theorem HoldsO.other {w : World} {b c i : Nat} {o : Nat → Int} {x : Value} (h : HoldsO w b o) (hne : b ≠ c) : HoldsO (w.setCell ⟨c, i, none⟩ x) b o := by
  unfold HoldsO; rw [heap_setCell_other _ _ _ _ hne]; exact h

/-- Block b holds these eight numbers. -/
def Has8 (w : World) (b : Nat) (x0 x1 x2 x3 x4 x5 x6 x7 : Int) : Prop := w.heap[b]? = some (.cells #[.int .i64 x0, .int .i64 x1, .int .i64 x2, .int .i64 x3, .int .i64 x4, .int .i64 x5, .int .i64 x6, .int .i64 x7] 23 (0, 0))
theorem Has8.set0 {w : World} {b : Nat} {x0 x1 x2 x3 x4 x5 x6 x7 : Int} (h : Has8 w b x0 x1 x2 x3 x4 x5 x6 x7) (y : Int) : Has8 (w.setCell ⟨b, 0, none⟩ (.int .i64 y)) b y x1 x2 x3 x4 x5 x6 x7 := heap_setCell_same _ _ _ _ _ _ h
theorem Has8.set1 {w : World} {b : Nat} {x0 x1 x2 x3 x4 x5 x6 x7 : Int} (h : Has8 w b x0 x1 x2 x3 x4 x5 x6 x7) (y : Int) : Has8 (w.setCell ⟨b, 1, none⟩ (.int .i64 y)) b x0 y x2 x3 x4 x5 x6 x7 := heap_setCell_same _ _ _ _ _ _ h
theorem Has8.set2 {w : World} {b : Nat} {x0 x1 x2 x3 x4 x5 x6 x7 : Int} (h : Has8 w b x0 x1 x2 x3 x4 x5 x6 x7) (y : Int) : Has8 (w.setCell ⟨b, 2, none⟩ (.int .i64 y)) b x0 x1 y x3 x4 x5 x6 x7 := heap_setCell_same _ _ _ _ _ _ h
theorem Has8.set3 {w : World} {b : Nat} {x0 x1 x2 x3 x4 x5 x6 x7 : Int} (h : Has8 w b x0 x1 x2 x3 x4 x5 x6 x7) (y : Int) : Has8 (w.setCell ⟨b, 3, none⟩ (.int .i64 y)) b x0 x1 x2 y x4 x5 x6 x7 := heap_setCell_same _ _ _ _ _ _ h
theorem Has8.set4 {w : World} {b : Nat} {x0 x1 x2 x3 x4 x5 x6 x7 : Int} (h : Has8 w b x0 x1 x2 x3 x4 x5 x6 x7) (y : Int) : Has8 (w.setCell ⟨b, 4, none⟩ (.int .i64 y)) b x0 x1 x2 x3 y x5 x6 x7 := heap_setCell_same _ _ _ _ _ _ h
theorem Has8.set5 {w : World} {b : Nat} {x0 x1 x2 x3 x4 x5 x6 x7 : Int} (h : Has8 w b x0 x1 x2 x3 x4 x5 x6 x7) (y : Int) : Has8 (w.setCell ⟨b, 5, none⟩ (.int .i64 y)) b x0 x1 x2 x3 x4 y x6 x7 := heap_setCell_same _ _ _ _ _ _ h
theorem Has8.set6 {w : World} {b : Nat} {x0 x1 x2 x3 x4 x5 x6 x7 : Int} (h : Has8 w b x0 x1 x2 x3 x4 x5 x6 x7) (y : Int) : Has8 (w.setCell ⟨b, 6, none⟩ (.int .i64 y)) b x0 x1 x2 x3 x4 x5 y x7 := heap_setCell_same _ _ _ _ _ _ h
theorem Has8.set7 {w : World} {b : Nat} {x0 x1 x2 x3 x4 x5 x6 x7 : Int} (h : Has8 w b x0 x1 x2 x3 x4 x5 x6 x7) (y : Int) : Has8 (w.setCell ⟨b, 7, none⟩ (.int .i64 y)) b x0 x1 x2 x3 x4 x5 x6 y := heap_setCell_same _ _ _ _ _ _ h
theorem HoldsO.set8 {w : World} {b : Nat} {o : Nat → Int} (h : HoldsO w b o) (p : Nat → Int) :
    HoldsO ((((((((w.setCell ⟨b, 0, none⟩ (.int .i64 (p 0))).setCell ⟨b, 1, none⟩ (.int .i64 (p 1))).setCell ⟨b, 2, none⟩ (.int .i64 (p 2))).setCell ⟨b, 3, none⟩ (.int .i64 (p 3))).setCell ⟨b, 4, none⟩ (.int .i64 (p 4))).setCell ⟨b, 5, none⟩ (.int .i64 (p 5))).setCell ⟨b, 6, none⟩ (.int .i64 (p 6))).setCell ⟨b, 7, none⟩ (.int .i64 (p 7))) b p := by
  have h0 : Has8 w b (o 0) (o 1) (o 2) (o 3) (o 4) (o 5) (o 6) (o 7) := h
  exact ((((((((h0.set0 (p 0)).set1 (p 1)).set2 (p 2)).set3 (p 3)).set4 (p 4)).set5 (p 5)).set6 (p 6)).set7 (p 7))

theorem below_set8 {B : Nat} {a w : World} {b : Nat} (h : Below B a w) (hB : B ≤ b) (p : Nat → Int) :
    Below B a ((((((((w.setCell ⟨b, 0, none⟩ (.int .i64 (p 0))).setCell ⟨b, 1, none⟩ (.int .i64 (p 1))).setCell ⟨b, 2, none⟩ (.int .i64 (p 2))).setCell ⟨b, 3, none⟩ (.int .i64 (p 3))).setCell ⟨b, 4, none⟩ (.int .i64 (p 4))).setCell ⟨b, 5, none⟩ (.int .i64 (p 5))).setCell ⟨b, 6, none⟩ (.int .i64 (p 6))).setCell ⟨b, 7, none⟩ (.int .i64 (p 7))) :=
  (((((((h.setCell (p := ⟨b, 0, none⟩) hB _).setCell (p := ⟨b, 1, none⟩) hB _).setCell (p := ⟨b, 2, none⟩) hB _).setCell (p := ⟨b, 3, none⟩) hB _).setCell (p := ⟨b, 4, none⟩) hB _).setCell (p := ⟨b, 5, none⟩) hB _).setCell (p := ⟨b, 6, none⟩) hB _).setCell (p := ⟨b, 7, none⟩) hB _

/-- The plain order as far as n, 0 behind. -/
def plainTo (n : Nat) (i : Nat) : Int := if i < n then (i : Int) else 0
theorem plainTo_put (n : Nat) : (fun i => if i = n then (n : Int) else plainTo n i) = plainTo (n + 1) := by
  funext i
  unfold plainTo
  by_cases h : i = n
  · subst h; simp
  · by_cases h2 : i < n
    · rw [if_neg h, if_pos h2, if_pos (by omega)]
    · rw [if_neg h, if_neg h2, if_neg (by omega)]

theorem run_index_ov (o : Nat → Int) (n : Nat) (hn : n < 8) (w : World) : (Instr.index 23 (.agg #[.int .i64 (o 0), .int .i64 (o 1), .int .i64 (o 2), .int .i64 (o 3), .int .i64 (o 4), .int .i64 (o 5), .int .i64 (o 6), .int .i64 (o 7)]) (.int .i64 (n : Int))).run Tryd.prog w = .ok (.int .i64 (o n)) w := by
  have h1 : (0 : Int) ≤ (n : Int) ∧ (n : Int) < 8 := ⟨by omega, by omega⟩
  rcases (by omega : n = 0 ∨ n = 1 ∨ n = 2 ∨ n = 3 ∨ n = 4 ∨ n = 5 ∨ n = 6 ∨ n = 7) with rfl | rfl | rfl | rfl | rfl | rfl | rfl | rfl <;> simp [Instr.index, run_underlying Tryd.underlying23, asIntOf, go_sem]

theorem ret_holdsO {fn : Func} {p : Tmp} {tmps : Array Value} {w : World} {b : Nat} {o : Nat → Int} (h : fn.results = #[.cell p 23]) (hp : tmps.getD p undef = .pointer (some ⟨b, 0, none⟩)) (hh : HoldsO w b o) :
    (results fn tmps).run Tryd.prog w = .ok (ov o) w :=
  results_cell_row h tmps w b _ _ _ _ hp hh Tryd.underlying23 rfl (by kernel_rfl)

set_option maxRecDepth 100000 in
set_option maxHeartbeats 1000000 in
theorem sizePlain (w : World) (_ : LowW w) : Calls Tryd.prog 6 #[] w fun e w' => e = .returned (ov fun i => (i : Int)) ∧ Below w.heap.size w w' := by
  go_enter Tryd.func6, Tryd.ntmps6
  go_wp2
  go_loopw [3] (fun i wr => ∃ n : Nat, n ≤ 8 ∧ i = .int .i64 n ∧ HoldsO wr (w.heap.size + 1) (plainTo n) ∧ HoldsO wr w.heap.size (plainTo 0) ∧ Below w.heap.size w wr) (fun i _ => 8 - (intOf i).toNat)
  case atStart => exact ⟨0, Nat.zero_le _, rfl, HoldsO.new _ (plainTo 0) _, (HoldsO.new _ (plainTo 0) _).alloc _, by go_grown⟩
  case round =>
    obtain ⟨n, hn, rfl, h1, h0, hb⟩ := hrel
    by_cases hlt : n < 8
    · have hn0 : (0 : Int) ≤ (n : Int) := by omega
      have hn8 : (n : Int) < 8 := by omega
      have c0 := h1.cell n hlt
      have z0 := h1.free n
      go_wp2
      exact ⟨⟨n + 1, by omega, by go_num, by rw [← plainTo_put]; exact h1.put n hlt _, h0.other (by omega), hb.setCell (by simp) _⟩, by simp [intOf]; omega⟩
    · obtain rfl : n = 8 := by omega
      have c0 := h1.cell 0 (by decide)
      have c1 := h1.cell 1 (by decide)
      have c2 := h1.cell 2 (by decide)
      have c3 := h1.cell 3 (by decide)
      have c4 := h1.cell 4 (by decide)
      have c5 := h1.cell 5 (by decide)
      have c6 := h1.cell 6 (by decide)
      have c7 := h1.cell 7 (by decide)
      have d0 := h0.cell 0 (by decide)
      have d1 := h0.cell 1 (by decide)
      have d2 := h0.cell 2 (by decide)
      have d3 := h0.cell 3 (by decide)
      have d4 := h0.cell 4 (by decide)
      have d5 := h0.cell 5 (by decide)
      have d6 := h0.cell 6 (by decide)
      have d7 := h0.cell 7 (by decide)
      have z0 := h0.free 0
      have z1 := h0.free 1
      have z2 := h0.free 2
      have z3 := h0.free 3
      have z4 := h0.free 4
      have z5 := h0.free 5
      have z6 := h0.free 6
      have z7 := h0.free 7
      go_wp2
      exact bodyPost_ret (ret_holdsO Tryd.results6 rfl (HoldsO.set8 h0 (plainTo 8))) rfl ⟨rfl, below_set8 hb (Nat.le_refl _) _⟩

set_option maxRecDepth 100000 in
set_option maxHeartbeats 1000000 in
theorem sizeTop (f : Fn) (o : Nat → Int) (w : World) (hl : LowW w) :
    Calls Tryd.prog 8 #[fv f, ov o] w fun e w' => e = .returned (.int .i64 (topF f o)) ∧ Below w.heap.size w w' := by
  have Hl := Lib.hid hl
  clear hl
  simp only [fv, ov]
  go_enter Tryd.func8, Tryd.ntmps8
  go_wp2
  go_loopw [8] (fun i wr => ∃ n : Nat, n ≤ 8 ∧ i = .int .i64 n ∧ Hid (topF f o = topFrom f o (8 - n) n) ∧ Holds wr w.heap.size f ∧ Below w.heap.size w wr) (fun i _ => 8 - (intOf i).toNat)
  case atStart => exact ⟨0, Nat.zero_le _, rfl, rfl, (Holds.new _ _ _).alloc _, by go_grown⟩
  case round =>
    obtain ⟨n, hn, rfl, ht, h0, hb⟩ := hrel
    by_cases hlt : n < 8
    · have Hs : Hid (topF f o = if depAny f (o n) then o n else topFrom f o (8 - (n + 1)) (n + 1)) := by
        have := ht.out
        rw [show 8 - n = (8 - (n + 1)) + 1 by omega] at this
        exact this
      clear ht
      have hn0 : (0 : Int) ≤ (n : Int) := by omega
      have hn8 : (n : Int) < 8 := by omega
      have c0 : ∀ u : Sub wr, u.1.cell? ⟨w.heap.size, 0, none⟩ = some (.int .u64 (wd f 0)) := fun u => (h0.sub u).cells.1
      have c1 : ∀ u : Sub wr, u.1.cell? ⟨w.heap.size, 1, none⟩ = some (.int .u64 (wd f 1)) := fun u => (h0.sub u).cells.2.1
      have c2 : ∀ u : Sub wr, u.1.cell? ⟨w.heap.size, 2, none⟩ = some (.int .u64 (wd f 2)) := fun u => (h0.sub u).cells.2.2.1
      have c3 : ∀ u : Sub wr, u.1.cell? ⟨w.heap.size, 3, none⟩ = some (.int .u64 (wd f 3)) := fun u => (h0.sub u).cells.2.2.2
      have hix := run_index_ov o n hlt wr
      have hlW : ∀ u : Sub wr, LowW u.1 := fun u => Hl.out.keep (hb.trans (u.2.mono hb.size))
      go_wp2
      refine wp_region_quiet_all (C := fun w' => ∃ u : Sub wr, w' = u.1) (by kernel_rfl) (by kernel_rfl) (InSub.drew wr) ?_
      iterate 2 (go_big_quiet_step (fail))
      go_big_quiet_step (exact sub_below (cofCof f (o n) false _ (hlW _)))
      iterate 2 (go_big_quiet_step (fail))
      refine wpQuiet_nil ?_
      clear c0 c1 c2 c3 hlW hix
      intro w' hw'
      obtain ⟨u, rfl⟩ := hw'
      have k0 := h0.sub u
      have kb := hb.trans (u.2.mono hb.size)
      clear h0 hb
      generalize u.1 = w1 at *
      rw [top_test, Bool.not_not]
      cases hd : depAny f (o n)
      · rw [hd] at Hs
        go_wp2
        exact ⟨⟨n + 1, by omega, by go_num, Hs.out, k0, kb⟩, by simp [intOf]; omega⟩
      · rw [hd] at Hs
        go_wp2
        go_ret
        exact ⟨ret_int Hs.out.symm, kb⟩
    · obtain rfl : n = 8 := by omega
      go_wp2
      go_ret
      exact ⟨ret_int ht.out.symm, hb⟩

end Go.Proofs.YtgccgjeehggagaaDoor
