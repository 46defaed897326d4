/-
  Walks of the code's store: what only looks.
-/
import Derived.Test.YtbnjbnjhpccomaaCoS
namespace Go.Proofs.Ytbnjbnjhpccomaa
open Go Go.RowKit

theorem MS.has_not {s : MS} (ok : s.Base) {n : Int} (h : n < 2 ∨ (s.N.length : Int) + 2 ≤ n) : s.has n = false := by
  rw [Bool.eq_false_iff]
  intro e
  have := ok.range e
  omega
theorem MS.mem_not {s : MS} (ok : s.Base) {n : Int} (h : n < 0 ∨ (s.N.length : Int) ≤ n) : decide (n ∈ s.ar.T) = false := by
  rw [decide_eq_false_iff_not]
  intro e
  have := (ok.ar.all n).1 (.inl e)
  have := ok.len
  omega

/-- A constant. -/
def isC (n : Int) : Bool := decide (0 ≤ n) && decide (n < 2)
theorem isC_not {s : MS} {n : Int} (h : isC n = true) : s.has n = false ∧ (n = 0 ∨ n = 1) := by
  simp only [isC, Bool.and_eq_true, decide_eq_true_eq] at h
  rcases (by omega : n = 0 ∨ n = 1) with rfl | rfl
  · exact ⟨rfl, .inl rfl⟩
  · exact ⟨rfl, .inr rfl⟩
theorem isC_of {s : MS} (ok : s.Base) {n : Int} (h : s.has n = true) : isC n = false := by
  have := (ok.range h).1
  simp only [isC, Bool.and_eq_false_iff, decide_eq_false_iff_not]
  omega
theorem isC_no {n : Int} (h : isC n = false) : n ≠ 0 ∧ n ≠ 1 := by
  simp only [isC, Bool.and_eq_false_iff, decide_eq_false_iff_not] at h
  omega

set_option maxRecDepth 100000 in
theorem coIsConst (n : Int) (w : World) : Calls Try.prog 59 #[.int .i64 n] w fun e w' => e = .returned (.bool (isC n)) ∧ w = w' := by
  go_enter Try.func59, Try.ntmps59
  by_cases h0 : 0 ≤ n
  · by_cases h1 : n < 2
    · have e : isC n = true := by simp [isC, h0, h1]
      rw [e]
      go_wp2
      go_ret
      exact ⟨rfl, rfl⟩
    · have e : isC n = false := by simp [isC, h1]
      rw [e]
      go_wp2
      go_ret
      exact ⟨rfl, rfl⟩
  · have e : isC n = false := by simp [isC, h0]
    rw [e]
    go_wp2
    go_ret
    exact ⟨rfl, rfl⟩

section
variable {w : World} {b : Nat} {F : Nat → Prop} {s : MS} {R : List Int} {f : Int → Int}

set_option maxRecDepth 100000 in
theorem coHas (h : CoAt w b F s R f) (ok : s.Base) (n : Int) (hn : n ≤ 9223372036854775807 ∧ -9223372036854775808 ≤ n) :
    Calls Try.prog 33 #[pv b, .int .i64 n] w fun e w' => e = .returned (.bool (s.has n)) ∧ w = w' := by
  obtain ⟨bA, FA, bT, FT, v, X, tabs, rfl, hR, c⟩ := h
  obtain ⟨c0, c9, c18⟩ := hR.cell
  have hf := ok.few
  have HA := fun m => arenaHasS hR.ar ok.ar m
  go_enter Try.func33, Try.ntmps33
  by_cases h2 : -9223372036854775806 ≤ n
  · have e : s.has n = decide (n - 2 ∈ s.ar.T) := by
      cases hh : s.has n
      · have : ¬ n - 2 ∈ s.ar.T := fun e => by rw [(MS.has_mem ok).2 e] at hh; cases hh
        simp [this]
      · simp [(MS.has_mem ok).1 hh]
    rw [e]
    clear hR c e hf
    go_wp2_with fail
    refine (HA _).mono ?_
    rintro e w1 ⟨rfl, rfl⟩
    clear HA
    go_wp2
    go_ret
    exact ⟨rfl, rfl⟩
  · have e : s.has n = false := MS.has_not ok (by omega)
    rw [e]
    have hx : n = -9223372036854775808 ∨ n = -9223372036854775807 := by omega
    have n0 := MS.mem_not ok (n := wrap64 (-9223372036854775810)) (by rw [show wrap64 (-9223372036854775810) = 9223372036854775806 by kernel_rfl]; omega)
    have n1 := MS.mem_not ok (n := wrap64 (-9223372036854775809)) (by rw [show wrap64 (-9223372036854775809) = 9223372036854775807 by kernel_rfl]; omega)
    clear hR c e hf
    rcases hx with rfl | rfl
    · go_wp2_with fail
      refine (HA _).mono ?_
      rintro e w1 ⟨rfl, rfl⟩
      clear HA
      rw [n0]
      go_wp2
      go_ret
      exact ⟨rfl, rfl⟩
    · go_wp2_with fail
      refine (HA _).mono ?_
      rintro e w1 ⟨rfl, rfl⟩
      clear HA
      rw [n1]
      go_wp2
      go_ret
      exact ⟨rfl, rfl⟩

set_option maxRecDepth 100000 in
theorem coLive (h : CoAt w b F s R f) (ok : s.Base) : Calls Try.prog 20 #[pv b] w fun e w' => e = .returned (.int .i64 s.ar.T.length) ∧ Below w.heap.size w w' := by
  obtain ⟨bA, FA, bT, FT, v, X, tabs, rfl, hR, c⟩ := h
  obtain ⟨c0, c9, c18⟩ := hR.cell
  have HA := arenaManyS hR.ar ok.ar
  clear hR c
  go_enter Try.func20, Try.ntmps20
  go_wp2_with fail
  refine HA.mono ?_
  rintro e w1 ⟨rfl, hb⟩
  clear HA
  go_wp2
  go_ret
  exact ⟨rfl, hb⟩

set_option maxRecDepth 100000 in
theorem coRoom (h : CoAt w b F s R f) (ok : s.Base) : Calls Try.prog 21 #[pv b] w fun e w' => e = .returned (.int .i64 s.room) ∧ Below w.heap.size w w' := by
  have HL := fun u : Sub w => coLive (h.sub u) ok
  obtain ⟨bA, FA, bT, FT, v, X, tabs, rfl, hR, c⟩ := h
  have c0 := fun u : Sub w => (hR.sub u).cell.1
  have h1 := ok.ar.mostLe
  have h2 := ok.ar.nextLe
  have h3 := ok.ar.len
  clear hR c
  unfold MS.room
  go_enter Try.func21, Try.ntmps21
  go_wp2
  refine wp_region_quiet_all (C := fun w' => ∃ u : Sub w, w' = u.1) (by kernel_rfl) (by kernel_rfl) (InSub.drew w) ?_
  iterate 5 (go_big_quiet_step (fail))
  go_big_quiet_step (exact subBelow (HL _))
  iterate 2 (go_big_quiet_step (fail))
  refine wpQuiet_nil ?_
  clear c0 HL
  intro w' hw'
  obtain ⟨u, rfl⟩ := hw'
  go_wp2
  go_ret
  exact ⟨rfl, u.2⟩

set_option maxRecDepth 100000 in
theorem coOrder (h : CoAt w b F s R f) : Calls Try.prog 11 #[pv b] w fun e w' => e = .returned (ov s.o) ∧ Below w.heap.size w w' := by
  obtain ⟨bA, FA, bT, FT, v, X, tabs, rfl, hR, c⟩ := h
  have hb : Below w.heap.size w (w.alloc (.cells #[.int .i64 0, .int .i64 0, .int .i64 0, .int .i64 0, .int .i64 0, .int .i64 0, .int .i64 0, .int .i64 0] 36)) := by go_grown
  obtain ⟨c1, c2, c3, c4, c5, c6, c7, c8⟩ := (hR.below hb).order
  clear hR c
  go_enter Try.func11, Try.ntmps11
  go_wp2
  exact bodyPost_ret (ret_holdsO Try.results11 rfl (HoldsO.new w s.o w.heap.size rfl)) rfl ⟨rfl, by go_grown⟩

/-- A place, as the program holds it. -/
def plv (x : Nd) (k : Int) : Value := .agg #[.int .i64 x.var, .int .i64 x.lo, .int .i64 x.hi, .int .i64 k]
/-- Block b is a variable that holds a place. -/
def HoldsP (w : World) (b : Nat) (x : Nd) (k : Int) : Prop := w.heap[b]? = some (.cells #[.int .i64 x.var, .int .i64 x.lo, .int .i64 x.hi, .int .i64 k] 74 (0, 0))
theorem HoldsP.lt {x : Nd} {k : Int} {B : Nat} (h : HoldsP w B x k) : B < w.heap.size := row_lt h
theorem HoldsP.below {w' : World} {x : Nd} {k : Int} {B : Nat} (h : HoldsP w B x k) (hb : Below w.heap.size w w') : HoldsP w' B x k := (hb.block B h.lt).trans h
theorem HoldsP.sub {x : Nd} {k : Int} {B : Nat} (h : HoldsP w B x k) (u : Sub w) : HoldsP u.1 B x k := h.below u.2
theorem HoldsP.cells {x : Nd} {k : Int} {B : Nat} (h : HoldsP w B x k) : w.cell? ⟨B, 0, none⟩ = some (.int .i64 x.var) ∧ w.cell? ⟨B, 1, none⟩ = some (.int .i64 x.lo) ∧ w.cell? ⟨B, 2, none⟩ = some (.int .i64 x.hi) :=
  ⟨by rw [cell_of_row _ _ _ _ _ _ h]; rfl, by rw [cell_of_row _ _ _ _ _ _ h]; rfl, by rw [cell_of_row _ _ _ _ _ _ h]; rfl⟩
theorem HoldsP.new (w : World) (x : Nd) (k : Int) : HoldsP (w.alloc (.cells #[.int .i64 x.var, .int .i64 x.lo, .int .i64 x.hi, .int .i64 k] 74)) w.heap.size x k := heap_alloc_new _ _
theorem ret_holdsP {fn : Func} {p : Tmp} {tmps : Array Value} {B : Nat} {x : Nd} {k : Int} (h : fn.results = #[.cell p 74]) (hp : tmps.getD p undef = .pointer (some ⟨B, 0, none⟩)) (hh : HoldsP w B x k) :
    (results fn tmps).run Try.prog w = .ok (plv x k) w :=
  results_cell_row h tmps w B _ _ _ _ hp hh Try.underlying74 rfl (by kernel_rfl)

theorem fieldP (x : Nd) (k : Int) (w : World) : (Instr.field 74 (.agg #[.int .i64 x.var, .int .i64 x.lo, .int .i64 x.hi, .int .i64 k]) 0).run Try.prog w = .ok (.agg #[.int .i64 x.var, .int .i64 x.lo, .int .i64 x.hi]) w := by kernel_rfl
theorem fieldK (x : Nd) (k : Int) (w : World) : (Instr.field 74 (.agg #[.int .i64 x.var, .int .i64 x.lo, .int .i64 x.hi, .int .i64 k]) 1).run Try.prog w = .ok (.int .i64 k) w := by kernel_rfl
theorem fieldV (x : Nd) (w : World) : (Instr.field 39 (.agg #[.int .i64 x.var, .int .i64 x.lo, .int .i64 x.hi]) 0).run Try.prog w = .ok (.int .i64 x.var) w := by kernel_rfl

set_option maxRecDepth 100000 in
theorem coAt (h : CoAt w b F s R f) (ok : s.Base) {n : Int} (hn : s.has n = true) : Calls Try.prog 34 #[pv b, .int .i64 n] w fun e w' => e = .returned (plv (s.nd n) (f n)) ∧ Below w.heap.size w w' := by
  obtain ⟨bA, FA, bT, FT, v, X, tabs, rfl, hR, c⟩ := h
  have hb : Below w.heap.size w (w.alloc (.cells #[.int .i64 0, .int .i64 0, .int .i64 0, .int .i64 0] 74)) := by go_grown
  have hfew := ok.few
  have hl := c.len
  obtain ⟨g, cap, rfl, h2, i0, i1, d0, d1, d2, d3⟩ := (hR.below hb).node c ok hn
  obtain ⟨c0, c9, c18⟩ := (hR.below hb).cell
  clear hR c
  go_enter Try.func34, Try.ntmps34
  go_wp2
  exact bodyPost_ret (ret_holdsP Try.results34 rfl (HoldsP.new w (s.nd n) (f n))) rfl ⟨rfl, by go_grown⟩

set_option maxRecDepth 100000 in
theorem coNode (h : CoAt w b F s R f) (ok : s.Base) (n : Int) (hn : n ≤ 9223372036854775807 ∧ -9223372036854775808 ≤ n) : Calls Try.prog 12 #[pv b, .int .i64 n] w fun e w' => e = .returned (nodeV s n) ∧ Below w.heap.size w w' := by
  have hb : Below w.heap.size w (w.alloc (.cells #[.int .i64 0, .int .i64 0, .int .i64 0] 39)) := by go_grown
  have HH := coHas (h.below hb) ok n hn
  have HA := fun e : s.has n = true => coAt (h.below hb) ok e
  clear h
  have hz := HoldsN.new w ⟨0, 0, 0⟩
  unfold nodeV
  go_enter Try.func12, Try.ntmps12
  cases hh : s.has n
  · rw [hh] at HH
    go_wp2_with fail
    refine HH.mono ?_
    rintro e w1 ⟨rfl, rfl⟩
    clear HH HA
    go_wp2
    exact bodyPost_ret (ret_node Try.results12 rfl rfl (x := ⟨0, 0, 0⟩) (heap_alloc_new _ _)) rfl ⟨rfl, hb⟩
  · rw [hh] at HH
    go_wp2_with fail
    refine HH.mono ?_
    rintro e w1 ⟨rfl, rfl⟩
    replace HA := HA hh
    clear HH
    go_wp2_with fail
    refine HA.mono ?_
    rintro e w1 ⟨rfl, hb1⟩
    clear HA
    generalize w.alloc (.cells #[.int .i64 0, .int .i64 0, .int .i64 0] 39) = W at *
    have hz1 : HoldsN w1 w.heap.size ⟨0, 0, 0⟩ := HoldsN.below hz hb1
    obtain ⟨z0, z1, z2⟩ := hz1.cells
    have y0 := hz1.free 0
    have y1 := hz1.free 1
    have y2 := hz1.free 2
    have hx := hz1.put (s.nd n)
    have hb2 := ((((hb.trans (hb1.mono hb.size)).setCell (p := ⟨w.heap.size, 0, none⟩) (Nat.le_refl _) (.int .i64 (s.nd n).var)).setCell (p := ⟨w.heap.size, 1, none⟩) (Nat.le_refl _) (.int .i64 (s.nd n).lo)).setCell (p := ⟨w.heap.size, 2, none⟩) (Nat.le_refl _) (.int .i64 (s.nd n).hi))
    replace hx := Lib.hid hx
    replace hb2 := Lib.hid hb2
    clear hz hz1 hb hb1
    unfold plv
    have q0 := fieldP (s.nd n) (f n)
    go_wp2
    exact bodyPost_ret (ret_node Try.results12 rfl rfl (x := s.nd n) hx.out) rfl ⟨rfl, hb2.out⟩

set_option maxRecDepth 100000 in
theorem coIsOf (h : CoAt w b F s R f) (ok : s.Base) (n v : Int) (hn : s.there n = true) : Calls Try.prog 53 #[pv b, .int .i64 n, .int .i64 v] w fun e w' => e = .returned (.bool (s.isOf n v)) ∧ Below w.heap.size w w' := by
  have HC := coIsConst n w
  go_enter Try.func53, Try.ntmps53
  rcases MS.there_cases hn with ⟨hc, hh⟩ | hh
  · have e : isC n = true := by rcases hc with rfl | rfl <;> rfl
    have e2 : s.isOf n v = false := by simp [MS.isOf, MS.node, hh]
    rw [e2]
    rw [e] at HC
    clear h
    go_wp2_with fail
    refine HC.mono ?_
    rintro e w1 ⟨rfl, rfl⟩
    clear HC
    go_wp2
    go_ret
    exact ⟨rfl, Below.refl _ _⟩
  · have e : isC n = false := isC_of ok hh
    have e2 : s.isOf n v = ((s.nd n).var == v) := by simp [MS.isOf, MS.node, hh]
    rw [e2]
    rw [e] at HC
    have HA := coAt h ok hh
    clear h
    unfold plv at HA
    go_wp2_with fail
    refine HC.mono ?_
    rintro e w1 ⟨rfl, rfl⟩
    clear HC
    go_wp2_with fail
    refine HA.mono ?_
    rintro e w1 ⟨rfl, hb1⟩
    clear HA
    have q0 := fieldP (s.nd n) (f n)
    have q1 := fieldV (s.nd n)
    go_wp2
    go_ret
    exact ⟨rfl, hb1⟩
end

end Go.Proofs.Ytbnjbnjhpccomaa
