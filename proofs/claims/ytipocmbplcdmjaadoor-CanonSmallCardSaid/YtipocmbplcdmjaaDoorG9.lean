/-
  Texts of this proof, one behind the other: CoW, CoW2, CoX.
-/
import Derived.Test.YtipocmbplcdmjaaDoorG8
/-
  Walks of the code's store: what only looks.
-/
namespace Go.Proofs.YtipocmbplcdmjaaDoor
open Go Go.RowKit

theorem MS.has_not {s : MS} (ok : s.Base) {n : Int} (h : n < 2 ∨ (s.N.length : Int) + 2 ≤ n) : s.has n = false := by
  rw [Bool.eq_false_iff]
  intro e
  have := ok.range e
  omega
theorem MS.mem_not {s : MS} (ok : s.Base) {n : Int} (h : n < 0 ∨ (s.N.length : Int) ≤ n) : decide (n ∈ s.ar.T) = false := by
  rw [decide_eq_false_iff_not]
  intro e
  have := (ok.ar.all n).1 (.inl e)
  have := ok.len
  omega

/-- A constant. -/
def isC (n : Int) : Bool := decide (0 ≤ n) && decide (n < 2)
theorem isC_not {s : MS} {n : Int} (h : isC n = true) : s.has n = false ∧ (n = 0 ∨ n = 1) := by
  simp only [isC, Bool.and_eq_true, decide_eq_true_eq] at h
  rcases (by omega : n = 0 ∨ n = 1) with rfl | rfl
  · exact ⟨rfl, .inl rfl⟩
  · exact ⟨rfl, .inr rfl⟩
theorem isC_of {s : MS} (ok : s.Base) {n : Int} (h : s.has n = true) : isC n = false := by
  have := (ok.range h).1
  simp only [isC, Bool.and_eq_false_iff, decide_eq_false_iff_not]
  omega
theorem isC_no {n : Int} (h : isC n = false) : n ≠ 0 ∧ n ≠ 1 := by
  simp only [isC, Bool.and_eq_false_iff, decide_eq_false_iff_not] at h
  omega

set_option maxRecDepth 100000 in
theorem coIsConst (n : Int) (w : World) : Calls Tryd.prog 57 #[.int .i64 n] w fun e w' => e = .returned (.bool (isC n)) ∧ w = w' := by
  go_enter Tryd.func57, Tryd.ntmps57
  by_cases h0 : 0 ≤ n
  · by_cases h1 : n < 2
    · have e : isC n = true := by simp [isC, h0, h1]
      rw [e]
      go_wp2
      go_ret
      exact ⟨rfl, rfl⟩
    · have e : isC n = false := by simp [isC, h1]
      rw [e]
      go_wp2
      go_ret
      exact ⟨rfl, rfl⟩
  · have e : isC n = false := by simp [isC, h0]
    rw [e]
    go_wp2
    go_ret
    exact ⟨rfl, rfl⟩

section
variable {w : World} {b : Nat} {F : Nat → Prop} {s : MS} {R : List Int} {f : Int → Int}

set_option maxRecDepth 100000 in
theorem coHas (h : CoAt w b F s R f) (ok : s.Base) (n : Int) (hn : n ≤ 9223372036854775807 ∧ -9223372036854775808 ≤ n) :
    Calls Tryd.prog 54 #[pv b, .int .i64 n] w fun e w' => e = .returned (.bool (s.has n)) ∧ w = w' := by
  obtain ⟨bA, FA, bT, FT, v, X, tabs, rfl, hR, c⟩ := h
  obtain ⟨c0, c9, c18⟩ := hR.cell
  have hf := ok.few
  have HA := fun m => arenaHasS hR.ar ok.ar m
  go_enter Tryd.func54, Tryd.ntmps54
  by_cases h2 : -9223372036854775806 ≤ n
  · have e : s.has n = decide (n - 2 ∈ s.ar.T) := by
      cases hh : s.has n
      · have : ¬ n - 2 ∈ s.ar.T := fun e => by rw [(MS.has_mem ok).2 e] at hh; cases hh
        simp [this]
      · simp [(MS.has_mem ok).1 hh]
    rw [e]
    clear hR c e hf
    go_wp2_with fail
    refine (HA _).mono ?_
    rintro e w1 ⟨rfl, rfl⟩
    clear HA
    go_wp2
    go_ret
    exact ⟨rfl, rfl⟩
  · have e : s.has n = false := MS.has_not ok (by omega)
    rw [e]
    have hx : n = -9223372036854775808 ∨ n = -9223372036854775807 := by omega
    have n0 := MS.mem_not ok (n := wrap64 (-9223372036854775810)) (by rw [show wrap64 (-9223372036854775810) = 9223372036854775806 by kernel_rfl]; omega)
    have n1 := MS.mem_not ok (n := wrap64 (-9223372036854775809)) (by rw [show wrap64 (-9223372036854775809) = 9223372036854775807 by kernel_rfl]; omega)
    clear hR c e hf
    rcases hx with rfl | rfl
    · go_wp2_with fail
      refine (HA _).mono ?_
      rintro e w1 ⟨rfl, rfl⟩
      clear HA
      rw [n0]
      go_wp2
      go_ret
      exact ⟨rfl, rfl⟩
    · go_wp2_with fail
      refine (HA _).mono ?_
      rintro e w1 ⟨rfl, rfl⟩
      clear HA
      rw [n1]
      go_wp2
      go_ret
      exact ⟨rfl, rfl⟩

set_option maxRecDepth 100000 in
theorem coLive (h : CoAt w b F s R f) (ok : s.Base) : Calls Tryd.prog 13 #[pv b] w fun e w' => e = .returned (.int .i64 s.ar.T.length) ∧ Below w.heap.size w w' := by
  obtain ⟨bA, FA, bT, FT, v, X, tabs, rfl, hR, c⟩ := h
  obtain ⟨c0, c9, c18⟩ := hR.cell
  have HA := arenaManyS hR.ar ok.ar
  clear hR c
  go_enter Tryd.func13, Tryd.ntmps13
  go_wp2_with fail
  refine HA.mono ?_
  rintro e w1 ⟨rfl, hb⟩
  clear HA
  go_wp2
  go_ret
  exact ⟨rfl, hb⟩

set_option maxRecDepth 100000 in
theorem coRoom (h : CoAt w b F s R f) (ok : s.Base) : Calls Tryd.prog 14 #[pv b] w fun e w' => e = .returned (.int .i64 s.room) ∧ Below w.heap.size w w' := by
  have HL := fun u : Sub w => coLive (h.sub u) ok
  obtain ⟨bA, FA, bT, FT, v, X, tabs, rfl, hR, c⟩ := h
  have c0 := fun u : Sub w => (hR.sub u).cell.1
  have h1 := ok.ar.mostLe
  have h2 := ok.ar.nextLe
  have h3 := ok.ar.len
  clear hR c
  unfold MS.room
  go_enter Tryd.func14, Tryd.ntmps14
  go_wp2
  refine wp_region_quiet_all (C := fun w' => ∃ u : Sub w, w' = u.1) (by kernel_rfl) (by kernel_rfl) (InSub.drew w) ?_
  iterate 5 (go_big_quiet_step (fail))
  go_big_quiet_step (exact subBelow (HL _))
  iterate 2 (go_big_quiet_step (fail))
  refine wpQuiet_nil ?_
  clear c0 HL
  intro w' hw'
  obtain ⟨u, rfl⟩ := hw'
  go_wp2
  go_ret
  exact ⟨rfl, u.2⟩

set_option maxRecDepth 100000 in
theorem coOrder (h : CoAt w b F s R f) : Calls Tryd.prog 15 #[pv b] w fun e w' => e = .returned (ov s.o) ∧ Below w.heap.size w w' := by
  obtain ⟨bA, FA, bT, FT, v, X, tabs, rfl, hR, c⟩ := h
  have hb : Below w.heap.size w (w.alloc (.cells #[.int .i64 0, .int .i64 0, .int .i64 0, .int .i64 0, .int .i64 0, .int .i64 0, .int .i64 0, .int .i64 0] 37)) := by go_grown
  obtain ⟨c1, c2, c3, c4, c5, c6, c7, c8⟩ := (hR.below hb).order
  clear hR c
  go_enter Tryd.func15, Tryd.ntmps15
  go_wp2
  exact bodyPost_ret (ret_holdsO Tryd.results15 rfl (HoldsO.new w s.o w.heap.size rfl)) rfl ⟨rfl, by go_grown⟩

/-- A place, as the program holds it. -/
def plv (x : Nd) (k : Int) : Value := .agg #[.int .i64 x.var, .int .i64 x.lo, .int .i64 x.hi, .int .i64 k]
/-- Block b is a variable that holds a place. -/
def HoldsP (w : World) (b : Nat) (x : Nd) (k : Int) : Prop := w.heap[b]? = some (.cells #[.int .i64 x.var, .int .i64 x.lo, .int .i64 x.hi, .int .i64 k] 60 (0, 0))
theorem HoldsP.lt {x : Nd} {k : Int} {B : Nat} (h : HoldsP w B x k) : B < w.heap.size := row_lt h
theorem HoldsP.below {w' : World} {x : Nd} {k : Int} {B : Nat} (h : HoldsP w B x k) (hb : Below w.heap.size w w') : HoldsP w' B x k := (hb.block B h.lt).trans h
theorem HoldsP.cells {x : Nd} {k : Int} {B : Nat} (h : HoldsP w B x k) : w.cell? ⟨B, 0, none⟩ = some (.int .i64 x.var) ∧ w.cell? ⟨B, 1, none⟩ = some (.int .i64 x.lo) ∧ w.cell? ⟨B, 2, none⟩ = some (.int .i64 x.hi) :=
  ⟨by rw [cell_of_row _ _ _ _ _ _ h]; rfl, by rw [cell_of_row _ _ _ _ _ _ h]; rfl, by rw [cell_of_row _ _ _ _ _ _ h]; rfl⟩
theorem HoldsP.new (w : World) (x : Nd) (k : Int) : HoldsP (w.alloc (.cells #[.int .i64 x.var, .int .i64 x.lo, .int .i64 x.hi, .int .i64 k] 60)) w.heap.size x k := heap_alloc_new _ _
theorem ret_holdsP {fn : Func} {p : Tmp} {tmps : Array Value} {B : Nat} {x : Nd} {k : Int} (h : fn.results = #[.cell p 60]) (hp : tmps.getD p undef = .pointer (some ⟨B, 0, none⟩)) (hh : HoldsP w B x k) :
    (results fn tmps).run Tryd.prog w = .ok (plv x k) w :=
  results_cell_row h tmps w B _ _ _ _ hp hh Tryd.underlying60 rfl (by kernel_rfl)

theorem fieldP (x : Nd) (k : Int) (w : World) : (Instr.field 60 (.agg #[.int .i64 x.var, .int .i64 x.lo, .int .i64 x.hi, .int .i64 k]) 0).run Tryd.prog w = .ok (.agg #[.int .i64 x.var, .int .i64 x.lo, .int .i64 x.hi]) w := by kernel_rfl
theorem fieldV (x : Nd) (w : World) : (Instr.field 58 (.agg #[.int .i64 x.var, .int .i64 x.lo, .int .i64 x.hi]) 0).run Tryd.prog w = .ok (.int .i64 x.var) w := by kernel_rfl

set_option maxRecDepth 100000 in
theorem coAt (h : CoAt w b F s R f) (ok : s.Base) {n : Int} (hn : s.has n = true) : Calls Tryd.prog 22 #[pv b, .int .i64 n] w fun e w' => e = .returned (plv (s.nd n) (f n)) ∧ Below w.heap.size w w' := by
  obtain ⟨bA, FA, bT, FT, v, X, tabs, rfl, hR, c⟩ := h
  have hb : Below w.heap.size w (w.alloc (.cells #[.int .i64 0, .int .i64 0, .int .i64 0, .int .i64 0] 60)) := by go_grown
  have hfew := ok.few
  have hl := c.len
  obtain ⟨g, cap, rfl, h2, i0, i1, d0, d1, d2, d3⟩ := (hR.below hb).node c ok hn
  obtain ⟨c0, c9, c18⟩ := (hR.below hb).cell
  clear hR c
  go_enter Tryd.func22, Tryd.ntmps22
  go_wp2
  exact bodyPost_ret (ret_holdsP Tryd.results22 rfl (HoldsP.new w (s.nd n) (f n))) rfl ⟨rfl, by go_grown⟩

set_option maxRecDepth 100000 in
theorem coNode (h : CoAt w b F s R f) (ok : s.Base) (n : Int) (hn : n ≤ 9223372036854775807 ∧ -9223372036854775808 ≤ n) : Calls Tryd.prog 31 #[pv b, .int .i64 n] w fun e w' => e = .returned (nodeV s n) ∧ Below w.heap.size w w' := by
  have hb : Below w.heap.size w (w.alloc (.cells #[.int .i64 0, .int .i64 0, .int .i64 0] 58)) := by go_grown
  have HH := coHas (h.below hb) ok n hn
  have HA := fun e : s.has n = true => coAt (h.below hb) ok e
  clear h
  have hz := HoldsN.new w ⟨0, 0, 0⟩
  unfold nodeV
  go_enter Tryd.func31, Tryd.ntmps31
  cases hh : s.has n
  · rw [hh] at HH
    go_wp2_with fail
    refine HH.mono ?_
    rintro e w1 ⟨rfl, rfl⟩
    clear HH HA
    go_wp2
    exact bodyPost_ret (ret_node Tryd.results31 rfl rfl (x := ⟨0, 0, 0⟩) (heap_alloc_new _ _)) rfl ⟨rfl, hb⟩
  · rw [hh] at HH
    go_wp2_with fail
    refine HH.mono ?_
    rintro e w1 ⟨rfl, rfl⟩
    replace HA := HA hh
    clear HH
    go_wp2_with fail
    refine HA.mono ?_
    rintro e w1 ⟨rfl, hb1⟩
    clear HA
    generalize w.alloc (.cells #[.int .i64 0, .int .i64 0, .int .i64 0] 58) = W at *
    have hz1 : HoldsN w1 w.heap.size ⟨0, 0, 0⟩ := HoldsN.below hz hb1
    obtain ⟨z0, z1, z2⟩ := hz1.cells
    have y0 := hz1.free 0
    have y1 := hz1.free 1
    have y2 := hz1.free 2
    have hx := hz1.put (s.nd n)
    have hb2 := ((((hb.trans (hb1.mono hb.size)).setCell (p := ⟨w.heap.size, 0, none⟩) (Nat.le_refl _) (.int .i64 (s.nd n).var)).setCell (p := ⟨w.heap.size, 1, none⟩) (Nat.le_refl _) (.int .i64 (s.nd n).lo)).setCell (p := ⟨w.heap.size, 2, none⟩) (Nat.le_refl _) (.int .i64 (s.nd n).hi))
    replace hx := Lib.hid hx
    replace hb2 := Lib.hid hb2
    clear hz hz1 hb hb1
    unfold plv
    have q0 := fieldP (s.nd n) (f n)
    go_wp2
    exact bodyPost_ret (ret_node Tryd.results31 rfl rfl (x := s.nd n) hx.out) rfl ⟨rfl, hb2.out⟩

set_option maxRecDepth 100000 in
theorem coIsOf (h : CoAt w b F s R f) (ok : s.Base) (n v : Int) (hn : s.there n = true) : Calls Tryd.prog 37 #[pv b, .int .i64 n, .int .i64 v] w fun e w' => e = .returned (.bool (s.isOf n v)) ∧ Below w.heap.size w w' := by
  have HC := coIsConst n w
  go_enter Tryd.func37, Tryd.ntmps37
  rcases MS.there_cases hn with ⟨hc, hh⟩ | hh
  · have e : isC n = true := by rcases hc with rfl | rfl <;> rfl
    have e2 : s.isOf n v = false := by simp [MS.isOf, MS.node, hh]
    rw [e2]
    rw [e] at HC
    clear h
    go_wp2_with fail
    refine HC.mono ?_
    rintro e w1 ⟨rfl, rfl⟩
    clear HC
    go_wp2
    go_ret
    exact ⟨rfl, Below.refl _ _⟩
  · have e : isC n = false := isC_of ok hh
    have e2 : s.isOf n v = ((s.nd n).var == v) := by simp [MS.isOf, MS.node, hh]
    rw [e2]
    rw [e] at HC
    have HA := coAt h ok hh
    clear h
    unfold plv at HA
    go_wp2_with fail
    refine HC.mono ?_
    rintro e w1 ⟨rfl, rfl⟩
    clear HC
    go_wp2_with fail
    refine HA.mono ?_
    rintro e w1 ⟨rfl, hb1⟩
    clear HA
    have q0 := fieldP (s.nd n) (f n)
    have q1 := fieldV (s.nd n)
    go_wp2
    go_ret
    exact ⟨rfl, hb1⟩
end

end Go.Proofs.YtipocmbplcdmjaaDoor

/-
  Walks of the code's store: what only looks, more.
-/
namespace Go.Proofs.YtipocmbplcdmjaaDoor
open Go Go.RowKit

section
variable {w : World} {b : Nat} {F : Nat → Prop} {s : MS} {R : List Int} {f : Int → Int}

set_option maxRecDepth 100000 in
set_option maxHeartbeats 1000000 in
theorem coFits (h : CoAt w b F s R f) (ok : s.Base) (n l v : Int) (hn : n ≤ 9223372036854775807 ∧ -9223372036854775808 ≤ n) (hl : l = levO s.o v) : Calls Tryd.prog 49 #[pv b, .int .i64 n, .int .i64 l] w fun e w' => e = .returned (.bool (s.behind n v)) ∧ Below w.heap.size w w' := by
  subst hl
  have HC := coIsConst n w
  go_enter Tryd.func49, Tryd.ntmps49
  by_cases hc : isC n = true
  · have e2 : s.behind n v = true := MS.behind_const (isC_not (s := s) hc).2
    rw [e2]
    rw [hc] at HC
    clear h
    go_wp2_with fail
    refine HC.mono ?_
    rintro e w1 ⟨rfl, rfl⟩
    clear HC
    go_wp2
    go_ret
    exact ⟨rfl, Below.refl _ _⟩
  · have hc' : isC n = false := by simpa using hc
    rw [hc'] at HC
    have hx := isC_no hc'
    have HH := fun u : Sub w => coHas (h.sub u) ok n hn
    cases hh : s.has n
    · have e2 : s.behind n v = false := by simp [MS.behind, MS.node, hh, hx]
      rw [e2]
      rw [hh] at HH
      clear h
      go_wp2_with fail
      refine HC.mono ?_
      rintro e w1 ⟨rfl, rfl⟩
      clear HC
      go_wp2
      refine wp_region_quiet_all (C := fun w' => ∃ u : Sub w, w' = u.1) (by kernel_rfl) (by kernel_rfl) (InSub.drew w) ?_
      iterate 2 (go_big_quiet_step (fail))
      go_big_quiet_step (exact subSame (HH _))
      go_big_quiet_step (fail)
      iterate 12 go_big_quiet_skip
      iterate 2 (go_big_quiet_step (fail))
      refine wpQuiet_nil ?_
      clear HH
      intro w' hw'
      obtain ⟨u, rfl⟩ := hw'
      go_wp2
      go_ret
      exact ⟨rfl, u.2⟩
    · have e2 : s.behind n v = decide (levO s.o (s.nd n).var > levO s.o v) := MS.behind_node hh
      rw [e2]
      rw [hh] at HH
      have HA := fun u : Sub w => coAt (h.sub u) ok hh
      have HL := fun u : Sub w => permLevel s.o (s.nd n).var u.1
      obtain ⟨bA, FA, bT, FT, vv, X, tabs, rfl, hR, c⟩ := h
      have c1 := fun u : Sub w => (hR.sub u).order.1
      have c2 := fun u : Sub w => (hR.sub u).order.2.1
      have c3 := fun u : Sub w => (hR.sub u).order.2.2.1
      have c4 := fun u : Sub w => (hR.sub u).order.2.2.2.1
      have c5 := fun u : Sub w => (hR.sub u).order.2.2.2.2.1
      have c6 := fun u : Sub w => (hR.sub u).order.2.2.2.2.2.1
      have c7 := fun u : Sub w => (hR.sub u).order.2.2.2.2.2.2.1
      have c8 := fun u : Sub w => (hR.sub u).order.2.2.2.2.2.2.2
      have q0 := fieldP (s.nd n) (f n)
      have q1 := fieldV (s.nd n)
      unfold plv at HA
      simp only [ov] at HL
      clear hR c
      generalize levO s.o (s.nd n).var = X at *
      generalize levO s.o v = Y at *
      go_wp2_with fail
      refine HC.mono ?_
      rintro e w1 ⟨rfl, rfl⟩
      clear HC
      go_wp2
      refine wp_region_quiet_all (C := fun w' => ∃ u : Sub w, w' = u.1) (by kernel_rfl) (by kernel_rfl) (InSub.drew w) ?_
      iterate 2 (go_big_quiet_step (fail))
      go_big_quiet_step (exact subSame (HH _))
      iterate 7 (go_big_quiet_step (fail))
      go_big_quiet_step (exact subBelow (HA _))
      iterate 2 (go_big_quiet_step (fail))
      go_big_quiet_step (exact subBelow (HL _))
      iterate 4 (go_big_quiet_step (fail))
      refine wpQuiet_nil ?_
      clear HH HA HL c1 c2 c3 c4 c5 c6 c7 c8
      intro w' hw'
      obtain ⟨u, rfl⟩ := hw'
      go_wp2
      go_ret
      exact ⟨rfl, u.2⟩

set_option maxRecDepth 100000 in
theorem coApart (h : CoAt w b F s R f) (ok : s.Base) (n v : Int) (hn : s.there n = true) : Calls Tryd.prog 40 #[pv b, .int .i64 n, .int .i64 v] w fun e w' => e = .returned (.tuple #[.int .i64 (s.side n v false), .int .i64 (s.side n v true)]) ∧ Below w.heap.size w w' := by
  have HO := coIsOf h ok n v hn
  go_enter Tryd.func40, Tryd.ntmps40
  cases ho : s.isOf n v
  · have e1 : ∀ z, s.side n v z = n := fun z => by simp [MS.side, ho]
    rw [e1, e1]
    rw [ho] at HO
    clear h
    go_wp2_with fail
    refine HO.mono ?_
    rintro e w1 ⟨rfl, hb⟩
    clear HO
    go_wp2
    go_ret2
    exact ⟨rfl, hb⟩
  · have e1 : s.side n v false = (s.nd n).lo := by simp [MS.side, ho]
    have e2 : s.side n v true = (s.nd n).hi := by simp [MS.side, ho]
    rw [e1, e2]
    rw [ho] at HO
    have hh := (MS.isOf_iff.1 ho).1
    have HA := fun u : Sub w => coAt (h.sub u) ok hh
    clear h
    unfold plv at HA
    go_wp2_with fail
    refine HO.mono ?_
    rintro e w1 ⟨rfl, hb⟩
    clear HO
    go_wp2_with fail
    refine (HA ⟨w1, hb⟩).mono ?_
    rintro e w2 ⟨rfl, hb2⟩
    replace hb := hb.trans (hb2.mono hb.size)
    clear HA hb2
    go_wp2
    have hP := HoldsP.new w2 (s.nd n) (f n)
    have hb3 : Below w.heap.size w (w2.alloc (.cells #[.int .i64 (s.nd n).var, .int .i64 (s.nd n).lo, .int .i64 (s.nd n).hi, .int .i64 (f n)] 60)) := hb.alloc hb.size _
    generalize w2.alloc (.cells #[.int .i64 (s.nd n).var, .int .i64 (s.nd n).lo, .int .i64 (s.nd n).hi, .int .i64 (f n)] 60) = W at *
    obtain ⟨p0, p1, p2⟩ := hP.cells
    go_region
    go_wp2
    go_ret2
    exact ⟨rfl, hb3.drew⟩

set_option maxRecDepth 100000 in
set_option maxHeartbeats 1000000 in
theorem coAll (h : CoAt w b F s R f) (ok : s.Base) : Calls Tryd.prog 36 #[pv b] w fun e w' => ∃ v', e = .returned v' ∧ WRel w s.all v' w' := by
  have hfew := ok.few
  have H := fun wr (hb : Below w.heap.size w wr) (n : Int) (hn : n ≤ 9223372036854775807 ∧ -9223372036854775808 ≤ n) => coHas (h.below hb) ok n hn
  obtain ⟨bA, FA, bT, FT, v, X, tabs, rfl, hR, c⟩ := h
  obtain ⟨a, cp, rfl⟩ := hR.form
  have hl := c.len
  rw [hl] at hR
  have c18 := hR.cell.2.2
  clear hR c
  have hlen : s.all = (numsTo s.N.length).filter s.has := rfl
  rw [hlen]
  clear hlen hl
  go_enter Tryd.func36, Tryd.ntmps36
  go_wp2
  go_loopw [3, 11] (fun vo i wr => ∃ k : Nat, k ≤ s.N.length ∧ i = .int .i64 (k : Int) ∧ WRel w ((numsTo k).filter s.has) vo wr) (fun _ i _ => s.N.length - (intOf i).toNat)
  case atStart => exact ⟨0, Nat.zero_le _, rfl, Owns.nil _ _, (fun g h => by cases h), Below.refl _ _⟩
  case round =>
    obtain ⟨k, hk, rfl, Rr⟩ := hrel
    by_cases hlt : k < s.N.length
    · have hstep := numsTo_filter s.has k
      have hl := numsTo_filter_length s.has k
      have hki : (k : Int) < (s.N.length : Int) := by omega
      have HH := H wr Rr.below ((k : Int) + 2) (by omega)
      clear H
      cases hh : s.has ((k : Int) + 2)
      · rw [hh] at hstep HH
        simp only [Bool.false_eq_true, if_false, List.append_nil] at hstep
        have HS := Lib.hid hstep
        clear hstep hh
        go_wp2_with fail
        refine HH.mono ?_
        rintro e w1 ⟨rfl, rfl⟩
        clear HH
        go_wp2
        exact ⟨⟨k + 1, by omega, by go_num, by rw [HS.out]; exact Rr⟩, by simp [intOf]; omega⟩
      · rw [hh] at hstep HH
        simp only [if_true] at hstep
        have HS := Lib.hid hstep
        clear hstep hh
        have hA := Rr.own.alloc (.cells #[.int .i64 ((k : Int) + 2)] 3)
        have hsrc := oneI wr ((k : Int) + 2) wr.heap.size rfl
        have hln : ((numsTo k).filter s.has).length + [(k : Int) + 2].length ≤ 1000000 := by simp at hl ⊢; omega
        go_wp2_with fail
        refine HH.mono ?_
        rintro e w1 ⟨rfl, rfl⟩
        clear HH
        go_wp2_with (at_builtin; refine appendI rfl (.tmp 19) (.tmp 21) rfl _ _ ((numsTo k).filter s.has) [(k : Int) + 2] rfl hA rfl hsrc hln ?_; intro v' w2 hown hgr hat)
        refine ⟨⟨k + 1, by omega, by go_num, by rw [HS.out]; exact hown, fun g hg => ?_, ?_⟩, by simp [intOf]; omega⟩
        · rcases hat with hat | hat
          · exact Rr.new g (hat ▸ hg)
          · rw [hat] at hg; injection hg with hg; have := Rr.below.size; simp at hg; omega
        · exact (Rr.below.alloc Rr.below.size _).grown hgr (by have := Rr.below.size; simp; omega) Rr.new
    · obtain rfl : k = s.N.length := by omega
      clear H
      go_wp2
      go_ret
      exact ⟨_, rfl, Rr⟩

set_option maxRecDepth 100000 in
set_option maxHeartbeats 2000000 in
theorem coChanging (h : CoAt w b F s R f) (ok : s.Base) (hc : s.Closed) (x y : Int) : Calls Tryd.prog 20 #[pv b, .int .i64 x, .int .i64 y] w fun e w' => ∃ v', e = .returned v' ∧ WRel w (s.changes x y) v' w' := by
  have hfew := ok.few
  have hch : s.changes x y = s.all.filter (s.chg x y) := rfl
  rw [hch]
  clear hch
  have HAll := coAll h ok
  go_enter Tryd.func20, Tryd.ntmps20
  go_wp2_with fail
  refine HAll.mono ?_
  rintro e w1 ⟨vA, rfl, RA⟩
  obtain ⟨aA, cA, rfl, _⟩ := RA.own.form
  have hal : s.all.length ≤ 20000 := Nat.le_trans (numsTo_filter_length s.has s.N.length) hfew
  clear HAll
  go_wp2
  go_loopw [7, 14] (fun vo i wr => ∃ k : Nat, k ≤ s.all.length ∧ i = .int .i64 k ∧ WRel w1 ((s.all.take k).filter (s.chg x y)) vo wr) (fun _ i _ => s.all.length - (intOf i).toNat)
  case atStart => exact ⟨0, Nat.zero_le _, rfl, Owns.nil _ _, (fun g h => by cases h), Below.refl _ _⟩
  case round =>
    obtain ⟨k, hk, rfl, Rr⟩ := hrel
    by_cases hlt : k < s.all.length
    · obtain ⟨hyes, hno⟩ := filter_take (s.chg x y) s.all k hlt
      obtain ⟨ad, rfl, cAk⟩ := (RA.own.reads.keep Rr.below).intAt k hlt
      have hhas : s.has s.all[k] = true := ok.mem_all.1 (List.getElem_mem hlt)
      generalize hn : s.all[k] = n at *
      have hfl : ((s.all.take k).filter (s.chg x y)).length ≤ k := Nat.le_trans (List.length_filter_le _ _) (by simp; omega)
      have hln : ((s.all.take k).filter (s.chg x y)).length + [n].length ≤ 1000000 := by simp at hfl ⊢; omega
      have hk1 : (k : Int) < (s.all.length : Int) := by omega
      have hb1 := RA.below.trans (Rr.below.mono RA.below.size)
      have HA := coAt (h.below hb1) ok hhas
      unfold plv at HA
      go_wp2_with fail
      refine HA.mono ?_
      rintro e w2 ⟨rfl, hb2⟩
      clear HA cAk
      replace Rr := Rr.keep' hb2
      have hP := HoldsP.new w2 (s.nd n) (f n)
      have hbA : Below w2.heap.size w2 (w2.alloc (.cells #[.int .i64 (s.nd n).var, .int .i64 (s.nd n).lo, .int .i64 (s.nd n).hi, .int .i64 (f n)] 60)) := by go_grown
      replace Rr := Rr.keep' hbA
      replace hb1 := (hb1.trans (hb2.mono hb1.size)).trans (hbA.mono (hb1.trans (hb2.mono hb1.size)).size)
      clear hbA hb2
      obtain ⟨p0, p1, p2⟩ := hP.cells
      have HL := fun W hb => coIsOf (w := W) (h.below hb) ok (s.nd n).lo y (hc n hhas).1
      have HI := fun W hb => coIsOf (w := W) (h.below hb) ok (s.nd n).hi y (hc n hhas).2
      have hP' := fun W (hb : Below _ _ W) => (HoldsP.below hP (w' := W) hb).cells
      clear hP
      replace hyes := Lib.hid hyes
      replace hno := Lib.hid hno
      replace RA := Lib.hid RA
      replace h := Lib.hid h
      by_cases hv : (s.nd n).var = x
      · have hvb : ((s.nd n).var == x) = true := by rw [beq_iff_eq]; exact hv
        replace hv := Lib.hid hv
        cases hLO : s.isOf (s.nd n).lo y
        · have HL1 := HL
          simp only [hLO] at HL1
          cases hHI : s.isOf (s.nd n).hi y
          · have HI1 := HI
            simp only [hHI] at HI1
            have HS := Lib.hid (hno.out (by simp [MS.chg, hLO, hHI]))
            clear hyes hno HL HI
            go_wp2_with fail
            generalize w2.alloc (.cells #[.int .i64 (s.nd n).var, .int .i64 (s.nd n).lo, .int .i64 (s.nd n).hi, .int .i64 (f n)] 60) = W at *
            refine (HL1 W hb1).mono ?_
            rintro e w3 ⟨rfl, hb3⟩
            replace Rr := Rr.keep' hb3
            replace hb1 := hb1.trans (hb3.mono hb1.size)
            obtain ⟨p0, p1, p2⟩ := hP' _ hb3
            clear HL1 hP'
            go_wp2_with fail
            refine (HI1 w3 hb1).mono ?_
            rintro e w5 ⟨rfl, hb5⟩
            replace Rr := Rr.keep' hb5
            clear HI1
            go_wp2
            exact ⟨⟨k + 1, by omega, by go_num, by rw [HS.out]; exact Rr⟩, by simp [intOf]; omega⟩
          · have HI1 := HI
            simp only [hHI] at HI1
            have HS := Lib.hid (hyes.out (by simp [MS.chg, hv.out, hLO, hHI]))
            clear hyes hno HL HI
            go_wp2_with fail
            generalize w2.alloc (.cells #[.int .i64 (s.nd n).var, .int .i64 (s.nd n).lo, .int .i64 (s.nd n).hi, .int .i64 (f n)] 60) = W at *
            refine (HL1 W hb1).mono ?_
            rintro e w3 ⟨rfl, hb3⟩
            replace Rr := Rr.keep' hb3
            replace hb1 := hb1.trans (hb3.mono hb1.size)
            obtain ⟨p0, p1, p2⟩ := hP' _ hb3
            clear HL1 hP'
            go_wp2_with fail
            refine (HI1 w3 hb1).mono ?_
            rintro e w5 ⟨rfl, hb5⟩
            replace Rr := Rr.keep' hb5
            clear HI1
            have hA := Rr.own.alloc (.cells #[.int .i64 n] 3)
            have hsrc := oneI w5 n w5.heap.size rfl
            go_wp2_with (at_builtin; refine appendI rfl (.tmp 42) (.tmp 44) rfl _ _ ((s.all.take k).filter (s.chg x y)) [n] rfl hA rfl hsrc hln ?_; intro v' w4 hown hgr hat)
            refine ⟨⟨k + 1, by omega, by go_num, by rw [HS.out]; exact hown, fun g hg => ?_, ?_⟩, by simp [intOf]; omega⟩
            · rcases hat with hat | hat
              · exact Rr.new g (hat ▸ hg)
              · rw [hat] at hg; injection hg with hg; have := Rr.below.size; simp at hg; omega
            · exact (Rr.below.alloc Rr.below.size _).grown hgr (by have := Rr.below.size; simp; omega) Rr.new
        · have HL1 := HL
          simp only [hLO] at HL1
          have HS := Lib.hid (hyes.out (by simp [MS.chg, hv.out, hLO]))
          clear hyes hno HL HI
          go_wp2_with fail
          generalize w2.alloc (.cells #[.int .i64 (s.nd n).var, .int .i64 (s.nd n).lo, .int .i64 (s.nd n).hi, .int .i64 (f n)] 60) = W at *
          refine (HL1 W hb1).mono ?_
          rintro e w3 ⟨rfl, hb3⟩
          replace Rr := Rr.keep' hb3
          replace hb1 := hb1.trans (hb3.mono hb1.size)
          obtain ⟨p0, p1, p2⟩ := hP' _ hb3
          clear HL1 hP'
          have hA := Rr.own.alloc (.cells #[.int .i64 n] 3)
          have hsrc := oneI w3 n w3.heap.size rfl
          go_wp2_with (at_builtin; refine appendI rfl (.tmp 42) (.tmp 44) rfl _ _ ((s.all.take k).filter (s.chg x y)) [n] rfl hA rfl hsrc hln ?_; intro v' w4 hown hgr hat)
          refine ⟨⟨k + 1, by omega, by go_num, by rw [HS.out]; exact hown, fun g hg => ?_, ?_⟩, by simp [intOf]; omega⟩
          · rcases hat with hat | hat
            · exact Rr.new g (hat ▸ hg)
            · rw [hat] at hg; injection hg with hg; have := Rr.below.size; simp at hg; omega
          · exact (Rr.below.alloc Rr.below.size _).grown hgr (by have := Rr.below.size; simp; omega) Rr.new
      · have hvb : ((s.nd n).var == x) = false := by rw [beq_eq_false_iff_ne]; exact hv
        have HS := Lib.hid (hno.out (by simp [MS.chg, hv]))
        clear hyes hno hv
        go_wp2
        exact ⟨⟨k + 1, by omega, by go_num, by rw [HS.out]; exact Rr⟩, by simp [intOf]; omega⟩
    · obtain rfl : k = s.all.length := by omega
      rw [List.take_length] at Rr
      go_wp2
      go_ret
      exact ⟨_, rfl, Rr.own, fun g hg => Nat.le_trans RA.below.size (Rr.new g hg), RA.below.trans (Rr.below.mono RA.below.size)⟩
end

end Go.Proofs.YtipocmbplcdmjaaDoor

/-
  Walks of the code's store: hang, lay.
-/
namespace Go.Proofs.YtipocmbplcdmjaaDoor
open Go Go.RowKit

theorem list_set_same {α : Type} {l : List α} {j : Nat} {v : α} (h : l[j]? = some v) : l.set j v = l := by
  refine List.ext_getElem? fun i => ?_
  rw [List.getElem?_set]
  split
  · rename_i e
    subst e
    have := (List.getElem?_eq_some_iff.1 h).1
    rw [if_pos this]
    exact h.symm
  · rfl
theorem encX_cell (X : List (Nd × Int)) (i : Nat) (hi : i < X.length) : (encX.all X)[i * 4]? = some (.int .i64 X[i].1.var) ∧ (encX.all X)[i * 4 + 1]? = some (.int .i64 X[i].1.lo) ∧ (encX.all X)[i * 4 + 2]? = some (.int .i64 X[i].1.hi) ∧ (encX.all X)[i * 4 + 3]? = some (.int .i64 X[i].2) :=
  ⟨encX.all_get X i hi 0 (by decide), encX.all_get X i hi 1 (by decide), encX.all_get X i hi 2 (by decide), encX.all_get X i hi 3 (by decide)⟩
/-- How often one is had, written. -/
theorem encX_above (X : List (Nd × Int)) (i : Nat) (hi : i < X.length) (k : Int) : encX.all (X.set i (X[i].1, k)) = (encX.all X).set (i * 4 + 3) (.int .i64 k) := by
  obtain ⟨h0, h1, h2, _⟩ := encX_cell X i hi
  rw [encX.all_set X i hi]
  show ((((encX.all X).set (i * 4) (.int .i64 X[i].1.var)).set (i * 4 + 1) (.int .i64 X[i].1.lo)).set (i * 4 + 1 + 1) (.int .i64 X[i].1.hi)).set (i * 4 + 1 + 1 + 1) (.int .i64 k) = _
  rw [list_set_same h0, list_set_same h1, list_set_same h2]
/-- A node, written. -/
theorem encX_node (X : List (Nd × Int)) (i : Nat) (hi : i < X.length) (x : Nd) : encX.all (X.set i (x, X[i].2)) = setMany (encX.all X) (i * 4) [.int .i64 x.var, .int .i64 x.lo, .int .i64 x.hi] := by
  obtain ⟨_, _, _, h3⟩ := encX_cell X i hi
  rw [encX.all_set X i hi]
  show ((((encX.all X).set (i * 4) (.int .i64 x.var)).set (i * 4 + 1) (.int .i64 x.lo)).set (i * 4 + 1 + 1) (.int .i64 x.hi)).set (i * 4 + 1 + 1 + 1) (.int .i64 X[i].2) = (((encX.all X).set (i * 4) (.int .i64 x.var)).set (i * 4 + 1) (.int .i64 x.lo)).set (i * 4 + 1 + 1) (.int .i64 x.hi)
  refine list_set_same ?_
  rw [List.getElem?_set_ne (by omega), List.getElem?_set_ne (by omega), List.getElem?_set_ne (by omega)]
  exact h3

section
variable {w : World} {b bA : Nat} {FA F : Nat → Prop} {bT : Nat → Nat} {FT : Nat → Nat → Prop} {v : Value} {o : Nat → Int} {ar : AS} {X : List (Nd × Int)} {tabs : Nat → TS} {s : MS} {R : List Int} {f : Int → Int}

theorem CoR.putNode {g n cap i : Nat} (h : CoR w b bA FA bT FT (.slice (some ⟨g, 0, none⟩) n cap) o ar X tabs) (hi : i < X.length) (x : Nd) :
    CoR (w.setCells g (i * 4) [.int .i64 x.var, .int .i64 x.lo, .int .i64 x.hi]) b bA FA bT FT (.slice (some ⟨g, 0, none⟩) n cap) o ar (X.set i (x, X[i].2)) tabs ∧ Keeps (footC b FA FT (.slice (some ⟨g, 0, none⟩) n cap)) w (w.setCells g (i * 4) [.int .i64 x.var, .int .i64 x.lo, .int .i64 x.hi]) := by
  refine h.setX rfl ?_ (Keeps.of_setCells (fun k => k = g) g rfl _ _ w)
  have hO := h.places
  obtain ⟨a, c, hv, _⟩ := hO.form
  injection hv with _ hn _
  subst hn
  have h1 := ownsRow_setCells [.int .i64 x.var, .int .i64 x.lo, .int .i64 x.hi] (i * 4) w _ hO
  unfold Owns
  rw [List.length_set, encX_node X i hi x]
  exact h1

/-- What a part of a node's sides has. -/
def cntK (x : Nd) (k : Nat) (m : Int) : Int := (if 1 ≤ k ∧ x.lo = m then 1 else 0) + (if 2 ≤ k ∧ x.hi = m then 1 else 0)
theorem cntK_zero (x : Nd) (m : Int) : cntK x 0 m = 0 := by simp [cntK]
theorem cntK_one (x : Nd) (m : Int) : cntK x 1 m = if x.lo = m then 1 else 0 := by simp [cntK]
theorem cntK_two (x : Nd) (m : Int) : cntK x 2 m = cnt x m := by simp [cntK, cnt]
theorem cntK_range (x : Nd) (k : Nat) (m : Int) : 0 ≤ cntK x k m ∧ cntK x k m ≤ 2 := by
  unfold cntK; split <;> split <;> decide

theorem cntK_next (x : Nd) {k : Nat} (hk : k < 2) {by' : Int} (hby : by' = 1 ∨ by' = -1) (m : Int) : by' * cntK x k m + (if (if k = 0 then x.lo else x.hi) = m then by' else 0) = by' * cntK x (k + 1) m := by
  rcases (by omega : k = 0 ∨ k = 1) with rfl | rfl
  · rw [cntK_zero, cntK_one, if_pos rfl]
    by_cases h1 : x.lo = m <;> simp [h1]
  · rw [cntK_one, cntK_two, show (if (1 : Nat) = 0 then x.lo else x.hi) = x.hi from rfl]
    unfold cnt
    rcases hby with rfl | rfl <;> by_cases h1 : x.lo = m <;> by_cases h2 : x.hi = m <;> simp [h1, h2]

/-- A constant is had by one more, or less: nothing is to be done. -/
theorem CoAt.bumpC (h : CoAt w b F s R f) {n : Int} (hc : n = 0 ∨ n = 1) (by' : Int) : CoAt w b F s R (fun m => f m + (if n = m then by' else 0)) := by
  obtain ⟨bA, FA, bT, FT, v, X, tabs, rfl, hR, c⟩ := h
  have h1 := c.bump n by' (by omega)
  have h2 : bump X n by' = X := by simp [bump, hc]
  rw [h2] at h1
  exact ⟨bA, FA, bT, FT, v, X, tabs, rfl, hR, h1⟩
/-- A node is. -/
theorem CoR.bumpN {g n1 cap : Nat} (h : CoR w b bA FA bT FT (.slice (some ⟨g, 0, none⟩) n1 cap) s.o s.ar X tabs) (c : s.Co R f X tabs) {n : Int} (h2 : 2 ≤ n) (hX : (n - 2).toNat < X.length) (by' : Int) :
    CoAt (w.setCell ⟨g, (n - 2).toNat * 4 + 3, none⟩ (.int .i64 (f n + by'))) b (footC b FA FT (.slice (some ⟨g, 0, none⟩) n1 cap)) s R (fun m => f m + (if n = m then by' else 0)) ∧
      Keeps (footC b FA FT (.slice (some ⟨g, 0, none⟩) n1 cap)) w (w.setCell ⟨g, (n - 2).toNat * 4 + 3, none⟩ (.int .i64 (f n + by'))) := by
  have h1 := c.bump n by' (by omega)
  have e : bump X n by' = X.set (n - 2).toNat (X[(n - 2).toNat].1, f n + by') := by
    have h3 := c.above _ hX
    rw [show ((n - 2).toNat : Int) + 2 = n by omega] at h3
    simp [bump, show ¬ (n = 0 ∨ n = 1) by omega, List.getD, hX, h3]
  obtain ⟨h4, h5⟩ := h.putCell (X' := bump X n by') (j := (n - 2).toNat * 4 + 3) (u := .int .i64 (f n + by')) (bump_length _ _ _) (by rw [e, encX_above X _ hX])
  exact ⟨⟨bA, FA, bT, FT, _, _, tabs, rfl, h4, h1⟩, h5⟩

set_option maxRecDepth 100000 in
set_option maxHeartbeats 1000000 in
theorem coHang (h : CoAt w b F s R f) (ok : s.Base) (x : Nd) (by' : Int) (hlo : s.there x.lo = true) (hhi : s.there x.hi = true) (hf : ∀ m, -100000 ≤ f m ∧ f m ≤ 100000) (hby : by' = 1 ∨ by' = -1) :
    Calls Tryd.prog 43 #[pv b, nv x, .int .i64 by'] w fun e w' => e = .returned (.tuple #[]) ∧ CoAt w' b F s R (fun m => f m + by' * cnt x m) ∧ Keeps F w w' := by
  have hfew := ok.few
  unfold nv
  go_enter Tryd.func43, Tryd.ntmps43
  go_wp2
  have hb : Below w.heap.size w (w.alloc (.cells #[.int .i64 x.var, .int .i64 x.lo, .int .i64 x.hi] 58)) := by go_grown
  replace h := h.below hb
  have hK0 := Keeps.of_below hb F
  generalize w.alloc (.cells #[.int .i64 x.var, .int .i64 x.lo, .int .i64 x.hi] 58) = W at *
  go_loopw [13] (fun i wr => ∃ k : Nat, k ≤ 2 ∧ i = .int .i64 k ∧ CoAt wr b F s R (fun m => f m + by' * cntK x k m) ∧ Keeps F w wr) (fun i _ => 2 - (intOf i).toNat)
  case atStart => exact ⟨0, by omega, rfl, h.congr fun m => by rw [cntK_zero]; omega, hK0⟩
  case round =>
    clear h hK0 hb
    obtain ⟨k, hk, rfl, h, hK⟩ := hrel
    by_cases hlt : k < 2
    · have hnext := cntK_next x hlt hby
      have hr := cntK_range x k
      have hthere : s.there (if k = 0 then x.lo else x.hi) = true := by split <;> assumption
      have hcm : ∀ W, CoAt W b F s R (fun m => (f m + by' * cntK x k m) + (if (if k = 0 then x.lo else x.hi) = m then by' else 0)) → CoAt W b F s R (fun m => f m + by' * cntK x (k + 1) m) := fun W hW => hW.congr fun m => by
        have := hnext m; omega
      have hbnd : ∀ m, -200000 ≤ f m + by' * cntK x k m ∧ f m + by' * cntK x k m ≤ 200000 := fun m => by
        have := hr m; have := hf m; rcases hby with rfl | rfl <;> omega
      have hix : ∀ W, (Instr.index 103 (.agg #[.int .i64 x.lo, .int .i64 x.hi]) (.int .i64 (k : Int))).run Tryd.prog W = .ok (.int .i64 (if k = 0 then x.lo else x.hi)) W := fun W => by
        rcases (by omega : k = 0 ∨ k = 1) with rfl | rfl <;> kernel_rfl
      clear hnext hr hlo hhi hf
      generalize hf1 : (fun m => f m + by' * cntK x k m) = f1 at *
      replace hbnd : ∀ m, -200000 ≤ f1 m ∧ f1 m ≤ 200000 := by subst hf1; exact hbnd
      replace hcm : ∀ W, CoAt W b F s R (fun m => f1 m + (if (if k = 0 then x.lo else x.hi) = m then by' else 0)) → CoAt W b F s R (fun m => f m + by' * cntK x (k + 1) m) := by subst hf1; exact hcm
      clear hf1
      generalize (if k = 0 then x.lo else x.hi) = n at *
      have hk2 : (k : Int) < 2 := by omega
      have HC := fun W => coIsConst n W
      replace hcm := Lib.hid hcm
      rcases MS.there_cases hthere with ⟨hc, _⟩ | hh
      · have hN := h.bumpC hc by'
        have e : isC n = true := by rcases hc with rfl | rfl <;> rfl
        rw [e] at HC
        clear h hc hthere
        go_wp2_with fail
        refine (HC _).mono ?_
        rintro e w1 ⟨rfl, rfl⟩
        clear HC
        go_wp2
        exact ⟨⟨k + 1, by omega, by go_num, hcm.out _ hN, hK⟩, by simp [intOf]; omega⟩
      · have e : isC n = false := isC_of ok hh
        rw [e] at HC
        have hbn := hbnd n
        obtain ⟨bA, FA, bT, FT, v, X, tabs, rfl, hR, c⟩ := h
        have hl := c.len
        obtain ⟨g, cap, rfl, h2, i0, i1, d0, d1, d2, d3⟩ := hR.node c ok hh
        have z3 := hR.places.free ((n - 2).toNat * 4 + 3)
        have c18 := hR.cell.2.2
        obtain ⟨hN, hK2⟩ := hR.bumpN c h2 (by omega) by'
        have HN := Lib.hid (hcm.out _ hN)
        have HK := Lib.hid (hK.and hK2)
        clear hR c hN hK2 hcm hbnd hK hthere
        go_wp2_with fail
        refine (HC _).mono ?_
        rintro e w1 ⟨rfl, rfl⟩
        clear HC
        go_wp2
        exact ⟨⟨k + 1, by omega, by go_num, HN.out, HK.out⟩, by simp [intOf]; omega⟩
    · obtain rfl : k = 2 := by omega
      go_wp2
      exact bodyPost_end (v := .tuple #[]) (by simp [results, Tryd.results43, go_sem]) rfl ⟨rfl, h.congr fun m => by rw [cntK_two], hK⟩

theorem chain_nodeC (W : World) (g k : Nat) (v0 v1 v2 : Value) : ((W.setCell ⟨g, k, none⟩ v0).setCell ⟨g, k + 1, none⟩ v1).setCell ⟨g, k + 2, none⟩ v2 = W.setCells g k [v0, v1, v2] := rfl
theorem MS.Base.setNd (h : s.Base) (n : Int) (x : Nd) : (s.setNd n x).Base := ⟨h.ar, by simp [MS.setNd, h.len]⟩

set_option maxRecDepth 100000 in
set_option maxHeartbeats 2000000 in
theorem coLay {n : Int} (h : CoAt w b F s (n :: R) f) (ok : s.Base) (hn : s.has n = true) (hnR : n ∉ R) (x : Nd) (hv : 0 ≤ x.var ∧ x.var ≤ 7) (hlo : s.there x.lo = true) (hhi : s.there x.hi = true) (hone : ∀ m, s.has m = true → m ∉ n :: R → s.nd m ≠ x) (hf : ∀ m, -100000 ≤ f m ∧ f m ≤ 100000) :
    Calls Tryd.prog 42 #[pv b, .int .i64 n, nv x] w fun e w' => e = .returned (.tuple #[]) ∧ ∃ F', CoAt w' b F' (s.setNd n x) R (fun m => f m + cnt x m) ∧ Keeps F w w' ∧ Within w F F' := by
  have hfew := ok.few
  obtain ⟨xv, xl, xh⟩ := x
  dsimp only at hv hlo hhi
  obtain ⟨vn, rfl⟩ := Int.eq_ofNat_of_zero_le hv.1
  have okn := ok.setNd n ⟨(vn : Int), xl, xh⟩
  have hv8 : vn < 8 := by omega
  have hv8' : (vn : Int) < 8 := by omega
  obtain ⟨bA, FA, bT, FT, v, X, tabs, rfl, hR, c⟩ := h
  have hl := c.len
  obtain ⟨g, cap, rfl, h2, i0, i1, _, _, _, _⟩ := hR.node c ok hn
  have hX : (n - 2).toNat < X.length := by omega
  obtain ⟨cL, hget⟩ := c.lay ok hn hnR hv8 xl xh hone
  have hput : (tabs vn).putB (xl, xh) = true := by simp [TS.putB, hget]
  have tok := c.ok vn hv8
  have tsl := c.slots vn hv8
  have e2 : (X.getD (n - 2).toNat (⟨0, 0, 0⟩, 0)).2 = X[(n - 2).toNat].2 := by simp [List.getD, hX]
  rw [e2] at cL
  clear e2 hget hone
  unfold nv
  dsimp only
  have hBF := hR.lt
  go_enter Tryd.func42, Tryd.ntmps42
  go_wp2
  have hx := HoldsN.new w ⟨(vn : Int), xl, xh⟩
  dsimp only at hx
  have hb : Below w.heap.size w (w.alloc (.cells #[.int .i64 (vn : Int), .int .i64 xl, .int .i64 xh] 58)) := by go_grown
  replace hR := hR.below hb
  have hK := Keeps.of_below hb (footC b FA FT (.slice (some ⟨g, 0, none⟩) X.length cap))
  generalize w.alloc (.cells #[.int .i64 (vn : Int), .int .i64 xl, .int .i64 xh] 58) = W at *
  have c18 := fun u : Sub W => (hR.sub u).cell.2.2
  have x0 := fun u : Sub W => (HoldsN.sub hx u).cells.1
  have x1 := fun u : Sub W => (HoldsN.sub hx u).cells.2.1
  have x2 := fun u : Sub W => (HoldsN.sub hx u).cells.2.2
  dsimp only at x0 x1 x2
  replace cL := Lib.hid cL
  refine wp_region_quiet_tail (C := fun w' => ∃ u : Sub W, w' = u.1) 9 (by kernel_rfl) (by kernel_rfl) (InSub.drew W) ?_
  simp only [List.take_succ_cons, List.take_zero]
  iterate 9 (go_big_quiet_step (fail))
  refine wpQuiet_nil ?_
  clear c18 x0 x1 x2
  intro w' hw'
  obtain ⟨u, rfl⟩ := hw'
  have hR5 := hR.sub u
  have hx5 := HoldsN.sub hx u
  have hk5 := hK.and (Keeps.of_below u.2 _)
  clear hR hK hx
  generalize u.1 = W5 at *
  obtain ⟨q0, q1, q2, q3⟩ := placeX hR5.places (n - 2).toNat hX
  have y0 := hR5.places.free ((n - 2).toNat * 4)
  have y1 := hR5.places.free ((n - 2).toNat * 4 + 1)
  have y2 := hR5.places.free ((n - 2).toNat * 4 + 2)
  obtain ⟨hR6, hk6⟩ := hR5.putNode hX ⟨(vn : Int), xl, xh⟩
  have hx6 := hx5.keep hk6 (fun e => by have := hBF _ e; omega)
  replace hk6 := hk5.and hk6
  dsimp only at hR6 hk6 hx6
  have HR6 := Lib.hid hR6
  have HK6 := Lib.hid hk6
  have HX6 := Lib.hid hx6
  clear hR5 hx5 hk5 hR6 hk6 hx6 q3
  simp only [List.drop_succ_cons, List.drop_zero]
  apply wpList_step
  intro K1 hK1
  go_simp
  apply hK1
  clear hK1 q0 q1 q2 y0 y1 y2
  rw [chain_nodeC]
  have hR := HR6.out
  have hK := HK6.out
  have hx := HX6.out
  clear HR6 HK6 HX6
  generalize W5.setCells g ((n - 2).toNat * 4) [.int .i64 (vn : Int), .int .i64 xl, .int .i64 xh] = W6 at *
  refine wpList_nil ?_
  have x0 := fun u : Sub W6 => (HoldsN.sub hx u).cells.1
  have x1 := fun u : Sub W6 => (HoldsN.sub hx u).cells.2.1
  have x2 := fun u : Sub W6 => (HoldsN.sub hx u).cells.2.2
  dsimp only at x0 x1 x2
  have ct := fun u : Sub W6 => (hR.sub u).table vn hv8
  go_wp2
  refine wp_region_quiet_tail (C := fun w' => ∃ u : Sub W6, w' = u.1) 12 (by kernel_rfl) (by kernel_rfl) (InSub.drew W6) ?_
  simp only [List.take_succ_cons, List.take_zero]
  iterate 12 (go_big_quiet_step (fail))
  refine wpQuiet_nil ?_
  clear x0 x1 x2 ct
  intro w' hw'
  obtain ⟨u, rfl⟩ := hw'
  have hR7 := hR.sub u
  have hx7 := HoldsN.sub hx u
  have hk7 := hK.and (Keeps.of_below u.2 _)
  clear hR hK hx
  generalize u.1 = W7 at *
  have HP := uniqPutS (hR7.tab vn hv8) tok (by omega) xl xh n
  rw [hput] at HP
  simp only [List.drop_succ_cons, List.drop_zero]
  apply wpList_step
  intro K1 hK1
  go_simp
  refine HP.mono ?_
  rintro e W8 ⟨rfl, FT', hU, hKU, hWU⟩
  clear HP
  obtain ⟨hR8, hK8, hW8⟩ := hR7.setTab hv8 hU hKU hWU
  have hx8 := hx7.keep hK8 (fun e => by have := hBF _ e; omega)
  have hsz := hk7.size
  have hKf := hk7.and hK8
  have hWf : Within w (footC b FA FT (.slice (some ⟨g, 0, none⟩) X.length cap)) (footC b FA (upd FT vn FT') (.slice (some ⟨g, 0, none⟩) X.length cap)) := fun k hk => (hW8 k hk).imp id (fun h => by omega)
  clear hR7 hx7 hk7 hU hKU hWU hK8 hW8
  apply hK1
  clear hK1
  refine wpList_nil ?_
  have hlX : (X.set (n - 2).toNat (⟨(vn : Int), xl, xh⟩, X[(n - 2).toNat].2)).length = X.length := List.length_set ..
  have hC : CoAt W8 b (footC b FA (upd FT vn FT') (.slice (some ⟨g, 0, none⟩) X.length cap)) (s.setNd n ⟨(vn : Int), xl, xh⟩) R f := ⟨bA, FA, bT, upd FT vn FT', _, _, _, rfl, hR8, cL.out⟩
  have HH := coHang hC okn ⟨(vn : Int), xl, xh⟩ 1 hlo hhi hf (.inl rfl)
  unfold nv at HH
  dsimp only at HH
  obtain ⟨x0, x1, x2⟩ := hx8.cells
  dsimp only at x0 x1 x2
  clear hR8 hC hx8 cL tok
  go_wp2_with fail
  refine HH.mono ?_
  rintro e W9 ⟨rfl, hC9, hK9⟩
  clear HH
  go_wp2
  exact bodyPost_end (v := .tuple #[]) (by simp [results, Tryd.results42, go_sem]) rfl ⟨rfl, _, hC9.congr fun m => by omega, hKf.trans hK9 hWf, hWf⟩
end

end Go.Proofs.YtipocmbplcdmjaaDoor
