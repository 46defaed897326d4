/-
  Texts of this proof, one behind the other: NodeV, NodeH, RefS, RefS2, Plain, RefS3.
-/
import Derived.Test.YtdcomiopjgcboaaGreatDoorG2
import Derived.Test.YtdcomiopjgcboaaGreatDoorG1
import Derived.Test.YtdcomiopjgcboaaGreatDoorG5
import Derived.Test.YtdcomiopjgcboaaGreatDoorG3
import Derived.Deep.RegionLaw
import Derived.OwnWalk
/-
  A node, as the program holds it.
-/
namespace Go.Proofs.YtdcomiopjgcboaaGreatDoor
open Go Go.RowKit

/-- A node, as the program holds it. -/
def nv (x : Nd) : Value := .agg #[.int .i64 x.var, .int .i64 x.lo, .int .i64 x.hi]

/-- What Node tells. -/
def nodeV (s : MS) (n : Int) : Value := .tuple #[nv (if s.has n then s.nd n else ⟨0, 0, 0⟩), .bool (s.has n)]

end Go.Proofs.YtdcomiopjgcboaaGreatDoor

/-
  A variable that holds a node.
-/
namespace Go.Proofs.YtdcomiopjgcboaaGreatDoor
open Go Go.RowKit

/-- Block b is a variable that holds a node. -/
def HoldsN (w : World) (b : Nat) (x : Nd) : Prop := w.heap[b]? = some (.cells #[.int .i64 x.var, .int .i64 x.lo, .int .i64 x.hi] 78 (0, 0))
theorem HoldsN.lt {w : World} {b : Nat} {x : Nd} (h : HoldsN w b x) : b < w.heap.size := (Array.getElem?_eq_some_iff.1 h).1
theorem HoldsN.keep {w w' : World} {b : Nat} {x : Nd} {F : Nat → Prop} (h : HoldsN w b x) (hb : Keeps F w w') (hF : ¬ F b) : HoldsN w' b x := (hb.block b h.lt hF).trans h
theorem HoldsN.below {w w' : World} {b : Nat} {x : Nd} (h : HoldsN w b x) (hb : Below w.heap.size w w') : HoldsN w' b x := (hb.block b h.lt).trans h
theorem HoldsN.sub {w : World} {b : Nat} {x : Nd} (h : HoldsN w b x) (u : Sub w) : HoldsN u.1 b x := h.below u.2
theorem HoldsN.cells {w : World} {b : Nat} {x : Nd} (h : HoldsN w b x) : w.cell? ⟨b, 0, none⟩ = some (.int .i64 x.var) ∧ w.cell? ⟨b, 1, none⟩ = some (.int .i64 x.lo) ∧ w.cell? ⟨b, 2, none⟩ = some (.int .i64 x.hi) :=
  ⟨by rw [cell_of_row _ _ _ _ _ _ h]; rfl, by rw [cell_of_row _ _ _ _ _ _ h]; rfl, by rw [cell_of_row _ _ _ _ _ _ h]; rfl⟩
theorem HoldsN.new (w : World) (x : Nd) : HoldsN (w.alloc (.cells #[.int .i64 x.var, .int .i64 x.lo, .int .i64 x.hi] 78)) w.heap.size x := heap_alloc_new _ _

/-- A node that is returned from a variable, with a second value. -/
theorem ret_node {fn : Func} {p q : Tmp} {tmps : Array Value} {w : World} {b : Nat} {x : Nd} {u : Value} (h : fn.results = #[.cell p 78, .tmp q]) (hp : tmps.getD p undef = .pointer (some ⟨b, 0, none⟩)) (hq : tmps.getD q undef = u)
    (hh : w.heap[b]? = some (.cells #[.int .i64 x.var, .int .i64 x.lo, .int .i64 x.hi] 78 (0, 0))) : (results fn tmps).run Tryz.prog w = .ok (.tuple #[nv x, u]) w := by
  rw [results_cell_tmp h, hp, hq]
  simp only [asAddr, Sem.run_pure, Result.andThen_ok]
  rw [run_loadVar_row w b _ _ _ _ _ hh Tryz.underlying78 rfl (by kernel_rfl)]
  rfl

end Go.Proofs.YtdcomiopjgcboaaGreatDoor

/-
  The document's store, as it lies in memory; its looks.
-/
namespace Go.Proofs.YtdcomiopjgcboaaGreatDoor
open Go Go.RowKit

/-- Nodes. -/
def encN : Enc Tryz.prog Nd where
  slice := 69
  elem := 78
  size := 3
  bytes := 24
  cells x := [.int .i64 x.var, .int .i64 x.lo, .int .i64 x.hi]
  zero := .agg #[.int .i64 0, .int .i64 0, .int .i64 0]
  und := Tryz.underlying69
  info := info_of _ _ _ _ _ (by kernel_rfl)
  zsize := rfl
  pos := by decide
  few := by decide
  len _ := rfl
  one _ u h := by
    simp only [List.mem_cons, List.not_mem_nil, or_false] at h
    rcases h with rfl | rfl | rfl <;> rfl

/-- The blocks of a store. -/
def footS (b : Nat) (FA : Nat → Prop) (v : Value) (k : Nat) : Prop := k = b ∨ FA k ∨ v.ownBlock = some k

/-- At block b stands the document's store. -/
structure RefSR (w : World) (b bA : Nat) (FA : Nat → Prop) (v : Value) (s : MS) : Prop where
  row : w.heap[b]? = some (.cells #[.pointer (some ⟨bA, 0, none⟩), v, .int .i64 (s.o 0), .int .i64 (s.o 1), .int .i64 (s.o 2), .int .i64 (s.o 3), .int .i64 (s.o 4), .int .i64 (s.o 5), .int .i64 (s.o 6), .int .i64 (s.o 7)] 71 (0, 0))
  ar : RefAt w bA FA s.ar
  nodes : Owns encN w v s.N
  apart1 : ¬ FA b
  apart2 : v.ownBlock ≠ some b
  apart : ∀ g, v.ownBlock = some g → ¬ FA g

def RefSAt (w : World) (b : Nat) (F : Nat → Prop) (s : MS) : Prop := ∃ bA FA v, F = footS b FA v ∧ RefSR w b bA FA v s

section
variable {w w' : World} {b bA : Nat} {FA F G : Nat → Prop} {v : Value} {s : MS}

theorem RefSR.lt (h : RefSR w b bA FA v s) : ∀ k, footS b FA v k → k < w.heap.size := by
  rintro k (rfl | hk | hk)
  · exact row_lt h.row
  · exact h.ar.lt k hk
  · exact h.nodes.lt k hk
theorem RefSR.keep (h : RefSR w b bA FA v s) (hb : Keeps G w w') (hF : ∀ k, footS b FA v k → ¬ G k) : RefSR w' b bA FA v s :=
  ⟨(hb.block b (row_lt h.row) (hF b (.inl rfl))).trans h.row, h.ar.keep hb fun k hk => hF k (.inr (.inl hk)), h.nodes.keep hb fun g hg => hF g (.inr (.inr hg)), h.apart1, h.apart2, h.apart⟩
theorem RefSR.below (h : RefSR w b bA FA v s) (hb : Below w.heap.size w w') : RefSR w' b bA FA v s := h.keep (Keeps.of_below hb noBlock) (fun _ _ h => h)
theorem RefSR.sub (h : RefSR w b bA FA v s) (u : Sub w) : RefSR u.1 b bA FA v s := h.below u.2
theorem RefSR.cells (h : RefSR w b bA FA v s) : w.cell? ⟨b, 0, none⟩ = some (.pointer (some ⟨bA, 0, none⟩)) ∧ w.cell? ⟨b, 1, none⟩ = some v :=
  ⟨by rw [cell_of_row _ _ _ _ _ _ h.row]; rfl, by rw [cell_of_row _ _ _ _ _ _ h.row]; rfl⟩
theorem RefSR.place (h : RefSR w b bA FA v s) (i : Nat) (hi : i < 8) : w.cell? ⟨b, 2 + i, none⟩ = some (.int .i64 (s.o i)) := by
  rw [cell_of_row _ _ _ _ _ _ h.row]
  rcases (by omega : i = 0 ∨ i = 1 ∨ i = 2 ∨ i = 3 ∨ i = 4 ∨ i = 5 ∨ i = 6 ∨ i = 7) with rfl | rfl | rfl | rfl | rfl | rfl | rfl | rfl <;> rfl
theorem RefSR.order (h : RefSR w b bA FA v s) : w.cell? ⟨b, 2, none⟩ = some (.int .i64 (s.o 0)) ∧ w.cell? ⟨b, 3, none⟩ = some (.int .i64 (s.o 1)) ∧ w.cell? ⟨b, 4, none⟩ = some (.int .i64 (s.o 2)) ∧ w.cell? ⟨b, 5, none⟩ = some (.int .i64 (s.o 3)) ∧
    w.cell? ⟨b, 6, none⟩ = some (.int .i64 (s.o 4)) ∧ w.cell? ⟨b, 7, none⟩ = some (.int .i64 (s.o 5)) ∧ w.cell? ⟨b, 8, none⟩ = some (.int .i64 (s.o 6)) ∧ w.cell? ⟨b, 9, none⟩ = some (.int .i64 (s.o 7)) :=
  ⟨h.place 0 (by decide), h.place 1 (by decide), h.place 2 (by decide), h.place 3 (by decide), h.place 4 (by decide), h.place 5 (by decide), h.place 6 (by decide), h.place 7 (by decide)⟩
theorem RefSR.free (h : RefSR w b bA FA v s) (j : Nat) : w.frozen? ⟨b, j, none⟩ = false := frozen_of_row _ _ _ _ _ h.row
theorem RefSR.form (h : RefSR w b bA FA v s) : ∃ a c, v = .slice a s.N.length c := by
  obtain ⟨a, c, e, _⟩ := h.nodes.form
  exact ⟨a, c, e⟩

theorem RefSAt.lt (h : RefSAt w b F s) (k : Nat) (hk : F k) : k < w.heap.size := by obtain ⟨bA, FA, v, rfl, h⟩ := h; exact h.lt k hk
theorem RefSAt.keep (h : RefSAt w b F s) (hb : Keeps G w w') (hF : ∀ k, F k → ¬ G k) : RefSAt w' b F s := by obtain ⟨bA, FA, v, rfl, h⟩ := h; exact ⟨bA, FA, v, rfl, h.keep hb hF⟩
theorem RefSAt.below (h : RefSAt w b F s) (hb : Below w.heap.size w w') : RefSAt w' b F s := h.keep (Keeps.of_below hb noBlock) (fun _ _ h => h)
theorem RefSAt.sub (h : RefSAt w b F s) (u : Sub w) : RefSAt u.1 b F s := h.below u.2

/-- A node's cells. -/
theorem nodeAt {g cap n : Nat} {l : List Nd} (h : Owns encN w (.slice (some ⟨g, 0, none⟩) n cap) l) (i : Nat) (hi : i < l.length) :
    w.cell? ⟨g, i * 3, none⟩ = some (.int .i64 l[i].var) ∧ w.cell? ⟨g, i * 3 + 1, none⟩ = some (.int .i64 l[i].lo) ∧ w.cell? ⟨g, i * 3 + 2, none⟩ = some (.int .i64 l[i].hi) := by
  obtain ⟨a, c, hv, _, _, _, H⟩ := h.form
  injection hv with ha _ hc
  obtain ⟨g', e, _, _, hcell⟩ := H ⟨g, 0, none⟩ ha.symm
  cases e
  exact ⟨hcell i hi 0 (by decide), hcell i hi 1 (by decide), hcell i hi 2 (by decide)⟩
theorem MS.nd_get {s : MS} (i : Nat) (hi : i < s.N.length) : s.nd ((i : Int) + 2) = s.N[i] := by
  unfold MS.nd
  rw [show ((i : Int) + 2 - 2).toNat = i by omega]
  simp [List.getD, hi]
/-- The cells of what is there. -/
theorem RefSR.node (h : RefSR w b bA FA v s) (ok : s.Base) {n : Int} (hn : s.has n = true) : ∃ (g c : Nat), v = .slice (some ⟨g, 0, none⟩) s.N.length c ∧ 2 ≤ n ∧ 0 ≤ n - 2 ∧ n - 2 < (s.N.length : Int) ∧
    w.cell? ⟨g, (n - 2).toNat * 3, none⟩ = some (.int .i64 (s.nd n).var) ∧ w.cell? ⟨g, (n - 2).toNat * 3 + 1, none⟩ = some (.int .i64 (s.nd n).lo) ∧ w.cell? ⟨g, (n - 2).toNat * 3 + 2, none⟩ = some (.int .i64 (s.nd n).hi) := by
  obtain ⟨r1, r2, _⟩ := ok.range hn
  obtain ⟨g, c, rfl, _, _⟩ := h.nodes.some (by omega)
  have hi : n = ((n - 2).toNat : Int) + 2 := by omega
  have := nodeAt h.nodes (n - 2).toNat r2
  rw [← MS.nd_get _ r2, ← hi] at this
  exact ⟨g, c, rfl, r1, by omega, by omega, this⟩
end

set_option maxRecDepth 100000 in
theorem refSHas {w : World} {b : Nat} {F : Nat → Prop} {s : MS} (h : RefSAt w b F s) (ok : s.Base) (n : Int) (hn : n ≤ 9223372036854775807) :
    Calls Tryz.prog 77 #[.pointer (some ⟨b, 0, none⟩), .int .i64 n] w fun e w' => e = .returned (.bool (s.has n)) ∧ w = w' := by
  obtain ⟨bA, FA, v, rfl, h⟩ := h
  obtain ⟨c0, c1⟩ := h.cells
  go_enter Tryz.func77, Tryz.ntmps77
  by_cases h2 : 2 ≤ n
  · have hh : s.has n = decide (n - 2 ∈ s.ar.T) := by simp [MS.has, h2]
    have H := refHasS h.ar ok.ar (n - 2)
    rw [hh]
    clear h hh
    go_wp2_with fail
    refine H.mono ?_
    rintro e w1 ⟨rfl, rfl⟩
    go_wp2
    go_ret
    exact ⟨rfl, rfl⟩
  · have hh : s.has n = false := by simp [MS.has, h2]
    rw [hh]
    clear h hh
    go_wp2
    go_ret
    exact ⟨rfl, rfl⟩

set_option maxRecDepth 100000 in
theorem refSNode {w : World} {b : Nat} {F : Nat → Prop} {s : MS} (h : RefSAt w b F s) (ok : s.Base) (n : Int) (hn : n ≤ 9223372036854775807) :
    Calls Tryz.prog 43 #[.pointer (some ⟨b, 0, none⟩), .int .i64 n] w fun e w' => e = .returned (nodeV s n) ∧ Below w.heap.size w w' := by
  have H := fun (u : Sub w) => refSHas (h.sub u) ok n hn
  obtain ⟨bA, FA, v, rfl, h⟩ := h
  unfold nodeV
  go_enter Tryz.func43, Tryz.ntmps43
  have hA : Below w.heap.size w (w.alloc (.cells #[.int .i64 0, .int .i64 0, .int .i64 0] 78)) := by go_grown
  cases hh : s.has n
  · go_wp2_with fail
    refine (H ⟨_, hA⟩).mono ?_
    rintro e w1 ⟨rfl, rfl⟩
    rw [hh]
    go_wp2
    exact bodyPost_ret (ret_node Tryz.results43 rfl rfl (x := ⟨0, 0, 0⟩) (heap_alloc_new _ _)) rfl ⟨rfl, hA⟩
  · have c1 := (h.sub ⟨_, hA⟩).cells.2
    obtain ⟨g, c, rfl, h2, i0, i1, d0, d1, d2⟩ := (h.sub ⟨_, hA⟩).node ok hh
    go_wp2_with fail
    refine (H ⟨_, hA⟩).mono ?_
    rintro e w1 ⟨rfl, rfl⟩
    rw [hh]
    go_wp2
    exact bodyPost_ret (ret_node Tryz.results43 rfl rfl (x := s.nd n) (heap_alloc_new _ _)) rfl ⟨rfl, by go_grown⟩

set_option maxRecDepth 100000 in
theorem refSRoom {w : World} {b : Nat} {F : Nat → Prop} {s : MS} (h : RefSAt w b F s) (ok : s.Base) :
    Calls Tryz.prog 41 #[.pointer (some ⟨b, 0, none⟩)] w fun e w' => e = .returned (.int .i64 s.room) ∧ Below w.heap.size w w' := by
  obtain ⟨bA, FA, v, rfl, h⟩ := h
  obtain ⟨c0, c1⟩ := h.cells
  obtain ⟨v1, v2, _, hR⟩ := h.ar
  obtain ⟨d0, d1, _, _⟩ := hR.cells
  obtain ⟨a1, k1, a2, k2, rfl, rfl⟩ := hR.forms
  have hl := ok.ar.len
  have h1 := ok.ar.nextLe
  have h2 := ok.ar.mostLe
  unfold MS.room
  clear h hR
  go_enter Tryz.func41, Tryz.ntmps41
  go_wp2
  go_region
  go_wp2
  go_ret
  exact ⟨rfl, by go_grown⟩

set_option maxRecDepth 100000 in
set_option maxHeartbeats 1000000 in
theorem refSBehind {w : World} {b : Nat} {F : Nat → Prop} {s : MS} (h : RefSAt w b F s) (ok : s.Base) (n v : Int) (hn : n ≤ 9223372036854775807) :
    Calls Tryz.prog 103 #[.pointer (some ⟨b, 0, none⟩), .int .i64 n, .int .i64 v] w fun e w' => e = .returned (.bool (s.behind n v)) ∧ Below w.heap.size w w' := by
  have H := refSNode h ok n hn
  have hLv := fun W => refLevel s.o v W
  have hLx := fun W => refLevel s.o (s.nd n).var W
  obtain ⟨bA, FA, vN, rfl, h⟩ := h
  simp only [ov] at hLv hLx
  unfold nodeV nv at H
  cases hh : s.has n
  · simp only [hh, Bool.false_eq_true, if_false] at H
    by_cases h0 : n = 0
    · have hB := MS.behind_const (s := s) (v := v) (.inl h0)
      rw [hB]
      clear hB hLv hLx h hh
      subst h0
      go_enter Tryz.func103, Tryz.ntmps103
      go_wp2_with fail
      refine H.mono ?_
      rintro e w1 ⟨rfl, hb⟩
      go_wp2
      go_ret
      exact ⟨rfl, hb.alloc hb.size _⟩
    · have e0 : (n == 0) = false := by rw [beq_eq_false_iff_ne]; exact h0
      have hB : s.behind n v = (n == 1) := by simp [MS.behind, MS.node, hh, e0]
      rw [hB]
      clear hB hLv hLx h hh
      go_enter Tryz.func103, Tryz.ntmps103
      go_wp2_with fail
      refine H.mono ?_
      rintro e w1 ⟨rfl, hb⟩
      go_wp2
      go_ret
      exact ⟨rfl, hb.alloc hb.size _⟩
  · have hB := MS.behind_node (v := v) hh
    rw [hB]
    simp only [hh, if_true] at H
    clear hB
    generalize s.nd n = x at *
    generalize levO s.o v = ly at *
    generalize levO s.o x.var = lx at *
    go_enter Tryz.func103, Tryz.ntmps103
    go_wp2_with fail
    refine H.mono ?_
    rintro e w1 ⟨rfl, hb⟩
    replace h := h.below hb
    clear H
    go_wp2
    have hA : Below w1.heap.size w1 (w1.alloc (.cells #[.int .i64 x.var, .int .i64 x.lo, .int .i64 x.hi] 78)) := by go_grown
    have hx := heap_alloc_new w1 (.cells #[.int .i64 x.var, .int .i64 x.lo, .int .i64 x.hi] 78)
    have hlt : w1.heap.size < (w1.alloc (.cells #[.int .i64 x.var, .int .i64 x.lo, .int .i64 x.hi] 78)).heap.size := by simp
    replace h := h.below hA
    replace hb := hb.trans (hA.mono hb.size)
    clear hA
    generalize w1.alloc (.cells #[.int .i64 x.var, .int .i64 x.lo, .int .i64 x.hi] 78) = W at *
    have x0 : ∀ u : Sub W, u.1.cell? ⟨w1.heap.size, 0, none⟩ = some (.int .i64 x.var) := fun u => by rw [cell_of_row _ _ _ _ _ _ ((u.2.block _ hlt).trans hx)]; rfl
    have c0 := fun u : Sub W => (h.sub u).order.1
    have c1 := fun u : Sub W => (h.sub u).order.2.1
    have c2 := fun u : Sub W => (h.sub u).order.2.2.1
    have c3 := fun u : Sub W => (h.sub u).order.2.2.2.1
    have c4 := fun u : Sub W => (h.sub u).order.2.2.2.2.1
    have c5 := fun u : Sub W => (h.sub u).order.2.2.2.2.2.1
    have c6 := fun u : Sub W => (h.sub u).order.2.2.2.2.2.2.1
    have c7 := fun u : Sub W => (h.sub u).order.2.2.2.2.2.2.2
    clear h
    refine wp_region_quiet_all (C := fun w' => ∃ u : Sub W, w' = u.1) (by kernel_rfl) (by kernel_rfl) (InSub.drew W) ?_
    iterate 6 (go_big_quiet_step (fail))
    go_big_quiet_step (exact subBelow (hLx _))
    iterate 5 (go_big_quiet_step (fail))
    go_big_quiet_step (exact subBelow (hLv _))
    iterate 2 (go_big_quiet_step (fail))
    refine wpQuiet_nil ?_
    clear c0 c1 c2 c3 c4 c5 c6 c7 x0
    intro w' hw'
    obtain ⟨u, rfl⟩ := hw'
    go_wp2
    go_ret
    exact ⟨rfl, hb.trans (u.2.mono hb.size)⟩

set_option maxRecDepth 100000 in
set_option maxHeartbeats 1000000 in
theorem refSOf {w : World} {b : Nat} {F : Nat → Prop} {s : MS} (h : RefSAt w b F s) (ok : s.Base) (n v : Int) (hn : n ≤ 9223372036854775807) :
    Calls Tryz.prog 69 #[.pointer (some ⟨b, 0, none⟩), .int .i64 n, .int .i64 v] w fun e w' => e = .returned (.bool (s.isOf n v)) ∧ Below w.heap.size w w' := by
  have H := refSNode h ok n hn
  unfold nodeV nv at H
  cases hh : s.has n
  · simp only [hh, Bool.false_eq_true, if_false] at H
    have hB : s.isOf n v = false := by simp [MS.isOf, MS.node, hh]
    rw [hB]
    clear hB h hh
    go_enter Tryz.func69, Tryz.ntmps69
    go_wp2_with fail
    refine H.mono ?_
    rintro e w1 ⟨rfl, hb⟩
    go_wp2
    go_ret
    exact ⟨rfl, hb.alloc hb.size _⟩
  · have hB : s.isOf n v = ((s.nd n).var == v) := by simp [MS.isOf, MS.node, hh]
    rw [hB]
    simp only [hh, if_true] at H
    clear hB h hh
    generalize s.nd n = x at *
    go_enter Tryz.func69, Tryz.ntmps69
    go_wp2_with fail
    refine H.mono ?_
    rintro e w1 ⟨rfl, hb⟩
    go_wp2
    go_ret
    exact ⟨rfl, hb.alloc hb.size _⟩

set_option maxRecDepth 100000 in
set_option maxHeartbeats 1000000 in
theorem refSSide {w : World} {b : Nat} {F : Nat → Prop} {s : MS} (h : RefSAt w b F s) (ok : s.Base) (n y : Int) (z : Bool) (zi : Int) (hz : zi = if z then 1 else 0) (hn : n ≤ 9223372036854775807) :
    Calls Tryz.prog 72 #[.pointer (some ⟨b, 0, none⟩), .int .i64 n, .int .i64 y, .int .i64 zi] w fun e w' => e = .returned (.int .i64 (s.side n y z)) ∧ Below w.heap.size w w' := by
  have H := refSOf h ok n y hn
  obtain ⟨bA, FA, v, rfl, h⟩ := h
  cases hh : s.isOf n y
  · rw [hh] at H
    have hB : s.side n y z = n := by simp [MS.side, hh]
    rw [hB]
    clear hB h hh hz
    go_enter Tryz.func72, Tryz.ntmps72
    go_wp2_with fail
    refine H.mono ?_
    rintro e w1 ⟨rfl, hb⟩
    go_wp2
    go_ret
    exact ⟨rfl, hb⟩
  · rw [hh] at H
    have hhas := (MS.isOf_iff.1 hh).1
    have hB : s.side n y z = if z then (s.nd n).hi else (s.nd n).lo := by simp [MS.side, hh]
    rw [hB]
    clear hB
    cases z
    · simp only [Bool.false_eq_true, if_false] at *
      subst hz
      go_enter Tryz.func72, Tryz.ntmps72
      go_wp2_with fail
      refine H.mono ?_
      rintro e w1 ⟨rfl, hb⟩
      replace h := h.below hb
      have c1 := h.cells.2
      obtain ⟨g, c, rfl, h2, i0, i1, d0, d1, d2⟩ := h.node ok hhas
      clear h hhas hh H
      go_wp2
      go_ret
      exact ⟨rfl, hb⟩
    · simp only [if_true] at *
      subst hz
      go_enter Tryz.func72, Tryz.ntmps72
      go_wp2_with fail
      refine H.mono ?_
      rintro e w1 ⟨rfl, hb⟩
      replace h := h.below hb
      have c1 := h.cells.2
      obtain ⟨g, c, rfl, h2, i0, i1, d0, d1, d2⟩ := h.node ok hhas
      clear h hhas hh H
      go_wp2
      go_ret
      exact ⟨rfl, hb⟩

set_option maxRecDepth 100000 in
set_option maxHeartbeats 1000000 in
theorem refSAll {w : World} {b : Nat} {F : Nat → Prop} {s : MS} (h : RefSAt w b F s) (ok : s.Base) :
    Calls Tryz.prog 37 #[.pointer (some ⟨b, 0, none⟩)] w fun e w' => ∃ v', e = .returned v' ∧ WRel w s.all v' w' := by
  have hfew := ok.few
  have H := fun wr (hb : Below w.heap.size w wr) (n : Int) (hn : n ≤ 9223372036854775807) => refSHas (h.below hb) ok n hn
  obtain ⟨bA, FA, v, rfl, h⟩ := h
  obtain ⟨a, c, rfl⟩ := h.form
  have hlen : s.all = (numsTo s.N.length).filter s.has := rfl
  rw [hlen]
  clear hlen
  go_enter Tryz.func37, Tryz.ntmps37
  go_wp2
  go_loopw [3, 4] (fun vo i wr => ∃ k : Nat, k ≤ s.N.length ∧ i = .int .i64 ((k : Int) + 2) ∧ WRel w ((numsTo k).filter s.has) vo wr) (fun _ i _ => s.N.length + 2 - (intOf i).toNat)
  case atStart => exact ⟨0, Nat.zero_le _, rfl, Owns.nil _ _, (fun g h => by cases h), Below.refl _ _⟩
  case round =>
    obtain ⟨k, hk, rfl, R⟩ := hrel
    have c1 := (h.below R.below).cells.2
    by_cases hlt : k < s.N.length
    · have hstep := numsTo_filter s.has k
      have hl := numsTo_filter_length s.has k
      have hki : (k : Int) < (s.N.length : Int) := by omega
      have HH := H wr R.below ((k : Int) + 2) (by omega)
      clear h H
      cases hh : s.has ((k : Int) + 2)
      · rw [hh] at hstep HH
        simp only [Bool.false_eq_true, if_false, List.append_nil] at hstep
        have HS := Lib.hid hstep
        clear hstep hh
        go_wp2_with fail
        refine HH.mono ?_
        rintro e w1 ⟨rfl, rfl⟩
        clear HH
        go_wp2
        exact ⟨⟨k + 1, by omega, by go_num, by rw [HS.out]; exact R⟩, by simp [intOf]; omega⟩
      · rw [hh] at hstep HH
        simp only [if_true] at hstep
        have HS := Lib.hid hstep
        clear hstep hh
        have hA := R.own.alloc (.cells #[.int .i64 ((k : Int) + 2)] 3)
        have hsrc := oneI wr ((k : Int) + 2) wr.heap.size rfl
        have hln : ((numsTo k).filter s.has).length + [(k : Int) + 2].length ≤ 1000000 := by simp at hl ⊢; omega
        go_wp2_with fail
        refine HH.mono ?_
        rintro e w1 ⟨rfl, rfl⟩
        clear HH
        go_wp2_with (at_builtin; refine appendI rfl (.tmp 18) (.tmp 20) rfl _ _ ((numsTo k).filter s.has) [(k : Int) + 2] rfl hA rfl hsrc hln ?_; intro v' w2 hown hgr hat)
        refine ⟨⟨k + 1, by omega, by go_num, by rw [HS.out]; exact hown, fun g hg => ?_, ?_⟩, by simp [intOf]; omega⟩
        · rcases hat with hat | hat
          · exact R.new g (hat ▸ hg)
          · rw [hat] at hg; injection hg with hg; have := R.below.size; simp at hg; omega
        · exact (R.below.alloc R.below.size _).grown hgr (by have := R.below.size; simp; omega) R.new
    · obtain rfl : k = s.N.length := by omega
      clear h H
      go_wp2
      go_ret
      exact ⟨_, rfl, R⟩

end Go.Proofs.YtdcomiopjgcboaaGreatDoor

/-
  The document's store: Mk.
-/
namespace Go.Proofs.YtdcomiopjgcboaaGreatDoor
open Go Go.RowKit

/-- Two nodes compared. -/
theorem run_eql_nodes (a0 a1 a2 b0 b1 b2 : Int) (c : Bool) (hc : decide ((⟨a0, a1, a2⟩ : Nd) = ⟨b0, b1, b2⟩) = c) (w : World) : (binOp .eql 78 (.agg #[.int .i64 a0, .int .i64 a1, .int .i64 a2]) (.agg #[.int .i64 b0, .int .i64 b1, .int .i64 b2])).run Tryz.prog w = .ok (.bool c) w := by
  have hq : ∀ (w : World) (a b : Int), (Op.equalIn 9999 3 (.int .i64 a) (.int .i64 b)).run Tryz.prog w = .ok (a == b) w := fun w a b => run_equalIn_int w 9998 _ _ _ _ _ Tryz.underlying3
  rw [← hc, run_eql_struct, run_equalIn_agg w 9999 _ _ _ (by kernel_rfl) (by kernel_rfl)]
  by_cases h : a0 = b0
  · by_cases k : a1 = b1
    · by_cases m : a2 = b2
      · simp [Op.eqFields, part, go_sem, hq, h, k, m]
      · simp [Op.eqFields, part, go_sem, hq, h, k, m]
    · simp [Op.eqFields, part, go_sem, hq, h, k]
  · simp [Op.eqFields, part, go_sem, hq, h]

set_option maxRecDepth 100000 in
theorem refSIn (l : List Int) (n : Int) (v : Value) (w : World) (hv : Reads encI w v l) (_hl : l.length ≤ 1000000) :
    Calls Tryz.prog 75 #[v, .int .i64 n] w fun e w' => e = .returned (.bool (l.contains n)) ∧ w = w' := by
  have hcd : l.contains n = decide (n ∈ l) := by simp
  rw [hcd]
  clear hcd
  obtain ⟨a, cap, rfl⟩ := hv.form
  go_enter Tryz.func75, Tryz.ntmps75
  go_wp2
  go_loop [5] (fun i => ∃ k : Nat, k ≤ l.length ∧ i = .int .i64 k ∧ Hid (n ∉ l.take k)) (fun i => l.length - (intOf i).toNat)
  case atStart => exact ⟨0, Nat.zero_le _, rfl, by simp [Hid]⟩
  case round =>
    obtain ⟨k, hk, rfl, hn⟩ := hrel
    by_cases hlt : k < l.length
    · obtain ⟨ad, rfl, hc⟩ := hv.intAt k hlt
      obtain ⟨hy, hno⟩ := in_step hlt hn.out
      have hk0 : (0 : Int) ≤ (k : Int) := by omega
      have hk1 : (k : Int) < (l.length : Int) := by omega
      generalize l[k] = x at *
      by_cases hx : x = n
      · have hxb : (x == n) = true := by rw [beq_iff_eq]; exact hx
        have HY := Lib.hid (hy hx)
        clear hx hy hno hv
        go_wp2
        go_ret
        exact ⟨by rw [decide_eq_true HY.out]; rfl, rfl⟩
      · have hxb : (x == n) = false := by rw [beq_eq_false_iff_ne]; exact hx
        have HN := Lib.hid (hno hx)
        clear hx hy hno hv hn
        go_wp2
        exact ⟨⟨k + 1, by omega, by go_num, HN.out⟩, by simp [intOf]; omega⟩
    · clear hv
      go_wp2
      go_ret
      exact ⟨by rw [decide_eq_false (fun e => hn.out (by rw [List.take_of_length_le (by omega)]; exact e))]; rfl, rfl⟩

section
variable {w w' : World} {b bA : Nat} {FA FA' : Nat → Prop} {v v' : Value} {s : MS}

/-- The arena within it went on. -/
theorem RefSR.arena (h : RefSR w b bA FA v s) {a : AS} (hA : RefAt w' bA FA' a) (hK : Keeps FA w w') (hW : Within w FA FA') :
    RefSR w' b bA FA' v { s with ar := a } ∧ Keeps (footS b FA v) w w' ∧ Within w (footS b FA v) (footS b FA' v) := by
  have hlt := h.lt
  refine ⟨⟨(hK.block b (hlt b (.inl rfl)) h.apart1).trans h.row, hA, h.nodes.keep hK h.apart, fun e => ?_, h.apart2, fun g hg e => ?_⟩, hK.mono fun k hk => .inr (.inl hk), ?_⟩
  · rcases hW b e with e | e
    · exact h.apart1 e
    · have := hlt b (.inl rfl); omega
  · rcases hW g e with e | e
    · exact h.apart g hg e
    · have := hlt g (.inr (.inr hg)); omega
  · rintro k (rfl | hk | hk)
    · exact .inl (.inl rfl)
    · exact (hW k hk).imp (fun h => .inr (.inl h)) id
    · exact .inl (.inr (.inr hk))

/-- Behind an append the new slice is stored. -/
theorem RefSR.appNodes (h : RefSR w b bA FA v s) {l : List Nd} (ho : Owns encN w' v' l) (hg : w.grownBy w' v.ownBlock) (hat : v'.ownBlock = v.ownBlock ∨ v'.ownBlock = some w.heap.size) :
    w'.cell? ⟨b, 1, none⟩ = some v ∧ w'.frozen? ⟨b, 1, none⟩ = false ∧ RefSR (w'.setCell ⟨b, 1, none⟩ v') b bA FA v' { s with N := l } ∧ Keeps (footS b FA v) w (w'.setCell ⟨b, 1, none⟩ v') ∧ Within w (footS b FA v) (footS b FA v') := by
  have hlt := h.lt
  have hb0 := hlt b (.inl rfl)
  have hrow := (hg.block b hb0 (fun e => h.apart2 e.symm)).trans h.row
  have hb1 : v'.ownBlock ≠ some b := fun e => by
    rcases hat with hat | hat
    · exact h.apart2 (hat ▸ e)
    · rw [hat] at e; injection e; omega
  have hap : ∀ g, v'.ownBlock = some g → ¬ FA g := fun g hg1 e => by
    rcases hat with hat | hat
    · exact h.apart g (hat ▸ hg1) e
    · have := hlt g (.inr (.inl e)); rw [hat] at hg1; injection hg1; omega
  have hK : Keeps (footS b FA v) w (w'.setCell ⟨b, 1, none⟩ v') := (Keeps.of_grown hg (fun k hk => .inr (.inr hk))).and (Keeps.of_setCell _ _ ⟨b, 1, none⟩ _ (.inl rfl))
  refine ⟨by rw [cell_of_row _ _ _ _ _ _ hrow]; rfl, frozen_of_row _ _ _ _ _ hrow, ⟨heap_setCell_same w' b 1 _ _ v' hrow, ?_, ho.block fun g hg => Below.heap_setCell _ _ _ _ (fun e => hb1 (by rw [hg, e])), h.apart1, hb1, hap⟩, hK, ?_⟩
  · exact (h.ar.keep (Keeps.of_grown (F := fun k => v.ownBlock = some k) hg (fun k hk => hk)) fun k hk e => h.apart k e hk).keep (Keeps.of_setCell (fun k => k = b) _ ⟨b, 1, none⟩ _ rfl) fun k hk e => h.apart1 (e ▸ hk)
  · rintro k (rfl | hk | hk)
    · exact .inl (.inl rfl)
    · exact .inl (.inr (.inl hk))
    · rcases hat with hat | hat
      · exact .inl (.inr (.inr (hat ▸ hk)))
      · rw [hat] at hk; injection hk with hk; exact .inr (by omega)

/-- A node written. -/
theorem RefSR.putNode {g c n : Nat} (h : RefSR w b bA FA (.slice (some ⟨g, 0, none⟩) n c) s) (hn : n = s.N.length) {i : Nat} (hi : i < s.N.length) (x : Nd) :
    RefSR (w.setCells g (i * 3) [.int .i64 x.var, .int .i64 x.lo, .int .i64 x.hi]) b bA FA (.slice (some ⟨g, 0, none⟩) n c) { s with N := s.N.set i x } ∧ Keeps (footS b FA (.slice (some ⟨g, 0, none⟩) n c)) w (w.setCells g (i * 3) [.int .i64 x.var, .int .i64 x.lo, .int .i64 x.hi]) := by
  subst hn
  have hne : g ≠ b := fun e => h.apart2 (by rw [e]; rfl)
  have ho := owns_putCells h.nodes hi x
  refine ⟨⟨?_, ?_, ?_, h.apart1, h.apart2, h.apart⟩, Keeps.of_setCells _ g (.inr (.inr rfl)) _ _ _⟩
  · rw [heap_setCells_other _ _ _ _ (fun e => hne e.symm)]; exact h.row
  · exact h.ar.keep (Keeps.of_setCells (fun k => k = g) g rfl _ _ _) fun k hk e => h.apart g rfl (e ▸ hk)
  · exact ho
theorem chain_node (W : World) (g o : Nat) (a b c : Value) : ((W.setCell ⟨g, o, none⟩ a).setCell ⟨g, o + 1, none⟩ b).setCell ⟨g, o + 2, none⟩ c = W.setCells g o [a, b, c] := rfl
end

/-- What Mk comes to. -/
def MkPost (w : World) (b : Nat) (F : Nat → Prop) (r : Int × Int × MS) (e : Ending) (w' : World) : Prop :=
  e = .returned (.tuple #[.int .i64 r.1, .int .i64 r.2.1]) ∧ ∃ F', RefSAt w' b F' r.2.2 ∧ Keeps F w w' ∧ Within w F F'

set_option maxRecDepth 100000 in
set_option maxHeartbeats 4000000 in
/-- What may not be; what is both sides. -/
theorem refSmk_arg {w : World} {b : Nat} {F : Nat → Prop} {s : MS} (h : RefSAt w b F s) (ok : s.Base) (v lo hi : Int) (hlo : lo ≤ 9223372036854775807) (hhi : hi ≤ 9223372036854775807) (vb : Value)
    (hc : v < 0 ∨ 7 < v ∨ s.behind lo v = false ∨ s.behind hi v = false) :
    Calls Tryz.prog 71 #[.pointer (some ⟨b, 0, none⟩), .int .i64 v, .int .i64 lo, .int .i64 hi, vb] w (MkPost w b F (0, 1, s)) := by
  have H1 := refSBehind h ok lo v hlo
  have H2 := fun W (hb : Below w.heap.size w W) => refSBehind (h.below hb) ok hi v hhi
  have hend : ∀ w', Below w.heap.size w w' → ∃ F', RefSAt w' b F' s ∧ Keeps F w w' ∧ Within w F F' := fun w' hb => ⟨F, h.below hb, Keeps.of_below hb _, Within.refl _ _⟩
  unfold MkPost
  clear h
  go_enter Tryz.func71, Tryz.ntmps71
  by_cases h0 : v < 0
  · clear H1 H2 hc
    go_wp2
    go_ret2
    exact ⟨rfl, hend _ (Below.refl _ _)⟩
  by_cases h7 : 7 < v
  · clear H1 H2 hc
    go_wp2
    go_ret2
    exact ⟨rfl, hend _ (Below.refl _ _)⟩
  cases e1 : s.behind lo v
  · rw [e1] at H1
    clear H2 hc
    go_wp2_with fail
    refine H1.mono ?_
    rintro e w1 ⟨rfl, hb1⟩
    go_wp2
    go_ret2
    exact ⟨rfl, hend _ hb1⟩
  · rw [e1] at H1
    have e2 : s.behind hi v = false := by
      rcases hc with hc | hc | hc | hc
      · exact absurd hc h0
      · exact absurd hc h7
      · rw [e1] at hc; cases hc
      · exact hc
    rw [e2] at H2
    clear hc
    go_wp2_with fail
    refine H1.mono ?_
    rintro e w1 ⟨rfl, hb1⟩
    go_wp2_with fail
    refine (H2 _ hb1).mono ?_
    rintro e w2 ⟨rfl, hb2⟩
    go_wp2
    go_ret2
    exact ⟨rfl, hend _ (hb1.trans (hb2.mono hb1.size))⟩

set_option maxRecDepth 100000 in
set_option maxHeartbeats 4000000 in
theorem refSmk_same {w : World} {b : Nat} {F : Nat → Prop} {s : MS} (h : RefSAt w b F s) (ok : s.Base) (v lo : Int) (hlo : lo ≤ 9223372036854775807) (vb : Value)
    (h0 : 0 ≤ v) (h7 : v ≤ 7) (e1 : s.behind lo v = true) :
    Calls Tryz.prog 71 #[.pointer (some ⟨b, 0, none⟩), .int .i64 v, .int .i64 lo, .int .i64 lo, vb] w (MkPost w b F (lo, 0, s)) := by
  have H1 := refSBehind h ok lo v hlo
  have H2 := fun W (hb : Below w.heap.size w W) => refSBehind (h.below hb) ok lo v hlo
  have hend : ∀ w', Below w.heap.size w w' → ∃ F', RefSAt w' b F' s ∧ Keeps F w w' ∧ Within w F F' := fun w' hb => ⟨F, h.below hb, Keeps.of_below hb _, Within.refl _ _⟩
  unfold MkPost
  rw [e1] at H1 H2
  clear h e1
  go_enter Tryz.func71, Tryz.ntmps71
  go_wp2_with fail
  refine H1.mono ?_
  rintro e w1 ⟨rfl, hb1⟩
  go_wp2_with fail
  refine (H2 _ hb1).mono ?_
  rintro e w2 ⟨rfl, hb2⟩
  go_wp2
  go_ret2
  exact ⟨rfl, hend _ (hb1.trans (hb2.mono hb1.size))⟩

set_option maxRecDepth 100000 in
set_option maxHeartbeats 8000000 in
/-- One that there is, or a new one. -/
theorem refSmk_find {w : World} {b : Nat} {F : Nat → Prop} {s : MS} (h : RefSAt w b F s) (ok : s.Base) (v lo hi : Int) (hlo : lo ≤ 9223372036854775807) (hhi : hi ≤ 9223372036854775807) (but : List Int) (vb : Value) (hvb : Reads encI w vb but) (hbl : but.length ≤ 1000000)
    (h0 : 0 ≤ v) (h7 : v ≤ 7) (e1 : s.behind lo v = true) (e2 : s.behind hi v = true) (hne : lo ≠ hi) (r : Int × Int × MS)
    (hr : r = match s.find ⟨v, lo, hi⟩ but with | some n => (n, 0, s) | none => if s.ar.takeE ≠ 0 then (0, s.ar.takeE, s) else (s.ar.takeN + 2, 0, s.takeS ⟨v, lo, hi⟩)) :
    Calls Tryz.prog 71 #[.pointer (some ⟨b, 0, none⟩), .int .i64 v, .int .i64 lo, .int .i64 hi, vb] w (MkPost w b F r) := by
  have H1 := refSBehind h ok lo v hlo
  have H2 := fun W (hb : Below w.heap.size w W) => refSBehind (h.below hb) ok hi v hhi
  have hfew := ok.few
  unfold MkPost
  rw [e1] at H1
  rw [e2] at H2
  clear e1 e2
  have hneb : (lo == hi) = false := by rw [beq_eq_false_iff_ne]; exact hne
  go_enter Tryz.func71, Tryz.ntmps71
  go_wp2_with fail
  refine H1.mono ?_
  rintro e w1 ⟨rfl, hb1⟩
  clear H1
  go_wp2_with fail
  refine (H2 _ hb1).mono ?_
  rintro e w2 ⟨rfl, hb2⟩
  have hb := hb1.trans (hb2.mono hb1.size)
  clear H2 hb1 hb2 hne
  go_wp2
  have hx := HoldsN.new w2 ⟨v, lo, hi⟩
  have hgx : w.heap.size ≤ w2.heap.size := hb.size
  replace hb := hb.alloc hb.size (.cells #[.int .i64 v, .int .i64 lo, .int .i64 hi] 78)
  dsimp only at hx
  generalize w2.alloc (.cells #[.int .i64 v, .int .i64 lo, .int .i64 hi] 78) = W at *
  generalize w2.heap.size = B at *
  go_loopw [13] (fun i wr => ∃ k : Nat, k ≤ s.N.length ∧ i = .int .i64 ((k : Int) + 2) ∧ HoldsN wr B ⟨v, lo, hi⟩ ∧ Below w.heap.size w wr ∧ Hid ((numsTo k).find? (fun n => decide (s.nd n = ⟨v, lo, hi⟩) && s.has n && !(but.contains n)) = none)) (fun i _ => s.N.length + 2 - (intOf i).toNat)
  case atStart => exact ⟨0, Nat.zero_le _, rfl, hx, hb, Lib.hid rfl⟩
  case round =>
    obtain ⟨k, hk, rfl, hx, hb, hn⟩ := hrel
    by_cases hlt : k < s.N.length
    · obtain ⟨hy, hno⟩ := numsTo_find hlt hn.out
      have hN := MS.nd_get k hlt
      have HHas : ∀ u : Sub wr, Calls Tryz.prog 77 #[.pointer (some ⟨b, 0, none⟩), .int .i64 ((k : Int) + 2)] u.1 (fun e w'' => e = .returned (.bool (s.has ((k : Int) + 2))) ∧ ∃ x : Sub wr, w'' = x.1) := fun u => subSame (refSHas ((h.below hb).sub u) ok _ (by omega))
      have HIn : ∀ u : Sub wr, Calls Tryz.prog 75 #[vb, .int .i64 ((k : Int) + 2)] u.1 (fun e w'' => e = .returned (.bool (but.contains ((k : Int) + 2))) ∧ ∃ x : Sub wr, w'' = x.1) := fun u => subSame (refSIn but _ _ _ (hvb.keep (hb.trans (u.2.mono hb.size))) hbl)
      obtain ⟨bA, FA, vN, rfl, hR⟩ := h
      obtain ⟨g, cN, rfl, _, _⟩ := hR.nodes.some (by omega)
      have hR0 := Lib.hid hR
      replace hR := hR.below hb
      have c1 := fun u : Sub wr => (hR.sub u).cells.2
      have d0 := fun u : Sub wr => (nodeAt (hR.sub u).nodes k hlt).1
      have d1 := fun u : Sub wr => (nodeAt (hR.sub u).nodes k hlt).2.1
      have d2 := fun u : Sub wr => (nodeAt (hR.sub u).nodes k hlt).2.2
      have x0 := fun u : Sub wr => (hx.sub u).cells.1
      have x1 := fun u : Sub wr => (hx.sub u).cells.2.1
      have x2 := fun u : Sub wr => (hx.sub u).cells.2.2
      have cl := hR.cells.2
      dsimp only at x0 x1 x2
      have hk0 : (0 : Int) ≤ (k : Int) := by omega
      have hk1 : (k : Int) < (s.N.length : Int) := by omega
      rw [hN] at hy hno
      clear hN hR
      generalize s.N[k] = y at *
      obtain ⟨y0, y1, y2⟩ := y
      dsimp only at d0 d1 d2 hy hno
      generalize hhv : s.has ((k : Int) + 2) = hv at *
      generalize hcv : but.contains ((k : Int) + 2) = cv at *
      by_cases he : (⟨y0, y1, y2⟩ : Nd) = ⟨v, lo, hi⟩
      · have hq := run_eql_nodes y0 y1 y2 v lo hi true (decide_eq_true he)
        cases hv
        · have hnext := Lib.hid (hno (by simp))
          clear hy hno he hn HIn
          go_wp2
          refine wp_region_quiet_all (C := fun w' => ∃ u : Sub wr, w' = u.1) (by kernel_rfl) (by kernel_rfl) (InSub.drew wr) ?_
          iterate 13 (go_big_quiet_step (fail))
          go_big_quiet_step (exact HHas _)
          iterate 2 (go_big_quiet_step (fail))
          iterate 4 go_big_quiet_skip
          go_big_quiet_step (fail)
          refine wpQuiet_nil ?_
          clear HHas c1 d0 d1 d2 x0 x1 x2 cl hq
          intro w' hw'
          obtain ⟨u, rfl⟩ := hw'
          replace hx := hx.sub u
          replace hb := hb.trans (u.2.mono hb.size)
          generalize u.1 = W1 at *
          go_wp2
          exact ⟨⟨k + 1, by omega, by go_num, hx, hb, hnext⟩, by simp [intOf]; omega⟩
        · cases cv
          · have hhit := Lib.hid (hy (by rw [decide_eq_true he]; rfl))
            clear hy hno he hn
            go_wp2
            refine wp_region_quiet_all (C := fun w' => ∃ u : Sub wr, w' = u.1) (by kernel_rfl) (by kernel_rfl) (InSub.drew wr) ?_
            iterate 13 (go_big_quiet_step (fail))
            go_big_quiet_step (exact HHas _)
            iterate 4 (go_big_quiet_step (fail))
            go_big_quiet_step (exact HIn _)
            iterate 2 (go_big_quiet_step (fail))
            refine wpQuiet_nil ?_
            clear HHas HIn c1 d0 d1 d2 x0 x1 x2 cl hq
            intro w' hw'
            obtain ⟨u, rfl⟩ := hw'
            replace hx := hx.sub u
            replace hb := hb.trans (u.2.mono hb.size)
            generalize u.1 = W1 at *
            go_wp2
            go_ret2
            have hfd : s.find ⟨v, lo, hi⟩ but = some ((k : Int) + 2) := hhit.out
            rw [hfd] at hr
            subst hr
            exact ⟨rfl, _, ⟨bA, FA, _, rfl, hR0.out.below hb⟩, Keeps.of_below hb _, Within.refl _ _⟩
          · have hnext := Lib.hid (hno (by simp))
            clear hy hno he hn
            go_wp2
            refine wp_region_quiet_all (C := fun w' => ∃ u : Sub wr, w' = u.1) (by kernel_rfl) (by kernel_rfl) (InSub.drew wr) ?_
            iterate 13 (go_big_quiet_step (fail))
            go_big_quiet_step (exact HHas _)
            iterate 4 (go_big_quiet_step (fail))
            go_big_quiet_step (exact HIn _)
            iterate 2 (go_big_quiet_step (fail))
            refine wpQuiet_nil ?_
            clear HHas HIn c1 d0 d1 d2 x0 x1 x2 cl hq
            intro w' hw'
            obtain ⟨u, rfl⟩ := hw'
            replace hx := hx.sub u
            replace hb := hb.trans (u.2.mono hb.size)
            generalize u.1 = W1 at *
            go_wp2
            exact ⟨⟨k + 1, by omega, by go_num, hx, hb, hnext⟩, by simp [intOf]; omega⟩
      · have hq := run_eql_nodes y0 y1 y2 v lo hi false (decide_eq_false he)
        have hnext := Lib.hid (hno (by rw [decide_eq_false he]; rfl))
        clear hy hno he hn HIn HHas
        go_wp2
        refine wp_region_quiet_all (C := fun w' => ∃ u : Sub wr, w' = u.1) (by kernel_rfl) (by kernel_rfl) (InSub.drew wr) ?_
        iterate 11 (go_big_quiet_step (fail))
        iterate 3 go_big_quiet_skip
        iterate 2 (go_big_quiet_step (fail))
        iterate 4 go_big_quiet_skip
        go_big_quiet_step (fail)
        refine wpQuiet_nil ?_
        clear c1 d0 d1 d2 x0 x1 x2 cl hq
        intro w' hw'
        obtain ⟨u, rfl⟩ := hw'
        replace hx := hx.sub u
        replace hb := hb.trans (u.2.mono hb.size)
        generalize u.1 = W1 at *
        go_wp2
        exact ⟨⟨k + 1, by omega, by go_num, hx, hb, hnext⟩, by simp [intOf]; omega⟩
    · obtain rfl : k = s.N.length := by omega
      have hnone : s.find ⟨v, lo, hi⟩ but = none := hn.out
      rw [hnone] at hr
      dsimp only at hr
      clear hn hvb hbl hnone
      obtain ⟨bA, FA, vN, rfl, hR⟩ := h
      have hB0 : ¬ FA B := fun e => by have := hR.lt B (.inr (.inl e)); omega
      have hlt0 := hR.lt
      replace hR := hR.below hb
      have cl := hR.cells
      obtain ⟨aN, cN, rfl⟩ := hR.form
      go_wp2_with fail
      refine (refTakeS hR.ar ok.ar).mono ?_
      rintro e W1 ⟨rfl, FA1, hA1, hK1, hW1⟩
      obtain ⟨hR1, hk1, hw1⟩ := hR.arena hA1 hK1 hW1
      have hB1 : ¬ footS b FA1 (.slice aN s.N.length cN) B := fun e => by
        rcases hw1 B e with e | e
        · have := hlt0 B e; omega
        · have := hx.lt; omega
      replace hx := hx.keep hK1 hB0
      have HK := (Keeps.of_below hb (footS b FA (.slice aN s.N.length cN))).trans hk1 (Within.refl _ _)
      have HW := (Within.refl w (footS b FA (.slice aN s.N.length cN))).trans hw1 hb.size
      clear cl hR hA1 hK1 hW1 hB0 hk1 hw1 hlt0 hb
      by_cases hf : s.ar.T.length = s.ar.most
      · obtain ⟨f1, f2, f3⟩ := AS.Ok.take_full hf
        rw [f2] at hr
        simp only [ne_eq, show ¬ ((2 : Int) = 0) by decide, not_false_eq_true, if_true] at hr
        rw [f1, f2]
        rw [f3] at hR1
        clear hf f1 f2 f3
        go_wp2
        go_ret2
        subst hr
        exact ⟨rfl, _, ⟨bA, FA1, _, rfl, hR1⟩, HK, HW⟩
      · have f2 : s.ar.takeE = 0 := by simp [AS.takeE, hf]
        obtain ⟨g1, _, _, g2⟩ := ok.took hf
        rw [f2] at hr
        simp only [ne_eq, not_true_eq_false, if_false] at hr
        rw [f2]
        obtain ⟨K, hK⟩ := Int.eq_ofNat_of_zero_le g1
        have hs : s.takeS ⟨v, lo, hi⟩ = { s with ar := s.ar.take, N := if s.ar.takeN = s.N.length then s.N ++ [⟨v, lo, hi⟩] else s.N.set s.ar.takeN.toNat ⟨v, lo, hi⟩ } := rfl
        rw [hs, hK] at hr
        rw [hK] at g2 ⊢
        clear hs g1 hK hf f2
        have cl := hR1.cells
        by_cases hKl : K = s.N.length
        · subst hKl
          have c1 := cl.2
          obtain ⟨x0, x1, x2⟩ := hx.cells
          have z1 := hR1.free 1
          have hwA : Below W1.heap.size W1 ((W1.alloc (.cells #[.int .i64 v, .int .i64 lo, .int .i64 hi] 78)).drew) := by go_grown
          have hRA := Lib.hid (hR1.below hwA)
          have c1A := hRA.out.cells.2
          have hsrc : Reads encN ((W1.alloc (.cells #[.int .i64 v, .int .i64 lo, .int .i64 hi] 78)).drew) (.slice (some ⟨W1.heap.size, 0, none⟩) 1 1) [⟨v, lo, hi⟩] := Reads.one encN W1 ⟨v, lo, hi⟩ _ rfl _ rfl
          have hlen : s.N.length + [(⟨v, lo, hi⟩ : Nd)].length ≤ 1000000 := by simp; omega
          have hxA := Lib.hid (hx.below hwA)
          dsimp only at x0 x1 x2
          rw [if_pos rfl] at hr
          have HR := Lib.hid hr
          clear cl hR1 hx hr
          go_wp2
          go_region_law (refine step_append_owns encN rfl (.tmp 98) (.tmp 100) rfl _ _ s.N [⟨v, lo, hi⟩] rfl hRA.out.nodes rfl hsrc (Nat.succ_pos _) hlen ?_; intro v' w4 hown hgr hat; obtain ⟨q1, z1, hR2, hk2, hw2⟩ := hRA.out.appNodes hown hgr hat; obtain ⟨a4, c4, e4, _⟩ := hown.form; subst e4)
          all_goals
            have hB2 : HoldsN (w4.setCell ⟨b, 1, none⟩ (.slice a4 (s.N ++ [(⟨v, lo, hi⟩ : Nd)]).length c4)) B ⟨v, lo, hi⟩ := hxA.out.keep hk2 hB1
            replace hR2 : RefSR _ _ _ _ _ _ := hR2
            rw [List.length_append, List.length_singleton] at hB2 hR2 hk2 hw2
            have HK2 := Lib.hid ((HK.trans ((Keeps.of_below hwA _).trans hk2 (Within.refl _ _)) HW))
            have HW2 := Lib.hid (HW.trans ((Within.refl _ _).trans hw2 hwA.size) HK.size)
            clear hown hgr hat hk2 hw2 q1 z1 hxA hRA hsrc hlen hwA c1A x0 x1 x2 c1
            generalize w4.setCell ⟨b, 1, none⟩ (.slice a4 (s.N.length + 1) c4) = W4 at *
            obtain ⟨g5, c5, e5, _, _⟩ := hR2.nodes.some (by simp)
            injection e5 with e6 e7 e8
            subst e6
            subst e8
            clear e7
            have c5f := fun u : Sub W4 => (hR2.sub u).cells.2
            have x5 := fun u : Sub W4 => (hB2.sub u).cells.1
            have x6 := fun u : Sub W4 => (hB2.sub u).cells.2.1
            have x7 := fun u : Sub W4 => (hB2.sub u).cells.2.2
            dsimp only at x5 x6 x7
            have hI0 : (0 : Int) ≤ ((s.N.length : Nat) : Int) := by omega
            have hI1 : ((s.N.length : Nat) : Int) < ((s.N.length + 1 : Nat) : Int) := by omega
            have HRR := Lib.hid hR2
            clear hR2 hB2
            go_wp2
            refine wp_region_quiet_tail (C := fun w' => ∃ u : Sub W4, w' = u.1) 7 (by kernel_rfl) (by kernel_rfl) (InSub.drew W4) ?_
            simp only [List.take_succ_cons, List.take_zero]
            iterate 7 (go_big_quiet_step (fail))
            refine wpQuiet_nil ?_
            clear c5f x5 x6 x7
            intro w' hw'
            obtain ⟨u, rfl⟩ := hw'
            have hR5 := HRR.out.sub u
            have hk5 := Keeps.of_below u.2 (footS b FA1 (.slice (some ⟨g5, 0, none⟩) (s.N.length + 1) c4))
            clear HRR
            generalize u.1 = W5 at *
            obtain ⟨q0, q1, q2⟩ := nodeAt hR5.nodes s.N.length (by simp)
            have y0 := hR5.nodes.free (s.N.length * 3)
            have y1 := hR5.nodes.free (s.N.length * 3 + 1)
            have y2 := hR5.nodes.free (s.N.length * 3 + 2)
            obtain ⟨hR6, hk6⟩ := hR5.putNode (by simp) (i := s.N.length) (by simp) ⟨v, lo, hi⟩
            dsimp only at hk6
            have HK6 := Lib.hid (HK2.out.trans (hk5.and hk6) HW2.out)
            have HR6 := Lib.hid hR6
            clear hR5 hk5 hk6 hR6
            simp only [List.drop_succ_cons, List.drop_zero]
            apply wpList_step
            intro K1 hK1
            go_simp
            apply hK1
            clear hK1 q0 q1 q2 y0 y1 y2
            rw [chain_node]
            generalize W5.setCells g5 (s.N.length * 3) [.int .i64 v, .int .i64 lo, .int .i64 hi] = W6 at *
            refine wpList_nil ?_
            go_wp2
            go_ret2
            rw [HR.out]
            refine ⟨rfl, _, ⟨bA, FA1, _, rfl, ?_⟩, HK6.out, HW2.out⟩
            have := HR6.out
            simp only [List.set_append_right _ _ (Nat.le_refl _), Nat.sub_self, List.set_cons_zero] at this
            exact this
        · have hKlt : K < s.N.length := by omega
          have hKb : ((K : Int) == (s.N.length : Int)) = false := by rw [beq_eq_false_iff_ne]; omega
          have e1 : ¬ (K : Int) = (s.N.length : Int) := by omega
          rw [if_neg e1, Int.toNat_natCast] at hr
          obtain ⟨g5, c5, e5, _, _⟩ := hR1.nodes.some (show 0 < s.N.length by omega)
          injection e5 with e6 e7 e8
          subst e6
          subst e8
          clear e7
          have c1 := cl.2
          have HR := Lib.hid hr
          clear g2 e1 cl hr
          go_wp2
          clear c1
          have c5f := fun u : Sub W1 => (hR1.sub u).cells.2
          have x5 := fun u : Sub W1 => (hx.sub u).cells.1
          have x6 := fun u : Sub W1 => (hx.sub u).cells.2.1
          have x7 := fun u : Sub W1 => (hx.sub u).cells.2.2
          dsimp only at x5 x6 x7
          have hI0 : (0 : Int) ≤ ((K : Nat) : Int) := by omega
          have hI1 : ((K : Nat) : Int) < ((s.N.length : Nat) : Int) := by omega
          have HRR := Lib.hid hR1
          clear hR1 hx
          go_wp2
          refine wp_region_quiet_tail (C := fun w' => ∃ u : Sub W1, w' = u.1) 7 (by kernel_rfl) (by kernel_rfl) (InSub.drew W1) ?_
          simp only [List.take_succ_cons, List.take_zero]
          iterate 7 (go_big_quiet_step (fail))
          refine wpQuiet_nil ?_
          clear c5f x5 x6 x7
          intro w' hw'
          obtain ⟨u, rfl⟩ := hw'
          have hR5 := HRR.out.sub u
          have hk5 := Keeps.of_below u.2 (footS b FA1 (.slice (some ⟨g5, 0, none⟩) (s.N.length) cN))
          clear HRR
          generalize u.1 = W5 at *
          obtain ⟨q0, q1, q2⟩ := nodeAt hR5.nodes K (by exact hKlt)
          have y0 := hR5.nodes.free (K * 3)
          have y1 := hR5.nodes.free (K * 3 + 1)
          have y2 := hR5.nodes.free (K * 3 + 2)
          obtain ⟨hR6, hk6⟩ := hR5.putNode rfl (i := K) (by exact hKlt) ⟨v, lo, hi⟩
          dsimp only at hk6
          have HK6 := Lib.hid (HK.trans (hk5.and hk6) HW)
          have HR6 := Lib.hid hR6
          clear hR5 hk5 hk6 hR6
          simp only [List.drop_succ_cons, List.drop_zero]
          apply wpList_step
          intro K1 hK1
          go_simp
          apply hK1
          clear hK1 q0 q1 q2 y0 y1 y2
          rw [chain_node]
          generalize W5.setCells g5 (K * 3) [.int .i64 v, .int .i64 lo, .int .i64 hi] = W6 at *
          refine wpList_nil ?_
          go_wp2
          go_ret2
          rw [HR.out]
          exact ⟨rfl, _, ⟨bA, FA1, _, rfl, HR6.out⟩, HK6.out, HW⟩

/-- All of it. -/
theorem refSmk {w : World} {b : Nat} {F : Nat → Prop} {s : MS} (h : RefSAt w b F s) (ok : s.Base) (v lo hi : Int) (hlo : lo ≤ 9223372036854775807) (hhi : hi ≤ 9223372036854775807) (but : List Int) (vb : Value) (hvb : Reads encI w vb but) (hbl : but.length ≤ 1000000) :
    Calls Tryz.prog 71 #[.pointer (some ⟨b, 0, none⟩), .int .i64 v, .int .i64 lo, .int .i64 hi, vb] w (MkPost w b F (s.mk v lo hi but)) := by
  by_cases hc : v < 0 ∨ 7 < v ∨ s.behind lo v = false ∨ s.behind hi v = false
  · have e : s.mk v lo hi but = (0, 1, s) := by unfold MS.mk; rw [if_pos hc]
    rw [e]
    exact refSmk_arg h ok v lo hi hlo hhi vb hc
  · have hc' := hc
    simp only [not_or, Bool.not_eq_false] at hc
    by_cases hl : lo = hi
    · subst hl
      have e : s.mk v lo lo but = (lo, 0, s) := by unfold MS.mk; rw [if_neg hc', if_pos rfl]
      rw [e]
      exact refSmk_same h ok v lo hlo vb (by omega) (by omega) hc.2.2.1
    · refine refSmk_find h ok v lo hi hlo hhi but vb hvb hbl (by omega) (by omega) hc.2.2.1 hc.2.2.2 hl _ ?_
      unfold MS.mk
      rw [if_neg hc', if_neg hl]
      rfl

set_option maxRecDepth 100000 in
theorem refSMk {w : World} {b : Nat} {F : Nat → Prop} {s : MS} (h : RefSAt w b F s) (ok : s.Base) (v lo hi : Int) (hlo : lo ≤ 9223372036854775807) (hhi : hi ≤ 9223372036854775807) :
    Calls Tryz.prog 68 #[.pointer (some ⟨b, 0, none⟩), .int .i64 v, .int .i64 lo, .int .i64 hi] w (MkPost w b F (s.mk v lo hi [])) := by
  have H := refSmk h ok v lo hi hlo hhi [] (.slice none 0 0) (.inl ⟨rfl, rfl⟩) (Nat.zero_le _)
  generalize s.mk v lo hi [] = r at *
  clear h
  unfold MkPost at *
  go_enter Tryz.func68, Tryz.ntmps68
  go_wp2_with fail
  refine H.mono ?_
  rintro e w1 ⟨rfl, hF⟩
  go_wp2
  go_ret2
  exact ⟨rfl, hF⟩

end Go.Proofs.YtdcomiopjgcboaaGreatDoor

/-
  The document's plain order.
-/
namespace Go.Proofs.YtdcomiopjgcboaaGreatDoor
open Go Go.RowKit

set_option maxRecDepth 100000 in
theorem refPlain (w : World) : Calls Tryz.prog 99 #[] w fun e w' => e = .returned (.agg #[.int .i64 0, .int .i64 1, .int .i64 2, .int .i64 3, .int .i64 4, .int .i64 5, .int .i64 6, .int .i64 7]) ∧ Below w.heap.size w w' := by
  go_enter Tryz.func99, Tryz.ntmps99
  go_wp2
  exact bodyPost_ret (ret_holdsO Tryz.results99 rfl (o := plainO) (HoldsO.new w plainO w.heap.size)) rfl ⟨rfl, by go_grown⟩

end Go.Proofs.YtdcomiopjgcboaaGreatDoor

/-
  The document's store: New, Free, Swap.
-/
namespace Go.Proofs.YtdcomiopjgcboaaGreatDoor
open Go Go.RowKit

set_option maxRecDepth 100000 in
set_option maxHeartbeats 1000000 in
theorem refSNew (most : Int) (w : World) (h0 : 0 ≤ most) :
    Calls Tryz.prog 64 #[.int .i64 most] w fun e w' => ∃ b, e = .returned (.pointer (some ⟨b, 0, none⟩)) ∧ (∃ F, RefSAt w' b F (MS.none most.toNat) ∧ ∀ k, F k → w.heap.size ≤ k) ∧ Below w.heap.size w w' := by
  go_enter Tryz.func64, Tryz.ntmps64
  go_wp2_with fail
  have hA := heap_alloc_new w (.cells #[.int .i64 most, .slice none 0 0, .slice none 0 0, .int .i64 0] 73)
  have hb : Below w.heap.size w (w.alloc (.cells #[.int .i64 most, .slice none 0 0, .slice none 0 0, .int .i64 0] 73)) := by go_grown
  generalize w.alloc (.cells #[.int .i64 most, .slice none 0 0, .slice none 0 0, .int .i64 0] 73) = W at *
  have hWl : w.heap.size < W.heap.size := row_lt hA
  refine (refPlain _).mono ?_
  rintro e w1 ⟨rfl, hb1⟩
  replace hA := (hb1.block _ hWl).trans hA
  have hb2 := hb.trans (hb1.mono hb.size)
  have hl1 : w.heap.size < w1.heap.size := row_lt hA
  go_wp2
  go_ret
  refine ⟨w1.heap.size, rfl, ⟨_, ⟨w.heap.size, foot2 w.heap.size (.slice .none 0 0) (.slice .none 0 0), .slice .none 0 0, rfl, heap_alloc_new _ _, ⟨.slice .none 0 0, .slice .none 0 0, rfl, ?_, Owns.nil _ _, Owns.nil _ _, (fun h => by cases h), (fun h => by cases h), (fun g h => by cases h)⟩, Owns.nil _ _, ?_, (fun h => by cases h), (fun g h => by cases h)⟩, ?_⟩, hb2.alloc hb2.size _⟩
  · rw [heap_alloc_old _ _ hl1, hA]
    simp only [MS.none, Int.toNat_of_nonneg h0]
    rfl
  · rintro (e | e | e)
    · omega
    · cases e
    · cases e
  · rintro k (rfl | (rfl | e | e) | e)
    · omega
    · exact Nat.le_refl _
    · cases e
    · cases e
    · cases e

set_option maxRecDepth 100000 in
set_option maxHeartbeats 4000000 in
theorem refSFree {w : World} {b : Nat} {F : Nat → Prop} {s : MS} (h : RefSAt w b F s) (ok : s.Base) (n : Int) (hn : n ≤ 9223372036854775807) :
    Calls Tryz.prog 76 #[.pointer (some ⟨b, 0, none⟩), .int .i64 n] w fun e w' => e = .returned (.int .i64 (s.free n).1) ∧ ∃ F', RefSAt w' b F' (s.free n).2 ∧ Keeps F w w' ∧ Within w F F' := by
  have hfew := ok.few
  have H := refSHas h ok n hn
  generalize hr : s.free n = r
  cases hh : s.has n
  · have e : s.free n = (1, s) := by unfold MS.free; rw [if_pos (.inl hh)]
    rw [e] at hr
    subst hr
    rw [hh] at H
    go_enter Tryz.func76, Tryz.ntmps76
    go_wp2_with fail
    refine H.mono ?_
    rintro e w1 ⟨rfl, rfl⟩
    go_wp2
    go_ret
    exact ⟨rfl, F, h, Keeps.refl _ _, Within.refl _ _⟩
  · rw [hh] at H
    have h2 := (ok.range hh).1
    go_enter Tryz.func76, Tryz.ntmps76
    go_wp2_with fail
    refine H.mono ?_
    rintro e w1 ⟨rfl, rfl⟩
    clear H
    go_wp2
    go_loop [5] (fun i => ∃ k : Nat, k ≤ s.N.length ∧ i = .int .i64 ((k : Int) + 2) ∧ Hid ((numsTo k).any (fun m => (decide ((s.nd m).lo = n) || decide ((s.nd m).hi = n)) && s.has m) = false)) (fun i => s.N.length + 2 - (intOf i).toNat)
    case atStart => exact ⟨0, Nat.zero_le _, rfl, Lib.hid rfl⟩
    case round =>
      obtain ⟨k, hk, rfl, hno⟩ := hrel
      obtain ⟨bA, FA, vN, rfl, hR⟩ := h
      by_cases hlt : k < s.N.length
      · obtain ⟨hy, hnx⟩ := numsTo_any hlt hno.out
        have hN := MS.nd_get k hlt
        have HHas := refSHas (w := w) (b := b) ⟨bA, FA, vN, rfl, hR⟩ ok ((k : Int) + 2) (by omega)
        obtain ⟨g, cN, rfl, _, _⟩ := hR.nodes.some (by omega)
        have c1 := hR.cells.2
        obtain ⟨d0, d1, d2⟩ := nodeAt hR.nodes k hlt
        have hk0 : (0 : Int) ≤ (k : Int) := by omega
        have hk1 : (k : Int) < (s.N.length : Int) := by omega
        rw [hN] at hy hnx
        have hR0 := Lib.hid hR
        clear hN hR d0
        generalize s.N[k] = y at *
        obtain ⟨y0, y1, y2⟩ := y
        dsimp only at d1 d2 hy hnx
        generalize s.has ((k : Int) + 2) = hv at *
        by_cases e1 : y1 = n
        · have e1b : (y1 == n) = true := by rw [beq_iff_eq]; exact e1
          cases hv
          · have hnext := Lib.hid (hnx (by simp))
            clear hy hnx hno e1 hh hr
            go_wp2_with fail
            refine HHas.mono ?_
            rintro e w2 ⟨rfl, rfl⟩
            clear HHas
            go_wp2
            exact ⟨⟨k + 1, by omega, by go_num, hnext⟩, by simp [intOf]; omega⟩
          · have hhit := Lib.hid (hy (by simp [e1]))
            clear hy hnx hno e1
            go_wp2_with fail
            refine HHas.mono ?_
            rintro e w2 ⟨rfl, rfl⟩
            clear HHas
            go_wp2
            go_ret
            have hl : s.isLow n = true := hhit.out
            have e : s.free n = (1, s) := by unfold MS.free; rw [if_pos (.inr hl)]
            rw [e] at hr
            subst hr
            exact ⟨rfl, _, ⟨bA, FA, _, rfl, hR0.out⟩, Keeps.refl _ _, Within.refl _ _⟩
        · have e1b : (y1 == n) = false := by rw [beq_eq_false_iff_ne]; exact e1
          by_cases e2 : y2 = n
          · have e2b : (y2 == n) = true := by rw [beq_iff_eq]; exact e2
            cases hv
            · have hnext := Lib.hid (hnx (by simp))
              clear hy hnx hno e1 e2 hh hr
              go_wp2_with fail
              refine HHas.mono ?_
              rintro e w2 ⟨rfl, rfl⟩
              clear HHas
              go_wp2
              exact ⟨⟨k + 1, by omega, by go_num, hnext⟩, by simp [intOf]; omega⟩
            · have hhit := Lib.hid (hy (by simp [e2]))
              clear hy hnx hno e1 e2
              go_wp2_with fail
              refine HHas.mono ?_
              rintro e w2 ⟨rfl, rfl⟩
              clear HHas
              go_wp2
              go_ret
              have hl : s.isLow n = true := hhit.out
              have e : s.free n = (1, s) := by unfold MS.free; rw [if_pos (.inr hl)]
              rw [e] at hr
              subst hr
              exact ⟨rfl, _, ⟨bA, FA, _, rfl, hR0.out⟩, Keeps.refl _ _, Within.refl _ _⟩
          · have e2b : (y2 == n) = false := by rw [beq_eq_false_iff_ne]; exact e2
            have hnext := Lib.hid (hnx (by simp [e1, e2]))
            clear hy hnx hno e1 e2 hh hr HHas
            go_wp2
            exact ⟨⟨k + 1, by omega, by go_num, hnext⟩, by simp [intOf]; omega⟩
      · obtain rfl : k = s.N.length := by omega
        have hl : s.isLow n = false := hno.out
        have e : s.free n = (s.ar.giveE (n - 2), { s with ar := s.ar.give (n - 2) }) := by
          unfold MS.free
          rw [if_neg (by simp [hh, hl])]
        rw [e] at hr
        subst hr
        have cl := hR.cells
        obtain ⟨aN, cN, rfl⟩ := hR.form
        clear hno hl e hh
        go_wp2_with fail
        refine (refGiveS hR.ar ok.ar (n - 2)).mono ?_
        rintro e w2 ⟨rfl, FA1, hA1, hK1, hW1⟩
        obtain ⟨hR1, hk1, hw1⟩ := hR.arena hA1 hK1 hW1
        clear cl hR hA1 hK1 hW1
        go_wp2
        go_ret
        exact ⟨rfl, _, ⟨bA, FA1, _, rfl, hR1⟩, hk1, hw1⟩

end Go.Proofs.YtdcomiopjgcboaaGreatDoor
