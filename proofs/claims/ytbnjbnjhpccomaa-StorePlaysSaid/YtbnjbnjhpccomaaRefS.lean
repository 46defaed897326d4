/-
  The document's store, as it lies in memory; its looks.
-/
import Derived.Test.YtbnjbnjhpccomaaArenaS
import Derived.Test.YtbnjbnjhpccomaaMem2
import Derived.Test.YtbnjbnjhpccomaaRefP
import Derived.Test.YtbnjbnjhpccomaaStoreW
namespace Go.Proofs.Ytbnjbnjhpccomaa
open Go Go.RowKit

/-- A node, as the program holds it. -/
def nv (x : Nd) : Value := .agg #[.int .i64 x.var, .int .i64 x.lo, .int .i64 x.hi]

/-- Nodes. -/
def encN : Enc Try.prog Nd where
  slice := 69
  elem := 39
  size := 3
  bytes := 24
  cells x := [.int .i64 x.var, .int .i64 x.lo, .int .i64 x.hi]
  zero := .agg #[.int .i64 0, .int .i64 0, .int .i64 0]
  und := Try.underlying69
  info := info_of _ _ _ _ _ (by kernel_rfl)
  zsize := rfl
  pos := by decide
  few := by decide
  len _ := rfl
  one _ u h := by
    simp only [List.mem_cons, List.not_mem_nil, or_false] at h
    rcases h with rfl | rfl | rfl <;> rfl

/-- The blocks of a store. -/
def footS (b : Nat) (FA : Nat → Prop) (v : Value) (k : Nat) : Prop := k = b ∨ FA k ∨ v.ownBlock = some k

/-- At block b stands the document's store. -/
structure RefSR (w : World) (b bA : Nat) (FA : Nat → Prop) (v : Value) (s : MS) : Prop where
  row : w.heap[b]? = some (.cells #[.pointer (some ⟨bA, 0, none⟩), v, .int .i64 (s.o 0), .int .i64 (s.o 1), .int .i64 (s.o 2), .int .i64 (s.o 3), .int .i64 (s.o 4), .int .i64 (s.o 5), .int .i64 (s.o 6), .int .i64 (s.o 7)] 71 (0, 0))
  ar : RefAt w bA FA s.ar
  nodes : Owns encN w v s.N
  apart1 : ¬ FA b
  apart2 : v.ownBlock ≠ some b
  apart : ∀ g, v.ownBlock = some g → ¬ FA g

def RefSAt (w : World) (b : Nat) (F : Nat → Prop) (s : MS) : Prop := ∃ bA FA v, F = footS b FA v ∧ RefSR w b bA FA v s

section
variable {w w' : World} {b bA : Nat} {FA F G : Nat → Prop} {v : Value} {s : MS}

theorem RefSR.lt (h : RefSR w b bA FA v s) : ∀ k, footS b FA v k → k < w.heap.size := by
  rintro k (rfl | hk | hk)
  · exact row_lt h.row
  · exact h.ar.lt k hk
  · exact h.nodes.lt k hk
theorem RefSR.keep (h : RefSR w b bA FA v s) (hb : Keeps G w w') (hF : ∀ k, footS b FA v k → ¬ G k) : RefSR w' b bA FA v s :=
  ⟨(hb.block b (row_lt h.row) (hF b (.inl rfl))).trans h.row, h.ar.keep hb fun k hk => hF k (.inr (.inl hk)), h.nodes.keep hb fun g hg => hF g (.inr (.inr hg)), h.apart1, h.apart2, h.apart⟩
theorem RefSR.below (h : RefSR w b bA FA v s) (hb : Below w.heap.size w w') : RefSR w' b bA FA v s := h.keep (Keeps.of_below hb noBlock) (fun _ _ h => h)
theorem RefSR.sub (h : RefSR w b bA FA v s) (u : Sub w) : RefSR u.1 b bA FA v s := h.below u.2
theorem RefSR.cells (h : RefSR w b bA FA v s) : w.cell? ⟨b, 0, none⟩ = some (.pointer (some ⟨bA, 0, none⟩)) ∧ w.cell? ⟨b, 1, none⟩ = some v :=
  ⟨by rw [cell_of_row _ _ _ _ _ _ h.row]; rfl, by rw [cell_of_row _ _ _ _ _ _ h.row]; rfl⟩
theorem RefSR.place (h : RefSR w b bA FA v s) (i : Nat) (hi : i < 8) : w.cell? ⟨b, 2 + i, none⟩ = some (.int .i64 (s.o i)) := by
  rw [cell_of_row _ _ _ _ _ _ h.row]
  rcases (by omega : i = 0 ∨ i = 1 ∨ i = 2 ∨ i = 3 ∨ i = 4 ∨ i = 5 ∨ i = 6 ∨ i = 7) with rfl | rfl | rfl | rfl | rfl | rfl | rfl | rfl <;> rfl
theorem RefSR.order (h : RefSR w b bA FA v s) : w.cell? ⟨b, 2, none⟩ = some (.int .i64 (s.o 0)) ∧ w.cell? ⟨b, 3, none⟩ = some (.int .i64 (s.o 1)) ∧ w.cell? ⟨b, 4, none⟩ = some (.int .i64 (s.o 2)) ∧ w.cell? ⟨b, 5, none⟩ = some (.int .i64 (s.o 3)) ∧
    w.cell? ⟨b, 6, none⟩ = some (.int .i64 (s.o 4)) ∧ w.cell? ⟨b, 7, none⟩ = some (.int .i64 (s.o 5)) ∧ w.cell? ⟨b, 8, none⟩ = some (.int .i64 (s.o 6)) ∧ w.cell? ⟨b, 9, none⟩ = some (.int .i64 (s.o 7)) :=
  ⟨h.place 0 (by decide), h.place 1 (by decide), h.place 2 (by decide), h.place 3 (by decide), h.place 4 (by decide), h.place 5 (by decide), h.place 6 (by decide), h.place 7 (by decide)⟩
theorem RefSR.free (h : RefSR w b bA FA v s) (j : Nat) : w.frozen? ⟨b, j, none⟩ = false := frozen_of_row _ _ _ _ _ h.row
theorem RefSR.form (h : RefSR w b bA FA v s) : ∃ a c, v = .slice a s.N.length c := by
  obtain ⟨a, c, e, _⟩ := h.nodes.form
  exact ⟨a, c, e⟩

theorem RefSAt.lt (h : RefSAt w b F s) (k : Nat) (hk : F k) : k < w.heap.size := by obtain ⟨bA, FA, v, rfl, h⟩ := h; exact h.lt k hk
theorem RefSAt.keep (h : RefSAt w b F s) (hb : Keeps G w w') (hF : ∀ k, F k → ¬ G k) : RefSAt w' b F s := by obtain ⟨bA, FA, v, rfl, h⟩ := h; exact ⟨bA, FA, v, rfl, h.keep hb hF⟩
theorem RefSAt.below (h : RefSAt w b F s) (hb : Below w.heap.size w w') : RefSAt w' b F s := h.keep (Keeps.of_below hb noBlock) (fun _ _ h => h)
theorem RefSAt.sub (h : RefSAt w b F s) (u : Sub w) : RefSAt u.1 b F s := h.below u.2

/-- A node's cells. -/
theorem nodeAt {g cap n : Nat} {l : List Nd} (h : Owns encN w (.slice (some ⟨g, 0, none⟩) n cap) l) (i : Nat) (hi : i < l.length) :
    w.cell? ⟨g, i * 3, none⟩ = some (.int .i64 l[i].var) ∧ w.cell? ⟨g, i * 3 + 1, none⟩ = some (.int .i64 l[i].lo) ∧ w.cell? ⟨g, i * 3 + 2, none⟩ = some (.int .i64 l[i].hi) := by
  obtain ⟨a, c, hv, _, _, _, H⟩ := h.form
  injection hv with ha _ hc
  obtain ⟨g', e, _, _, hcell⟩ := H ⟨g, 0, none⟩ ha.symm
  cases e
  exact ⟨hcell i hi 0 (by decide), hcell i hi 1 (by decide), hcell i hi 2 (by decide)⟩
theorem MS.nd_get {s : MS} (i : Nat) (hi : i < s.N.length) : s.nd ((i : Int) + 2) = s.N[i] := by
  unfold MS.nd
  rw [show ((i : Int) + 2 - 2).toNat = i by omega]
  simp [List.getD, hi]
/-- The cells of what is there. -/
theorem RefSR.node (h : RefSR w b bA FA v s) (ok : s.Base) {n : Int} (hn : s.has n = true) : ∃ (g c : Nat), v = .slice (some ⟨g, 0, none⟩) s.N.length c ∧ 2 ≤ n ∧ 0 ≤ n - 2 ∧ n - 2 < (s.N.length : Int) ∧
    w.cell? ⟨g, (n - 2).toNat * 3, none⟩ = some (.int .i64 (s.nd n).var) ∧ w.cell? ⟨g, (n - 2).toNat * 3 + 1, none⟩ = some (.int .i64 (s.nd n).lo) ∧ w.cell? ⟨g, (n - 2).toNat * 3 + 2, none⟩ = some (.int .i64 (s.nd n).hi) := by
  obtain ⟨r1, r2, _⟩ := ok.range hn
  obtain ⟨g, c, rfl, _, _⟩ := h.nodes.some (by omega)
  have hi : n = ((n - 2).toNat : Int) + 2 := by omega
  have := nodeAt h.nodes (n - 2).toNat r2
  rw [← MS.nd_get _ r2, ← hi] at this
  exact ⟨g, c, rfl, r1, by omega, by omega, this⟩
theorem MS.Base.few (ok : s.Base) : s.N.length ≤ 20000 := by
  have := ok.len; have := ok.ar.nextLe; have := ok.ar.mostLe; omega
end

set_option maxRecDepth 100000 in
theorem refSHas {w : World} {b : Nat} {F : Nat → Prop} {s : MS} (h : RefSAt w b F s) (ok : s.Base) (n : Int) (hn : n ≤ 9223372036854775807) :
    Calls Try.prog 46 #[.pointer (some ⟨b, 0, none⟩), .int .i64 n] w fun e w' => e = .returned (.bool (s.has n)) ∧ w = w' := by
  obtain ⟨bA, FA, v, rfl, h⟩ := h
  obtain ⟨c0, c1⟩ := h.cells
  go_enter Try.func46, Try.ntmps46
  by_cases h2 : 2 ≤ n
  · have hh : s.has n = decide (n - 2 ∈ s.ar.T) := by simp [MS.has, h2]
    have H := refHasS h.ar ok.ar (n - 2)
    rw [hh]
    clear h hh
    go_wp2_with fail
    refine H.mono ?_
    rintro e w1 ⟨rfl, rfl⟩
    go_wp2
    go_ret
    exact ⟨rfl, rfl⟩
  · have hh : s.has n = false := by simp [MS.has, h2]
    rw [hh]
    clear h hh
    go_wp2
    go_ret
    exact ⟨rfl, rfl⟩

/-- A node that is returned from a variable, with a second value. -/
theorem ret_node {fn : Func} {p q : Tmp} {tmps : Array Value} {w : World} {b : Nat} {x : Nd} {u : Value} (h : fn.results = #[.cell p 39, .tmp q]) (hp : tmps.getD p undef = .pointer (some ⟨b, 0, none⟩)) (hq : tmps.getD q undef = u)
    (hh : w.heap[b]? = some (.cells #[.int .i64 x.var, .int .i64 x.lo, .int .i64 x.hi] 39 (0, 0))) : (results fn tmps).run Try.prog w = .ok (.tuple #[nv x, u]) w := by
  rw [results_cell_tmp h, hp, hq]
  simp only [asAddr, Sem.run_pure, Result.andThen_ok]
  rw [run_loadVar_row w b _ _ _ _ _ hh Try.underlying39 rfl (by kernel_rfl)]
  rfl

/-- What Node tells. -/
def nodeV (s : MS) (n : Int) : Value := .tuple #[nv (if s.has n then s.nd n else ⟨0, 0, 0⟩), .bool (s.has n)]

set_option maxRecDepth 100000 in
theorem refSNode {w : World} {b : Nat} {F : Nat → Prop} {s : MS} (h : RefSAt w b F s) (ok : s.Base) (n : Int) (hn : n ≤ 9223372036854775807) :
    Calls Try.prog 29 #[.pointer (some ⟨b, 0, none⟩), .int .i64 n] w fun e w' => e = .returned (nodeV s n) ∧ Below w.heap.size w w' := by
  have H := fun (u : Sub w) => refSHas (h.sub u) ok n hn
  obtain ⟨bA, FA, v, rfl, h⟩ := h
  unfold nodeV
  go_enter Try.func29, Try.ntmps29
  have hA : Below w.heap.size w (w.alloc (.cells #[.int .i64 0, .int .i64 0, .int .i64 0] 39)) := by go_grown
  cases hh : s.has n
  · go_wp2_with fail
    refine (H ⟨_, hA⟩).mono ?_
    rintro e w1 ⟨rfl, rfl⟩
    rw [hh]
    go_wp2
    exact bodyPost_ret (ret_node Try.results29 rfl rfl (x := ⟨0, 0, 0⟩) (heap_alloc_new _ _)) rfl ⟨rfl, hA⟩
  · have c1 := (h.sub ⟨_, hA⟩).cells.2
    obtain ⟨g, c, rfl, h2, i0, i1, d0, d1, d2⟩ := (h.sub ⟨_, hA⟩).node ok hh
    go_wp2_with fail
    refine (H ⟨_, hA⟩).mono ?_
    rintro e w1 ⟨rfl, rfl⟩
    rw [hh]
    go_wp2
    exact bodyPost_ret (ret_node Try.results29 rfl rfl (x := s.nd n) (heap_alloc_new _ _)) rfl ⟨rfl, by go_grown⟩

set_option maxRecDepth 100000 in
theorem refSRoom {w : World} {b : Nat} {F : Nat → Prop} {s : MS} (h : RefSAt w b F s) (ok : s.Base) :
    Calls Try.prog 32 #[.pointer (some ⟨b, 0, none⟩)] w fun e w' => e = .returned (.int .i64 s.room) ∧ Below w.heap.size w w' := by
  obtain ⟨bA, FA, v, rfl, h⟩ := h
  obtain ⟨c0, c1⟩ := h.cells
  obtain ⟨v1, v2, _, hR⟩ := h.ar
  obtain ⟨d0, d1, _, _⟩ := hR.cells
  obtain ⟨a1, k1, a2, k2, rfl, rfl⟩ := hR.forms
  have hl := ok.ar.len
  have h1 := ok.ar.nextLe
  have h2 := ok.ar.mostLe
  unfold MS.room
  clear h hR
  go_enter Try.func32, Try.ntmps32
  go_wp2
  go_region
  go_wp2
  go_ret
  exact ⟨rfl, by go_grown⟩

set_option maxRecDepth 100000 in
set_option maxHeartbeats 1000000 in
theorem refSBehind {w : World} {b : Nat} {F : Nat → Prop} {s : MS} (h : RefSAt w b F s) (ok : s.Base) (n v : Int) (hn : n ≤ 9223372036854775807) :
    Calls Try.prog 65 #[.pointer (some ⟨b, 0, none⟩), .int .i64 n, .int .i64 v] w fun e w' => e = .returned (.bool (s.behind n v)) ∧ Below w.heap.size w w' := by
  have H := refSNode h ok n hn
  have hLv := fun W => refLevel s.o v W
  have hLx := fun W => refLevel s.o (s.nd n).var W
  obtain ⟨bA, FA, vN, rfl, h⟩ := h
  simp only [ov] at hLv hLx
  unfold nodeV nv at H
  cases hh : s.has n
  · simp only [hh, Bool.false_eq_true, if_false] at H
    by_cases h0 : n = 0
    · have hB := MS.behind_const (s := s) (v := v) (.inl h0)
      rw [hB]
      clear hB hLv hLx h hh
      subst h0
      go_enter Try.func65, Try.ntmps65
      go_wp2_with fail
      refine H.mono ?_
      rintro e w1 ⟨rfl, hb⟩
      go_wp2
      go_ret
      exact ⟨rfl, hb.alloc hb.size _⟩
    · have e0 : (n == 0) = false := by rw [beq_eq_false_iff_ne]; exact h0
      have hB : s.behind n v = (n == 1) := by simp [MS.behind, MS.node, hh, e0]
      rw [hB]
      clear hB hLv hLx h hh
      go_enter Try.func65, Try.ntmps65
      go_wp2_with fail
      refine H.mono ?_
      rintro e w1 ⟨rfl, hb⟩
      go_wp2
      go_ret
      exact ⟨rfl, hb.alloc hb.size _⟩
  · have hB := MS.behind_node (v := v) hh
    rw [hB]
    simp only [hh, if_true] at H
    clear hB
    generalize s.nd n = x at *
    generalize levO s.o v = ly at *
    generalize levO s.o x.var = lx at *
    go_enter Try.func65, Try.ntmps65
    go_wp2_with fail
    refine H.mono ?_
    rintro e w1 ⟨rfl, hb⟩
    replace h := h.below hb
    clear H
    go_wp2
    have hA : Below w1.heap.size w1 (w1.alloc (.cells #[.int .i64 x.var, .int .i64 x.lo, .int .i64 x.hi] 39)) := by go_grown
    have hx := heap_alloc_new w1 (.cells #[.int .i64 x.var, .int .i64 x.lo, .int .i64 x.hi] 39)
    have hlt : w1.heap.size < (w1.alloc (.cells #[.int .i64 x.var, .int .i64 x.lo, .int .i64 x.hi] 39)).heap.size := by simp
    replace h := h.below hA
    replace hb := hb.trans (hA.mono hb.size)
    clear hA
    generalize w1.alloc (.cells #[.int .i64 x.var, .int .i64 x.lo, .int .i64 x.hi] 39) = W at *
    have x0 : ∀ u : Sub W, u.1.cell? ⟨w1.heap.size, 0, none⟩ = some (.int .i64 x.var) := fun u => by rw [cell_of_row _ _ _ _ _ _ ((u.2.block _ hlt).trans hx)]; rfl
    have c0 := fun u : Sub W => (h.sub u).order.1
    have c1 := fun u : Sub W => (h.sub u).order.2.1
    have c2 := fun u : Sub W => (h.sub u).order.2.2.1
    have c3 := fun u : Sub W => (h.sub u).order.2.2.2.1
    have c4 := fun u : Sub W => (h.sub u).order.2.2.2.2.1
    have c5 := fun u : Sub W => (h.sub u).order.2.2.2.2.2.1
    have c6 := fun u : Sub W => (h.sub u).order.2.2.2.2.2.2.1
    have c7 := fun u : Sub W => (h.sub u).order.2.2.2.2.2.2.2
    clear h
    refine wp_region_quiet_all (C := fun w' => ∃ u : Sub W, w' = u.1) (by kernel_rfl) (by kernel_rfl) (InSub.drew W) ?_
    iterate 6 (go_big_quiet_step (fail))
    go_big_quiet_step (exact subBelow (hLx _))
    iterate 5 (go_big_quiet_step (fail))
    go_big_quiet_step (exact subBelow (hLv _))
    iterate 2 (go_big_quiet_step (fail))
    refine wpQuiet_nil ?_
    clear c0 c1 c2 c3 c4 c5 c6 c7 x0
    intro w' hw'
    obtain ⟨u, rfl⟩ := hw'
    go_wp2
    go_ret
    exact ⟨rfl, hb.trans (u.2.mono hb.size)⟩

set_option maxRecDepth 100000 in
set_option maxHeartbeats 1000000 in
theorem refSOf {w : World} {b : Nat} {F : Nat → Prop} {s : MS} (h : RefSAt w b F s) (ok : s.Base) (n v : Int) (hn : n ≤ 9223372036854775807) :
    Calls Try.prog 48 #[.pointer (some ⟨b, 0, none⟩), .int .i64 n, .int .i64 v] w fun e w' => e = .returned (.bool (s.isOf n v)) ∧ Below w.heap.size w w' := by
  have H := refSNode h ok n hn
  unfold nodeV nv at H
  cases hh : s.has n
  · simp only [hh, Bool.false_eq_true, if_false] at H
    have hB : s.isOf n v = false := by simp [MS.isOf, MS.node, hh]
    rw [hB]
    clear hB h hh
    go_enter Try.func48, Try.ntmps48
    go_wp2_with fail
    refine H.mono ?_
    rintro e w1 ⟨rfl, hb⟩
    go_wp2
    go_ret
    exact ⟨rfl, hb.alloc hb.size _⟩
  · have hB : s.isOf n v = ((s.nd n).var == v) := by simp [MS.isOf, MS.node, hh]
    rw [hB]
    simp only [hh, if_true] at H
    clear hB h hh
    generalize s.nd n = x at *
    go_enter Try.func48, Try.ntmps48
    go_wp2_with fail
    refine H.mono ?_
    rintro e w1 ⟨rfl, hb⟩
    go_wp2
    go_ret
    exact ⟨rfl, hb.alloc hb.size _⟩

set_option maxRecDepth 100000 in
set_option maxHeartbeats 1000000 in
theorem refSSide {w : World} {b : Nat} {F : Nat → Prop} {s : MS} (h : RefSAt w b F s) (ok : s.Base) (n y : Int) (z : Bool) (zi : Int) (hz : zi = if z then 1 else 0) (hn : n ≤ 9223372036854775807) :
    Calls Try.prog 51 #[.pointer (some ⟨b, 0, none⟩), .int .i64 n, .int .i64 y, .int .i64 zi] w fun e w' => e = .returned (.int .i64 (s.side n y z)) ∧ Below w.heap.size w w' := by
  have H := refSOf h ok n y hn
  obtain ⟨bA, FA, v, rfl, h⟩ := h
  cases hh : s.isOf n y
  · rw [hh] at H
    have hB : s.side n y z = n := by simp [MS.side, hh]
    rw [hB]
    clear hB h hh hz
    go_enter Try.func51, Try.ntmps51
    go_wp2_with fail
    refine H.mono ?_
    rintro e w1 ⟨rfl, hb⟩
    go_wp2
    go_ret
    exact ⟨rfl, hb⟩
  · rw [hh] at H
    have hhas := (MS.isOf_iff.1 hh).1
    have hB : s.side n y z = if z then (s.nd n).hi else (s.nd n).lo := by simp [MS.side, hh]
    rw [hB]
    clear hB
    cases z
    · simp only [Bool.false_eq_true, if_false] at *
      subst hz
      go_enter Try.func51, Try.ntmps51
      go_wp2_with fail
      refine H.mono ?_
      rintro e w1 ⟨rfl, hb⟩
      replace h := h.below hb
      have c1 := h.cells.2
      obtain ⟨g, c, rfl, h2, i0, i1, d0, d1, d2⟩ := h.node ok hhas
      clear h hhas hh H
      go_wp2
      go_ret
      exact ⟨rfl, hb⟩
    · simp only [if_true] at *
      subst hz
      go_enter Try.func51, Try.ntmps51
      go_wp2_with fail
      refine H.mono ?_
      rintro e w1 ⟨rfl, hb⟩
      replace h := h.below hb
      have c1 := h.cells.2
      obtain ⟨g, c, rfl, h2, i0, i1, d0, d1, d2⟩ := h.node ok hhas
      clear h hhas hh H
      go_wp2
      go_ret
      exact ⟨rfl, hb⟩

/-- The first numbers. -/
def numsTo (k : Nat) : List Int := (List.range k).map fun i : Nat => (i : Int) + 2
theorem numsTo_succ (k : Nat) : numsTo (k + 1) = numsTo k ++ [(k : Int) + 2] := by simp [numsTo, List.range_succ]
theorem numsTo_split {k n : Nat} (h : k < n) : ∃ r, numsTo n = numsTo k ++ ((k : Int) + 2) :: r := by
  obtain ⟨d, rfl⟩ := Nat.exists_eq_add_of_lt h
  clear h
  induction d with
  | zero => exact ⟨[], numsTo_succ k⟩
  | succ d ih =>
    obtain ⟨r, e⟩ := ih
    exact ⟨r ++ [((k + d + 1 : Nat) : Int) + 2], by rw [show k + (d + 1) + 1 = (k + d + 1) + 1 by omega, numsTo_succ, e]; simp⟩
theorem numsTo_filter (p : Int → Bool) (k : Nat) : (numsTo (k + 1)).filter p = (numsTo k).filter p ++ if p ((k : Int) + 2) then [(k : Int) + 2] else [] := by
  rw [numsTo_succ, List.filter_append]
  congr 1
  cases h : p ((k : Int) + 2) <;> simp [h]
theorem numsTo_find {p : Int → Bool} {k n : Nat} (h : k < n) (h0 : (numsTo k).find? p = none) : (p ((k : Int) + 2) = true → (numsTo n).find? p = some ((k : Int) + 2)) ∧ (p ((k : Int) + 2) = false → (numsTo (k + 1)).find? p = none) := by
  constructor
  · intro hp
    obtain ⟨r, e⟩ := numsTo_split h
    rw [e, List.find?_append, h0]
    simp [hp]
  · intro hp
    rw [numsTo_succ, List.find?_append, h0]
    simp [hp]
theorem numsTo_any {p : Int → Bool} {k n : Nat} (h : k < n) (h0 : (numsTo k).any p = false) : (p ((k : Int) + 2) = true → (numsTo n).any p = true) ∧ (p ((k : Int) + 2) = false → (numsTo (k + 1)).any p = false) := by
  constructor
  · intro hp
    obtain ⟨r, e⟩ := numsTo_split h
    rw [e, List.any_append, h0]
    simp [hp]
  · intro hp
    rw [numsTo_succ, List.any_append, h0]
    simp [hp]
theorem numsTo_filter_length (p : Int → Bool) (k : Nat) : ((numsTo k).filter p).length ≤ k := Nat.le_trans (List.length_filter_le _ _) (by simp [numsTo])

set_option maxRecDepth 100000 in
set_option maxHeartbeats 1000000 in
theorem refSAll {w : World} {b : Nat} {F : Nat → Prop} {s : MS} (h : RefSAt w b F s) (ok : s.Base) :
    Calls Try.prog 31 #[.pointer (some ⟨b, 0, none⟩)] w fun e w' => ∃ v', e = .returned v' ∧ WRel w s.all v' w' := by
  have hfew := ok.few
  have H := fun wr (hb : Below w.heap.size w wr) (n : Int) (hn : n ≤ 9223372036854775807) => refSHas (h.below hb) ok n hn
  obtain ⟨bA, FA, v, rfl, h⟩ := h
  obtain ⟨a, c, rfl⟩ := h.form
  have hlen : s.all = (numsTo s.N.length).filter s.has := rfl
  rw [hlen]
  clear hlen
  go_enter Try.func31, Try.ntmps31
  go_wp2
  go_loopw [3, 4] (fun vo i wr => ∃ k : Nat, k ≤ s.N.length ∧ i = .int .i64 ((k : Int) + 2) ∧ WRel w ((numsTo k).filter s.has) vo wr) (fun _ i _ => s.N.length + 2 - (intOf i).toNat)
  case atStart => exact ⟨0, Nat.zero_le _, rfl, Owns.nil _ _, (fun g h => by cases h), Below.refl _ _⟩
  case round =>
    obtain ⟨k, hk, rfl, R⟩ := hrel
    have c1 := (h.below R.below).cells.2
    by_cases hlt : k < s.N.length
    · have hstep := numsTo_filter s.has k
      have hl := numsTo_filter_length s.has k
      have hki : (k : Int) < (s.N.length : Int) := by omega
      have HH := H wr R.below ((k : Int) + 2) (by omega)
      clear h H
      cases hh : s.has ((k : Int) + 2)
      · rw [hh] at hstep HH
        simp only [Bool.false_eq_true, if_false, List.append_nil] at hstep
        have HS := Lib.hid hstep
        clear hstep hh
        go_wp2_with fail
        refine HH.mono ?_
        rintro e w1 ⟨rfl, rfl⟩
        clear HH
        go_wp2
        exact ⟨⟨k + 1, by omega, by go_num, by rw [HS.out]; exact R⟩, by simp [intOf]; omega⟩
      · rw [hh] at hstep HH
        simp only [if_true] at hstep
        have HS := Lib.hid hstep
        clear hstep hh
        have hA := R.own.alloc (.cells #[.int .i64 ((k : Int) + 2)] 3)
        have hsrc := oneI wr ((k : Int) + 2) wr.heap.size rfl
        have hln : ((numsTo k).filter s.has).length + [(k : Int) + 2].length ≤ 1000000 := by simp at hl ⊢; omega
        go_wp2_with fail
        refine HH.mono ?_
        rintro e w1 ⟨rfl, rfl⟩
        clear HH
        go_wp2_with (at_builtin; refine appendI rfl (.tmp 18) (.tmp 20) rfl _ _ ((numsTo k).filter s.has) [(k : Int) + 2] rfl hA rfl hsrc hln ?_; intro v' w2 hown hgr hat)
        refine ⟨⟨k + 1, by omega, by go_num, by rw [HS.out]; exact hown, fun g hg => ?_, ?_⟩, by simp [intOf]; omega⟩
        · rcases hat with hat | hat
          · exact R.new g (hat ▸ hg)
          · rw [hat] at hg; injection hg with hg; have := R.below.size; simp at hg; omega
        · exact (R.below.alloc R.below.size _).grown hgr (by have := R.below.size; simp; omega) R.new
    · obtain rfl : k = s.N.length := by omega
      clear h H
      go_wp2
      go_ret
      exact ⟨_, rfl, R⟩

end Go.Proofs.Ytbnjbnjhpccomaa
