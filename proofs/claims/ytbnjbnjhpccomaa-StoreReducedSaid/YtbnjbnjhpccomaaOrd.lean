/-
  Orders of eight numbers, as the program holds them.
-/
import Derived.Test.YtbnjbnjhpccomaaQuiet
import Derived.Test.YtbnjbnjhpccomaaProg
import Derived.Handy
import Derived.WalkKit
import Derived.KernelRfl
namespace Go.Proofs.Ytbnjbnjhpccomaa
open Go Go.RowKit

/-- An order, as the program holds it. -/
def ov (o : Nat → Int) : Value := .agg #[.int .i64 (o 0), .int .i64 (o 1), .int .i64 (o 2), .int .i64 (o 3), .int .i64 (o 4), .int .i64 (o 5), .int .i64 (o 6), .int .i64 (o 7)]

/-- Block b is a variable that holds the order o. -/
def HoldsO (w : World) (b : Nat) (o : Nat → Int) : Prop := w.heap[b]? = some (.cells #[.int .i64 (o 0), .int .i64 (o 1), .int .i64 (o 2), .int .i64 (o 3), .int .i64 (o 4), .int .i64 (o 5), .int .i64 (o 6), .int .i64 (o 7)] 36 (0, 0))

theorem HoldsO.lt {w : World} {b : Nat} {o : Nat → Int} (h : HoldsO w b o) : b < w.heap.size := by
  rcases Nat.lt_or_ge b w.heap.size with h' | h'
  · exact h'
  · unfold HoldsO at h; rw [Array.getElem?_eq_none h'] at h; cases h
theorem HoldsO.keep {w w' : World} {b B : Nat} {o : Nat → Int} (h : HoldsO w b o) (hb : Below B w w') (hB : b < B) : HoldsO w' b o := by
  unfold HoldsO; rw [hb.block b hB]; exact h
theorem HoldsO.sub {wr : World} {b : Nat} {o : Nat → Int} (h : HoldsO wr b o) (u : Sub wr) : HoldsO u.1 b o := h.keep u.2 h.lt
theorem HoldsO.alloc {w : World} {b : Nat} {o : Nat → Int} (h : HoldsO w b o) (x : Obj) : HoldsO (w.alloc x) b o := by
  unfold HoldsO; rw [heap_alloc_old _ _ h.lt]; exact h
theorem HoldsO.new (w : World) (o : Nat → Int) (b : Nat) (hb : b = w.heap.size := by simp) : HoldsO (w.alloc (.cells #[.int .i64 (o 0), .int .i64 (o 1), .int .i64 (o 2), .int .i64 (o 3), .int .i64 (o 4), .int .i64 (o 5), .int .i64 (o 6), .int .i64 (o 7)] 36)) b o := by
  subst hb
  exact heap_alloc_new _ _
theorem HoldsO.cell {w : World} {b : Nat} {o : Nat → Int} (h : HoldsO w b o) (i : Nat) (hi : i < 8) : w.cell? ⟨b, i, none⟩ = some (.int .i64 (o i)) := by
  rw [cell_of_row _ _ _ _ _ _ h]
  rcases (by omega : i = 0 ∨ i = 1 ∨ i = 2 ∨ i = 3 ∨ i = 4 ∨ i = 5 ∨ i = 6 ∨ i = 7) with rfl | rfl | rfl | rfl | rfl | rfl | rfl | rfl <;> rfl
theorem HoldsO.free {w : World} {b : Nat} {o : Nat → Int} (h : HoldsO w b o) (j : Nat) : w.frozen? ⟨b, j, none⟩ = false := frozen_of_row _ _ _ _ _ h

/-- A place of it written. -/
def setO (o : Nat → Int) (i : Nat) (x : Int) : Nat → Int := fun j => if j = i then x else o j
theorem HoldsO.set {w : World} {b : Nat} {o : Nat → Int} (h : HoldsO w b o) (i : Nat) (hi : i < 8) (x : Int) : HoldsO (w.setCell ⟨b, i, none⟩ (.int .i64 x)) b (setO o i x) := by
  have h1 := heap_setCell_same w b i _ _ (.int .i64 x) h
  unfold HoldsO
  rw [h1]
  rcases (by omega : i = 0 ∨ i = 1 ∨ i = 2 ∨ i = 3 ∨ i = 4 ∨ i = 5 ∨ i = 6 ∨ i = 7) with rfl | rfl | rfl | rfl | rfl | rfl | rfl | rfl <;> rfl
theorem HoldsO.other {w : World} {b c : Nat} {o : Nat → Int} (h : HoldsO w b o) (hne : b ≠ c) (i : Nat) (x : Value) : HoldsO (w.setCell ⟨c, i, none⟩ x) b o := by
  unfold HoldsO; rw [Below.heap_setCell _ _ _ _ hne]; exact h
theorem HoldsO.congr {w : World} {b : Nat} {o p : Nat → Int} (h : HoldsO w b o) (he : ∀ i, i < 8 → o i = p i) : HoldsO w b p := by
  unfold HoldsO at *
  rw [h, he 0 (by decide), he 1 (by decide), he 2 (by decide), he 3 (by decide), he 4 (by decide), he 5 (by decide), he 6 (by decide), he 7 (by decide)]

theorem ret_holdsO {fn : Func} {p : Tmp} {tmps : Array Value} {w : World} {b : Nat} {o : Nat → Int} (h : fn.results = #[.cell p 36]) (hp : tmps.getD p undef = .pointer (some ⟨b, 0, none⟩)) (hh : HoldsO w b o) :
    (results fn tmps).run Try.prog w = .ok (ov o) w :=
  results_cell_row h tmps w b _ _ _ _ hp hh Try.underlying36 rfl (by kernel_rfl)

theorem HoldsO.set8 {w : World} {b : Nat} {o : Nat → Int} (h : HoldsO w b o) (p : Nat → Int) :
    HoldsO ((((((((w.setCell ⟨b, 0, none⟩ (.int .i64 (p 0))).setCell ⟨b, 1, none⟩ (.int .i64 (p 1))).setCell ⟨b, 2, none⟩ (.int .i64 (p 2))).setCell ⟨b, 3, none⟩ (.int .i64 (p 3))).setCell ⟨b, 4, none⟩ (.int .i64 (p 4))).setCell ⟨b, 5, none⟩ (.int .i64 (p 5))).setCell ⟨b, 6, none⟩ (.int .i64 (p 6))).setCell ⟨b, 7, none⟩ (.int .i64 (p 7))) b p :=
  HoldsO.congr ((((((((h.set 0 (by decide) (p 0)).set 1 (by decide) (p 1)).set 2 (by decide) (p 2)).set 3 (by decide) (p 3)).set 4 (by decide) (p 4)).set 5 (by decide) (p 5)).set 6 (by decide) (p 6)).set 7 (by decide) (p 7)) (fun i hi => by
    rcases (by omega : i = 0 ∨ i = 1 ∨ i = 2 ∨ i = 3 ∨ i = 4 ∨ i = 5 ∨ i = 6 ∨ i = 7) with rfl | rfl | rfl | rfl | rfl | rfl | rfl | rfl <;> rfl)
theorem below_set8 {B b : Nat} {a w : World} {x0 x1 x2 x3 x4 x5 x6 x7 : Value} (h : Below B a w) (hb : B ≤ b) :
    Below B a ((((((((w.setCell ⟨b, 0, none⟩ x0).setCell ⟨b, 1, none⟩ x1).setCell ⟨b, 2, none⟩ x2).setCell ⟨b, 3, none⟩ x3).setCell ⟨b, 4, none⟩ x4).setCell ⟨b, 5, none⟩ x5).setCell ⟨b, 6, none⟩ x6).setCell ⟨b, 7, none⟩ x7) :=
  (((((((h.setCell hb _).setCell hb _).setCell hb _).setCell hb _).setCell hb _).setCell hb _).setCell hb _).setCell hb _

end Go.Proofs.Ytbnjbnjhpccomaa
