/-
  Walks of the document's put, Bit and Const.
-/
import Derived.Test.YtgccgjeehggagaaDoorTabVar
namespace Go.Proofs.YtgccgjeehggagaaDoor
open Go Go.RowKit

set_option maxHeartbeats 400000 in
theorem refPut (f : Fn) (k : Nat) (b : Bool) (w : World) (hk : k < 256) :
    Calls Tryd.prog 22 #[fv f, .int .i64 k, .bool b] w fun e w' => e = .returned (fv (putF f k b)) ∧ Below w.heap.size w w' := by
  cases b with
  | false =>
    have e : putF f k false = f := by simp [putF]
    rw [e]
    clear e
    simp only [fv]
    go_enter Tryd.func22, Tryd.ntmps22
    go_wp2
    exact bodyPost_ret (v := .agg #[.int .u64 (wd f 0), .int .u64 (wd f 1), .int .u64 (wd f 2), .int .u64 (wd f 3)]) (by simp [results, Tryd.results22, go_sem]) rfl ⟨rfl, by go_grown⟩
  | true =>
    simp only [fv]
    have h0 : (0 : Int) ≤ (k : Int) := by omega
    have h1 : (k : Int) < 256 := by omega
    rcases (by omega : k / 64 = 0 ∨ k / 64 = 1 ∨ k / 64 = 2 ∨ k / 64 = 3) with hq | hq | hq | hq
    · have hqi : (k : Int) / 64 = 0 := by omega
      have Hq := Lib.hid hq
      go_enter Tryd.func22, Tryd.ntmps22
      go_wp2
      exact bodyPost_ret (v := .agg #[.int .u64 (bits .or .u64 (wd f 0) (IntKind.u64.wrap (2 ^ (k % 64)))), .int .u64 (wd f 1), .int .u64 (wd f 2), .int .u64 (wd f 3)])
        (by simp [results, Tryd.results22, go_sem]) rfl ⟨by rw [put_same f k 0 Hq.out (by decide), put_other f k 0 1 Hq.out (by decide) (by decide), put_other f k 0 2 Hq.out (by decide) (by decide), put_other f k 0 3 Hq.out (by decide) (by decide)], by go_grown⟩
    · have hqi : (k : Int) / 64 = 1 := by omega
      have Hq := Lib.hid hq
      go_enter Tryd.func22, Tryd.ntmps22
      go_wp2
      exact bodyPost_ret (v := .agg #[.int .u64 (wd f 0), .int .u64 (bits .or .u64 (wd f 1) (IntKind.u64.wrap (2 ^ (k % 64)))), .int .u64 (wd f 2), .int .u64 (wd f 3)])
        (by simp [results, Tryd.results22, go_sem]) rfl ⟨by rw [put_same f k 1 Hq.out (by decide), put_other f k 1 0 Hq.out (by decide) (by decide), put_other f k 1 2 Hq.out (by decide) (by decide), put_other f k 1 3 Hq.out (by decide) (by decide)], by go_grown⟩
    · have hqi : (k : Int) / 64 = 2 := by omega
      have Hq := Lib.hid hq
      go_enter Tryd.func22, Tryd.ntmps22
      go_wp2
      exact bodyPost_ret (v := .agg #[.int .u64 (wd f 0), .int .u64 (wd f 1), .int .u64 (bits .or .u64 (wd f 2) (IntKind.u64.wrap (2 ^ (k % 64)))), .int .u64 (wd f 3)])
        (by simp [results, Tryd.results22, go_sem]) rfl ⟨by rw [put_same f k 2 Hq.out (by decide), put_other f k 2 0 Hq.out (by decide) (by decide), put_other f k 2 1 Hq.out (by decide) (by decide), put_other f k 2 3 Hq.out (by decide) (by decide)], by go_grown⟩
    · have hqi : (k : Int) / 64 = 3 := by omega
      have Hq := Lib.hid hq
      go_enter Tryd.func22, Tryd.ntmps22
      go_wp2
      exact bodyPost_ret (v := .agg #[.int .u64 (wd f 0), .int .u64 (wd f 1), .int .u64 (wd f 2), .int .u64 (bits .or .u64 (wd f 3) (IntKind.u64.wrap (2 ^ (k % 64))))])
        (by simp [results, Tryd.results22, go_sem]) rfl ⟨by rw [put_same f k 3 Hq.out (by decide), put_other f k 3 0 Hq.out (by decide) (by decide), put_other f k 3 1 Hq.out (by decide) (by decide), put_other f k 3 2 Hq.out (by decide) (by decide)], by go_grown⟩


/-- Block b is a variable that holds the function f. -/

def Holds (w : World) (b : Nat) (f : Fn) : Prop :=
  w.heap[b]? = some (.cells #[.int .u64 (wd f 0), .int .u64 (wd f 1), .int .u64 (wd f 2), .int .u64 (wd f 3)] 26 (0, 0))

theorem Holds.lt {w : World} {b : Nat} {f : Fn} (h : Holds w b f) : b < w.heap.size := by
  rcases Nat.lt_or_ge b w.heap.size with h' | h'
  · exact h'
  · unfold Holds at h; rw [Array.getElem?_eq_none h'] at h; cases h

theorem Holds.keep {w w' : World} {b B : Nat} {f : Fn} (h : Holds w b f) (hb : Below B w w') (hB : b < B) : Holds w' b f := by
  unfold Holds; rw [hb.block b hB]; exact h

theorem Holds.cells {w : World} {b : Nat} {f : Fn} (h : Holds w b f) :
    w.cell? ⟨b, 0, none⟩ = some (.int .u64 (wd f 0)) ∧ w.cell? ⟨b, 1, none⟩ = some (.int .u64 (wd f 1)) ∧ w.cell? ⟨b, 2, none⟩ = some (.int .u64 (wd f 2)) ∧ w.cell? ⟨b, 3, none⟩ = some (.int .u64 (wd f 3)) :=
  ⟨cell_of_row _ _ _ _ _ _ h, cell_of_row _ _ _ _ _ _ h, cell_of_row _ _ _ _ _ _ h, cell_of_row _ _ _ _ _ _ h⟩

theorem Holds.free {w : World} {b : Nat} {f : Fn} (h : Holds w b f) :
    w.frozen? ⟨b, 0, none⟩ = false ∧ w.frozen? ⟨b, 1, none⟩ = false ∧ w.frozen? ⟨b, 2, none⟩ = false ∧ w.frozen? ⟨b, 3, none⟩ = false :=
  ⟨frozen_of_row _ _ _ _ _ h, frozen_of_row _ _ _ _ _ h, frozen_of_row _ _ _ _ _ h, frozen_of_row _ _ _ _ _ h⟩

theorem Holds.set4 {w : World} {b : Nat} {f : Fn} (h : Holds w b f) (g : Fn) :
    Holds ((((w.setCell ⟨b, 0, none⟩ (.int .u64 (wd g 0))).setCell ⟨b, 1, none⟩ (.int .u64 (wd g 1))).setCell ⟨b, 2, none⟩ (.int .u64 (wd g 2))).setCell ⟨b, 3, none⟩ (.int .u64 (wd g 3))) b g :=
  heap_setCell_same _ _ _ _ _ _ (heap_setCell_same _ _ _ _ _ _ (heap_setCell_same _ _ _ _ _ _ (heap_setCell_same _ _ _ _ _ _ h)))

theorem Holds.other4 {w : World} {b c : Nat} {f : Fn} {x0 x1 x2 x3 : Value} (h : Holds w b f) (hne : b ≠ c) :
    Holds ((((w.setCell ⟨c, 0, none⟩ x0).setCell ⟨c, 1, none⟩ x1).setCell ⟨c, 2, none⟩ x2).setCell ⟨c, 3, none⟩ x3) b f := by
  unfold Holds
  rw [heap_setCell_other _ _ _ _ hne, heap_setCell_other _ _ _ _ hne, heap_setCell_other _ _ _ _ hne, heap_setCell_other _ _ _ _ hne]
  exact h

theorem Holds.new (w : World) (f : Fn) (b : Nat) (hb : b = w.heap.size := by simp) : Holds (w.alloc (.cells #[.int .u64 (wd f 0), .int .u64 (wd f 1), .int .u64 (wd f 2), .int .u64 (wd f 3)] 26)) b f := by
  subst hb
  exact heap_alloc_new _ _

theorem Holds.new0 (w : World) (b : Nat) (hb : b = w.heap.size := by simp) : Holds (w.alloc (.cells #[.int .u64 0, .int .u64 0, .int .u64 0, .int .u64 0] 26)) b 0#256 := by
  subst hb
  have h := heap_alloc_new w (.cells #[.int .u64 0, .int .u64 0, .int .u64 0, .int .u64 0] 26)
  unfold Holds
  rw [h]
  simp [wd]

theorem Holds.alloc {w : World} {b : Nat} {f : Fn} (h : Holds w b f) (o : Obj) : Holds (w.alloc o) b f := by
  unfold Holds; rw [heap_alloc_old _ _ h.lt]; exact h

/-- At a loop's head: the result's variable and the one that is filled. -/

def Filled (w : World) (f : Fn) (wr : World) : Prop := Holds wr w.heap.size 0#256 ∧ Holds wr (w.heap.size + 1) f ∧ Below w.heap.size w wr

end Go.Proofs.YtgccgjeehggagaaDoor
