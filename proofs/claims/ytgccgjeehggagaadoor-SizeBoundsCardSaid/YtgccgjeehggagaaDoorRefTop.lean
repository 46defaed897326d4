/-
  Walks of the document's Top and Plain.
-/
import Derived.Test.YtgccgjeehggagaaDoorMath3
import Derived.Test.YtgccgjeehggagaaDoorFMap
namespace Go.Proofs.YtgccgjeehggagaaDoor
open Go Go.RowKit

/-- An order, as the program holds it. -/
def ov (o : Nat → Int) : Value := .agg #[.int .i64 (o 0), .int .i64 (o 1), .int .i64 (o 2), .int .i64 (o 3), .int .i64 (o 4), .int .i64 (o 5), .int .i64 (o 6), .int .i64 (o 7)]

/-- Block b is a variable that holds the order o. -/
def HoldsO (w : World) (b : Nat) (o : Nat → Int) : Prop := w.heap[b]? = some (.cells #[.int .i64 (o 0), .int .i64 (o 1), .int .i64 (o 2), .int .i64 (o 3), .int .i64 (o 4), .int .i64 (o 5), .int .i64 (o 6), .int .i64 (o 7)] 23 (0, 0))

theorem HoldsO.lt {w : World} {b : Nat} {o : Nat → Int} (h : HoldsO w b o) : b < w.heap.size := by
  rcases Nat.lt_or_ge b w.heap.size with h' | h'
  · exact h'
  · unfold HoldsO at h; rw [Array.getElem?_eq_none h'] at h; cases h
theorem HoldsO.keep {w w' : World} {b B : Nat} {o : Nat → Int} (h : HoldsO w b o) (hb : Below B w w') (hB : b < B) : HoldsO w' b o := by
  unfold HoldsO; rw [hb.block b hB]; exact h
theorem HoldsO.sub {wr : World} {b : Nat} {o : Nat → Int} (h : HoldsO wr b o) (u : Sub wr) : HoldsO u.1 b o := h.keep u.2 h.lt
theorem HoldsO.alloc {w : World} {b : Nat} {o : Nat → Int} (h : HoldsO w b o) (x : Obj) : HoldsO (w.alloc x) b o := by
  unfold HoldsO; rw [heap_alloc_old _ _ h.lt]; exact h
theorem HoldsO.new (w : World) (o : Nat → Int) (b : Nat) (hb : b = w.heap.size := by simp) : HoldsO (w.alloc (.cells #[.int .i64 (o 0), .int .i64 (o 1), .int .i64 (o 2), .int .i64 (o 3), .int .i64 (o 4), .int .i64 (o 5), .int .i64 (o 6), .int .i64 (o 7)] 23)) b o := by
  subst hb
  exact heap_alloc_new _ _
theorem HoldsO.cell {w : World} {b : Nat} {o : Nat → Int} (h : HoldsO w b o) (i : Nat) (hi : i < 8) : w.cell? ⟨b, i, none⟩ = some (.int .i64 (o i)) := by
  rw [cell_of_row _ _ _ _ _ _ h]
  rcases (by omega : i = 0 ∨ i = 1 ∨ i = 2 ∨ i = 3 ∨ i = 4 ∨ i = 5 ∨ i = 6 ∨ i = 7) with rfl | rfl | rfl | rfl | rfl | rfl | rfl | rfl <;> rfl

set_option maxRecDepth 100000 in
set_option maxHeartbeats 1000000 in
theorem refTop (f : Fn) (o : Nat → Int) (w : World) :
    Calls Tryd.prog 9 #[fv f, ov o] w fun e w' => e = .returned (.int .i64 (topF f o)) ∧ Below w.heap.size w w' := by
  simp only [fv, ov]
  go_enter Tryd.func9, Tryd.ntmps9
  go_wp2
  go_loopw [5] (fun i wr => ∃ n : Nat, n ≤ 8 ∧ i = .int .i64 n ∧ Hid (topF f o = topFrom f o (8 - n) n) ∧ Holds wr w.heap.size f ∧ HoldsO wr (w.heap.size + 1) o ∧ Below w.heap.size w wr) (fun i _ => 8 - (intOf i).toNat)
  case atStart => exact ⟨0, Nat.zero_le _, rfl, rfl, (Holds.new _ _ _).alloc _, HoldsO.new _ _ _, by go_grown⟩
  case round =>
    obtain ⟨n, hn, rfl, ht, h0, h1, hb⟩ := hrel
    by_cases hlt : n < 8
    · have Hs : Hid (topF f o = if depAny f (o n) then o n else topFrom f o (8 - (n + 1)) (n + 1)) := by
        have := ht.out
        rw [show 8 - n = (8 - (n + 1)) + 1 by omega] at this
        exact this
      clear ht
      have hn0 : (0 : Int) ≤ (n : Int) := by omega
      have hn8 : (n : Int) < 8 := by omega
      have c0 : ∀ u : Sub wr, u.1.cell? ⟨w.heap.size, 0, none⟩ = some (.int .u64 (wd f 0)) := fun u => (h0.sub u).cells.1
      have c1 : ∀ u : Sub wr, u.1.cell? ⟨w.heap.size, 1, none⟩ = some (.int .u64 (wd f 1)) := fun u => (h0.sub u).cells.2.1
      have c2 : ∀ u : Sub wr, u.1.cell? ⟨w.heap.size, 2, none⟩ = some (.int .u64 (wd f 2)) := fun u => (h0.sub u).cells.2.2.1
      have c3 : ∀ u : Sub wr, u.1.cell? ⟨w.heap.size, 3, none⟩ = some (.int .u64 (wd f 3)) := fun u => (h0.sub u).cells.2.2.2
      have d0 : ∀ u : Sub wr, u.1.cell? ⟨w.heap.size + 1, n, none⟩ = some (.int .i64 (o n)) := fun u => (h1.sub u).cell n hlt
      go_wp2
      refine wp_region_quiet_all (C := fun w' => ∃ u : Sub wr, w' = u.1) (by kernel_rfl) (by kernel_rfl) (InSub.drew wr) ?_
      iterate 4 (go_big_quiet_step (fail))
      go_big_quiet_step (exact sub_below (refDepends f (o n) _))
      refine wpQuiet_nil ?_
      clear c0 c1 c2 c3 d0
      intro w' hw'
      obtain ⟨u, rfl⟩ := hw'
      have k0 := h0.sub u
      have k1 := h1.sub u
      have kb := hb.trans (u.2.mono hb.size)
      clear h0 h1 hb
      generalize u.1 = w1 at *
      have hc := k1.cell n hlt
      cases hd : depAny f (o n)
      · rw [hd] at Hs
        go_wp2
        exact ⟨⟨n + 1, by omega, by go_num, Hs.out, k0, k1, kb⟩, by simp [intOf]; omega⟩
      · rw [hd] at Hs
        go_wp2
        go_ret
        exact ⟨ret_int Hs.out.symm, kb⟩
    · obtain rfl : n = 8 := by omega
      go_wp2
      go_ret
      exact ⟨ret_int ht.out.symm, hb⟩

end Go.Proofs.YtgccgjeehggagaaDoor
