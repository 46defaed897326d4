/-
  Texts of this proof, one behind the other: SlotR.
-/
import Derived.Test.YtilcjpaifbcjaaaG1
import Derived.Test.YtilcjpaifbcjaaaG5
import Derived.Test.YtilcjpaifbcjaaaG6
/-
  The document's slots (layer 16): in memory, and walked.
-/
namespace Go.Proofs.Ytilcjpaifbcjaaa
open Go Go.RowKit

/-- The cells of its slots. -/
structure RfRow (cs : Array Value) (f : SF) : Prop where
  size : cs.size = 48
  cell : ∀ i, i < 16 → cs[i * 3]? = some (.int .i64 (f i).gen) ∧ cs[i * 3 + 1]? = some (.bool (f i).held) ∧ cs[i * 3 + 2]? = some (.int .i64 (f i).val)

/-- At block m stand the document's slots, their row at g. -/
structure RfS (w : World) (m g : Nat) (t : Int) (f : SF) : Prop where
  head : w.heap[m]? = some (.cells #[.int .i64 t, .slice (some ⟨g, 0, none⟩) 16 16] 62 (0, 0))
  row : ∃ cs, w.heap[g]? = some (.cells cs 67 (0, 0)) ∧ RfRow cs f
  ne : g ≠ m

theorem RfRow.set {cs : Array Value} {f : SF} (h : RfRow cs f) {i : Nat} (hi : i < 16) (r : Nat) (hr : r < 3) (s : Slo) (v : Value)
    (h0 : (if r = 0 then v else .int .i64 (f i).gen) = .int .i64 s.gen) (h1 : (if r = 1 then v else .bool (f i).held) = .bool s.held) (h2 : (if r = 2 then v else .int .i64 (f i).val) = .int .i64 s.val) : RfRow (cs.setIfInBounds (i * 3 + r) v) (f.put i s) := by
  refine ⟨by simp [h.size], fun j hj => ?_⟩
  obtain ⟨c0, c1, c2⟩ := h.cell j hj
  have hs := h.size
  by_cases e : j = i
  · subst e
    rw [SF.put_same, ← h0, ← h1, ← h2]
    rcases (by omega : r = 0 ∨ r = 1 ∨ r = 2) with rfl | rfl | rfl
    · rw [Nat.add_zero, Array.getElem?_setIfInBounds_self_of_lt (by omega), Array.getElem?_setIfInBounds_ne (by omega), Array.getElem?_setIfInBounds_ne (by omega)]
      exact ⟨rfl, c1, c2⟩
    · rw [Array.getElem?_setIfInBounds_ne (by omega), Array.getElem?_setIfInBounds_self_of_lt (by omega), Array.getElem?_setIfInBounds_ne (by omega)]
      exact ⟨c0, rfl, c2⟩
    · rw [Array.getElem?_setIfInBounds_ne (by omega), Array.getElem?_setIfInBounds_ne (by omega), Array.getElem?_setIfInBounds_self_of_lt (by omega)]
      exact ⟨c0, c1, rfl⟩
  · rw [SF.put_other _ _ _ e, Array.getElem?_setIfInBounds_ne (by omega), Array.getElem?_setIfInBounds_ne (by omega), Array.getElem?_setIfInBounds_ne (by omega)]
    exact ⟨c0, c1, c2⟩

/-- The blocks of the document's slots. -/
def both (m g : Nat) (k : Nat) : Prop := k = m ∨ k = g

section
variable {w w' : World} {m g : Nat} {t : Int} {f : SF}

theorem RfS.ltm (h : RfS w m g t f) : m < w.heap.size := (Array.getElem?_eq_some_iff.1 h.head).1
theorem RfS.ltg (h : RfS w m g t f) : g < w.heap.size := by
  obtain ⟨cs, hr, _⟩ := h.row
  exact (Array.getElem?_eq_some_iff.1 hr).1
theorem RfS.block (h : RfS w m g t f) (hm : w'.heap[m]? = w.heap[m]?) (hg : w'.heap[g]? = w.heap[g]?) : RfS w' m g t f := by
  obtain ⟨cs, hr, hc⟩ := h.row
  exact ⟨hm.trans h.head, ⟨cs, hg.trans hr, hc⟩, h.ne⟩
theorem RfS.below (h : RfS w m g t f) (hb : Below w.heap.size w w') : RfS w' m g t f := h.block (hb.block m h.ltm) (hb.block g h.ltg)
theorem RfS.keep (h : RfS w m g t f) {F : Nat → Prop} (hb : Keeps F w w') (hF : ∀ k, both m g k → ¬ F k) : RfS w' m g t f := h.block (hb.block m h.ltm (hF m (.inl rfl))) (hb.block g h.ltg (hF g (.inr rfl)))
theorem RfS.cell (h : RfS w m g t f) : w.cell? ⟨m, 0, none⟩ = some (.int .i64 t) ∧ w.cell? ⟨m, 1, none⟩ = some (.slice (some ⟨g, 0, none⟩) 16 16) := by
  rw [cell_of_row _ _ _ _ _ _ h.head, cell_of_row _ _ _ _ _ _ h.head]
  exact ⟨rfl, rfl⟩
theorem RfS.cells (h : RfS w m g t f) (i : Nat) (hi : i < 16) : w.cell? ⟨g, i * 3, none⟩ = some (.int .i64 (f i).gen) ∧ w.cell? ⟨g, i * 3 + 1, none⟩ = some (.bool (f i).held) ∧ w.cell? ⟨g, i * 3 + 2, none⟩ = some (.int .i64 (f i).val) := by
  obtain ⟨cs, hr, hc⟩ := h.row
  rw [cell_of_row _ _ _ _ _ _ hr, cell_of_row _ _ _ _ _ _ hr, cell_of_row _ _ _ _ _ _ hr]
  exact hc.cell i hi
theorem RfS.free (h : RfS w m g t f) (j : Nat) : w.frozen? ⟨g, j, none⟩ = false := by
  obtain ⟨cs, hr, _⟩ := h.row
  exact frozen_of_row _ _ _ _ _ hr
theorem RfS.set (h : RfS w m g t f) {i : Nat} (hi : i < 16) (r : Nat) (hr : r < 3) (s : Slo) (v : Value)
    (h0 : (if r = 0 then v else .int .i64 (f i).gen) = .int .i64 s.gen) (h1 : (if r = 1 then v else .bool (f i).held) = .bool s.held) (h2 : (if r = 2 then v else .int .i64 (f i).val) = .int .i64 s.val) : RfS (w.setCell ⟨g, i * 3 + r, none⟩ v) m g t (f.put i s) := by
  obtain ⟨cs, hg, hc⟩ := h.row
  exact ⟨(heap_setCell_other w ⟨g, i * 3 + r, none⟩ m v (fun e => h.ne e.symm)).trans h.head, ⟨_, heap_setCell_same w g _ _ _ _ hg, hc.set hi r hr s v h0 h1 h2⟩, h.ne⟩
theorem RfS.setGen (h : RfS w m g t f) {i : Nat} (hi : i < 16) (x : Int) : RfS (w.setCell ⟨g, i * 3, none⟩ (.int .i64 x)) m g t (f.put i ⟨x, (f i).held, (f i).val⟩) := h.set hi 0 (by decide) _ _ rfl rfl rfl
theorem RfS.setHeld (h : RfS w m g t f) {i : Nat} (hi : i < 16) (x : Bool) : RfS (w.setCell ⟨g, i * 3 + 1, none⟩ (.bool x)) m g t (f.put i ⟨(f i).gen, x, (f i).val⟩) := h.set hi 1 (by decide) _ _ rfl rfl rfl
theorem RfS.setVal (h : RfS w m g t f) {i : Nat} (hi : i < 16) (x : Int) : RfS (w.setCell ⟨g, i * 3 + 2, none⟩ (.int .i64 x)) m g t (f.put i ⟨(f i).gen, (f i).held, x⟩) := h.set hi 2 (by decide) _ _ rfl rfl rfl

theorem put_put' (f : SF) (i : Nat) (a c : Slo) : (f.put i a).put i c = f.put i c := by
  funext j
  by_cases e : j = i
  · subst e; rw [SF.put_same, SF.put_same]
  · rw [SF.put_other _ _ _ e, SF.put_other _ _ _ e, SF.put_other _ _ _ e]

theorem RfS.setAll (h : RfS w m g t f) {i : Nat} (hi : i < 16) (x : Int) (hd : Bool) (v : Int) : RfS (((w.setCell ⟨g, i * 3, none⟩ (.int .i64 x)).setCell ⟨g, i * 3 + 1, none⟩ (.bool hd)).setCell ⟨g, i * 3 + 2, none⟩ (.int .i64 v)) m g t (f.put i ⟨x, hd, v⟩) := by
  have h3 := ((h.setGen hi x).setHeld hi hd).setVal hi v
  simp only [SF.put_same, put_put'] at h3
  exact h3

/-- The document's numbers: -1 for none. -/
def SF.nextI (f : SF) : Int := if f.next < 16 then (f.next : Int) else -1
def SF.findI (t : Int) (h : Nat) (f : SF) : Int := if f.find t h < 16 then (f.find t h : Int) else -1

theorem RfRow.zero : RfRow (madeCells #[.int .i64 0, .bool false, .int .i64 0] 48) SF.zero := by
  refine ⟨size_madeCells _ _, fun i hi => ?_⟩
  rcases (by omega : i = 0 ∨ i = 1 ∨ i = 2 ∨ i = 3 ∨ i = 4 ∨ i = 5 ∨ i = 6 ∨ i = 7 ∨ i = 8 ∨ i = 9 ∨ i = 10 ∨ i = 11 ∨ i = 12 ∨ i = 13 ∨ i = 14 ∨ i = 15) with rfl | rfl | rfl | rfl | rfl | rfl | rfl | rfl | rfl | rfl | rfl | rfl | rfl | rfl | rfl | rfl <;> exact ⟨by simp [madeCells, SF.zero], by simp [madeCells, SF.zero], by simp [madeCells, SF.zero]⟩

/-- A slot of the document's. -/
def encS : Enc Try.prog Slo where
  slice := 60
  elem := 67
  size := 3
  bytes := 24
  cells s := [.int .i64 s.gen, .bool s.held, .int .i64 s.val]
  zero := .agg #[.int .i64 0, .bool false, .int .i64 0]
  und := Try.underlying60
  info := info_of _ _ _ _ _ (by kernel_rfl)
  zsize := rfl
  pos := by decide
  few := by decide
  len _ := rfl
  one _ u h := by
    simp only [List.mem_cons, List.not_mem_nil, or_false] at h
    rcases h with rfl | rfl | rfl <;> rfl

set_option maxRecDepth 100000 in
set_option maxHeartbeats 4000000 in
theorem refSlNew (t : Int) (w : World) :
    Calls Try.prog 7 #[.int .i64 t] w fun e w' => ∃ m g, e = .returned (.pointer (some ⟨m, 0, none⟩)) ∧ w.heap.size ≤ m ∧ w.heap.size ≤ g ∧ RfS w' m g t SF.zero ∧ Below w.heap.size w w' := by
  have hmk : (Instr.makeSlice 60 (.int .i64 16) (.int .i64 16)).run Try.prog w = .ok (.slice (some ⟨w.heap.size, 0, none⟩) 16 16) (w.alloc (.cells (madeCells #[.int .i64 0, .bool false, .int .i64 0] 48) 67)) := run_made encS 16 (by decide) w
  have hz := RfRow.zero
  generalize madeCells #[.int .i64 0, .bool false, .int .i64 0] 48 = cs at *
  replace hz := Lib.hid hz
  go_enter Try.func7, Try.ntmps7
  go_wp2
  go_ret
  refine ⟨_, _, rfl, ?_, ?_, ⟨heap_alloc2_new _ _ _, ⟨cs, heap_alloc2_old _ _ _, hz.out⟩, ?_⟩, ?_⟩
  · simp
  · exact Nat.le_refl _
  · simp
  · exact ((Below.refl _ _).alloc (Nat.le_refl _) _).alloc (by simp) _

set_option maxRecDepth 100000 in
set_option maxHeartbeats 4000000 in
theorem refSlNext (s : RfS w m g t f) :
    Calls Try.prog 30 #[.pointer (some ⟨m, 0, none⟩)] w fun e w' => e = .returned (.int .i64 f.nextI) ∧ w' = w := by
  obtain ⟨_, c1⟩ := s.cell
  have hc := s.cells
  clear s
  generalize hR : f.nextI = R
  unfold SF.nextI at hR
  go_enter Try.func30, Try.ntmps30
  go_wp2
  go_loop [3] (fun i => ∃ n : Nat, n ≤ 16 ∧ i = .int .i64 n ∧ Hid (f.next = firstB (fun i => (f i).may) (16 - n) n)) (fun i => 16 - (intOf i).toNat)
  case atStart => exact ⟨0, by omega, rfl, rfl⟩
  case round =>
    obtain ⟨n, hn, rfl, hr⟩ := hrel
    by_cases hlt : n < 16
    · have hs : f.next = if (f n).may = true then n else firstB (fun i => (f i).may) (16 - (n + 1)) (n + 1) := by
        have := hr.out
        rw [show 16 - n = (16 - (n + 1)) + 1 by omega] at this
        exact this
      clear hr
      obtain ⟨x0, x1, _⟩ := hc n hlt
      have hn1 : (n : Int) < 16 := by omega
      have hn0 : (0 : Int) ≤ (n : Int) := by omega
      clear hc
      by_cases hm : (f n).may = true
      · rw [if_pos hm] at hs
        have e1 : R = (n : Int) := by rw [← hR, hs, if_pos hlt]
        replace e1 := Lib.hid e1
        clear hs hR
        unfold Slo.may at hm
        rw [Bool.and_eq_true, Bool.not_eq_true', decide_eq_true_eq] at hm
        obtain ⟨m1, m2⟩ := hm
        generalize (f n).held = h1 at *
        generalize (f n).gen = g1 at *
        subst m1
        go_wp2
        go_ret
        exact ⟨by rw [e1.out]; rfl, rfl⟩
      · rw [if_neg hm] at hs
        replace hs := Lib.hid hs
        replace hR := Lib.hid hR
        unfold Slo.may at hm
        generalize (f n).held = h1 at *
        generalize (f n).gen = g1 at *
        cases h1 with
        | true =>
          clear hm
          go_wp2
          exact ⟨⟨n + 1, by omega, by go_num, hs⟩, by simp [intOf]; omega⟩
        | false =>
          have hg : ¬ g1 ≤ 15 := fun h => hm (by rw [decide_eq_true h]; rfl)
          clear hm
          go_wp2
          exact ⟨⟨n + 1, by omega, by go_num, hs⟩, by simp [intOf]; omega⟩
    · obtain rfl : n = 16 := by omega
      have hs : f.next = 16 := hr.out
      have e1 : R = -1 := by rw [← hR, hs]; rfl
      replace e1 := Lib.hid e1
      clear hc hr hs hR
      go_wp2
      go_ret
      exact ⟨by rw [e1.out]; rfl, rfl⟩

set_option maxRecDepth 100000 in
set_option maxHeartbeats 4000000 in
theorem refSlGo (s : RfS w m g t f) (n : Nat) (hn : n < 16) (g0 : 0 ≤ (f n).gen) (g1 : (f n).gen ≤ 16) :
    Calls Try.prog 26 #[.pointer (some ⟨m, 0, none⟩), .int .i64 (n : Int)] w fun e w' => e = .returned (.tuple #[]) ∧ RfS w' m g t (f.put n (f n).go) ∧ Keeps (only g) w w' := by
  obtain ⟨_, c1⟩ := s.cell
  obtain ⟨x0, x1, x2⟩ := s.cells n hn
  have z0 := s.free (n * 3)
  have z1 := s.free (n * 3 + 1)
  have z2 := s.free (n * 3 + 2)
  have h2 := (s.setAll hn ((f n).gen + 1) false 0).below (Below.refl _ _).drew
  have hK := (((Keeps.of_setCell (only g) w ⟨g, n * 3, none⟩ (.int .i64 ((f n).gen + 1)) rfl).and (Keeps.of_setCell (only g) _ ⟨g, n * 3 + 1, none⟩ (.bool false) rfl)).and (Keeps.of_setCell (only g) _ ⟨g, n * 3 + 2, none⟩ (.int .i64 0) rfl)).and (Keeps.of_drew _ _)
  unfold Slo.go
  replace h2 := Lib.hid h2
  replace hK := Lib.hid hK
  clear s
  have hn1 : (n : Int) < 16 := by omega
  have hn0 : (0 : Int) ≤ (n : Int) := by omega
  generalize (f n).gen = gg at *
  generalize (f n).held = hd at *
  generalize (f n).val = vv at *
  go_enter Try.func26, Try.ntmps26
  go_wp2
  go_region
  go_wp2
  exact bodyPost_end (v := .tuple #[]) (by simp [results, Try.results26, go_sem]) rfl ⟨rfl, h2.out, hK.out⟩
end

end Go.Proofs.Ytilcjpaifbcjaaa
