/-
  Texts of this proof, one behind the other: LedR.
-/
import Derived.Test.YtpdkcdehbpbheaaG4
import Derived.Test.YtpdkcdehbpbheaaG5
/-
  The document's ledger (layer 17): in memory, and walked.
-/
namespace Go.Proofs.Ytpdkcdehbpbheaa
open Go Go.RowKit

/-- The cells of its quotas. -/
structure RlRow (cs : Array Value) (f : LF) : Prop where
  size : cs.size = 9
  cell : ∀ i, i < 9 → cs[i]? = some (.int .i64 (f i))

/-- At block m stands the document's ledger, its quotas at g. -/
structure RfL (w : World) (m g : Nat) (c : Int) (f : LF) : Prop where
  head : w.heap[m]? = some (.cells #[.int .i64 c, .slice (some ⟨g, 0, none⟩) 9 9] 43 (0, 0))
  row : ∃ cs, w.heap[g]? = some (.cells cs 3 (0, 0)) ∧ RlRow cs f
  ne : g ≠ m

theorem RlRow.set {cs : Array Value} {f : LF} (h : RlRow cs f) {i : Nat} (hi : i < 9) (x : Int) : RlRow (cs.setIfInBounds i (.int .i64 x)) (f.put i x) := by
  refine ⟨by simp [h.size], fun j hj => ?_⟩
  have hs := h.size
  by_cases e : j = i
  · subst e
    rw [LF.put_same, Array.getElem?_setIfInBounds_self_of_lt (by omega)]
  · rw [LF.put_other _ _ _ e, Array.getElem?_setIfInBounds_ne (by omega)]
    exact h.cell j hj

/-- The blocks of the document's ledger. -/
def bothL (m g : Nat) (k : Nat) : Prop := k = m ∨ k = g

section
variable {w w' : World} {m g : Nat} {c : Int} {f : LF}

theorem RfL.ltm (h : RfL w m g c f) : m < w.heap.size := (Array.getElem?_eq_some_iff.1 h.head).1
theorem RfL.ltg (h : RfL w m g c f) : g < w.heap.size := by
  obtain ⟨cs, hr, _⟩ := h.row
  exact (Array.getElem?_eq_some_iff.1 hr).1
theorem RfL.block (h : RfL w m g c f) (hm : w'.heap[m]? = w.heap[m]?) (hg : w'.heap[g]? = w.heap[g]?) : RfL w' m g c f := by
  obtain ⟨cs, hr, hc⟩ := h.row
  exact ⟨hm.trans h.head, ⟨cs, hg.trans hr, hc⟩, h.ne⟩
theorem RfL.below (h : RfL w m g c f) (hb : Below w.heap.size w w') : RfL w' m g c f := h.block (hb.block m h.ltm) (hb.block g h.ltg)
theorem RfL.keep (h : RfL w m g c f) {F : Nat → Prop} (hb : Keeps F w w') (hF : ∀ k, bothL m g k → ¬ F k) : RfL w' m g c f := h.block (hb.block m h.ltm (hF m (.inl rfl))) (hb.block g h.ltg (hF g (.inr rfl)))
theorem RfL.cell (h : RfL w m g c f) : w.cell? ⟨m, 0, none⟩ = some (.int .i64 c) ∧ w.cell? ⟨m, 1, none⟩ = some (.slice (some ⟨g, 0, none⟩) 9 9) := by
  rw [cell_of_row _ _ _ _ _ _ h.head, cell_of_row _ _ _ _ _ _ h.head]
  exact ⟨rfl, rfl⟩
theorem RfL.cells (h : RfL w m g c f) (i : Nat) (hi : i < 9) : w.cell? ⟨g, i, none⟩ = some (.int .i64 (f i)) := by
  obtain ⟨cs, hr, hc⟩ := h.row
  rw [cell_of_row _ _ _ _ _ _ hr]
  exact hc.cell i hi
theorem RfL.free (h : RfL w m g c f) (j : Nat) : w.frozen? ⟨g, j, none⟩ = false := by
  obtain ⟨cs, hr, _⟩ := h.row
  exact frozen_of_row _ _ _ _ _ hr
theorem RfL.set (h : RfL w m g c f) {i : Nat} (hi : i < 9) (x : Int) : RfL (w.setCell ⟨g, i, none⟩ (.int .i64 x)) m g c (f.put i x) := by
  obtain ⟨cs, hg, hc⟩ := h.row
  exact ⟨(heap_setCell_other w ⟨g, i, none⟩ m _ (fun e => h.ne e.symm)).trans h.head, ⟨_, heap_setCell_same w g _ _ _ _ hg, hc.set hi x⟩, h.ne⟩

theorem RlRow.zero : RlRow #[.int .i64 (-1), .int .i64 (-1), .int .i64 (-1), .int .i64 (-1), .int .i64 (-1), .int .i64 (-1), .int .i64 (-1), .int .i64 (-1), .int .i64 (-1)] LF.zero := by
  refine ⟨rfl, fun i hi => ?_⟩
  rcases (by omega : i = 0 ∨ i = 1 ∨ i = 2 ∨ i = 3 ∨ i = 4 ∨ i = 5 ∨ i = 6 ∨ i = 7 ∨ i = 8) with rfl | rfl | rfl | rfl | rfl | rfl | rfl | rfl | rfl <;> rfl

set_option maxRecDepth 100000 in
set_option maxHeartbeats 4000000 in
theorem refLNew (c : Int) (w : World) :
    Calls Try.prog 7 #[.int .i64 c] w fun e w' => ∃ m g, e = .returned (.pointer (some ⟨m, 0, none⟩)) ∧ w.heap.size ≤ m ∧ w.heap.size ≤ g ∧ RfL w' m g c LF.zero ∧ Below w.heap.size w w' := by
  have hz := Lib.hid RlRow.zero
  go_enter Try.func7, Try.ntmps7
  go_wp2
  go_ret
  refine ⟨_, _, rfl, ?_, ?_, ⟨heap_alloc2_new _ _ _, ⟨_, heap_alloc2_old _ _ _, hz.out⟩, ?_⟩, ?_⟩
  · simp
  · exact Nat.le_refl _
  · simp
  · exact ((Below.refl _ _).alloc (Nat.le_refl _) _).alloc (by simp) _

set_option maxRecDepth 100000 in
set_option maxHeartbeats 4000000 in
theorem refLLeft (s : RfL w m g c f) (ok : f.Ok c) :
    Calls Try.prog 17 #[.pointer (some ⟨m, 0, none⟩)] w fun e w' => e = .returned (.int .i64 (f.left c)) ∧ w' = w := by
  obtain ⟨c0, c1⟩ := s.cell
  have hc := s.cells
  unfold LF.left
  clear s
  go_enter Try.func17, Try.ntmps17
  go_wp2
  go_loop [3, 4] (fun x i => ∃ n : Nat, n ≤ 8 ∧ x = .int .i64 (c - f.sum n) ∧ i = .int .i64 ((n : Int) + 1)) (fun _ i => 9 - (intOf i).toNat)
  case atStart => exact ⟨0, by omega, by simp [LF.sum_zero], rfl⟩
  case round =>
    obtain ⟨n, hn, rfl, rfl⟩ := hrel
    by_cases hlt : n < 8
    · have hi := hc (n + 1) (by omega)
      have hs := f.sum_succ n
      have p0 := ok.part (k := n) (by omega)
      have hq := ok.top (i := n + 1) (by omega) (by omega)
      have hq0 := ok.low (n + 1)
      have hn1 : (n : Int) < 8 := by omega
      have hn0 : (0 : Int) ≤ (n : Int) := by omega
      clear hc ok c0
      generalize f (n + 1) = q at *
      by_cases hp : 0 < q
      · have hs2 : f.sum (n + 1) = f.sum n + q := by rw [hs, amtOf_pos (by omega)]
        replace hs2 := Lib.hid hs2
        clear hs
        generalize f.sum n = S0 at *
        obtain ⟨a0, a1, a2, a3⟩ := p0
        go_wp2
        exact ⟨⟨n + 1, by omega, by rw [hs2.out]; exact congrArg (Value.int .i64) (by omega), by go_num⟩, by simp [intOf]; omega⟩
      · have hs2 : f.sum (n + 1) = f.sum n := by rw [hs, amtOf, if_neg hp, Int.add_zero]
        replace hs2 := Lib.hid hs2
        clear hs
        generalize f.sum n = S0 at *
        obtain ⟨a0, a1, a2, a3⟩ := p0
        go_wp2
        exact ⟨⟨n + 1, by omega, by rw [hs2.out], by go_num⟩, by simp [intOf]; omega⟩
    · obtain rfl : n = 8 := by omega
      clear hc
      go_wp2
      go_ret
      exact ⟨rfl, rfl⟩

set_option maxRecDepth 100000 in
set_option maxHeartbeats 4000000 in
theorem refLIs (s : RfL w m g c f) (t : Int) :
    Calls Try.prog 15 #[.pointer (some ⟨m, 0, none⟩), .int .i64 t] w fun e w' => e = .returned (.bool (f.isAt t)) ∧ w' = w := by
  by_cases ht : 1 ≤ t ∧ t ≤ 8
  · obtain ⟨n, hn, rfl⟩ : ∃ n : Nat, n < 8 ∧ t = (n : Int) + 1 := ⟨(t - 1).toNat, by omega, by omega⟩
    obtain ⟨c0, c1⟩ := s.cell
    have x1 := s.cells (n + 1) (by omega)
    rw [f.isAt_in hn]
    generalize f (n + 1) = q at *
    obtain ⟨h1, h8⟩ := ht
    have hn1 : (n : Int) < 8 := by omega
    have hn0 : (0 : Int) ≤ (n : Int) := by omega
    have e1 : max ((n : Int) + 1) 0 = (n : Int) + 1 := by omega
    have e2 : min ((n : Int) + 1) 8 = (n : Int) + 1 := by omega
    clear s c0
    go_enter Try.func15, Try.ntmps15
    go_wp2
    go_ret
    exact ⟨rfl, rfl⟩
  · rw [f.isAt_no ht]
    clear s
    by_cases h1 : 1 ≤ t
    · have h8 : ¬ t ≤ 8 := fun h8 => ht ⟨h1, h8⟩
      clear ht
      go_enter Try.func15, Try.ntmps15
      go_wp2
      go_ret
      exact ⟨rfl, rfl⟩
    · clear ht
      go_enter Try.func15, Try.ntmps15
      go_wp2
      go_ret
      exact ⟨rfl, rfl⟩

set_option maxRecDepth 100000 in
set_option maxHeartbeats 4000000 in
theorem refLAdmit (s : RfL w m g c f) (ok : f.Ok c) (t q : Int) :
    Calls Try.prog 13 #[.pointer (some ⟨m, 0, none⟩), .int .i64 t, .int .i64 q] w fun e w' => e = .returned (.int .i64 (f.adE c t q)) ∧ RfL w' m g c (f.ad c t q) ∧ Keeps (only g) w w' := by
  unfold LF.ad
  by_cases ht : 1 ≤ t ∧ t ≤ 8
  · by_cases hq : q < 0
    · have e1 : f.adE c t q = 1 := if_pos (.inr (.inr (.inl hq)))
      obtain ⟨t1, t8⟩ := ht
      rw [e1, if_neg (by decide)]
      clear e1 ok
      replace s := Lib.hid s
      go_enter Try.func13, Try.ntmps13
      go_wp2
      go_ret
      exact ⟨rfl, s.out, Keeps.refl _ _⟩
    · by_cases hq2 : 65535 < q
      · have e1 : f.adE c t q = 1 := if_pos (.inr (.inr (.inr hq2)))
        obtain ⟨t1, t8⟩ := ht
        rw [e1, if_neg (by decide)]
        clear e1 ok
        replace s := Lib.hid s
        go_enter Try.func13, Try.ntmps13
        go_wp2
        go_ret
        exact ⟨rfl, s.out, Keeps.refl _ _⟩
      · have hno : ¬ (t < 1 ∨ 8 < t ∨ q < 0 ∨ 65535 < q) := by omega
        obtain ⟨c0, c1⟩ := s.cell
        obtain ⟨n, hn, rfl⟩ : ∃ n : Nat, n < 8 ∧ t = (n : Int) + 1 := ⟨(t - 1).toNat, by omega, by omega⟩
        have x1 := s.cells (n + 1) (by omega)
        have z1 := s.free (n + 1)
        have hn1 : (n : Int) < 8 := by omega
        have hn0 : (0 : Int) ≤ (n : Int) := by omega
        obtain ⟨t1, t8⟩ := ht
        have hia := f.isAt_in hn
        by_cases hi : 0 ≤ f (n + 1)
        · rw [decide_eq_true hi] at hia
          have e1 : f.adE c ((n : Int) + 1) q = 3 := by unfold LF.adE; rw [if_neg hno, if_pos hia]
          rw [e1, if_neg (by decide)]
          clear e1 ok hno hia z1
          generalize f (n + 1) = x at *
          replace s := Lib.hid s
          go_enter Try.func13, Try.ntmps13
          go_wp2
          go_ret
          exact ⟨rfl, s.out, Keeps.refl _ _⟩
        · rw [decide_eq_false hi] at hia
          have HL := refLLeft s ok
          have hlb := ok.left
          by_cases hf : f.left c < q
          · have e1 : f.adE c ((n : Int) + 1) q = 2 := by unfold LF.adE; rw [if_neg hno, hia, if_neg Bool.false_ne_true, if_pos hf]
            rw [e1, if_neg (by decide)]
            clear e1 ok hno hia z1
            generalize f.left c = L at *
            generalize f (n + 1) = x at *
            replace s := Lib.hid s
            go_enter Try.func13, Try.ntmps13
            go_wp2_with fail
            refine HL.mono ?_
            rintro e w2 ⟨rfl, rfl⟩
            clear HL
            go_wp2
            go_ret
            exact ⟨rfl, s.out, Keeps.refl _ _⟩
          · have e1 : f.adE c ((n : Int) + 1) q = 0 := by unfold LF.adE; rw [if_neg hno, hia, if_neg Bool.false_ne_true, if_neg hf]
            rw [e1, if_pos rfl, show ((n : Int) + 1).toNat = n + 1 by omega]
            have s2 := Lib.hid (s.set (i := n + 1) (by omega) q)
            have hK := Lib.hid (Keeps.of_setCell (only g) w ⟨g, n + 1, none⟩ (.int .i64 q) rfl)
            clear e1 ok hno hia s
            generalize f.left c = L at *
            generalize f (n + 1) = x at *
            go_enter Try.func13, Try.ntmps13
            go_wp2_with fail
            refine HL.mono ?_
            rintro e w2 ⟨rfl, rfl⟩
            clear HL
            go_wp2
            go_ret
            exact ⟨rfl, s2.out, hK.out⟩
  · have e1 : f.adE c t q = 1 := if_pos (by omega)
    rw [e1, if_neg (by decide)]
    clear e1 ok
    replace s := Lib.hid s
    by_cases h1 : 1 ≤ t
    · have h8 : ¬ t ≤ 8 := fun h8 => ht ⟨h1, h8⟩
      clear ht
      go_enter Try.func13, Try.ntmps13
      go_wp2
      go_ret
      exact ⟨rfl, s.out, Keeps.refl _ _⟩
    · clear ht
      go_enter Try.func13, Try.ntmps13
      go_wp2
      go_ret
      exact ⟨rfl, s.out, Keeps.refl _ _⟩

set_option maxRecDepth 100000 in
set_option maxHeartbeats 4000000 in
theorem refLLeave (s : RfL w m g c f) (t : Int) :
    Calls Try.prog 11 #[.pointer (some ⟨m, 0, none⟩), .int .i64 t] w fun e w' => e = .returned (.int .i64 (f.leE t)) ∧ RfL w' m g c (f.le t) ∧ Keeps (only g) w w' := by
  have H := refLIs s t
  unfold LF.leE LF.le
  by_cases hi : f.isAt t = true
  · obtain ⟨ht, h0⟩ := LF.isAt_iff.1 hi
    rw [if_pos hi, if_pos hi]
    rw [hi] at H
    obtain ⟨n, hn, rfl⟩ : ∃ n : Nat, n < 8 ∧ t = (n : Int) + 1 := ⟨(t - 1).toNat, by omega, by omega⟩
    rw [show ((n : Int) + 1).toNat = n + 1 by omega]
    have hn1 : (n : Int) < 8 := by omega
    have hn0 : (0 : Int) ≤ (n : Int) := by omega
    obtain ⟨c0, c1⟩ := s.cell
    have z1 := s.free (n + 1)
    have x1 := s.cells (n + 1) (by omega)
    have s2 := Lib.hid (s.set (i := n + 1) (by omega) (-1))
    have hK := Lib.hid (Keeps.of_setCell (only g) w ⟨g, n + 1, none⟩ (.int .i64 (-1)) rfl)
    clear s ht h0 hi
    generalize f (n + 1) = x at *
    go_enter Try.func11, Try.ntmps11
    go_wp2_with fail
    refine H.mono ?_
    rintro e w1 ⟨rfl, rfl⟩
    clear H
    go_wp2
    go_ret
    exact ⟨rfl, s2.out, hK.out⟩
  · rw [if_neg hi, if_neg hi]
    rw [Bool.eq_false_iff.2 hi] at H
    replace s := Lib.hid s
    clear hi
    go_enter Try.func11, Try.ntmps11
    go_wp2_with fail
    refine H.mono ?_
    rintro e w1 ⟨rfl, rfl⟩
    clear H
    go_wp2
    go_ret
    exact ⟨rfl, s.out, Keeps.refl _ _⟩
end

end Go.Proofs.Ytpdkcdehbpbheaa
