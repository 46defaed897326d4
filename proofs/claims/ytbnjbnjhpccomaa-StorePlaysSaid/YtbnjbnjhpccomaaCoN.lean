/-
  Walks of the code's store: New.
-/
import Derived.Test.YtbnjbnjhpccomaaCoP
import Derived.Test.YtbnjbnjhpccomaaPure
namespace Go.Proofs.Ytbnjbnjhpccomaa
open Go Go.RowKit

/-- The row of a store that is being made. -/
def rowN (most : Int) (p : Nat → Int) (bA : Nat) (q : Nat → Value) : Obj :=
  .cells #[.int .i64 most, .int .i64 (p 0), .int .i64 (p 1), .int .i64 (p 2), .int .i64 (p 3), .int .i64 (p 4), .int .i64 (p 5), .int .i64 (p 6), .int .i64 (p 7), pv bA, q 0, q 1, q 2, q 3, q 4, q 5, q 6, q 7, .slice none 0 0] 62 (0, 0)

section
variable {w : World} {b bA : Nat} {most : Int} {p : Nat → Int} {q : Nat → Value}

theorem rowN_cells (h : w.heap[b]? = some (rowN most p bA q)) (k : Nat) (hk : k < 8) : w.cell? ⟨b, 1 + k, none⟩ = some (.int .i64 (p k)) ∧ w.cell? ⟨b, 10 + k, none⟩ = some (q k) := by
  rw [cell_of_row _ _ _ _ _ _ h, cell_of_row _ _ _ _ _ _ h]
  rcases (by omega : k = 0 ∨ k = 1 ∨ k = 2 ∨ k = 3 ∨ k = 4 ∨ k = 5 ∨ k = 6 ∨ k = 7) with rfl | rfl | rfl | rfl | rfl | rfl | rfl | rfl <;> exact ⟨rfl, rfl⟩
theorem rowN_p (h : w.heap[b]? = some (rowN most p bA q)) (k : Nat) (hk : k < 8) (x : Int) : (w.setCell ⟨b, 1 + k, none⟩ (.int .i64 x)).heap[b]? = some (rowN most (upd p k x) bA q) := by
  rw [heap_setCell_same w b (1 + k) _ _ (.int .i64 x) h]
  rcases (by omega : k = 0 ∨ k = 1 ∨ k = 2 ∨ k = 3 ∨ k = 4 ∨ k = 5 ∨ k = 6 ∨ k = 7) with rfl | rfl | rfl | rfl | rfl | rfl | rfl | rfl <;> rfl
theorem rowN_q (h : w.heap[b]? = some (rowN most p bA q)) (k : Nat) (hk : k < 8) (x : Value) : (w.setCell ⟨b, 10 + k, none⟩ x).heap[b]? = some (rowN most p bA (upd q k x)) := by
  rw [heap_setCell_same w b (10 + k) _ _ x h]
  rcases (by omega : k = 0 ∨ k = 1 ∨ k = 2 ∨ k = 3 ∨ k = 4 ∨ k = 5 ∨ k = 6 ∨ k = 7) with rfl | rfl | rfl | rfl | rfl | rfl | rfl | rfl <;> rfl

/-- A store that is being made: k of its tables are there. -/
structure NewR (w0 : World) (most : Nat) (k b bA : Nat) (FA : Nat → Prop) (p : Nat → Int) (q : Nat → Value) (bT : Nat → Nat) (FT : Nat → Nat → Prop) (w : World) : Prop where
  row : w.heap[b]? = some (rowN (most : Int) p bA q)
  ar : ArenaAt w bA FA ⟨most, 0, [], []⟩
  p1 : ∀ i, i < k → p i = (i : Int)
  q1 : ∀ i, i < k → q i = pv (bT i)
  q2 : ∀ i, k ≤ i → i < 8 → q i = .pointer none
  tab : ∀ i, i < k → UniqAt w (bT i) (FT i) ⟨[], 8⟩
  lowb : w0.heap.size ≤ b
  lowA : ∀ j, FA j → w0.heap.size ≤ j ∧ j ≠ b
  lowT : ∀ i, i < k → ∀ j, FT i j → w0.heap.size ≤ j ∧ j ≠ b ∧ ¬ FA j
  apart : ∀ i, i < k → ∀ l, l < k → i ≠ l → ∀ j, FT i j → ¬ FT l j
  below : Below w0.heap.size w0 w

theorem NewR.keep {w0 w' : World} {most k : Nat} {FA : Nat → Prop} {bT : Nat → Nat} {FT : Nat → Nat → Prop} (h : NewR w0 most k b bA FA p q bT FT w) (hb : Below w.heap.size w w') : NewR w0 most k b bA FA p q bT FT w' :=
  ⟨(hb.block b (row_lt h.row)).trans h.row, h.ar.below hb, h.p1, h.q1, h.q2, fun i hi => (h.tab i hi).below hb, h.lowb, h.lowA, h.lowT, h.apart, h.below.trans (hb.mono h.below.size)⟩
/-- A variable's place in the order. -/
theorem NewR.setP {w0 : World} {most k : Nat} {FA : Nat → Prop} {bT : Nat → Nat} {FT : Nat → Nat → Prop} (h : NewR w0 most k b bA FA p q bT FT w) (hk : k < 8) : NewR w0 most k b bA FA (upd p k (k : Int)) q bT FT (w.setCell ⟨b, 1 + k, none⟩ (.int .i64 (k : Int))) := by
  have hK := Keeps.of_setCell (fun j => j = b) w ⟨b, 1 + k, none⟩ (.int .i64 (k : Int)) rfl
  refine ⟨rowN_p h.row k hk _, h.ar.keep hK fun j hj e => (h.lowA j hj).2 e, fun i hi => ?_, h.q1, h.q2, fun i hi => (h.tab i hi).keep hK fun j hj e => (h.lowT i hi j hj).2.1 e, h.lowb, h.lowA, h.lowT, h.apart, h.below.trans (hK.below h.below.size fun j e => e ▸ h.lowb)⟩
  rw [upd_other _ _ _ (by omega)]
  exact h.p1 i hi
/-- Its table. -/
theorem NewR.setQ {w0 w' : World} {most k bN : Nat} {FA F' : Nat → Prop} {bT : Nat → Nat} {FT : Nat → Nat → Prop} (h : NewR w0 most k b bA FA p q bT FT w) (hk : k < 8) (hp : p k = (k : Int)) (hU : UniqAt w' bN F' ⟨[], 8⟩) (hF : ∀ j, F' j → w.heap.size ≤ j) (hb : Below w.heap.size w w') :
    NewR w0 most (k + 1) b bA FA p (upd q k (pv bN)) (upd bT k bN) (upd FT k F') (w'.setCell ⟨b, 10 + k, none⟩ (pv bN)) := by
  have h' := h.keep hb
  have hK := Keeps.of_setCell (fun j => j = b) w' ⟨b, 10 + k, none⟩ (pv bN) rfl
  have hlb := row_lt h.row
  refine ⟨rowN_q h'.row k hk _, h'.ar.keep hK fun j hj e => (h.lowA j hj).2 e, fun i hi => ?_, fun i hi => ?_, fun i h1 h2 => ?_, fun i hi => ?_, h.lowb, h.lowA, fun i hi j hj => ?_, fun i hi l hl hne j hj hj2 => ?_, h'.below.trans (hK.below h'.below.size fun j e => e ▸ h.lowb)⟩
  · by_cases e : i = k
    · subst e; exact hp
    · exact h.p1 i (by omega)
  · by_cases e : i = k
    · subst e; rw [upd_same, upd_same]
    · rw [upd_other _ _ _ e, upd_other _ _ _ e]; exact h.q1 i (by omega)
  · rw [upd_other _ _ _ (by omega)]; exact h.q2 i (by omega) h2
  · by_cases e : i = k
    · subst e; rw [upd_same, upd_same]; exact hU.keep hK fun j hj e => by have := hF j hj; omega
    · rw [upd_other _ _ _ e, upd_other _ _ _ e]; exact (h'.tab i (by omega)).keep hK fun j hj e => (h.lowT i (by omega) j hj).2.1 e
  · by_cases e : i = k
    · subst e
      rw [upd_same] at hj
      have := hF j hj
      exact ⟨Nat.le_trans h.below.size this, by omega, fun e => by have := h.ar.lt j e; omega⟩
    · rw [upd_other _ _ _ e] at hj; exact h.lowT i (by omega) j hj
  · by_cases e : i = k
    · subst e
      rw [upd_same] at hj
      rw [upd_other _ _ _ (Ne.symm hne)] at hj2
      have := hF j hj
      have := (h.tab l (by omega)).lt j hj2
      omega
    · rw [upd_other _ _ _ e] at hj
      by_cases e2 : l = k
      · subst e2
        rw [upd_same] at hj2
        have := hF j hj2
        have := (h.tab i (by omega)).lt j hj
        omega
      · rw [upd_other _ _ _ e2] at hj2
        exact h.apart i (by omega) l (by omega) hne j hj hj2
/-- All of them are. -/
theorem NewR.done {w0 : World} {most : Nat} {FA : Nat → Prop} {bT : Nat → Nat} {FT : Nat → Nat → Prop} (h : NewR w0 most 8 b bA FA p q bT FT w) : ∃ F, CoAt w b F (MS.none most) [] (MS.none most).refs ∧ ∀ k, F k → w0.heap.size ≤ k := by
  refine ⟨_, ⟨bA, FA, bT, FT, .slice none 0 0, [], fun _ => ⟨[], 8⟩, rfl, ⟨?_, h.ar, h.tab, Owns.nil _ _, (fun e => by cases e), fun k hk => ⟨(h.lowA k hk).2, fun e => by cases e⟩, fun i hi k hk => ⟨(h.lowT i hi k hk).2.1, (fun e => by cases e), (h.lowT i hi k hk).2.2⟩, h.apart⟩, ⟨rfl, fun i hi => (by cases hi), fun i hi => (by cases hi), fun _ _ => TS.Ok.new, fun _ _ => by decide, fun v hv e => ?_⟩⟩, ?_⟩
  · rw [h.row]
    simp only [rowN, rowC, h.p1 0 (by decide), h.p1 1 (by decide), h.p1 2 (by decide), h.p1 3 (by decide), h.p1 4 (by decide), h.p1 5 (by decide), h.p1 6 (by decide), h.p1 7 (by decide), h.q1 0 (by decide), h.q1 1 (by decide), h.q1 2 (by decide), h.q1 3 (by decide), h.q1 4 (by decide), h.q1 5 (by decide), h.q1 6 (by decide), h.q1 7 (by decide)]
    rfl
  · constructor
    · intro h1; cases h1
    · rintro ⟨h1, _⟩
      simp [MS.has, MS.none] at h1
  · rintro k (rfl | e | e | ⟨i, hi, e⟩)
    · exact h.lowb
    · cases e
    · exact (h.lowA k e).1
    · exact (h.lowT i hi k e).1
end

set_option maxRecDepth 100000 in
set_option maxHeartbeats 1000000 in
theorem coNo (most : Int) (w : World) (h : most < 0 ∨ 20000 < most) : Calls Try.prog 7 #[.int .i64 most] w fun e w' => e = .returned (.pointer none) ∧ Below w.heap.size w w' := by
  have H := arenaNo most w h
  go_enter Try.func7, Try.ntmps7
  go_wp2_with fail
  refine H.mono ?_
  rintro e w1 ⟨rfl, rfl⟩
  clear H
  go_wp2
  go_ret
  exact ⟨rfl, Below.refl _ _⟩

set_option maxRecDepth 100000 in
set_option maxHeartbeats 2000000 in
theorem coNew (most : Int) (w : World) (h0 : 0 ≤ most) (h1 : most ≤ 20000) : Calls Try.prog 7 #[.int .i64 most] w fun e w' => ∃ b, e = .returned (.pointer (some ⟨b, 0, none⟩)) ∧ (∃ F, CoAt w' b F (MS.none most.toNat) [] (MS.none most.toNat).refs ∧ ∀ k, F k → w.heap.size ≤ k) ∧ Below w.heap.size w w' := by
  obtain ⟨M, rfl⟩ := Int.eq_ofNat_of_zero_le h0
  rw [Int.toNat_natCast]
  have H := arenaNewS (M : Int) w h0 h1
  rw [Int.toNat_natCast] at H
  go_enter Try.func7, Try.ntmps7
  go_wp2_with fail
  refine H.mono ?_
  rintro e w1 ⟨rfl, ⟨FA, hA, hFA⟩, hb1⟩
  clear H
  go_wp2
  have hS : NewR w M 0 w1.heap.size w.heap.size FA (fun _ => 0) (fun _ => .pointer none) (fun _ => 0) (fun _ _ => False) (w1.alloc (rowN (M : Int) (fun _ => 0) w.heap.size (fun _ => .pointer none))) :=
    ⟨heap_alloc_new _ _, hA.below ((Below.refl _ _).alloc (Nat.le_refl _) _), fun i hi => (by omega), fun i hi => (by omega), fun _ _ _ => rfl, fun i hi => (by omega), hb1.size, fun j hj => ⟨hFA j hj, by have := hA.lt j hj; omega⟩, fun i hi => (by omega), fun i hi => (by omega), hb1.alloc hb1.size _⟩
  unfold rowN at hS
  generalize w1.alloc (.cells #[.int .i64 (M : Int), .int .i64 0, .int .i64 0, .int .i64 0, .int .i64 0, .int .i64 0, .int .i64 0, .int .i64 0, .int .i64 0, pv w.heap.size, .pointer none, .pointer none, .pointer none, .pointer none, .pointer none, .pointer none, .pointer none, .pointer none, .slice none 0 0] 62 (0, 0)) = W0 at *
  generalize w1.heap.size = b at *
  clear hA hFA hb1
  go_loopw [14] (fun i wr => ∃ (k : Nat) (p : Nat → Int) (q : Nat → Value) (bT : Nat → Nat) (FT : Nat → Nat → Prop), k ≤ 8 ∧ i = .int .i64 k ∧ NewR w M k b w.heap.size FA p q bT FT wr) (fun i _ => 8 - (intOf i).toNat)
  case atStart => exact ⟨0, _, _, _, _, by omega, rfl, hS⟩
  case round =>
    clear hS
    obtain ⟨k, p, q, bT, FT, hk, rfl, hR⟩ := hrel
    by_cases hlt : k < 8
    · have hk8 : (k : Int) < 8 := by omega
      have c1 := (rowN_cells hR.row k hlt).1
      have z1 : wr.frozen? ⟨b, 1 + k, none⟩ = false := frozen_of_row _ _ _ _ _ hR.row
      have hR1 := Lib.hid (hR.setP hlt)
      clear hR
      go_wp2
      generalize wr.setCell ⟨b, 1 + k, none⟩ (.int .i64 (k : Int)) = W1 at *
      clear c1 z1
      have hR2 := hR1.out.keep (Below.refl _ _).drew
      have hq := hR2.q2 k (Nat.le_refl _) hlt
      have c0 := (rowN_cells hR2.row k hlt).2
      rw [hq] at c0
      have z0 : W1.drew.frozen? ⟨b, 10 + k, none⟩ = false := frozen_of_row _ _ _ _ _ hR2.row
      replace hq := Lib.hid hq
      replace hR2 := Lib.hid hR2
      clear hR1
      go_region_held3 (fun _ => True) (first | trivial)
        (first
          | (go_at_call 24; refine (uniqNewS _).mono ?_; rintro e W3 ⟨rfl, ⟨F', hU, hF'⟩, hb3⟩; have hR3 := hR2.out.keep hb3; have c2 := (rowN_cells hR3.row k hlt).2; rw [hq.out] at c2; have z2 : W3.frozen? ⟨b, 10 + k, none⟩ = false := frozen_of_row _ _ _ _ _ hR3.row; have hR4 := Lib.hid (hR2.out.setQ hlt (upd_same _ _ _) hU hF' hb3); clear hR3 hU hF' hb3))
      go_wp2
      exact ⟨⟨k + 1, _, _, _, _, by omega, by go_num, hR4.out⟩, by simp [intOf]; omega⟩
    · obtain rfl : k = 8 := by omega
      obtain ⟨F, hC, hF⟩ := hR.done
      have hb := hR.below
      clear hR
      go_wp2
      go_ret
      exact ⟨b, rfl, ⟨F, hC, hF⟩, hb⟩

end Go.Proofs.Ytbnjbnjhpccomaa
