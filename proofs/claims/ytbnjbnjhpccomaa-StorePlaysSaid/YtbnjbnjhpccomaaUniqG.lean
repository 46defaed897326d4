/-
  Walks of package uniq: New, Get.
-/
import Derived.Test.YtbnjbnjhpccomaaUniqV
namespace Go.Proofs.Ytbnjbnjhpccomaa
open Go Go.RowKit

theorem Places.eight : Places 8 := ⟨⟨3, rfl, by decide⟩, by decide, by decide⟩

set_option maxRecDepth 100000 in
theorem uniqNew (w : World) :
    Calls Try.prog 24 #[] w fun e w' => e = .returned (.pointer (some ⟨w.heap.size + 1, 0, none⟩)) ∧ UniqR w' (w.heap.size + 1) (.slice (some ⟨w.heap.size, 0, none⟩) 8 8) 0 (List.replicate 8 none) ∧ Below w.heap.size w w' := by
  have hm : (Instr.makeSlice 86 (.int .i64 8) (.int .i64 8)).run Try.prog w = .ok (.slice (some ⟨w.heap.size, 0, none⟩) 8 8) (w.alloc (.cells (madeCells encP.zero.cells (8 * encP.size)) encP.elem)) := run_made encP 8 (by decide) w
  have ho := owns_made encP none rfl 8 (by decide) w
  have hb : Below w.heap.size w (w.alloc (.cells (madeCells encP.zero.cells (8 * encP.size)) encP.elem)) := by go_grown
  have hs : (w.alloc (.cells (madeCells encP.zero.cells (8 * encP.size)) encP.elem)).heap.size = w.heap.size + 1 := by simp
  generalize w.alloc (.cells (madeCells encP.zero.cells (8 * encP.size)) encP.elem) = W at *
  go_enter Try.func24, Try.ntmps24
  go_wp2
  go_ret
  refine ⟨by rw [← hs]; rfl, ?_, hb.alloc hb.size _⟩
  rw [← hs]
  exact ⟨heap_alloc_new _ _, (ho.block fun g hg => by injection hg with hg; subst hg; exact heap_alloc_old _ _ (show w.heap.size < W.heap.size by omega)), fun h => by injection h with h; have : w.heap.size = W.heap.size := h; omega⟩

/-- What a place holds. -/
def placeN : Option Ent → Int
  | none => 0
  | some e => e.2

theorem entCells_form (a : Option Ent) : ∃ p1 p2, entCells a = [.bool a.isSome, .int .i64 p1, .int .i64 p2, .int .i64 (placeN a)] := by
  cases a with
  | none => exact ⟨0, 0, rfl⟩
  | some e => exact ⟨e.1.1, e.1.2, rfl⟩

set_option maxRecDepth 100000 in
set_option maxHeartbeats 1000000 in
theorem uniqGetV {w : World} {b g cap n : Nat} {many : Int} {T : List (Option Ent)} (h : UniqV w b g cap n many T) (hl : Places n) (k1 k2 : Int) {c : Nat} (F : Found n (homeN n) T (k1, k2) c) {a : Option Ent} (ha : T[onBy n (homeN n (k1, k2)) c]? = some a) :
    Calls Try.prog 60 #[.pointer (some ⟨b, 0, none⟩), .int .i64 k1, .int .i64 k2] w fun e w' => e = .returned (.tuple #[.int .i64 (placeN a), .bool a.isSome]) ∧ Below w.heap.size w w' := by
  have h8 := hl.least
  have hF := fun W (hW : UniqV W b g cap n many T) => uniqFindV hW hl k1 k2 F
  have hlt := onBy_lt (homeN_lt (show 0 < n by omega) (k1, k2)) (Nat.le_of_lt F.lt)
  clear F
  generalize onBy n (homeN n (k1, k2)) c = N at *
  have hinI : (N : Int) < (n : Int) := by omega
  have hin0 : (0 : Int) ≤ (N : Int) := by omega
  obtain ⟨p1, p2, hcs⟩ := entCells_form a
  have HQ : ∀ V, Below w.heap.size w V → V.cell? ⟨b, 0, none⟩ = some (.slice (some ⟨g, 0, none⟩) n cap) ∧ V.cell? ⟨g, N * 4, none⟩ = some (.bool a.isSome) ∧ V.cell? ⟨g, N * 4 + 1, none⟩ = some (.int .i64 p1) ∧ V.cell? ⟨g, N * 4 + 2, none⟩ = some (.int .i64 p2) ∧ V.cell? ⟨g, N * 4 + 3, none⟩ = some (.int .i64 (placeN a)) := fun V hV => by
    have := (h.below hV).place N a ha
    rw [hcs] at this
    exact ⟨(h.below hV).cells.1, this⟩
  have HF : ∀ V, Below w.heap.size w V → ∀ u : Sub V, Calls Try.prog 54 #[.pointer (some ⟨b, 0, none⟩), .agg #[.int .i64 k1, .int .i64 k2]] u.1 fun e w' => e = .returned (.int .i64 N) ∧ ∃ x : Sub V, w' = x.1 := fun V hV u => subBelow (hF u.1 ((h.below hV).below u.2))
  generalize hv0 : a.isSome = v0 at *
  generalize hv3 : placeN a = v3 at *
  replace HQ := Lib.hid HQ
  replace HF := Lib.hid HF
  clear hF h hcs ha hv0 hv3
  go_enter Try.func60, Try.ntmps60
  go_wp2
  refine wp_region_alloc_tail 11 _ (.cells #[.bool false, .int .i64 0, .int .i64 0, .int .i64 0] 96) (by kernel_rfl) (by kernel_rfl) rfl (fun a w => by simp [go_sem]; done) ?_
  apply Exists.intro
  refine ⟨fun V hV => ?_, ?_⟩
  · have hf := HF.out V hV
    have c0 : ∀ u : Sub V, u.1.cell? ⟨b, 0, none⟩ = some (.slice (some ⟨g, 0, none⟩) n cap) := fun u => (HQ.out _ (hV.trans (u.2.mono hV.size))).1
    have q0 := fun u : Sub V => (HQ.out _ (hV.trans (u.2.mono hV.size))).2.1
    have q1 := fun u : Sub V => (HQ.out _ (hV.trans (u.2.mono hV.size))).2.2.1
    have q2 := fun u : Sub V => (HQ.out _ (hV.trans (u.2.mono hV.size))).2.2.2.1
    have q3 := fun u : Sub V => (HQ.out _ (hV.trans (u.2.mono hV.size))).2.2.2.2
    simp only [List.take_succ_cons, List.take_zero]
    iterate 8 (go_big_quiet_step (fail))
    go_big_quiet_step (exact hf _)
    iterate 2 (go_big_quiet_step (fail))
    exact wpQuiet_nil rfl
  intro B V hV hB hz
  have z0 : V.cell? ⟨B, 0, none⟩ = some (.bool false) := by rw [cell_of_row _ _ _ _ _ _ hz]; rfl
  have z1 : V.cell? ⟨B, 1, none⟩ = some (.int .i64 0) := by rw [cell_of_row _ _ _ _ _ _ hz]; rfl
  have z2 : V.cell? ⟨B, 2, none⟩ = some (.int .i64 0) := by rw [cell_of_row _ _ _ _ _ _ hz]; rfl
  have z3 : V.cell? ⟨B, 3, none⟩ = some (.int .i64 0) := by rw [cell_of_row _ _ _ _ _ _ hz]; rfl
  have y0 : V.frozen? ⟨B, 0, none⟩ = false := frozen_of_row _ _ _ _ _ hz
  have y1 : V.frozen? ⟨B, 1, none⟩ = false := frozen_of_row _ _ _ _ _ hz
  have y2 : V.frozen? ⟨B, 2, none⟩ = false := frozen_of_row _ _ _ _ _ hz
  have y3 : V.frozen? ⟨B, 3, none⟩ = false := frozen_of_row _ _ _ _ _ hz
  clear hz
  simp only [List.drop_succ_cons, List.drop_zero]
  go_wp2
  go_quiet (fail)
  go_wp2
  go_ret2
  exact ⟨rfl, below_drewN ((((hV.setCell hB _).setCell hB _).setCell hB _).setCell hB _)⟩

end Go.Proofs.Ytbnjbnjhpccomaa
