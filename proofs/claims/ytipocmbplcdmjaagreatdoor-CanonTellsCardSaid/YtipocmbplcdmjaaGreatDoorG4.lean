/-
  Texts of this proof, one behind the other: UniqV, UniqG, UniqD, UniqE, UniqP.
-/
import Derived.Test.YtipocmbplcdmjaaGreatDoorG3
/-
  The code's table with the number of its places as a number of its own ('List.length' of places lets the walks run away).
-/
namespace Go.Proofs.YtipocmbplcdmjaaGreatDoor
open Go Go.RowKit

/-- At block b stands a table of n places, which lie in block g. -/
structure UniqV (w : World) (b g cap n : Nat) (many : Int) (T : List (Option Ent)) : Prop where
  len : T.length = n
  row : UniqR w b (.slice (some ⟨g, 0, none⟩) n cap) many T

section
variable {w w' : World} {b g cap n : Nat} {many : Int} {T : List (Option Ent)}

theorem UniqV.owns (h : UniqV w b g cap n many T) : Owns encP w (.slice (some ⟨g, 0, none⟩) n cap) T := h.row.places
theorem UniqV.keep (h : UniqV w b g cap n many T) {F : Nat → Prop} (hb : Keeps F w w') (hF : ∀ k, k = b ∨ k = g → ¬ F k) : UniqV w' b g cap n many T :=
  ⟨h.len, h.row.keep hb fun k hk => hF k (hk.imp id (fun e => by injection e with e; exact e.symm))⟩
theorem UniqV.below (h : UniqV w b g cap n many T) (hb : Below w.heap.size w w') : UniqV w' b g cap n many T := ⟨h.len, h.row.below hb⟩
theorem UniqV.drewN (h : UniqV w b g cap n many T) (k : Nat) : UniqV (w.drewN k) b g cap n many T := h.below (below_drewN (Below.refl _ _))
theorem UniqV.cells (h : UniqV w b g cap n many T) : w.cell? ⟨b, 0, none⟩ = some (.slice (some ⟨g, 0, none⟩) n cap) ∧ w.cell? ⟨b, 1, none⟩ = some (.int .i64 many) := h.row.cells
theorem UniqV.free (h : UniqV w b g cap n many T) (j : Nat) : w.frozen? ⟨b, j, none⟩ = false := h.row.free j
theorem UniqV.freeP (h : UniqV w b g cap n many T) (j : Nat) : w.frozen? ⟨g, j, none⟩ = false := h.row.places.free j
theorem UniqV.ne (h : UniqV w b g cap n many T) : g ≠ b := fun e => h.row.apart (by rw [e]; rfl)
theorem UniqV.ltb (h : UniqV w b g cap n many T) : b < w.heap.size := h.row.lt b (.inl rfl)
theorem UniqV.ltg (h : UniqV w b g cap n many T) : g < w.heap.size := h.row.lt g (.inr rfl)
theorem UniqV.place (h : UniqV w b g cap n many T) (i : Nat) (a : Option Ent) (hi : T[i]? = some a) :
    w.cell? ⟨g, i * 4, none⟩ = (entCells a)[0]? ∧ w.cell? ⟨g, i * 4 + 1, none⟩ = (entCells a)[1]? ∧ w.cell? ⟨g, i * 4 + 2, none⟩ = (entCells a)[2]? ∧ w.cell? ⟨g, i * 4 + 3, none⟩ = (entCells a)[3]? := by
  obtain ⟨rfl, h⟩ := h
  exact placeAt h.places i a hi

theorem uniqAfterV (h : UniqV w b g cap n many T) (hl : Places n) (i : Nat) (hi : i < n) :
    Calls Tryz.prog 92 #[.pointer (some ⟨b, 0, none⟩), .int .i64 i] w fun e w' => e = .returned (.int .i64 (onBy n i 1)) ∧ w = w' := by
  obtain ⟨rfl, h⟩ := h
  exact uniqAfter h hl i hi
theorem uniqStepsV (h : UniqV w b g cap n many T) (hl : Places n) (i j : Nat) (hi : i < n) (hj : j < n) :
    Calls Tryz.prog 93 #[.pointer (some ⟨b, 0, none⟩), .int .i64 i, .int .i64 j] w fun e w' => e = .returned (.int .i64 (dist n i j)) ∧ w = w' := by
  obtain ⟨rfl, h⟩ := h
  exact uniqSteps h hl i j hi hj
theorem uniqHomeV (h : UniqV w b g cap n many T) (hl : Places n) (k1 k2 : Int) :
    Calls Tryz.prog 91 #[.pointer (some ⟨b, 0, none⟩), .agg #[.int .i64 k1, .int .i64 k2]] w fun e w' => e = .returned (.int .i64 (homeN n (k1, k2))) ∧ Below w.heap.size w w' := by
  obtain ⟨rfl, h⟩ := h
  exact uniqHome h hl (k1, k2)
theorem uniqFindV (h : UniqV w b g cap n many T) (hl : Places n) (k1 k2 : Int) {c : Nat} (F : Found n (homeN n) T (k1, k2) c) :
    Calls Tryz.prog 73 #[.pointer (some ⟨b, 0, none⟩), .agg #[.int .i64 k1, .int .i64 k2]] w fun e w' => e = .returned (.int .i64 (onBy n (homeN n (k1, k2)) c)) ∧ Below w.heap.size w w' := by
  obtain ⟨rfl, h⟩ := h
  exact uniqFind h hl (k1, k2) F
/-- A place written. -/
theorem UniqV.putPlace (h : UniqV w b g cap n many T) {i : Nat} (hi : i < n) (a : Option Ent) : UniqV (w.setCells g (i * 4) (entCells a)) b g cap n many (T.set i a) := by
  have hne := h.ne
  obtain ⟨rfl, h⟩ := h
  refine ⟨List.length_set, (heap_setCells_other g _ _ _ (fun e => hne e.symm)).trans h.row, ?_, h.apart⟩
  have := owns_putCells (E := encP) h.places hi a
  unfold Owns at this ⊢
  exact this
theorem UniqV.setMany (h : UniqV w b g cap n many T) (m : Int) : UniqV (w.setCell ⟨b, 1, none⟩ (.int .i64 m)) b g cap n m T :=
  ⟨h.len, heap_setCell_same w b 1 _ _ _ h.row.row, h.row.places.block fun k hk => Below.heap_setCell _ _ _ _ (fun e => h.ne (by injection hk with hk; exact hk.trans e)), h.row.apart⟩
theorem UniqV.setPlaces (h : UniqV w b g cap n many T) {g' cap' n' : Nat} {T' : List (Option Ent)} (ho : Owns encP w (.slice (some ⟨g', 0, none⟩) n' cap') T') (hl : T'.length = n') (hne : g' ≠ b) : UniqV (w.setCell ⟨b, 0, none⟩ (.slice (some ⟨g', 0, none⟩) n' cap')) b g' cap' n' many T' :=
  ⟨hl, heap_setCell_same w b 0 _ _ _ h.row.row, ho.block fun k hk => Below.heap_setCell _ _ _ _ (fun e => hne (by injection hk with hk; exact hk.trans e)), fun e => hne (by injection e)⟩
end

end Go.Proofs.YtipocmbplcdmjaaGreatDoor

/-
  Walks of package uniq: New, Get.
-/
namespace Go.Proofs.YtipocmbplcdmjaaGreatDoor
open Go Go.RowKit

set_option maxRecDepth 100000 in
theorem uniqNew (w : World) :
    Calls Tryz.prog 34 #[] w fun e w' => e = .returned (.pointer (some ⟨w.heap.size + 1, 0, none⟩)) ∧ UniqR w' (w.heap.size + 1) (.slice (some ⟨w.heap.size, 0, none⟩) 8 8) 0 (List.replicate 8 none) ∧ Below w.heap.size w w' := by
  have hm : (Instr.makeSlice 104 (.int .i64 8) (.int .i64 8)).run Tryz.prog w = .ok (.slice (some ⟨w.heap.size, 0, none⟩) 8 8) (w.alloc (.cells (madeCells encP.zero.cells (8 * encP.size)) encP.elem)) := run_made encP 8 (by decide) w
  have ho := owns_made encP none rfl 8 (by decide) w
  have hb : Below w.heap.size w (w.alloc (.cells (madeCells encP.zero.cells (8 * encP.size)) encP.elem)) := by go_grown
  have hs : (w.alloc (.cells (madeCells encP.zero.cells (8 * encP.size)) encP.elem)).heap.size = w.heap.size + 1 := by simp
  generalize w.alloc (.cells (madeCells encP.zero.cells (8 * encP.size)) encP.elem) = W at *
  go_enter Tryz.func34, Tryz.ntmps34
  go_wp2
  go_ret
  refine ⟨by rw [← hs]; rfl, ?_, hb.alloc hb.size _⟩
  rw [← hs]
  exact ⟨heap_alloc_new _ _, (ho.block fun g hg => by injection hg with hg; subst hg; exact heap_alloc_old _ _ (show w.heap.size < W.heap.size by omega)), fun h => by injection h with h; have : w.heap.size = W.heap.size := h; omega⟩

/-- What a place holds. -/
def placeN : Option Ent → Int
  | none => 0
  | some e => e.2

theorem entCells_form (a : Option Ent) : ∃ p1 p2, entCells a = [.bool a.isSome, .int .i64 p1, .int .i64 p2, .int .i64 (placeN a)] := by
  cases a with
  | none => exact ⟨0, 0, rfl⟩
  | some e => exact ⟨e.1.1, e.1.2, rfl⟩

set_option maxRecDepth 100000 in
set_option maxHeartbeats 1000000 in
theorem uniqGetV {w : World} {b g cap n : Nat} {many : Int} {T : List (Option Ent)} (h : UniqV w b g cap n many T) (hl : Places n) (k1 k2 : Int) {c : Nat} (F : Found n (homeN n) T (k1, k2) c) {a : Option Ent} (ha : T[onBy n (homeN n (k1, k2)) c]? = some a) :
    Calls Tryz.prog 89 #[.pointer (some ⟨b, 0, none⟩), .int .i64 k1, .int .i64 k2] w fun e w' => e = .returned (.tuple #[.int .i64 (placeN a), .bool a.isSome]) ∧ Below w.heap.size w w' := by
  have h8 := hl.least
  have hF := fun W (hW : UniqV W b g cap n many T) => uniqFindV hW hl k1 k2 F
  have hlt := onBy_lt (homeN_lt (show 0 < n by omega) (k1, k2)) (Nat.le_of_lt F.lt)
  clear F
  generalize onBy n (homeN n (k1, k2)) c = N at *
  have hinI : (N : Int) < (n : Int) := by omega
  have hin0 : (0 : Int) ≤ (N : Int) := by omega
  obtain ⟨p1, p2, hcs⟩ := entCells_form a
  have HQ : ∀ V, Below w.heap.size w V → V.cell? ⟨b, 0, none⟩ = some (.slice (some ⟨g, 0, none⟩) n cap) ∧ V.cell? ⟨g, N * 4, none⟩ = some (.bool a.isSome) ∧ V.cell? ⟨g, N * 4 + 1, none⟩ = some (.int .i64 p1) ∧ V.cell? ⟨g, N * 4 + 2, none⟩ = some (.int .i64 p2) ∧ V.cell? ⟨g, N * 4 + 3, none⟩ = some (.int .i64 (placeN a)) := fun V hV => by
    have := (h.below hV).place N a ha
    rw [hcs] at this
    exact ⟨(h.below hV).cells.1, this⟩
  have HF : ∀ V, Below w.heap.size w V → ∀ u : Sub V, Calls Tryz.prog 73 #[.pointer (some ⟨b, 0, none⟩), .agg #[.int .i64 k1, .int .i64 k2]] u.1 fun e w' => e = .returned (.int .i64 N) ∧ ∃ x : Sub V, w' = x.1 := fun V hV u => subBelow (hF u.1 ((h.below hV).below u.2))
  generalize hv0 : a.isSome = v0 at *
  generalize hv3 : placeN a = v3 at *
  replace HQ := Lib.hid HQ
  replace HF := Lib.hid HF
  clear hF h hcs ha hv0 hv3
  go_enter Tryz.func89, Tryz.ntmps89
  go_wp2
  refine wp_region_alloc_tail 11 _ (.cells #[.bool false, .int .i64 0, .int .i64 0, .int .i64 0] 114) (by kernel_rfl) (by kernel_rfl) rfl (fun a w => by simp [go_sem]; done) ?_
  apply Exists.intro
  refine ⟨fun V hV => ?_, ?_⟩
  · have hf := HF.out V hV
    have c0 : ∀ u : Sub V, u.1.cell? ⟨b, 0, none⟩ = some (.slice (some ⟨g, 0, none⟩) n cap) := fun u => (HQ.out _ (hV.trans (u.2.mono hV.size))).1
    have q0 := fun u : Sub V => (HQ.out _ (hV.trans (u.2.mono hV.size))).2.1
    have q1 := fun u : Sub V => (HQ.out _ (hV.trans (u.2.mono hV.size))).2.2.1
    have q2 := fun u : Sub V => (HQ.out _ (hV.trans (u.2.mono hV.size))).2.2.2.1
    have q3 := fun u : Sub V => (HQ.out _ (hV.trans (u.2.mono hV.size))).2.2.2.2
    simp only [List.take_succ_cons, List.take_zero]
    iterate 8 (go_big_quiet_step (fail))
    go_big_quiet_step (exact hf _)
    iterate 2 (go_big_quiet_step (fail))
    exact wpQuiet_nil rfl
  intro B V hV hB hz
  have z0 : V.cell? ⟨B, 0, none⟩ = some (.bool false) := by rw [cell_of_row _ _ _ _ _ _ hz]; rfl
  have z1 : V.cell? ⟨B, 1, none⟩ = some (.int .i64 0) := by rw [cell_of_row _ _ _ _ _ _ hz]; rfl
  have z2 : V.cell? ⟨B, 2, none⟩ = some (.int .i64 0) := by rw [cell_of_row _ _ _ _ _ _ hz]; rfl
  have z3 : V.cell? ⟨B, 3, none⟩ = some (.int .i64 0) := by rw [cell_of_row _ _ _ _ _ _ hz]; rfl
  have y0 : V.frozen? ⟨B, 0, none⟩ = false := frozen_of_row _ _ _ _ _ hz
  have y1 : V.frozen? ⟨B, 1, none⟩ = false := frozen_of_row _ _ _ _ _ hz
  have y2 : V.frozen? ⟨B, 2, none⟩ = false := frozen_of_row _ _ _ _ _ hz
  have y3 : V.frozen? ⟨B, 3, none⟩ = false := frozen_of_row _ _ _ _ _ hz
  clear hz
  simp only [List.drop_succ_cons, List.drop_zero]
  go_wp2
  go_quiet (fail)
  go_wp2
  go_ret2
  exact ⟨rfl, below_drewN ((((hV.setCell hB _).setCell hB _).setCell hB _).setCell hB _)⟩

end Go.Proofs.YtipocmbplcdmjaaGreatDoor

/-
  Walks of package uniq: double.
-/
namespace Go.Proofs.YtipocmbplcdmjaaGreatDoor
open Go Go.RowKit

/-- Block p is a variable that holds a place. -/
def PlaceAt (w : World) (p : Nat) (x0 : Bool) (x1 x2 x3 : Int) : Prop := w.heap[p]? = some (.cells #[.bool x0, .int .i64 x1, .int .i64 x2, .int .i64 x3] 114 (0, 0))
section
variable {w w' : World} {p : Nat} {x0 : Bool} {x1 x2 x3 : Int}
theorem PlaceAt.keep (h : PlaceAt w p x0 x1 x2 x3) (hb : Below w.heap.size w w') : PlaceAt w' p x0 x1 x2 x3 := (hb.block p (row_lt' h)).trans h
theorem PlaceAt.cells (h : PlaceAt w p x0 x1 x2 x3) : w.cell? ⟨p, 0, none⟩ = some (.bool x0) ∧ w.cell? ⟨p, 1, none⟩ = some (.int .i64 x1) ∧ w.cell? ⟨p, 2, none⟩ = some (.int .i64 x2) ∧ w.cell? ⟨p, 3, none⟩ = some (.int .i64 x3) := by
  refine ⟨?_, ?_, ?_, ?_⟩ <;> (rw [cell_of_row _ _ _ _ _ _ h]; rfl)
theorem PlaceAt.new (w : World) (x0 : Bool) (x1 x2 x3 : Int) : PlaceAt (w.alloc (.cells #[.bool x0, .int .i64 x1, .int .i64 x2, .int .i64 x3] 114)) w.heap.size x0 x1 x2 x3 := heap_alloc_new _ _
end

theorem content_take_none {T : List (Option Ent)} {k : Nat} (h : T[k]? = some none) : content (T.take (k + 1)) = content (T.take k) := by
  obtain ⟨hk, h⟩ := List.getElem?_eq_some_iff.1 h
  rw [List.take_succ_eq_append_getElem hk, content_append, h]
  simp [content]
theorem content_take_some {T : List (Option Ent)} {k : Nat} {e : Ent} (h : T[k]? = some (some e)) : content (T.take (k + 1)) = content (T.take k) ++ [e] := by
  obtain ⟨hk, h⟩ := List.getElem?_eq_some_iff.1 h
  rw [List.take_succ_eq_append_getElem hk, content_append, h]
  rfl
/-- What lies further behind is not yet laid. -/
theorem content_free {T : List (Option Ent)} (h : Apart (content T)) {k : Nat} {e : Ent} (hk : T[k]? = some (some e)) : ∀ x ∈ content (T.take k), x.1 ≠ e.1 := by
  intro x hx he
  obtain ⟨i, hi⟩ := mem_content.1 hx
  have hik : i < k := by
    have := (List.getElem?_eq_some_iff.1 hi).1
    rw [List.length_take] at this; omega
  rw [List.getElem?_take, if_pos hik] at hi
  have := h.place hi hk he
  omega

set_option maxRecDepth 100000 in
set_option maxHeartbeats 1000000 in
theorem uniqDoubleV {w : World} {b g cap n : Nat} {many : Int} {T : List (Option Ent)} {L : List Ent} (h : UniqV w b g cap n many T) (H : TInv n (homeN n) T L) (hl : Places n) (hl2 : Places (2 * n)) :
    Calls Tryz.prog 101 #[.pointer (some ⟨b, 0, none⟩)] w fun e w' => e = .returned (.tuple #[]) ∧ ∃ g' T', w.heap.size ≤ g' ∧ UniqV w' b g' (2 * n) (2 * n) many T' ∧ TInv (2 * n) (homeN (2 * n)) T' L ∧ Keeps (fun k => k = b) w w' := by
  have h8 := hl.least
  have hM := hl2.most
  have hbw := h.ltb
  have hm : (Instr.makeSlice 104 (.int .i64 (2 * (n : Int))) (.int .i64 (2 * (n : Int)))).run Tryz.prog w = .ok (.slice (some ⟨w.heap.size, 0, none⟩) (2 * n) (2 * n)) (w.alloc (.cells (madeCells encP.zero.cells (2 * n * encP.size)) encP.elem)) := by
    have := run_made encP (2 * n) (by omega) w
    rwa [Int.natCast_mul] at this
  have ho := owns_made encP none rfl (2 * n) (by omega) w
  have hb : Below w.heap.size w (w.alloc (.cells (madeCells encP.zero.cells (2 * n * encP.size)) encP.elem)) := by go_grown
  generalize w.alloc (.cells (madeCells encP.zero.cells (2 * n * encP.size)) encP.elem) = W at *
  have h1 := h.below hb
  obtain ⟨c0, c1⟩ := h.cells
  obtain ⟨d0, d1⟩ := h1.cells
  have y0 := h1.free 0
  have h2 := h1.setPlaces ho List.length_replicate (by omega)
  have hk2 : Keeps (fun k => k = b) w (W.setCell ⟨b, 0, none⟩ (.slice (some ⟨w.heap.size, 0, none⟩) (2 * n) (2 * n))) := (Keeps.of_below hb _).and (Keeps.of_setCell _ W ⟨b, 0, none⟩ _ rfl)
  have hI0 := TInv.bare (2 * n) (homeN (2 * n)) (fun k => homeN_lt (by omega) k)
  have hbg := h.ne
  have hgw := h.ltg
  have hown := h.owns
  have hlen := h.len
  clear h h1
  replace h2 := Lib.hid h2
  replace hk2 := Lib.hid hk2
  replace ho := Lib.hid ho
  go_enter Tryz.func101, Tryz.ntmps101
  go_wp2
  go_loopw [18] (fun i wr => ∃ (k : Nat) (T' : List (Option Ent)), k ≤ n ∧ i = .int .i64 k ∧ UniqV wr b w.heap.size (2 * n) (2 * n) many T' ∧ TInv (2 * n) (homeN (2 * n)) T' (content (T.take k)) ∧ Keeps (fun k => k = b) w wr) (fun i _ => n - (intOf i).toNat)
  case atStart => exact ⟨0, _, Nat.zero_le _, rfl, h2.out, by rw [List.take_zero]; exact hI0, hk2.out⟩
  case round =>
    obtain ⟨k, T', hk, rfl, hv, hI, hK⟩ := hrel
    clear h2 hk2 ho hI0
    by_cases hlt : k < n
    · obtain ⟨a, ha⟩ : ∃ a, T[k]? = some a := ⟨T[k]'(by omega), List.getElem?_eq_getElem (by omega)⟩
      have hold : Owns encP wr (.slice (some ⟨g, 0, none⟩) n cap) T := hown.keep hK (fun j hj => by injection hj with hj; subst hj; exact hbg)
      obtain ⟨p1, p2, hcs⟩ := entCells_form a
      have hq : wr.cell? ⟨g, k * 4, none⟩ = some (.bool a.isSome) ∧ wr.cell? ⟨g, k * 4 + 1, none⟩ = some (.int .i64 p1) ∧ wr.cell? ⟨g, k * 4 + 2, none⟩ = some (.int .i64 p2) ∧ wr.cell? ⟨g, k * 4 + 3, none⟩ = some (.int .i64 (placeN a)) := by
        have := placeAt (cap := cap) (by rw [hlen]; exact hold) k a ha
        rwa [hcs] at this
      obtain ⟨q0, q1, q2, q3⟩ := hq
      have hk0 : (0 : Int) ≤ (k : Int) := by omega
      have hk1 : (k : Int) < (n : Int) := by omega
      clear hold
      cases a with
      | none =>
        have HT := Lib.hid (content_take_none ha)
        simp only [Option.isSome_none] at *
        clear hcs ha
        generalize placeN none = p3 at *
        go_wp2
        refine ⟨⟨k + 1, T', hlt, by go_num, hv.below ((Below.refl _ _).alloc (Nat.le_refl _) _), by rw [HT.out]; exact hI, hK.and (Keeps.of_alloc _ _ _)⟩, ?_⟩
        simp [intOf]; omega
      | some e =>
        have HT := Lib.hid (content_take_some ha)
        have hfree := content_free H.apartC ha
        obtain ⟨⟨e1, e2⟩, e3⟩ := e
        simp only [Option.isSome_some, entCells, placeN, List.cons.injEq, Value.int.injEq, true_and, and_true] at *
        obtain ⟨rfl, rfl⟩ := hcs
        clear ha
        have hA := hv.below ((Below.refl _ _).alloc (Nat.le_refl _) (.cells #[.bool true, .int .i64 e1, .int .i64 e2, .int .i64 e3] 114))
        have hKA := hK.and (Keeps.of_alloc _ wr (.cells #[.bool true, .int .i64 e1, .int .i64 e2, .int .i64 e3] 114))
        have hP := PlaceAt.new wr true e1 e2 e3
        have hcl : (content T').length < 2 * n := by
          have h1 := hI.perm.length_eq
          have h2 := content_le (T.take k)
          rw [List.length_take] at h2
          omega
        obtain ⟨c, F⟩ := found_exists hI.len hI.home hcl (e1, e2)
        have hno : T'[onBy (2 * n) (homeN (2 * n) (e1, e2)) c]? = some none := by
          rcases hI.search F with ⟨h1, _⟩ | ⟨x, hx, hxe, _⟩
          · exact h1
          · exact absurd hxe (hfree x hx)
        have hput := hI.put (e := ((e1, e2), e3)) F hno
        have hFind := fun W (hW : UniqV W b w.heap.size (2 * n) (2 * n) many T') => uniqFindV hW hl2 e1 e2 F
        have hNlt : onBy (2 * n) (homeN (2 * n) (e1, e2)) c < 2 * n := onBy_lt (homeN_lt (by omega) _) (Nat.le_of_lt F.lt)
        clear F hfree hcl hno
        simp only at hput
        generalize onBy (2 * n) (homeN (2 * n) (e1, e2)) c = N at *
        rw [← HT.out] at hput
        have hN0 : (0 : Int) ≤ (N : Int) := by omega
        have hN1 : (N : Int) < ((2 * n : Nat) : Int) := by omega
        replace hput := Lib.hid hput
        clear HT hI hv hK
        go_wp2
        generalize wr.alloc (.cells #[.bool true, .int .i64 e1, .int .i64 e2, .int .i64 e3] 114) = V at *
        refine wp_region_quiet_tail (C := fun w' => ∃ u : Sub V, w' = u.1) 10 (by kernel_rfl) (by kernel_rfl) (InSub.drew V) ?_
        have hf : ∀ u : Sub V, Calls Tryz.prog 73 #[.pointer (some ⟨b, 0, none⟩), .agg #[.int .i64 e1, .int .i64 e2]] u.1 fun e w' => e = .returned (.int .i64 N) ∧ ∃ x : Sub V, w' = x.1 := fun u => subBelow (hFind u.1 (hA.below u.2))
        have x0 : ∀ u : Sub V, u.1.cell? ⟨b, 0, none⟩ = some (.slice (some ⟨w.heap.size, 0, none⟩) (2 * n) (2 * n)) := fun u => (hA.below u.2).cells.1
        have r0 := fun u : Sub V => (hP.keep u.2).cells.1
        have r1 := fun u : Sub V => (hP.keep u.2).cells.2.1
        have r2 := fun u : Sub V => (hP.keep u.2).cells.2.2.1
        have r3 := fun u : Sub V => (hP.keep u.2).cells.2.2.2
        replace hA := Lib.hid hA
        replace hKA := Lib.hid hKA
        clear hP hFind
        simp only [List.take_succ_cons, List.take_zero]
        iterate 7 (go_big_quiet_step (fail))
        go_big_quiet_step (exact hf _)
        iterate 2 (go_big_quiet_step (fail))
        refine wpQuiet_nil ?_
        clear hf x0 r0 r1 r2 r3
        intro w' hw'
        obtain ⟨u, rfl⟩ := hw'
        have hk := u.2
        generalize u.1 = W1 at *
        have hv := hA.out.below hk
        have hv2 := hv.putPlace hNlt (some ((e1, e2), e3))
        have hb2 := (hKA.out.and (Keeps.of_below hk _)).trans (Keeps.of_setCells (fun k => k = w.heap.size) w.heap.size rfl (entCells (some ((e1, e2), e3))) (N * 4) W1) (fun k hk => .inr (by omega))
        obtain ⟨a', ha'⟩ : ∃ a, T'[N]? = some a := ⟨T'[N]'(by rw [hv.len]; exact hNlt), List.getElem?_eq_getElem (by rw [hv.len]; exact hNlt)⟩
        obtain ⟨p1, p2, hcs⟩ := entCells_form a'
        have hq := hv.place N a' ha'
        rw [hcs] at hq
        simp only [List.getElem?_cons_zero, List.getElem?_cons_succ] at hq
        obtain ⟨z0, z1, z2, z3⟩ := hq
        have y0 := hv.freeP (N * 4)
        have y1 := hv.freeP (N * 4 + 1)
        have y2 := hv.freeP (N * 4 + 2)
        have y3 := hv.freeP (N * 4 + 3)
        replace hv2 := Lib.hid hv2
        replace hb2 := Lib.hid hb2
        clear hv ha' hcs hA hKA hk
        simp only [List.drop_succ_cons, List.drop_zero]
        go_wp2
        exact ⟨⟨k + 1, _, hlt, by go_num, hv2.out, hput.out, hb2.out⟩, by simp [intOf]; omega⟩
    · have hkn : k = n := by omega
      subst hkn
      rw [List.take_of_length_le (by omega)] at hI
      go_wp2
      refine bodyPost_end (v := .tuple #[]) (by simp [results, Tryz.results101, go_sem]) rfl ?_
      exact ⟨rfl, _, T', Nat.le_refl _, hv, ⟨hI.len, hI.home, hI.perm.trans H.perm, H.apart, hI.chain⟩, hK⟩

end Go.Proofs.YtipocmbplcdmjaaGreatDoor

/-
  Walks of package uniq: empty.
-/
namespace Go.Proofs.YtipocmbplcdmjaaGreatDoor
open Go Go.RowKit

set_option maxRecDepth 100000 in
set_option maxHeartbeats 1000000 in
theorem uniqEmptyV {w : World} {b g cap n : Nat} {many : Int} {T : List (Option Ent)} {L K : List Ent} (h : UniqV w b g cap n many T) (H : TInv n (homeN n) T L) (hl : Places n) {i j : Nat} {e : Ent} (hi : T[i]? = some (some e)) (hj : T[j]? = some none) (hK : L.Perm (e :: K)) :
    Calls Tryz.prog 74 #[.pointer (some ⟨b, 0, none⟩), .int .i64 i] w fun e w' => e = .returned (.tuple #[]) ∧ ∃ T', UniqV w' b g cap n many T' ∧ TInv n (homeN n) T' K ∧ Keeps (fun k => k = g) w w' := by
  have h8 := hl.least
  have hM := hl.most
  have hin := H.lt hi
  have G := H.gap hi hj hK
  have hA := uniqAfterV h hl i hin
  go_enter Tryz.func74, Tryz.ntmps74
  go_wp2_with fail
  refine hA.mono ?_
  clear hA
  rintro e w1 ⟨rfl, rfl⟩
  go_wp2
  go_loopw [1, 4] (fun gp iv wr => ∃ (u q : Nat) (U : List (Option Ent)), gp = .int .i64 u ∧ iv = .int .i64 (onBy n u q) ∧ UniqV wr b g cap n many U ∧ Gap n (homeN n) (U.set u none) K u q j ∧ Keeps (fun k => k = g) w wr) (fun _ iv _ => dist n (intOf iv).toNat j)
  case atStart => exact ⟨i, 1, T, rfl, rfl, h, G, Keeps.refl _ _⟩
  case round =>
    clear h H G hi hj hK hin
    obtain ⟨u, q, U, rfl, rfl, h, G, hk⟩ := hrel
    have hlt := G.at_lt
    have hne := G.at_ne
    have hul := G.ltg
    have hqn := G.lt
    have hdq := dist_onBy hul hqn
    have hjl := G.ltj
    have hg : (U.set u none)[onBy n u q]? = U[onBy n u q]? := List.getElem?_set_ne (fun e => hne e.symm)
    obtain ⟨a, ha⟩ : ∃ a, U[onBy n u q]? = some a := ⟨U[onBy n u q]'(by rw [h.len]; exact hlt), List.getElem?_eq_getElem (by rw [h.len]; exact hlt)⟩
    rw [ha] at hg
    have hq := h.place _ a ha
    obtain ⟨c0, c1⟩ := h.cells
    cases a with
    | none =>
      have hT := G.ends hg
      have hv := h.putPlace hul none
      have hkk := hk.and (Keeps.of_setCells (fun k => k = g) g rfl (entCells none) (u * 4) wr)
      obtain ⟨a', ha'⟩ : ∃ a, U[u]? = some a := ⟨U[u]'(by rw [h.len]; exact hul), List.getElem?_eq_getElem (by rw [h.len]; exact hul)⟩
      obtain ⟨p1, p2, hcs⟩ := entCells_form a'
      have hq' := h.place u a' ha'
      rw [hcs] at hq'
      simp only [entCells, List.getElem?_cons_zero, List.getElem?_cons_succ] at hq hq'
      obtain ⟨q0, _, _, _⟩ := hq
      obtain ⟨z0, z1, z2, z3⟩ := hq'
      have y0 := h.freeP (u * 4)
      have y1 := h.freeP (u * 4 + 1)
      have y2 := h.freeP (u * 4 + 2)
      have y3 := h.freeP (u * 4 + 3)
      generalize onBy n u q = N at *
      have hN0 : (0 : Int) ≤ (N : Int) := by omega
      have hN1 : (N : Int) < (n : Int) := by omega
      have hu0 : (0 : Int) ≤ (u : Int) := by omega
      have hu1 : (u : Int) < (n : Int) := by omega
      replace hT := Lib.hid hT
      replace hv := Lib.hid hv
      replace hkk := Lib.hid hkk
      clear h G hk hg ha ha' hcs hdq
      go_wp2
      refine bodyPost_end (v := .tuple #[]) (by simp [results, Tryz.results74, go_sem]) rfl ?_
      exact ⟨rfl, _, hv.out, hT.out, hkk.out⟩
    | some x =>
      obtain ⟨⟨e1, e2⟩, e3⟩ := x
      have hij : onBy n u q ≠ j := fun h1 => by rw [h1, G.far] at hg; cases hg
      have hmes := dist_next hlt hjl hij
      have hhl := homeN_lt (show 0 < n by omega) (e1, e2)
      have hstay := fun hs => G.stay hg hs
      have hmove := fun hs => G.move hg hs
      have hsucc : q + 1 < n → onBy n (onBy n u q) 1 = onBy n u (q + 1) := fun h1 => onBy_succ hul h1
      simp only [entCells, List.getElem?_cons_zero, List.getElem?_cons_succ] at hq
      obtain ⟨q0, q1, q2, q3⟩ := hq
      simp only at hstay hmove
      clear G
      rw [List.set_set] at hmove
      have hHome : ∀ W, UniqV W b g cap n many U → Calls Tryz.prog 91 #[.pointer (some ⟨b, 0, none⟩), .agg #[.int .i64 e1, .int .i64 e2]] W fun e w' => e = .returned (.int .i64 (homeN n (e1, e2))) ∧ Below W.heap.size W w' := fun W hW => uniqHomeV hW hl e1 e2
      generalize onBy n u q = N at *
      generalize homeN n (e1, e2) = M at *
      have hN0 : (0 : Int) ≤ (N : Int) := by omega
      have hN1 : (N : Int) < (n : Int) := by omega
      have hu0 : (0 : Int) ≤ (u : Int) := by omega
      have hu1 : (u : Int) < (n : Int) := by omega
      go_wp2_with fail
      refine (hHome _ h).mono ?_
      clear hHome q0 q1 q2 q3 c0 c1
      rintro e w1 ⟨rfl, hb⟩
      replace h := h.below hb
      replace hk := hk.and (Keeps.of_below hb _)
      clear hb
      go_wp2_with fail
      refine (uniqStepsV h hl M N hhl hlt).mono ?_
      rintro e w2 ⟨rfl, rfl⟩
      go_wp2_with fail
      refine (uniqStepsV h hl u N hul hlt).mono ?_
      rintro e w2 ⟨rfl, rfl⟩
      by_cases hs : dist n u N ≤ dist n M N
      · have hsI : (dist n u N : Int) ≤ (dist n M N : Int) := by omega
        have hG := hmove hs
        clear hmove hstay
        have hm2 : dist n (onBy n N 1) j < dist n N j := by omega
        generalize dist n u N = d1 at *
        generalize dist n M N = d2 at *
        replace hm2 := Lib.hid hm2
        replace hG := Lib.hid hG
        replace hk := Lib.hid hk
        have hlu := h.len
        obtain ⟨a', ha'⟩ : ∃ a, U[u]? = some a := ⟨U[u]'(by rw [h.len]; exact hul), List.getElem?_eq_getElem (by rw [h.len]; exact hul)⟩
        have HH := Lib.hid h
        clear h hg hmes hsucc hs hlu
        have Ha := Lib.hid ha
        have Ha' := Lib.hid ha'
        clear ha ha'
        go_wp2
        refine wp_region_quiet_tail (C := fun w' => ∃ u : Sub w1, w' = u.1) 13 (by kernel_rfl) (by kernel_rfl) (InSub.drew w1) ?_
        have x0 : ∀ s : Sub w1, s.1.cell? ⟨b, 0, none⟩ = some (.slice (some ⟨g, 0, none⟩) n cap) := fun s => (HH.out.below s.2).cells.1
        have hq := fun s : Sub w1 => (HH.out.below s.2).place N _ Ha.out
        simp only [entCells, List.getElem?_cons_zero, List.getElem?_cons_succ] at hq
        have r0 := fun s : Sub w1 => (hq s).1
        have r1 := fun s : Sub w1 => (hq s).2.1
        have r2 := fun s : Sub w1 => (hq s).2.2.1
        have r3 := fun s : Sub w1 => (hq s).2.2.2
        clear hq
        simp only [List.take_succ_cons, List.take_zero]
        iterate 13 (go_big_quiet_step (fail))
        refine wpQuiet_nil ?_
        clear x0 r0 r1 r2 r3
        intro w' hw'
        obtain ⟨s, rfl⟩ := hw'
        have hkk := hk.out.and (Keeps.of_below s.2 _)
        have h := HH.out.below s.2
        clear hk HH
        generalize s.1 = W1 at *
        have hv2 := h.putPlace hul (some ((e1, e2), e3))
        have hb2 := hkk.and (Keeps.of_setCells (fun k => k = g) g rfl (entCells (some ((e1, e2), e3))) (u * 4) W1)
        have hAf := uniqAfterV hv2 hl N hlt
        obtain ⟨p1, p2, hcs⟩ := entCells_form a'
        have hq' := h.place u a' Ha'.out
        rw [hcs] at hq'
        simp only [List.getElem?_cons_zero, List.getElem?_cons_succ] at hq'
        obtain ⟨z0, z1, z2, z3⟩ := hq'
        have y0 := h.freeP (u * 4)
        have y1 := h.freeP (u * 4 + 1)
        have y2 := h.freeP (u * 4 + 2)
        have y3 := h.freeP (u * 4 + 3)
        replace hv2 := Lib.hid hv2
        replace hb2 := Lib.hid hb2
        replace hAf := Lib.hid hAf
        clear h hkk hcs
        simp only [List.drop_succ_cons, List.drop_zero]
        go_wp2_with fail
        refine hAf.out.mono ?_
        clear hAf
        rintro e w2 ⟨rfl, rfl⟩
        go_wp2
        exact ⟨⟨N, 1, _, rfl, rfl, hv2.out, hG.out, hb2.out⟩, hm2.out⟩
      · have hsI : ¬ (dist n u N : Int) ≤ (dist n M N : Int) := by omega
        have hG := hstay (by omega)
        have hm2 : dist n (onBy n N 1) j < dist n N j := by omega
        have hnx := hsucc hG.lt
        have hAf := uniqAfterV h hl N hlt
        clear hmove hstay
        generalize dist n u N = d1 at *
        generalize dist n M N = d2 at *
        have hsI2 : ¬ (q : Int) ≤ (d2 : Int) := by omega
        replace hm2 := Lib.hid hm2
        replace hG := Lib.hid hG
        replace hk := Lib.hid hk
        have HH := Lib.hid h
        replace hnx := Lib.hid hnx
        clear h hg hmes hsucc hs ha
        go_wp2_with fail
        refine hAf.mono ?_
        clear hAf
        rintro e w2 ⟨rfl, rfl⟩
        go_wp2
        exact ⟨⟨u, q + 1, U, rfl, by rw [hnx.out], HH.out, hG.out, hk.out⟩, hm2.out⟩

end Go.Proofs.YtipocmbplcdmjaaGreatDoor

/-
  Walks of package uniq: Put, Drop.
-/
namespace Go.Proofs.YtipocmbplcdmjaaGreatDoor
open Go Go.RowKit

theorem chain_place (W : World) (g o : Nat) (k1 k2 x : Int) : (((W.setCell ⟨g, o, none⟩ (.bool true)).setCell ⟨g, o + 1, none⟩ (.int .i64 k1)).setCell ⟨g, o + 2, none⟩ (.int .i64 k2)).setCell ⟨g, o + 3, none⟩ (.int .i64 x) = W.setCells g o (entCells (some ((k1, k2), x))) := rfl

section
variable {w : World} {b g cap n : Nat} {T : List (Option Ent)} {L : List Ent}

set_option maxRecDepth 100000 in
set_option maxHeartbeats 1000000 in
theorem uniqPutNo (h : UniqV w b g cap n L.length T) (H : TInv n (homeN n) T L) (hl : Places n) (hh : 2 * L.length ≤ n) (k1 k2 x : Int) {e : Ent} (he : e ∈ L) (hk : e.1 = (k1, k2)) :
    Calls Tryz.prog 94 #[.pointer (some ⟨b, 0, none⟩), .int .i64 k1, .int .i64 k2, .int .i64 x] w fun e w' => e = .returned (.bool false) ∧ Below w.heap.size w w' := by
  have h8 := hl.least
  have hcl : (content T).length < n := by have := H.perm.length_eq; omega
  obtain ⟨c, F⟩ := found_exists H.len H.home hcl (k1, k2)
  have hNlt : onBy n (homeN n (k1, k2)) c < n := onBy_lt (homeN_lt (by omega) _) (Nat.le_of_lt F.lt)
  obtain ⟨z, hz⟩ : ∃ z : Ent, T[onBy n (homeN n (k1, k2)) c]? = some (some z) := by
    rcases H.search F with ⟨_, h1⟩ | ⟨z, _, _, h1⟩
    · exact absurd hk (h1 e he)
    · exact ⟨z, h1⟩
  have hF := fun W (hW : UniqV W b g cap n L.length T) => uniqFindV hW hl k1 k2 F
  clear F
  generalize onBy n (homeN n (k1, k2)) c = N at *
  have hN0 : (0 : Int) ≤ (N : Int) := by omega
  have hN1 : (N : Int) < (n : Int) := by omega
  go_enter Tryz.func94, Tryz.ntmps94
  go_wp2_with fail
  have hb : Below w.heap.size w (w.alloc (.cells #[.int .i64 k1, .int .i64 k2] 112)) := by go_grown
  replace h := h.below hb
  generalize w.alloc (.cells #[.int .i64 k1, .int .i64 k2] 112) = W at *
  refine (hF W h).mono ?_
  clear hF
  rintro e' w1 ⟨rfl, hb1⟩
  replace h := h.below hb1
  replace hb := hb.trans (hb1.mono hb.size)
  clear hb1
  have hq := h.place N _ hz
  simp only [entCells, List.getElem?_cons_zero, List.getElem?_cons_succ] at hq
  obtain ⟨q0, _, _, _⟩ := hq
  obtain ⟨c0, c1⟩ := h.cells
  clear h H hz he hk hcl
  go_wp2
  go_ret
  exact ⟨rfl, hb⟩

set_option maxRecDepth 100000 in
set_option maxHeartbeats 1000000 in
theorem uniqPutYes (h : UniqV w b g cap n L.length T) (H : TInv n (homeN n) T L) (hl : Places n) (hl2 : Places (2 * n)) (hh : 2 * L.length ≤ n) (k1 k2 x : Int) (hno : ∀ e ∈ L, e.1 ≠ (k1, k2)) :
    Calls Tryz.prog 94 #[.pointer (some ⟨b, 0, none⟩), .int .i64 k1, .int .i64 k2, .int .i64 x] w fun e w' => e = .returned (.bool true) ∧ ∃ g' cap' n' T', n' = (if L.length + 1 > n / 2 then 2 * n else n) ∧ UniqV w' b g' cap' n' ((L.length + 1 : Nat) : Int) T' ∧ TInv n' (homeN n') T' (L ++ [((k1, k2), x)]) ∧ Keeps (fun k => k = b ∨ k = g) w w' ∧ (g' = g ∨ w.heap.size ≤ g') := by
  have h8 := hl.least
  have hM := hl.most
  have hcl : (content T).length < n := by have := H.perm.length_eq; omega
  obtain ⟨c, F⟩ := found_exists H.len H.home hcl (k1, k2)
  have hNlt : onBy n (homeN n (k1, k2)) c < n := onBy_lt (homeN_lt (by omega) _) (Nat.le_of_lt F.lt)
  have hz : T[onBy n (homeN n (k1, k2)) c]? = some none := by
    rcases H.search F with ⟨h1, _⟩ | ⟨z, hz, hk, _⟩
    · exact h1
    · exact absurd hk (hno z hz)
  have hput := H.put (e := ((k1, k2), x)) F hz
  have hF := fun W (hW : UniqV W b g cap n L.length T) => uniqFindV hW hl k1 k2 F
  clear F hno
  simp only at hput
  generalize onBy n (homeN n (k1, k2)) c = N at *
  have hN0 : (0 : Int) ≤ (N : Int) := by omega
  have hN1 : (N : Int) < (n : Int) := by omega
  have hL1 : (0 : Int) ≤ (L.length : Int) := by omega
  have hL2 : (L.length : Int) ≤ 1000000 := by omega
  have hn0 : (0 : Int) ≤ (n : Int) := by omega
  have hn2 : (n : Int) ≤ 1000000 := by omega
  replace hput := Lib.hid hput
  go_enter Tryz.func94, Tryz.ntmps94
  go_wp2_with fail
  have hp := PairAt.new w k1 k2
  have hb : Below w.heap.size w (w.alloc (.cells #[.int .i64 k1, .int .i64 k2] 112)) := by go_grown
  replace h := h.below hb
  generalize w.alloc (.cells #[.int .i64 k1, .int .i64 k2] 112) = W at *
  refine (hF W h).mono ?_
  clear hF
  rintro e' w1 ⟨rfl, hb1⟩
  replace h := h.below hb1
  replace hp := hp.keep hb1
  replace hb := hb.trans (hb1.mono hb.size)
  clear hb1
  have hq := h.place N _ hz
  simp only [entCells, List.getElem?_cons_zero, List.getElem?_cons_succ] at hq
  obtain ⟨q0, q1, q2, q3⟩ := hq
  obtain ⟨c0, c1⟩ := h.cells
  replace h := Lib.hid h
  replace hp := Lib.hid hp
  clear H hcl
  go_wp2
  clear c0 c1 q0 q1 q2 q3
  refine wp_region_quiet_tail (C := fun w' => ∃ u : Sub w1, w' = u.1) 9 (by kernel_rfl) (by kernel_rfl) (InSub.drew w1) ?_
  have x0 : ∀ s : Sub w1, s.1.cell? ⟨b, 0, none⟩ = some (.slice (some ⟨g, 0, none⟩) n cap) := fun s => (h.out.below s.2).cells.1
  have r0 := fun s : Sub w1 => (hp.out.keep s.2).cells.1
  have r1 := fun s : Sub w1 => (hp.out.keep s.2).cells.2
  simp only [List.take_succ_cons, List.take_zero]
  iterate 9 (go_big_quiet_step (fail))
  refine wpQuiet_nil ?_
  clear x0 r0 r1
  intro w' hw'
  obtain ⟨s, rfl⟩ := hw'
  have hb2 := hb.trans (s.2.mono hb.size)
  have hv := h.out.below s.2
  clear h hp hb
  generalize s.1 = W1 at *
  have hv2 := hv.putPlace hNlt (some ((k1, k2), x))
  have hk2 := (Keeps.of_below hb2 (fun k => k = b ∨ k = g)).and (Keeps.of_setCells (fun k => k = b ∨ k = g) g (.inr rfl) (entCells (some ((k1, k2), x))) (N * 4) W1)
  have hq := hv.place N _ hz
  simp only [entCells, List.getElem?_cons_zero, List.getElem?_cons_succ] at hq
  obtain ⟨z0, z1, z2, z3⟩ := hq
  have y0 := hv.freeP (N * 4)
  have y1 := hv.freeP (N * 4 + 1)
  have y2 := hv.freeP (N * 4 + 2)
  have y3 := hv.freeP (N * 4 + 3)
  replace hv2 := Lib.hid hv2
  replace hk2 := Lib.hid hk2
  clear hv hz
  simp only [List.drop_succ_cons, List.drop_zero]
  apply wpList_step
  intro K hK
  go_simp
  apply hK
  clear hK z0 z1 z2 z3 y0 y1 y2 y3
  rw [chain_place]
  generalize W1.setCells g (N * 4) (entCells (some ((k1, k2), x))) = W2 at *
  refine wpList_nil ?_
  have hv3 := hv2.out.setMany ((L.length + 1 : Nat) : Int)
  have hk3 := hk2.out.and (Keeps.of_setCell _ W2 ⟨b, 1, none⟩ (.int .i64 ((L.length + 1 : Nat) : Int)) (.inl rfl))
  have f1 := hv2.out.free 1
  obtain ⟨c0, c1⟩ := hv2.out.cells
  replace hv3 := Lib.hid hv3
  replace hk3 := Lib.hid hk3
  clear hv2 hk2
  go_wp2
  clear c0 c1 f1
  rw [show (L.length : Int) + 1 = ((L.length + 1 : Nat) : Int) by omega]
  generalize W2.setCell ⟨b, 1, none⟩ (.int .i64 ((L.length + 1 : Nat) : Int)) = W3 at *
  obtain ⟨c0, c1⟩ := hv3.out.cells
  have hq0 : (0 : Int) ≤ (n : Int) / 2 := by omega
  have hq1 : (n : Int) / 2 ≤ 1000000 := by omega
  have HV := hv3.out.drewN
  have HK := fun q => hk3.out.and (Keeps.of_below (below_drewN (n := q) (Below.refl W3.heap.size W3)) _)
  have hsz : ∀ q, w.heap.size ≤ (W3.drewN q).heap.size := fun q => hk3.out.size
  replace HV := Lib.hid HV
  replace HK := Lib.hid HK
  replace hsz := Lib.hid hsz
  by_cases hd : L.length + 1 > n / 2
  · have hd1 : (n : Int) / 2 < ((L.length + 1 : Nat) : Int) := by omega
    replace hb2 := Lib.hid hb2
    replace hd := Lib.hid hd
    generalize hm : L.length + 1 = M at *
    go_quiet (fail)
    clear c0 c1
    go_wp2_with fail
    refine (uniqDoubleV (HV.out _) hput.out hl hl2).mono ?_
    rintro e w4 ⟨rfl, g', T', hg', hv4, hT4, hk4⟩
    go_wp2
    go_ret
    refine ⟨rfl, g', 2 * n, T', hv4, hT4, (HK.out _).and (hk4.mono fun k h => .inl h), .inr ?_⟩
    exact Nat.le_trans (hsz.out _) hg'
  · have hd1 : ¬ (n : Int) / 2 < ((L.length + 1 : Nat) : Int) := by omega
    replace hb2 := Lib.hid hb2
    replace hd := Lib.hid hd
    generalize hm : L.length + 1 = M at *
    go_quiet (fail)
    clear c0 c1
    go_wp2
    go_ret
    exact ⟨rfl, g, cap, _, HV.out _, hput.out, HK.out _, .inl rfl⟩

set_option maxRecDepth 100000 in
set_option maxHeartbeats 1000000 in
theorem uniqDropNo (h : UniqV w b g cap n L.length T) (H : TInv n (homeN n) T L) (hl : Places n) (hh : 2 * L.length ≤ n) (k1 k2 : Int) (hno : ∀ e ∈ L, e.1 ≠ (k1, k2)) :
    Calls Tryz.prog 47 #[.pointer (some ⟨b, 0, none⟩), .int .i64 k1, .int .i64 k2] w fun e w' => e = .returned (.bool false) ∧ Below w.heap.size w w' := by
  have h8 := hl.least
  have hcl : (content T).length < n := by have := H.perm.length_eq; omega
  obtain ⟨c, F⟩ := found_exists H.len H.home hcl (k1, k2)
  have hNlt : onBy n (homeN n (k1, k2)) c < n := onBy_lt (homeN_lt (by omega) _) (Nat.le_of_lt F.lt)
  have hz : T[onBy n (homeN n (k1, k2)) c]? = some none := by
    rcases H.search F with ⟨h1, _⟩ | ⟨z, hz, hk, _⟩
    · exact h1
    · exact absurd hk (hno z hz)
  have hF := uniqFindV h hl k1 k2 F
  clear F
  generalize onBy n (homeN n (k1, k2)) c = N at *
  have hN0 : (0 : Int) ≤ (N : Int) := by omega
  have hN1 : (N : Int) < (n : Int) := by omega
  go_enter Tryz.func47, Tryz.ntmps47
  go_wp2_with fail
  refine hF.mono ?_
  clear hF
  rintro e' w1 ⟨rfl, hb⟩
  replace h := h.below hb
  have hq := h.place N _ hz
  simp only [entCells, List.getElem?_cons_zero, List.getElem?_cons_succ] at hq
  obtain ⟨q0, _, _, _⟩ := hq
  obtain ⟨c0, c1⟩ := h.cells
  clear h H hz hno hcl
  go_wp2
  go_ret
  exact ⟨rfl, hb⟩

set_option maxRecDepth 100000 in
set_option maxHeartbeats 1000000 in
theorem uniqDropYes (h : UniqV w b g cap n L.length T) (H : TInv n (homeN n) T L) (hl : Places n) (hh : 2 * L.length ≤ n) {e : Ent} {K : List Ent} (hK : L.Perm (e :: K)) :
    Calls Tryz.prog 47 #[.pointer (some ⟨b, 0, none⟩), .int .i64 e.1.1, .int .i64 e.1.2] w fun r w' => r = .returned (.bool true) ∧ ∃ T', UniqV w' b g cap n (K.length : Int) T' ∧ TInv n (homeN n) T' K ∧ Keeps (fun k => k = b ∨ k = g) w w' := by
  have h8 := hl.least
  have hM := hl.most
  have hcl : (content T).length < n := by have := H.perm.length_eq; omega
  have hLK : L.length = K.length + 1 := hK.length_eq
  obtain ⟨j, hj⟩ := exists_empty T (by rw [h.len]; exact hcl)
  obtain ⟨c, F⟩ := found_exists H.len H.home hcl e.1
  have hNlt : onBy n (homeN n e.1) c < n := onBy_lt (homeN_lt (by omega) _) (Nat.le_of_lt F.lt)
  have hz := H.found (hK.mem_iff.2 (List.mem_cons_self)) F
  obtain ⟨⟨k1, k2⟩, x⟩ := e
  have hF := uniqFindV h hl k1 k2 F
  clear F
  simp only at hz hNlt
  generalize onBy n (homeN n (k1, k2)) c = N at *
  have hN0 : (0 : Int) ≤ (N : Int) := by omega
  have hN1 : (N : Int) < (n : Int) := by omega
  have hL1 : (0 : Int) ≤ (K.length : Int) := by omega
  have hL2 : (K.length : Int) ≤ 1000000 := by omega
  have hE := fun W (hW : UniqV W b g cap n L.length T) => uniqEmptyV hW H hl hz hj hK
  go_enter Tryz.func47, Tryz.ntmps47
  go_wp2_with fail
  refine hF.mono ?_
  clear hF
  rintro e' w1 ⟨rfl, hb⟩
  replace h := h.below hb
  have hq := h.place N _ hz
  simp only [entCells, List.getElem?_cons_zero, List.getElem?_cons_succ] at hq
  obtain ⟨q0, _, _, _⟩ := hq
  obtain ⟨c0, c1⟩ := h.cells
  replace hE := hE w1 h
  clear h H hz hj hcl
  go_wp2_with fail
  refine hE.mono ?_
  clear hE q0 c0 c1
  rintro e' w2 ⟨rfl, T', hv, hT, hk⟩
  have hk2 := (Keeps.of_below hb (fun k => k = b ∨ k = g)).and (hk.mono fun k h => .inr h)
  have hv3 := hv.setMany (K.length : Int)
  have hk3 := hk2.and (Keeps.of_setCell _ w2 ⟨b, 1, none⟩ (.int .i64 (K.length : Int)) (.inl rfl))
  have f1 := hv.free 1
  obtain ⟨c0, c1⟩ := hv.cells
  have hm : (L.length : Int) - 1 = (K.length : Int) := by omega
  clear hv hk hk2
  replace hv3 := Lib.hid hv3
  replace hk3 := Lib.hid hk3
  go_wp2
  go_ret
  exact ⟨rfl, T', hv3.out, hT, hk3.out⟩
end

end Go.Proofs.YtipocmbplcdmjaaGreatDoor
