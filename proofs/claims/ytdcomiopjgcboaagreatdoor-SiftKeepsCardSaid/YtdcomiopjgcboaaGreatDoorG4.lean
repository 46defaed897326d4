/-
  Texts of this proof, one behind the other: UniqG, UniqD, UniqE, UniqP, UniqS, Arena.
-/
import Derived.Test.YtdcomiopjgcboaaGreatDoorG3
import Derived.Test.YtdcomiopjgcboaaGreatDoorG2
/-
  Walks of package uniq: New, Get.
-/
namespace Go.Proofs.YtdcomiopjgcboaaGreatDoor
open Go Go.RowKit

theorem Places.eight : Places 8 := ⟨⟨3, rfl, by decide⟩, by decide, by decide⟩

set_option maxRecDepth 100000 in
theorem uniqNew (w : World) :
    Calls Tryz.prog 45 #[] w fun e w' => e = .returned (.pointer (some ⟨w.heap.size + 1, 0, none⟩)) ∧ UniqR w' (w.heap.size + 1) (.slice (some ⟨w.heap.size, 0, none⟩) 8 8) 0 (List.replicate 8 none) ∧ Below w.heap.size w w' := by
  have hm : (Instr.makeSlice 119 (.int .i64 8) (.int .i64 8)).run Tryz.prog w = .ok (.slice (some ⟨w.heap.size, 0, none⟩) 8 8) (w.alloc (.cells (madeCells encP.zero.cells (8 * encP.size)) encP.elem)) := run_made encP 8 (by decide) w
  have ho := owns_made encP none rfl 8 (by decide) w
  have hb : Below w.heap.size w (w.alloc (.cells (madeCells encP.zero.cells (8 * encP.size)) encP.elem)) := by go_grown
  have hs : (w.alloc (.cells (madeCells encP.zero.cells (8 * encP.size)) encP.elem)).heap.size = w.heap.size + 1 := by simp
  generalize w.alloc (.cells (madeCells encP.zero.cells (8 * encP.size)) encP.elem) = W at *
  go_enter Tryz.func45, Tryz.ntmps45
  go_wp2
  go_ret
  refine ⟨by rw [← hs]; rfl, ?_, hb.alloc hb.size _⟩
  rw [← hs]
  exact ⟨heap_alloc_new _ _, (ho.block fun g hg => by injection hg with hg; subst hg; exact heap_alloc_old _ _ (show w.heap.size < W.heap.size by omega)), fun h => by injection h with h; have : w.heap.size = W.heap.size := h; omega⟩

/-- What a place holds. -/
def placeN : Option Ent → Int
  | none => 0
  | some e => e.2

theorem entCells_form (a : Option Ent) : ∃ p1 p2, entCells a = [.bool a.isSome, .int .i64 p1, .int .i64 p2, .int .i64 (placeN a)] := by
  cases a with
  | none => exact ⟨0, 0, rfl⟩
  | some e => exact ⟨e.1.1, e.1.2, rfl⟩

set_option maxRecDepth 100000 in
set_option maxHeartbeats 1000000 in
theorem uniqGetV {w : World} {b g cap n : Nat} {many : Int} {T : List (Option Ent)} (h : UniqV w b g cap n many T) (hl : Places n) (k1 k2 : Int) {c : Nat} (F : Found n (homeN n) T (k1, k2) c) {a : Option Ent} (ha : T[onBy n (homeN n (k1, k2)) c]? = some a) :
    Calls Tryz.prog 97 #[.pointer (some ⟨b, 0, none⟩), .int .i64 k1, .int .i64 k2] w fun e w' => e = .returned (.tuple #[.int .i64 (placeN a), .bool a.isSome]) ∧ Below w.heap.size w w' := by
  have h8 := hl.least
  have hF := fun W (hW : UniqV W b g cap n many T) => uniqFindV hW hl k1 k2 F
  have hlt := onBy_lt (homeN_lt (show 0 < n by omega) (k1, k2)) (Nat.le_of_lt F.lt)
  clear F
  generalize onBy n (homeN n (k1, k2)) c = N at *
  have hinI : (N : Int) < (n : Int) := by omega
  have hin0 : (0 : Int) ≤ (N : Int) := by omega
  obtain ⟨p1, p2, hcs⟩ := entCells_form a
  have HQ : ∀ V, Below w.heap.size w V → V.cell? ⟨b, 0, none⟩ = some (.slice (some ⟨g, 0, none⟩) n cap) ∧ V.cell? ⟨g, N * 4, none⟩ = some (.bool a.isSome) ∧ V.cell? ⟨g, N * 4 + 1, none⟩ = some (.int .i64 p1) ∧ V.cell? ⟨g, N * 4 + 2, none⟩ = some (.int .i64 p2) ∧ V.cell? ⟨g, N * 4 + 3, none⟩ = some (.int .i64 (placeN a)) := fun V hV => by
    have := (h.below hV).place N a ha
    rw [hcs] at this
    exact ⟨(h.below hV).cells.1, this⟩
  have HF : ∀ V, Below w.heap.size w V → ∀ u : Sub V, Calls Tryz.prog 80 #[.pointer (some ⟨b, 0, none⟩), .agg #[.int .i64 k1, .int .i64 k2]] u.1 fun e w' => e = .returned (.int .i64 N) ∧ ∃ x : Sub V, w' = x.1 := fun V hV u => subBelow (hF u.1 ((h.below hV).below u.2))
  generalize hv0 : a.isSome = v0 at *
  generalize hv3 : placeN a = v3 at *
  replace HQ := Lib.hid HQ
  replace HF := Lib.hid HF
  clear hF h hcs ha hv0 hv3
  go_enter Tryz.func97, Tryz.ntmps97
  go_wp2
  refine wp_region_alloc_tail 11 _ (.cells #[.bool false, .int .i64 0, .int .i64 0, .int .i64 0] 126) (by kernel_rfl) (by kernel_rfl) rfl (fun a w => by simp [go_sem]; done) ?_
  apply Exists.intro
  refine ⟨fun V hV => ?_, ?_⟩
  · have hf := HF.out V hV
    have c0 : ∀ u : Sub V, u.1.cell? ⟨b, 0, none⟩ = some (.slice (some ⟨g, 0, none⟩) n cap) := fun u => (HQ.out _ (hV.trans (u.2.mono hV.size))).1
    have q0 := fun u : Sub V => (HQ.out _ (hV.trans (u.2.mono hV.size))).2.1
    have q1 := fun u : Sub V => (HQ.out _ (hV.trans (u.2.mono hV.size))).2.2.1
    have q2 := fun u : Sub V => (HQ.out _ (hV.trans (u.2.mono hV.size))).2.2.2.1
    have q3 := fun u : Sub V => (HQ.out _ (hV.trans (u.2.mono hV.size))).2.2.2.2
    simp only [List.take_succ_cons, List.take_zero]
    iterate 8 (go_big_quiet_step (fail))
    go_big_quiet_step (exact hf _)
    iterate 2 (go_big_quiet_step (fail))
    exact wpQuiet_nil rfl
  intro B V hV hB hz
  have z0 : V.cell? ⟨B, 0, none⟩ = some (.bool false) := by rw [cell_of_row _ _ _ _ _ _ hz]; rfl
  have z1 : V.cell? ⟨B, 1, none⟩ = some (.int .i64 0) := by rw [cell_of_row _ _ _ _ _ _ hz]; rfl
  have z2 : V.cell? ⟨B, 2, none⟩ = some (.int .i64 0) := by rw [cell_of_row _ _ _ _ _ _ hz]; rfl
  have z3 : V.cell? ⟨B, 3, none⟩ = some (.int .i64 0) := by rw [cell_of_row _ _ _ _ _ _ hz]; rfl
  have y0 : V.frozen? ⟨B, 0, none⟩ = false := frozen_of_row _ _ _ _ _ hz
  have y1 : V.frozen? ⟨B, 1, none⟩ = false := frozen_of_row _ _ _ _ _ hz
  have y2 : V.frozen? ⟨B, 2, none⟩ = false := frozen_of_row _ _ _ _ _ hz
  have y3 : V.frozen? ⟨B, 3, none⟩ = false := frozen_of_row _ _ _ _ _ hz
  clear hz
  simp only [List.drop_succ_cons, List.drop_zero]
  go_wp2
  go_quiet (fail)
  go_wp2
  go_ret2
  exact ⟨rfl, below_drewN ((((hV.setCell hB _).setCell hB _).setCell hB _).setCell hB _)⟩

end Go.Proofs.YtdcomiopjgcboaaGreatDoor

/-
  Walks of package uniq: double.
-/
namespace Go.Proofs.YtdcomiopjgcboaaGreatDoor
open Go Go.RowKit

/-- Block p is a variable that holds a place. -/
def PlaceAt (w : World) (p : Nat) (x0 : Bool) (x1 x2 x3 : Int) : Prop := w.heap[p]? = some (.cells #[.bool x0, .int .i64 x1, .int .i64 x2, .int .i64 x3] 126 (0, 0))
section
variable {w w' : World} {p : Nat} {x0 : Bool} {x1 x2 x3 : Int}
theorem PlaceAt.keep (h : PlaceAt w p x0 x1 x2 x3) (hb : Below w.heap.size w w') : PlaceAt w' p x0 x1 x2 x3 := (hb.block p (row_lt' h)).trans h
theorem PlaceAt.cells (h : PlaceAt w p x0 x1 x2 x3) : w.cell? ⟨p, 0, none⟩ = some (.bool x0) ∧ w.cell? ⟨p, 1, none⟩ = some (.int .i64 x1) ∧ w.cell? ⟨p, 2, none⟩ = some (.int .i64 x2) ∧ w.cell? ⟨p, 3, none⟩ = some (.int .i64 x3) := by
  refine ⟨?_, ?_, ?_, ?_⟩ <;> (rw [cell_of_row _ _ _ _ _ _ h]; rfl)
theorem PlaceAt.new (w : World) (x0 : Bool) (x1 x2 x3 : Int) : PlaceAt (w.alloc (.cells #[.bool x0, .int .i64 x1, .int .i64 x2, .int .i64 x3] 126)) w.heap.size x0 x1 x2 x3 := heap_alloc_new _ _
end

theorem content_take_none {T : List (Option Ent)} {k : Nat} (h : T[k]? = some none) : content (T.take (k + 1)) = content (T.take k) := by
  obtain ⟨hk, h⟩ := List.getElem?_eq_some_iff.1 h
  rw [List.take_succ_eq_append_getElem hk, content_append, h]
  simp [content]
theorem content_take_some {T : List (Option Ent)} {k : Nat} {e : Ent} (h : T[k]? = some (some e)) : content (T.take (k + 1)) = content (T.take k) ++ [e] := by
  obtain ⟨hk, h⟩ := List.getElem?_eq_some_iff.1 h
  rw [List.take_succ_eq_append_getElem hk, content_append, h]
  rfl
theorem content_split (T : List (Option Ent)) (k : Nat) : content T = content (T.take k) ++ content (T.drop k) := by rw [← content_append, List.take_append_drop]
/-- What lies further behind is not yet laid. -/
theorem content_free {T : List (Option Ent)} (h : Apart (content T)) {k : Nat} {e : Ent} (hk : T[k]? = some (some e)) : ∀ x ∈ content (T.take k), x.1 ≠ e.1 := by
  intro x hx he
  obtain ⟨i, hi⟩ := mem_content.1 hx
  have hik : i < k := by
    have := (List.getElem?_eq_some_iff.1 hi).1
    rw [List.length_take] at this; omega
  rw [List.getElem?_take, if_pos hik] at hi
  have := h.place hi hk he
  omega

set_option maxRecDepth 100000 in
set_option maxHeartbeats 1000000 in
theorem uniqDoubleV {w : World} {b g cap n : Nat} {many : Int} {T : List (Option Ent)} {L : List Ent} (h : UniqV w b g cap n many T) (H : TInv n (homeN n) T L) (hl : Places n) (hl2 : Places (2 * n)) :
    Calls Tryz.prog 123 #[.pointer (some ⟨b, 0, none⟩)] w fun e w' => e = .returned (.tuple #[]) ∧ ∃ g' T', w.heap.size ≤ g' ∧ UniqV w' b g' (2 * n) (2 * n) many T' ∧ TInv (2 * n) (homeN (2 * n)) T' L ∧ Keeps (fun k => k = b) w w' := by
  have h8 := hl.least
  have hM := hl2.most
  have hbw := h.ltb
  have hm : (Instr.makeSlice 119 (.int .i64 (2 * (n : Int))) (.int .i64 (2 * (n : Int)))).run Tryz.prog w = .ok (.slice (some ⟨w.heap.size, 0, none⟩) (2 * n) (2 * n)) (w.alloc (.cells (madeCells encP.zero.cells (2 * n * encP.size)) encP.elem)) := by
    have := run_made encP (2 * n) (by omega) w
    rwa [Int.natCast_mul] at this
  have ho := owns_made encP none rfl (2 * n) (by omega) w
  have hb : Below w.heap.size w (w.alloc (.cells (madeCells encP.zero.cells (2 * n * encP.size)) encP.elem)) := by go_grown
  generalize w.alloc (.cells (madeCells encP.zero.cells (2 * n * encP.size)) encP.elem) = W at *
  have h1 := h.below hb
  obtain ⟨c0, c1⟩ := h.cells
  obtain ⟨d0, d1⟩ := h1.cells
  have y0 := h1.free 0
  have h2 := h1.setPlaces ho List.length_replicate (by omega)
  have hk2 : Keeps (fun k => k = b) w (W.setCell ⟨b, 0, none⟩ (.slice (some ⟨w.heap.size, 0, none⟩) (2 * n) (2 * n))) := (Keeps.of_below hb _).and (Keeps.of_setCell _ W ⟨b, 0, none⟩ _ rfl)
  have hI0 := TInv.bare (2 * n) (homeN (2 * n)) (fun k => homeN_lt (by omega) k)
  have hbg := h.ne
  have hgw := h.ltg
  have hown := h.owns
  have hlen := h.len
  clear h h1
  replace h2 := Lib.hid h2
  replace hk2 := Lib.hid hk2
  replace ho := Lib.hid ho
  go_enter Tryz.func123, Tryz.ntmps123
  go_wp2
  go_loopw [18] (fun i wr => ∃ (k : Nat) (T' : List (Option Ent)), k ≤ n ∧ i = .int .i64 k ∧ UniqV wr b w.heap.size (2 * n) (2 * n) many T' ∧ TInv (2 * n) (homeN (2 * n)) T' (content (T.take k)) ∧ Keeps (fun k => k = b) w wr) (fun i _ => n - (intOf i).toNat)
  case atStart => exact ⟨0, _, Nat.zero_le _, rfl, h2.out, by rw [List.take_zero]; exact hI0, hk2.out⟩
  case round =>
    obtain ⟨k, T', hk, rfl, hv, hI, hK⟩ := hrel
    clear h2 hk2 ho hI0
    by_cases hlt : k < n
    · obtain ⟨a, ha⟩ : ∃ a, T[k]? = some a := ⟨T[k]'(by omega), List.getElem?_eq_getElem (by omega)⟩
      have hold : Owns encP wr (.slice (some ⟨g, 0, none⟩) n cap) T := hown.keep hK (fun j hj => by injection hj with hj; subst hj; exact hbg)
      obtain ⟨p1, p2, hcs⟩ := entCells_form a
      have hq : wr.cell? ⟨g, k * 4, none⟩ = some (.bool a.isSome) ∧ wr.cell? ⟨g, k * 4 + 1, none⟩ = some (.int .i64 p1) ∧ wr.cell? ⟨g, k * 4 + 2, none⟩ = some (.int .i64 p2) ∧ wr.cell? ⟨g, k * 4 + 3, none⟩ = some (.int .i64 (placeN a)) := by
        have := placeAt (cap := cap) (by rw [hlen]; exact hold) k a ha
        rwa [hcs] at this
      obtain ⟨q0, q1, q2, q3⟩ := hq
      have hk0 : (0 : Int) ≤ (k : Int) := by omega
      have hk1 : (k : Int) < (n : Int) := by omega
      clear hold
      cases a with
      | none =>
        have HT := Lib.hid (content_take_none ha)
        simp only [Option.isSome_none] at *
        clear hcs ha
        generalize placeN none = p3 at *
        go_wp2
        refine ⟨⟨k + 1, T', hlt, by go_num, hv.below ((Below.refl _ _).alloc (Nat.le_refl _) _), by rw [HT.out]; exact hI, hK.and (Keeps.of_alloc _ _ _)⟩, ?_⟩
        simp [intOf]; omega
      | some e =>
        have HT := Lib.hid (content_take_some ha)
        have hfree := content_free H.apartC ha
        obtain ⟨⟨e1, e2⟩, e3⟩ := e
        simp only [Option.isSome_some, entCells, placeN, List.cons.injEq, Value.int.injEq, true_and, and_true] at *
        obtain ⟨rfl, rfl⟩ := hcs
        clear ha
        have hA := hv.below ((Below.refl _ _).alloc (Nat.le_refl _) (.cells #[.bool true, .int .i64 e1, .int .i64 e2, .int .i64 e3] 126))
        have hKA := hK.and (Keeps.of_alloc _ wr (.cells #[.bool true, .int .i64 e1, .int .i64 e2, .int .i64 e3] 126))
        have hP := PlaceAt.new wr true e1 e2 e3
        have hcl : (content T').length < 2 * n := by
          have h1 := hI.perm.length_eq
          have h2 := content_le (T.take k)
          rw [List.length_take] at h2
          omega
        obtain ⟨c, F⟩ := found_exists hI.len hI.home hcl (e1, e2)
        have hno : T'[onBy (2 * n) (homeN (2 * n) (e1, e2)) c]? = some none := by
          rcases hI.search F with ⟨h1, _⟩ | ⟨x, hx, hxe, _⟩
          · exact h1
          · exact absurd hxe (hfree x hx)
        have hput := hI.put (e := ((e1, e2), e3)) F hno
        have hFind := fun W (hW : UniqV W b w.heap.size (2 * n) (2 * n) many T') => uniqFindV hW hl2 e1 e2 F
        have hNlt : onBy (2 * n) (homeN (2 * n) (e1, e2)) c < 2 * n := onBy_lt (homeN_lt (by omega) _) (Nat.le_of_lt F.lt)
        clear F hfree hcl hno
        simp only at hput
        generalize onBy (2 * n) (homeN (2 * n) (e1, e2)) c = N at *
        rw [← HT.out] at hput
        have hN0 : (0 : Int) ≤ (N : Int) := by omega
        have hN1 : (N : Int) < ((2 * n : Nat) : Int) := by omega
        replace hput := Lib.hid hput
        clear HT hI hv hK
        go_wp2
        generalize wr.alloc (.cells #[.bool true, .int .i64 e1, .int .i64 e2, .int .i64 e3] 126) = V at *
        refine wp_region_quiet_tail (C := fun w' => ∃ u : Sub V, w' = u.1) 10 (by kernel_rfl) (by kernel_rfl) (InSub.drew V) ?_
        have hf : ∀ u : Sub V, Calls Tryz.prog 80 #[.pointer (some ⟨b, 0, none⟩), .agg #[.int .i64 e1, .int .i64 e2]] u.1 fun e w' => e = .returned (.int .i64 N) ∧ ∃ x : Sub V, w' = x.1 := fun u => subBelow (hFind u.1 (hA.below u.2))
        have x0 : ∀ u : Sub V, u.1.cell? ⟨b, 0, none⟩ = some (.slice (some ⟨w.heap.size, 0, none⟩) (2 * n) (2 * n)) := fun u => (hA.below u.2).cells.1
        have r0 := fun u : Sub V => (hP.keep u.2).cells.1
        have r1 := fun u : Sub V => (hP.keep u.2).cells.2.1
        have r2 := fun u : Sub V => (hP.keep u.2).cells.2.2.1
        have r3 := fun u : Sub V => (hP.keep u.2).cells.2.2.2
        replace hA := Lib.hid hA
        replace hKA := Lib.hid hKA
        clear hP hFind
        simp only [List.take_succ_cons, List.take_zero]
        iterate 7 (go_big_quiet_step (fail))
        go_big_quiet_step (exact hf _)
        iterate 2 (go_big_quiet_step (fail))
        refine wpQuiet_nil ?_
        clear hf x0 r0 r1 r2 r3
        intro w' hw'
        obtain ⟨u, rfl⟩ := hw'
        have hk := u.2
        generalize u.1 = W1 at *
        have hv := hA.out.below hk
        have hv2 := hv.putPlace hNlt (some ((e1, e2), e3))
        have hb2 := (hKA.out.and (Keeps.of_below hk _)).trans (Keeps.of_setCells (fun k => k = w.heap.size) w.heap.size rfl (entCells (some ((e1, e2), e3))) (N * 4) W1) (fun k hk => .inr (by omega))
        obtain ⟨a', ha'⟩ : ∃ a, T'[N]? = some a := ⟨T'[N]'(by rw [hv.len]; exact hNlt), List.getElem?_eq_getElem (by rw [hv.len]; exact hNlt)⟩
        obtain ⟨p1, p2, hcs⟩ := entCells_form a'
        have hq := hv.place N a' ha'
        rw [hcs] at hq
        simp only [List.getElem?_cons_zero, List.getElem?_cons_succ] at hq
        obtain ⟨z0, z1, z2, z3⟩ := hq
        have y0 := hv.freeP (N * 4)
        have y1 := hv.freeP (N * 4 + 1)
        have y2 := hv.freeP (N * 4 + 2)
        have y3 := hv.freeP (N * 4 + 3)
        replace hv2 := Lib.hid hv2
        replace hb2 := Lib.hid hb2
        clear hv ha' hcs hA hKA hk
        simp only [List.drop_succ_cons, List.drop_zero]
        go_wp2
        exact ⟨⟨k + 1, _, hlt, by go_num, hv2.out, hput.out, hb2.out⟩, by simp [intOf]; omega⟩
    · have hkn : k = n := by omega
      subst hkn
      rw [List.take_of_length_le (by omega)] at hI
      go_wp2
      refine bodyPost_end (v := .tuple #[]) (by simp [results, Tryz.results123, go_sem]) rfl ?_
      exact ⟨rfl, _, T', Nat.le_refl _, hv, ⟨hI.len, hI.home, hI.perm.trans H.perm, H.apart, hI.chain⟩, hK⟩

end Go.Proofs.YtdcomiopjgcboaaGreatDoor

/-
  Walks of package uniq: empty.
-/
namespace Go.Proofs.YtdcomiopjgcboaaGreatDoor
open Go Go.RowKit

set_option maxRecDepth 100000 in
set_option maxHeartbeats 1000000 in
theorem uniqEmptyV {w : World} {b g cap n : Nat} {many : Int} {T : List (Option Ent)} {L K : List Ent} (h : UniqV w b g cap n many T) (H : TInv n (homeN n) T L) (hl : Places n) {i j : Nat} {e : Ent} (hi : T[i]? = some (some e)) (hj : T[j]? = some none) (hK : L.Perm (e :: K)) :
    Calls Tryz.prog 81 #[.pointer (some ⟨b, 0, none⟩), .int .i64 i] w fun e w' => e = .returned (.tuple #[]) ∧ ∃ T', UniqV w' b g cap n many T' ∧ TInv n (homeN n) T' K ∧ Keeps (fun k => k = g) w w' := by
  have h8 := hl.least
  have hM := hl.most
  have hin := H.lt hi
  have G := H.gap hi hj hK
  have hA := uniqAfterV h hl i hin
  go_enter Tryz.func81, Tryz.ntmps81
  go_wp2_with fail
  refine hA.mono ?_
  clear hA
  rintro e w1 ⟨rfl, rfl⟩
  go_wp2
  go_loopw [1, 4] (fun gp iv wr => ∃ (u q : Nat) (U : List (Option Ent)), gp = .int .i64 u ∧ iv = .int .i64 (onBy n u q) ∧ UniqV wr b g cap n many U ∧ Gap n (homeN n) (U.set u none) K u q j ∧ Keeps (fun k => k = g) w wr) (fun _ iv _ => dist n (intOf iv).toNat j)
  case atStart => exact ⟨i, 1, T, rfl, rfl, h, G, Keeps.refl _ _⟩
  case round =>
    clear h H G hi hj hK hin
    obtain ⟨u, q, U, rfl, rfl, h, G, hk⟩ := hrel
    have hlt := G.at_lt
    have hne := G.at_ne
    have hul := G.ltg
    have hqn := G.lt
    have hdq := dist_onBy hul hqn
    have hjl := G.ltj
    have hg : (U.set u none)[onBy n u q]? = U[onBy n u q]? := List.getElem?_set_ne (fun e => hne e.symm)
    obtain ⟨a, ha⟩ : ∃ a, U[onBy n u q]? = some a := ⟨U[onBy n u q]'(by rw [h.len]; exact hlt), List.getElem?_eq_getElem (by rw [h.len]; exact hlt)⟩
    rw [ha] at hg
    have hq := h.place _ a ha
    obtain ⟨c0, c1⟩ := h.cells
    cases a with
    | none =>
      have hT := G.ends hg
      have hv := h.putPlace hul none
      have hkk := hk.and (Keeps.of_setCells (fun k => k = g) g rfl (entCells none) (u * 4) wr)
      obtain ⟨a', ha'⟩ : ∃ a, U[u]? = some a := ⟨U[u]'(by rw [h.len]; exact hul), List.getElem?_eq_getElem (by rw [h.len]; exact hul)⟩
      obtain ⟨p1, p2, hcs⟩ := entCells_form a'
      have hq' := h.place u a' ha'
      rw [hcs] at hq'
      simp only [entCells, List.getElem?_cons_zero, List.getElem?_cons_succ] at hq hq'
      obtain ⟨q0, _, _, _⟩ := hq
      obtain ⟨z0, z1, z2, z3⟩ := hq'
      have y0 := h.freeP (u * 4)
      have y1 := h.freeP (u * 4 + 1)
      have y2 := h.freeP (u * 4 + 2)
      have y3 := h.freeP (u * 4 + 3)
      generalize onBy n u q = N at *
      have hN0 : (0 : Int) ≤ (N : Int) := by omega
      have hN1 : (N : Int) < (n : Int) := by omega
      have hu0 : (0 : Int) ≤ (u : Int) := by omega
      have hu1 : (u : Int) < (n : Int) := by omega
      replace hT := Lib.hid hT
      replace hv := Lib.hid hv
      replace hkk := Lib.hid hkk
      clear h G hk hg ha ha' hcs hdq
      go_wp2
      refine bodyPost_end (v := .tuple #[]) (by simp [results, Tryz.results81, go_sem]) rfl ?_
      exact ⟨rfl, _, hv.out, hT.out, hkk.out⟩
    | some x =>
      obtain ⟨⟨e1, e2⟩, e3⟩ := x
      have hij : onBy n u q ≠ j := fun h1 => by rw [h1, G.far] at hg; cases hg
      have hmes := dist_next hlt hjl hij
      have hhl := homeN_lt (show 0 < n by omega) (e1, e2)
      have hstay := fun hs => G.stay hg hs
      have hmove := fun hs => G.move hg hs
      have hsucc : q + 1 < n → onBy n (onBy n u q) 1 = onBy n u (q + 1) := fun h1 => onBy_succ hul h1
      simp only [entCells, List.getElem?_cons_zero, List.getElem?_cons_succ] at hq
      obtain ⟨q0, q1, q2, q3⟩ := hq
      simp only at hstay hmove
      clear G
      rw [List.set_set] at hmove
      have hHome : ∀ W, UniqV W b g cap n many U → Calls Tryz.prog 108 #[.pointer (some ⟨b, 0, none⟩), .agg #[.int .i64 e1, .int .i64 e2]] W fun e w' => e = .returned (.int .i64 (homeN n (e1, e2))) ∧ Below W.heap.size W w' := fun W hW => uniqHomeV hW hl e1 e2
      generalize onBy n u q = N at *
      generalize homeN n (e1, e2) = M at *
      have hN0 : (0 : Int) ≤ (N : Int) := by omega
      have hN1 : (N : Int) < (n : Int) := by omega
      have hu0 : (0 : Int) ≤ (u : Int) := by omega
      have hu1 : (u : Int) < (n : Int) := by omega
      go_wp2_with fail
      refine (hHome _ h).mono ?_
      clear hHome q0 q1 q2 q3 c0 c1
      rintro e w1 ⟨rfl, hb⟩
      replace h := h.below hb
      replace hk := hk.and (Keeps.of_below hb _)
      clear hb
      go_wp2_with fail
      refine (uniqStepsV h hl M N hhl hlt).mono ?_
      rintro e w2 ⟨rfl, rfl⟩
      go_wp2_with fail
      refine (uniqStepsV h hl u N hul hlt).mono ?_
      rintro e w2 ⟨rfl, rfl⟩
      by_cases hs : dist n u N ≤ dist n M N
      · have hsI : (dist n u N : Int) ≤ (dist n M N : Int) := by omega
        have hG := hmove hs
        clear hmove hstay
        have hm2 : dist n (onBy n N 1) j < dist n N j := by omega
        generalize dist n u N = d1 at *
        generalize dist n M N = d2 at *
        replace hm2 := Lib.hid hm2
        replace hG := Lib.hid hG
        replace hk := Lib.hid hk
        have hlu := h.len
        obtain ⟨a', ha'⟩ : ∃ a, U[u]? = some a := ⟨U[u]'(by rw [h.len]; exact hul), List.getElem?_eq_getElem (by rw [h.len]; exact hul)⟩
        have HH := Lib.hid h
        clear h hg hmes hsucc hs hlu
        have Ha := Lib.hid ha
        have Ha' := Lib.hid ha'
        clear ha ha'
        go_wp2
        refine wp_region_quiet_tail (C := fun w' => ∃ u : Sub w1, w' = u.1) 13 (by kernel_rfl) (by kernel_rfl) (InSub.drew w1) ?_
        have x0 : ∀ s : Sub w1, s.1.cell? ⟨b, 0, none⟩ = some (.slice (some ⟨g, 0, none⟩) n cap) := fun s => (HH.out.below s.2).cells.1
        have hq := fun s : Sub w1 => (HH.out.below s.2).place N _ Ha.out
        simp only [entCells, List.getElem?_cons_zero, List.getElem?_cons_succ] at hq
        have r0 := fun s : Sub w1 => (hq s).1
        have r1 := fun s : Sub w1 => (hq s).2.1
        have r2 := fun s : Sub w1 => (hq s).2.2.1
        have r3 := fun s : Sub w1 => (hq s).2.2.2
        clear hq
        simp only [List.take_succ_cons, List.take_zero]
        iterate 13 (go_big_quiet_step (fail))
        refine wpQuiet_nil ?_
        clear x0 r0 r1 r2 r3
        intro w' hw'
        obtain ⟨s, rfl⟩ := hw'
        have hkk := hk.out.and (Keeps.of_below s.2 _)
        have h := HH.out.below s.2
        clear hk HH
        generalize s.1 = W1 at *
        have hv2 := h.putPlace hul (some ((e1, e2), e3))
        have hb2 := hkk.and (Keeps.of_setCells (fun k => k = g) g rfl (entCells (some ((e1, e2), e3))) (u * 4) W1)
        have hAf := uniqAfterV hv2 hl N hlt
        obtain ⟨p1, p2, hcs⟩ := entCells_form a'
        have hq' := h.place u a' Ha'.out
        rw [hcs] at hq'
        simp only [List.getElem?_cons_zero, List.getElem?_cons_succ] at hq'
        obtain ⟨z0, z1, z2, z3⟩ := hq'
        have y0 := h.freeP (u * 4)
        have y1 := h.freeP (u * 4 + 1)
        have y2 := h.freeP (u * 4 + 2)
        have y3 := h.freeP (u * 4 + 3)
        replace hv2 := Lib.hid hv2
        replace hb2 := Lib.hid hb2
        replace hAf := Lib.hid hAf
        clear h hkk hcs
        simp only [List.drop_succ_cons, List.drop_zero]
        go_wp2_with fail
        refine hAf.out.mono ?_
        clear hAf
        rintro e w2 ⟨rfl, rfl⟩
        go_wp2
        exact ⟨⟨N, 1, _, rfl, rfl, hv2.out, hG.out, hb2.out⟩, hm2.out⟩
      · have hsI : ¬ (dist n u N : Int) ≤ (dist n M N : Int) := by omega
        have hG := hstay (by omega)
        have hm2 : dist n (onBy n N 1) j < dist n N j := by omega
        have hnx := hsucc hG.lt
        have hAf := uniqAfterV h hl N hlt
        clear hmove hstay
        generalize dist n u N = d1 at *
        generalize dist n M N = d2 at *
        have hsI2 : ¬ (q : Int) ≤ (d2 : Int) := by omega
        replace hm2 := Lib.hid hm2
        replace hG := Lib.hid hG
        replace hk := Lib.hid hk
        have HH := Lib.hid h
        replace hnx := Lib.hid hnx
        clear h hg hmes hsucc hs ha
        go_wp2_with fail
        refine hAf.mono ?_
        clear hAf
        rintro e w2 ⟨rfl, rfl⟩
        go_wp2
        exact ⟨⟨u, q + 1, U, rfl, by rw [hnx.out], HH.out, hG.out, hk.out⟩, hm2.out⟩

end Go.Proofs.YtdcomiopjgcboaaGreatDoor

/-
  Walks of package uniq: Put, Drop.
-/
namespace Go.Proofs.YtdcomiopjgcboaaGreatDoor
open Go Go.RowKit

theorem chain_place (W : World) (g o : Nat) (k1 k2 x : Int) : (((W.setCell ⟨g, o, none⟩ (.bool true)).setCell ⟨g, o + 1, none⟩ (.int .i64 k1)).setCell ⟨g, o + 2, none⟩ (.int .i64 k2)).setCell ⟨g, o + 3, none⟩ (.int .i64 x) = W.setCells g o (entCells (some ((k1, k2), x))) := rfl

section
variable {w : World} {b g cap n : Nat} {T : List (Option Ent)} {L : List Ent}

set_option maxRecDepth 100000 in
set_option maxHeartbeats 1000000 in
theorem uniqPutNo (h : UniqV w b g cap n L.length T) (H : TInv n (homeN n) T L) (hl : Places n) (hh : 2 * L.length ≤ n) (k1 k2 x : Int) {e : Ent} (he : e ∈ L) (hk : e.1 = (k1, k2)) :
    Calls Tryz.prog 111 #[.pointer (some ⟨b, 0, none⟩), .int .i64 k1, .int .i64 k2, .int .i64 x] w fun e w' => e = .returned (.bool false) ∧ Below w.heap.size w w' := by
  have h8 := hl.least
  have hcl : (content T).length < n := by have := H.perm.length_eq; omega
  obtain ⟨c, F⟩ := found_exists H.len H.home hcl (k1, k2)
  have hNlt : onBy n (homeN n (k1, k2)) c < n := onBy_lt (homeN_lt (by omega) _) (Nat.le_of_lt F.lt)
  obtain ⟨z, hz⟩ : ∃ z : Ent, T[onBy n (homeN n (k1, k2)) c]? = some (some z) := by
    rcases H.search F with ⟨_, h1⟩ | ⟨z, _, _, h1⟩
    · exact absurd hk (h1 e he)
    · exact ⟨z, h1⟩
  have hF := fun W (hW : UniqV W b g cap n L.length T) => uniqFindV hW hl k1 k2 F
  clear F
  generalize onBy n (homeN n (k1, k2)) c = N at *
  have hN0 : (0 : Int) ≤ (N : Int) := by omega
  have hN1 : (N : Int) < (n : Int) := by omega
  go_enter Tryz.func111, Tryz.ntmps111
  go_wp2_with fail
  have hb : Below w.heap.size w (w.alloc (.cells #[.int .i64 k1, .int .i64 k2] 124)) := by go_grown
  replace h := h.below hb
  generalize w.alloc (.cells #[.int .i64 k1, .int .i64 k2] 124) = W at *
  refine (hF W h).mono ?_
  clear hF
  rintro e' w1 ⟨rfl, hb1⟩
  replace h := h.below hb1
  replace hb := hb.trans (hb1.mono hb.size)
  clear hb1
  have hq := h.place N _ hz
  simp only [entCells, List.getElem?_cons_zero, List.getElem?_cons_succ] at hq
  obtain ⟨q0, _, _, _⟩ := hq
  obtain ⟨c0, c1⟩ := h.cells
  clear h H hz he hk hcl
  go_wp2
  go_ret
  exact ⟨rfl, hb⟩

set_option maxRecDepth 100000 in
set_option maxHeartbeats 1000000 in
theorem uniqPutYes (h : UniqV w b g cap n L.length T) (H : TInv n (homeN n) T L) (hl : Places n) (hl2 : Places (2 * n)) (hh : 2 * L.length ≤ n) (k1 k2 x : Int) (hno : ∀ e ∈ L, e.1 ≠ (k1, k2)) :
    Calls Tryz.prog 111 #[.pointer (some ⟨b, 0, none⟩), .int .i64 k1, .int .i64 k2, .int .i64 x] w fun e w' => e = .returned (.bool true) ∧ ∃ g' cap' n' T', n' = (if L.length + 1 > n / 2 then 2 * n else n) ∧ UniqV w' b g' cap' n' ((L.length + 1 : Nat) : Int) T' ∧ TInv n' (homeN n') T' (L ++ [((k1, k2), x)]) ∧ Keeps (fun k => k = b ∨ k = g) w w' ∧ (g' = g ∨ w.heap.size ≤ g') := by
  have h8 := hl.least
  have hM := hl.most
  have hcl : (content T).length < n := by have := H.perm.length_eq; omega
  obtain ⟨c, F⟩ := found_exists H.len H.home hcl (k1, k2)
  have hNlt : onBy n (homeN n (k1, k2)) c < n := onBy_lt (homeN_lt (by omega) _) (Nat.le_of_lt F.lt)
  have hz : T[onBy n (homeN n (k1, k2)) c]? = some none := by
    rcases H.search F with ⟨h1, _⟩ | ⟨z, hz, hk, _⟩
    · exact h1
    · exact absurd hk (hno z hz)
  have hput := H.put (e := ((k1, k2), x)) F hz
  have hF := fun W (hW : UniqV W b g cap n L.length T) => uniqFindV hW hl k1 k2 F
  clear F hno
  simp only at hput
  generalize onBy n (homeN n (k1, k2)) c = N at *
  have hN0 : (0 : Int) ≤ (N : Int) := by omega
  have hN1 : (N : Int) < (n : Int) := by omega
  have hL1 : (0 : Int) ≤ (L.length : Int) := by omega
  have hL2 : (L.length : Int) ≤ 1000000 := by omega
  have hn0 : (0 : Int) ≤ (n : Int) := by omega
  have hn2 : (n : Int) ≤ 1000000 := by omega
  replace hput := Lib.hid hput
  go_enter Tryz.func111, Tryz.ntmps111
  go_wp2_with fail
  have hp := PairAt.new w k1 k2
  have hb : Below w.heap.size w (w.alloc (.cells #[.int .i64 k1, .int .i64 k2] 124)) := by go_grown
  replace h := h.below hb
  generalize w.alloc (.cells #[.int .i64 k1, .int .i64 k2] 124) = W at *
  refine (hF W h).mono ?_
  clear hF
  rintro e' w1 ⟨rfl, hb1⟩
  replace h := h.below hb1
  replace hp := hp.keep hb1
  replace hb := hb.trans (hb1.mono hb.size)
  clear hb1
  have hq := h.place N _ hz
  simp only [entCells, List.getElem?_cons_zero, List.getElem?_cons_succ] at hq
  obtain ⟨q0, q1, q2, q3⟩ := hq
  obtain ⟨c0, c1⟩ := h.cells
  replace h := Lib.hid h
  replace hp := Lib.hid hp
  clear H hcl
  go_wp2
  clear c0 c1 q0 q1 q2 q3
  refine wp_region_quiet_tail (C := fun w' => ∃ u : Sub w1, w' = u.1) 9 (by kernel_rfl) (by kernel_rfl) (InSub.drew w1) ?_
  have x0 : ∀ s : Sub w1, s.1.cell? ⟨b, 0, none⟩ = some (.slice (some ⟨g, 0, none⟩) n cap) := fun s => (h.out.below s.2).cells.1
  have r0 := fun s : Sub w1 => (hp.out.keep s.2).cells.1
  have r1 := fun s : Sub w1 => (hp.out.keep s.2).cells.2
  simp only [List.take_succ_cons, List.take_zero]
  iterate 9 (go_big_quiet_step (fail))
  refine wpQuiet_nil ?_
  clear x0 r0 r1
  intro w' hw'
  obtain ⟨s, rfl⟩ := hw'
  have hb2 := hb.trans (s.2.mono hb.size)
  have hv := h.out.below s.2
  clear h hp hb
  generalize s.1 = W1 at *
  have hv2 := hv.putPlace hNlt (some ((k1, k2), x))
  have hk2 := (Keeps.of_below hb2 (fun k => k = b ∨ k = g)).and (Keeps.of_setCells (fun k => k = b ∨ k = g) g (.inr rfl) (entCells (some ((k1, k2), x))) (N * 4) W1)
  have hq := hv.place N _ hz
  simp only [entCells, List.getElem?_cons_zero, List.getElem?_cons_succ] at hq
  obtain ⟨z0, z1, z2, z3⟩ := hq
  have y0 := hv.freeP (N * 4)
  have y1 := hv.freeP (N * 4 + 1)
  have y2 := hv.freeP (N * 4 + 2)
  have y3 := hv.freeP (N * 4 + 3)
  replace hv2 := Lib.hid hv2
  replace hk2 := Lib.hid hk2
  clear hv hz
  simp only [List.drop_succ_cons, List.drop_zero]
  apply wpList_step
  intro K hK
  go_simp
  apply hK
  clear hK z0 z1 z2 z3 y0 y1 y2 y3
  rw [chain_place]
  generalize W1.setCells g (N * 4) (entCells (some ((k1, k2), x))) = W2 at *
  refine wpList_nil ?_
  have hv3 := hv2.out.setMany ((L.length + 1 : Nat) : Int)
  have hk3 := hk2.out.and (Keeps.of_setCell _ W2 ⟨b, 1, none⟩ (.int .i64 ((L.length + 1 : Nat) : Int)) (.inl rfl))
  have f1 := hv2.out.free 1
  obtain ⟨c0, c1⟩ := hv2.out.cells
  replace hv3 := Lib.hid hv3
  replace hk3 := Lib.hid hk3
  clear hv2 hk2
  go_wp2
  clear c0 c1 f1
  rw [show (L.length : Int) + 1 = ((L.length + 1 : Nat) : Int) by omega]
  generalize W2.setCell ⟨b, 1, none⟩ (.int .i64 ((L.length + 1 : Nat) : Int)) = W3 at *
  obtain ⟨c0, c1⟩ := hv3.out.cells
  have hq0 : (0 : Int) ≤ (n : Int) / 2 := by omega
  have hq1 : (n : Int) / 2 ≤ 1000000 := by omega
  have HV := hv3.out.drewN
  have HK := fun q => hk3.out.and (Keeps.of_below (below_drewN (n := q) (Below.refl W3.heap.size W3)) _)
  have hsz : ∀ q, w.heap.size ≤ (W3.drewN q).heap.size := fun q => hk3.out.size
  replace HV := Lib.hid HV
  replace HK := Lib.hid HK
  replace hsz := Lib.hid hsz
  by_cases hd : L.length + 1 > n / 2
  · have hd1 : (n : Int) / 2 < ((L.length + 1 : Nat) : Int) := by omega
    replace hb2 := Lib.hid hb2
    replace hd := Lib.hid hd
    generalize hm : L.length + 1 = M at *
    go_quiet (fail)
    clear c0 c1
    go_wp2_with fail
    refine (uniqDoubleV (HV.out _) hput.out hl hl2).mono ?_
    rintro e w4 ⟨rfl, g', T', hg', hv4, hT4, hk4⟩
    go_wp2
    go_ret
    refine ⟨rfl, g', 2 * n, T', hv4, hT4, (HK.out _).and (hk4.mono fun k h => .inl h), .inr ?_⟩
    exact Nat.le_trans (hsz.out _) hg'
  · have hd1 : ¬ (n : Int) / 2 < ((L.length + 1 : Nat) : Int) := by omega
    replace hb2 := Lib.hid hb2
    replace hd := Lib.hid hd
    generalize hm : L.length + 1 = M at *
    go_quiet (fail)
    clear c0 c1
    go_wp2
    go_ret
    exact ⟨rfl, g, cap, _, HV.out _, hput.out, HK.out _, .inl rfl⟩

set_option maxRecDepth 100000 in
set_option maxHeartbeats 1000000 in
theorem uniqDropNo (h : UniqV w b g cap n L.length T) (H : TInv n (homeN n) T L) (hl : Places n) (hh : 2 * L.length ≤ n) (k1 k2 : Int) (hno : ∀ e ∈ L, e.1 ≠ (k1, k2)) :
    Calls Tryz.prog 49 #[.pointer (some ⟨b, 0, none⟩), .int .i64 k1, .int .i64 k2] w fun e w' => e = .returned (.bool false) ∧ Below w.heap.size w w' := by
  have h8 := hl.least
  have hcl : (content T).length < n := by have := H.perm.length_eq; omega
  obtain ⟨c, F⟩ := found_exists H.len H.home hcl (k1, k2)
  have hNlt : onBy n (homeN n (k1, k2)) c < n := onBy_lt (homeN_lt (by omega) _) (Nat.le_of_lt F.lt)
  have hz : T[onBy n (homeN n (k1, k2)) c]? = some none := by
    rcases H.search F with ⟨h1, _⟩ | ⟨z, hz, hk, _⟩
    · exact h1
    · exact absurd hk (hno z hz)
  have hF := uniqFindV h hl k1 k2 F
  clear F
  generalize onBy n (homeN n (k1, k2)) c = N at *
  have hN0 : (0 : Int) ≤ (N : Int) := by omega
  have hN1 : (N : Int) < (n : Int) := by omega
  go_enter Tryz.func49, Tryz.ntmps49
  go_wp2_with fail
  refine hF.mono ?_
  clear hF
  rintro e' w1 ⟨rfl, hb⟩
  replace h := h.below hb
  have hq := h.place N _ hz
  simp only [entCells, List.getElem?_cons_zero, List.getElem?_cons_succ] at hq
  obtain ⟨q0, _, _, _⟩ := hq
  obtain ⟨c0, c1⟩ := h.cells
  clear h H hz hno hcl
  go_wp2
  go_ret
  exact ⟨rfl, hb⟩

set_option maxRecDepth 100000 in
set_option maxHeartbeats 1000000 in
theorem uniqDropYes (h : UniqV w b g cap n L.length T) (H : TInv n (homeN n) T L) (hl : Places n) (hh : 2 * L.length ≤ n) {e : Ent} {K : List Ent} (hK : L.Perm (e :: K)) :
    Calls Tryz.prog 49 #[.pointer (some ⟨b, 0, none⟩), .int .i64 e.1.1, .int .i64 e.1.2] w fun r w' => r = .returned (.bool true) ∧ ∃ T', UniqV w' b g cap n (K.length : Int) T' ∧ TInv n (homeN n) T' K ∧ Keeps (fun k => k = b ∨ k = g) w w' := by
  have h8 := hl.least
  have hM := hl.most
  have hcl : (content T).length < n := by have := H.perm.length_eq; omega
  have hLK : L.length = K.length + 1 := hK.length_eq
  obtain ⟨j, hj⟩ := exists_empty T (by rw [h.len]; exact hcl)
  obtain ⟨c, F⟩ := found_exists H.len H.home hcl e.1
  have hNlt : onBy n (homeN n e.1) c < n := onBy_lt (homeN_lt (by omega) _) (Nat.le_of_lt F.lt)
  have hz := H.found (hK.mem_iff.2 (List.mem_cons_self)) F
  obtain ⟨⟨k1, k2⟩, x⟩ := e
  have hF := uniqFindV h hl k1 k2 F
  clear F
  simp only at hz hNlt
  generalize onBy n (homeN n (k1, k2)) c = N at *
  have hN0 : (0 : Int) ≤ (N : Int) := by omega
  have hN1 : (N : Int) < (n : Int) := by omega
  have hL1 : (0 : Int) ≤ (K.length : Int) := by omega
  have hL2 : (K.length : Int) ≤ 1000000 := by omega
  have hE := fun W (hW : UniqV W b g cap n L.length T) => uniqEmptyV hW H hl hz hj hK
  go_enter Tryz.func49, Tryz.ntmps49
  go_wp2_with fail
  refine hF.mono ?_
  clear hF
  rintro e' w1 ⟨rfl, hb⟩
  replace h := h.below hb
  have hq := h.place N _ hz
  simp only [entCells, List.getElem?_cons_zero, List.getElem?_cons_succ] at hq
  obtain ⟨q0, _, _, _⟩ := hq
  obtain ⟨c0, c1⟩ := h.cells
  replace hE := hE w1 h
  clear h H hz hj hcl
  go_wp2_with fail
  refine hE.mono ?_
  clear hE q0 c0 c1
  rintro e' w2 ⟨rfl, T', hv, hT, hk⟩
  have hk2 := (Keeps.of_below hb (fun k => k = b ∨ k = g)).and (hk.mono fun k h => .inr h)
  have hv3 := hv.setMany (K.length : Int)
  have hk3 := hk2.and (Keeps.of_setCell _ w2 ⟨b, 1, none⟩ (.int .i64 (K.length : Int)) (.inl rfl))
  have f1 := hv.free 1
  obtain ⟨c0, c1⟩ := hv.cells
  have hm : (L.length : Int) - 1 = (K.length : Int) := by omega
  clear hv hk hk2
  replace hv3 := Lib.hid hv3
  replace hk3 := Lib.hid hk3
  go_wp2
  go_ret
  exact ⟨rfl, T', hv3.out, hT, hk3.out⟩
end

end Go.Proofs.YtdcomiopjgcboaaGreatDoor

/-
  The code's table of pairs, by its state.
-/
namespace Go.Proofs.YtdcomiopjgcboaaGreatDoor
open Go Go.RowKit

/-- At block b, in the blocks F, stands the code's table in this state. -/
def UniqAt (w : World) (b : Nat) (F : Nat → Prop) (s : TS) : Prop := ∃ g cap T, F = (fun k => k = b ∨ k = g) ∧ UniqV w b g cap s.slots s.L.length T ∧ TInv s.slots (homeN s.slots) T s.L

theorem Places.of {n : Nat} (hp : ∃ k, n = 2 ^ k) (h8 : 8 ≤ n) (hM : n ≤ 1000000) : Places n := by
  obtain ⟨k, rfl⟩ := hp
  refine ⟨⟨k, rfl, Nat.le_of_not_lt fun h => ?_⟩, hM, h8⟩
  have : 2 ^ 63 ≤ 2 ^ k := Nat.pow_le_pow_right (by decide) h
  omega

theorem TS.Ok.new : TS.Ok ⟨[], 8⟩ := ⟨List.nodup_nil, by simp, ⟨3, rfl⟩, Nat.le_refl _⟩

theorem TS.put_no {s : TS} {e : Ent} (h : (s.get e.1).2 = true) : s.put e = s := by simp [TS.put, h]
theorem TS.put_yes {s : TS} {e : Ent} (h : (s.get e.1).2 = false) : s.put e = ⟨s.L ++ [e], if s.L.length + 1 > s.slots / 2 then 2 * s.slots else s.slots⟩ := by simp [TS.put, h]

theorem TS.get_cases (s : TS) (ap : Apart s.L) (k : Int × Int) : ((∀ e ∈ s.L, e.1 ≠ k) ∧ s.get k = (0, false)) ∨ ∃ e ∈ s.L, e.1 = k ∧ s.get k = (e.2, true) := by
  by_cases h : ∃ e ∈ s.L, e.1 = k
  · obtain ⟨e, he, rfl⟩ := h
    exact .inr ⟨e, he, rfl, TS.get_yes ap he⟩
  · have h1 : ∀ e ∈ s.L, e.1 ≠ k := fun e he hk => h ⟨e, he, hk⟩
    exact .inl ⟨h1, TS.get_no h1⟩

theorem TS.Ok.put {s : TS} (ok : s.Ok) (e : Ent) : (s.put e).Ok := by
  rcases s.get_cases ok.apart e.1 with ⟨hno, hg⟩ | ⟨x, hx, hxe, hg⟩
  · rw [TS.put_yes (by rw [hg])]
    have h1 := ok.half
    have h2 := ok.least
    obtain ⟨k, hk⟩ := ok.pow
    refine ⟨?_, ?_, ?_, ?_⟩
    · have : Apart (e :: s.L) := by
        simp only [Apart, List.map_cons, List.nodup_cons, List.mem_map, not_exists, not_and]
        exact ⟨fun x hx hk => hno x hx hk, ok.apart⟩
      exact this.perm (by have := List.perm_append_comm (l₁ := [e]) (l₂ := s.L); simpa using this)
    · show 2 * (s.L ++ [e]).length ≤ if s.L.length + 1 > s.slots / 2 then 2 * s.slots else s.slots
      rw [List.length_append]
      simp only [List.length_singleton]
      split <;> omega
    · show ∃ k, (if s.L.length + 1 > s.slots / 2 then 2 * s.slots else s.slots) = 2 ^ k
      split
      · exact ⟨k + 1, by rw [Nat.pow_succ, hk]; omega⟩
      · exact ⟨k, hk⟩
    · show 8 ≤ if s.L.length + 1 > s.slots / 2 then 2 * s.slots else s.slots
      split <;> omega
  · rw [TS.put_no (by rw [hg])]; exact ok

theorem TS.Ok.drop {s : TS} (ok : s.Ok) (k : Int × Int) : (s.drop k).Ok := by
  have h1 := ok.half
  have h2 : (s.L.filter (fun e => e.1 != k)).length ≤ s.L.length := List.length_filter_le _ _
  refine ⟨?_, ?_, ok.pow, ok.least⟩
  · exact ok.apart.sublist (List.Sublist.map _ List.filter_sublist)
  · show 2 * (s.L.filter (fun e => e.1 != k)).length ≤ s.slots
    omega

/-- Their number, and how many places they may need. -/
structure TS.Few (s : TS) (m : Nat) : Prop where
  many : s.L.length ≤ m
  slots : s.slots ≤ 8 + 4 * m

theorem TS.Few.new : TS.Few ⟨[], 8⟩ 0 := ⟨Nat.le_refl _, Nat.le_refl _⟩
theorem TS.Few.mono {s : TS} {m m' : Nat} (h : s.Few m) (hm : m ≤ m') : s.Few m' := ⟨Nat.le_trans h.many hm, by have := h.slots; omega⟩
theorem TS.Few.put {s : TS} {m : Nat} (h : s.Few m) (e : Ent) : (s.put e).Few (m + 1) := by
  have h1 := h.many
  have h2 := h.slots
  unfold TS.put
  split
  · exact h.mono (by omega)
  · refine ⟨?_, ?_⟩
    · show (s.L ++ [e]).length ≤ m + 1
      rw [List.length_append]; simp only [List.length_singleton]; omega
    · show (if s.L.length + 1 > s.slots / 2 then 2 * s.slots else s.slots) ≤ 8 + 4 * (m + 1)
      split <;> omega
theorem TS.Few.drop {s : TS} {m : Nat} (h : s.Few m) (k : Int × Int) : (s.drop k).Few m :=
  ⟨Nat.le_trans (List.length_filter_le _ _) h.many, h.slots⟩

section
variable {w w' : World} {b : Nat} {F G : Nat → Prop} {s : TS}

theorem UniqAt.keep (h : UniqAt w b F s) (hb : Keeps G w w') (hF : ∀ k, F k → ¬ G k) : UniqAt w' b F s := by
  obtain ⟨g, cap, T, rfl, h, H⟩ := h
  exact ⟨g, cap, T, rfl, h.keep hb hF, H⟩
theorem UniqAt.below (h : UniqAt w b F s) (hb : Below w.heap.size w w') : UniqAt w' b F s := h.keep (Keeps.of_below hb noBlock) (fun _ _ h => h)
theorem UniqAt.lt (h : UniqAt w b F s) (k : Nat) (hk : F k) : k < w.heap.size := by
  obtain ⟨g, cap, T, rfl, h, H⟩ := h
  rcases hk with rfl | rfl
  · exact h.ltb
  · exact h.ltg

theorem uniqNewS (w : World) : Calls Tryz.prog 45 #[] w fun e w' => e = .returned (.pointer (some ⟨w.heap.size + 1, 0, none⟩)) ∧ (∃ F, UniqAt w' (w.heap.size + 1) F ⟨[], 8⟩ ∧ ∀ k, F k → w.heap.size ≤ k) ∧ Below w.heap.size w w' := by
  refine (uniqNew w).mono fun e w' ⟨he, hR, hb⟩ => ⟨he, ⟨_, ⟨w.heap.size, 8, _, rfl, ⟨List.length_replicate, hR⟩, TInv.bare 8 (homeN 8) (fun k => homeN_lt (by decide) k)⟩, ?_⟩, hb⟩
  rintro k (rfl | rfl) <;> omega


theorem uniqGetS (h : UniqAt w b F s) (ok : s.Ok) (hM : s.slots ≤ 1000000) (k1 k2 : Int) : Calls Tryz.prog 97 #[.pointer (some ⟨b, 0, none⟩), .int .i64 k1, .int .i64 k2] w fun e w' => e = .returned (.tuple #[.int .i64 (s.get (k1, k2)).1, .bool (s.get (k1, k2)).2]) ∧ Below w.heap.size w w' := by
  obtain ⟨g, cap, T, rfl, h, H⟩ := h
  have hl := Places.of ok.pow ok.least hM
  have h1 := ok.half
  have h8 := ok.least
  obtain ⟨c, Fd⟩ := found_exists H.len H.home (by have := H.perm.length_eq; omega) (k1, k2)
  rcases H.search Fd with ⟨h2, h3⟩ | ⟨e, he, hk, h2⟩
  · have := uniqGetV h hl k1 k2 Fd h2
    rwa [TS.get_no h3]
  · have := uniqGetV h hl k1 k2 Fd h2
    have hg := TS.get_yes ok.apart he
    rw [hk] at hg
    rwa [hg]

theorem uniqPutS (h : UniqAt w b F s) (ok : s.Ok) (hM : 2 * s.slots ≤ 1000000) (k1 k2 x : Int) : Calls Tryz.prog 111 #[.pointer (some ⟨b, 0, none⟩), .int .i64 k1, .int .i64 k2, .int .i64 x] w fun e w' => e = .returned (.bool (s.putB (k1, k2))) ∧ ∃ F', UniqAt w' b F' (s.put ((k1, k2), x)) ∧ Keeps F w w' ∧ Within w F F' := by
  obtain ⟨g, cap, T, rfl, h, H⟩ := h
  have h8 := ok.least
  have hl := Places.of ok.pow ok.least (by omega)
  obtain ⟨k, hk⟩ := ok.pow
  have hl2 := Places.of (n := 2 * s.slots) ⟨k + 1, by rw [Nat.pow_succ, hk]; omega⟩ (by omega) hM
  rcases s.get_cases ok.apart (k1, k2) with ⟨hno, hg⟩ | ⟨e, he, hk, hg⟩
  · rw [TS.put_yes (e := ((k1, k2), x)) (by rw [hg])]
    unfold TS.putB
    rw [hg]
    refine (uniqPutYes h H hl hl2 ok.half k1 k2 x hno).mono fun e w' ⟨he, g', cap', n', T', hn', hv, hT, hK, hg'⟩ => ⟨he, _, ⟨g', cap', T', rfl, ?_, ?_⟩, hK, ?_⟩
    · subst hn'; rw [List.length_append]; exact hv
    · subst hn'; exact hT
    · rintro i (rfl | rfl)
      · exact .inl (.inl rfl)
      · rcases hg' with rfl | hg'
        · exact .inl (.inr rfl)
        · exact .inr hg'
  · rw [TS.put_no (e := ((k1, k2), x)) (by rw [hg])]
    unfold TS.putB
    rw [hg]
    exact (uniqPutNo h H hl ok.half k1 k2 x he hk).mono fun e w' ⟨he, hb⟩ => ⟨he, _, ⟨g, cap, T, rfl, h.below hb, H⟩, Keeps.of_below hb _, Within.refl _ _⟩

theorem uniqDropS (h : UniqAt w b F s) (ok : s.Ok) (hM : s.slots ≤ 1000000) (k1 k2 : Int) : Calls Tryz.prog 49 #[.pointer (some ⟨b, 0, none⟩), .int .i64 k1, .int .i64 k2] w fun e w' => e = .returned (.bool (s.dropB (k1, k2))) ∧ ∃ F', UniqAt w' b F' (s.drop (k1, k2)) ∧ Keeps F w w' ∧ Within w F F' := by
  obtain ⟨g, cap, T, rfl, h, H⟩ := h
  have hl := Places.of ok.pow ok.least hM
  rcases s.get_cases ok.apart (k1, k2) with ⟨hno, hg⟩ | ⟨e, he, hk, hg⟩
  · have hs : s.drop (k1, k2) = s := by unfold TS.drop; rw [filter_no hno]
    rw [hs]
    unfold TS.dropB
    rw [hg]
    exact (uniqDropNo h H hl ok.half k1 k2 hno).mono fun e w' ⟨he, hb⟩ => ⟨he, _, ⟨g, cap, T, rfl, h.below hb, H⟩, Keeps.of_below hb _, Within.refl _ _⟩
  · have hp := filter_yes ok.apart he
    obtain ⟨⟨e1, e2⟩, e3⟩ := e
    simp only at hk
    injection hk with hk1 hk2
    subst hk1 hk2
    unfold TS.dropB
    rw [hg]
    exact (uniqDropYes h H hl ok.half hp).mono fun r w' ⟨he, T', hv, hT, hK⟩ => ⟨he, _, ⟨g, cap, T', rfl, hv, hT⟩, hK, Within.refl _ _⟩
end

end Go.Proofs.YtdcomiopjgcboaaGreatDoor

/-
  Walks of package arena.
-/
namespace Go.Proofs.YtdcomiopjgcboaaGreatDoor
open Go Go.RowKit

/-- The blocks of a thing of one block and two slices. -/
def foot2 (b : Nat) (v1 v2 : Value) (k : Nat) : Prop := k = b ∨ v1.ownBlock = some k ∨ v2.ownBlock = some k

/-- At block b stands an arena of so many numbers, with these flags, and these given back. -/
structure ArenaR (w : World) (b : Nat) (v1 v2 : Value) (most : Int) (tk : List Bool) (bk : List Int) : Prop where
  row : w.heap[b]? = some (.cells #[.int .i64 most, v1, v2] 118 (0, 0))
  taken : Owns encB w v1 tk
  back : Owns encI w v2 bk
  apart1 : v1.ownBlock ≠ some b
  apart2 : v2.ownBlock ≠ some b
  apart : ∀ g, v1.ownBlock = some g → v2.ownBlock ≠ some g

theorem row_lt {w : World} {b : Nat} {o : Obj} (h : w.heap[b]? = some o) : b < w.heap.size := (Array.getElem?_eq_some_iff.1 h).1

section
variable {w w' : World} {b : Nat} {v1 v2 : Value} {most : Int} {tk : List Bool} {bk : List Int}

theorem ArenaR.lt (h : ArenaR w b v1 v2 most tk bk) : ∀ k, foot2 b v1 v2 k → k < w.heap.size := by
  rintro k (rfl | hk | hk)
  · exact row_lt h.row
  · exact h.taken.lt k hk
  · exact h.back.lt k hk

theorem ArenaR.block (h : ArenaR w b v1 v2 most tk bk) (hb : ∀ k, foot2 b v1 v2 k → w'.heap[k]? = w.heap[k]?) : ArenaR w' b v1 v2 most tk bk :=
  ⟨(hb b (.inl rfl)).trans h.row, h.taken.block fun g hg => hb g (.inr (.inl hg)), h.back.block fun g hg => hb g (.inr (.inr hg)), h.apart1, h.apart2, h.apart⟩

theorem ArenaR.keep (h : ArenaR w b v1 v2 most tk bk) {F : Nat → Prop} (hb : Keeps F w w') (hF : ∀ k, foot2 b v1 v2 k → ¬ F k) : ArenaR w' b v1 v2 most tk bk :=
  h.block fun k hk => hb.block k (h.lt k hk) (hF k hk)

theorem ArenaR.alloc (h : ArenaR w b v1 v2 most tk bk) (o : Obj) : ArenaR (w.alloc o) b v1 v2 most tk bk := h.block fun k hk => heap_alloc_old _ _ (h.lt k hk)

theorem ArenaR.cells (h : ArenaR w b v1 v2 most tk bk) : w.cell? ⟨b, 0, none⟩ = some (.int .i64 most) ∧ w.cell? ⟨b, 1, none⟩ = some v1 ∧ w.cell? ⟨b, 2, none⟩ = some v2 :=
  ⟨by rw [cell_of_row _ _ _ _ _ _ h.row]; rfl, by rw [cell_of_row _ _ _ _ _ _ h.row]; rfl, by rw [cell_of_row _ _ _ _ _ _ h.row]; rfl⟩

theorem ArenaR.free (h : ArenaR w b v1 v2 most tk bk) (j : Nat) : w.frozen? ⟨b, j, none⟩ = false := frozen_of_row _ _ _ _ _ h.row

theorem ArenaR.forms (h : ArenaR w b v1 v2 most tk bk) : ∃ a1 c1 a2 c2, v1 = .slice a1 tk.length c1 ∧ v2 = .slice a2 bk.length c2 := by
  obtain ⟨a1, c1, e1, _⟩ := h.taken.form
  obtain ⟨a2, c2, e2, _⟩ := h.back.form
  exact ⟨a1, c1, a2, c2, e1, e2⟩
end

set_option maxRecDepth 100000 in
theorem arenaMany {w : World} {b : Nat} {v1 v2 : Value} {most : Int} {tk : List Bool} {bk : List Int} (h : ArenaR w b v1 v2 most tk bk) (hb : bk.length ≤ tk.length) (ht : tk.length ≤ 20000) :
    Calls Tryz.prog 56 #[.pointer (some ⟨b, 0, none⟩)] w fun e w' => e = .returned (.int .i64 (tk.length - bk.length)) ∧ Below w.heap.size w w' := by
  obtain ⟨a1, k1, a2, k2, rfl, rfl⟩ := h.forms
  obtain ⟨c0, c1, c2⟩ := h.cells
  clear h
  have h1 : (0 : Int) ≤ (tk.length : Int) - bk.length := by omega
  have h2 : (tk.length : Int) - bk.length ≤ 20000 := by omega
  go_enter Tryz.func56, Tryz.ntmps56
  go_wp2
  go_region
  go_wp2
  go_ret
  exact ⟨rfl, by go_grown⟩

/-- Is it taken? -/
def flagAt (tk : List Bool) (n : Int) : Bool := decide (0 ≤ n) && tk.getD n.toNat false

set_option maxRecDepth 100000 in
theorem arenaHas {w : World} {b : Nat} {v1 v2 : Value} {most : Int} {tk : List Bool} {bk : List Int} (h : ArenaR w b v1 v2 most tk bk) (n : Int) :
    Calls Tryz.prog 107 #[.pointer (some ⟨b, 0, none⟩), .int .i64 n] w fun e w' => e = .returned (.bool (flagAt tk n)) ∧ w = w' := by
  by_cases h0 : 0 ≤ n
  · obtain ⟨m, rfl⟩ := Int.eq_ofNat_of_zero_le h0
    by_cases h1 : m < tk.length
    · obtain ⟨g, cap, rfl, hc, hm⟩ := h.taken.some (by omega)
      have e : flagAt tk (m : Int) = tk[m] := by simp [flagAt, List.getD, h1]
      rw [e]
      have cm := h.taken.boolAt m h1
      obtain ⟨c0, c1, c2⟩ := h.cells
      have hlt : (m : Int) < (tk.length : Int) := by omega
      clear h
      go_enter Tryz.func107, Tryz.ntmps107
      go_wp2
      go_ret
      exact ⟨rfl, rfl⟩
    · have e : flagAt tk (m : Int) = false := by simp [flagAt, List.getD, h1]
      rw [e]
      obtain ⟨a1, k1, a2, k2, rfl, rfl⟩ := h.forms
      obtain ⟨c0, c1, c2⟩ := h.cells
      have hlt : ¬ (m : Int) < (tk.length : Int) := by omega
      clear h
      go_enter Tryz.func107, Tryz.ntmps107
      go_wp2
      go_ret
      exact ⟨rfl, rfl⟩
  · have e : flagAt tk n = false := by simp [flagAt, h0]
    rw [e]
    clear h
    go_enter Tryz.func107, Tryz.ntmps107
    go_wp2
    go_ret
    exact ⟨rfl, rfl⟩

section
variable {w w' : World} {b : Nat} {v1 v2 : Value} {most : Int} {tk : List Bool} {bk : List Int}

/-- The second slice stored anew. -/
theorem ArenaR.setBack (h : ArenaR w b v1 v2 most tk bk) {v : Value} {l : List Int} (hv : Owns encI w v l) (h1 : v.ownBlock ≠ some b) (h2 : ∀ g, v1.ownBlock = some g → v.ownBlock ≠ some g) : ArenaR (w.setCell ⟨b, 2, none⟩ v) b v1 v most tk l :=
  ⟨heap_setCell_same w b 2 _ _ v h.row, h.taken.block fun g hg => Below.heap_setCell _ _ _ _ (fun e => h.apart1 (by rw [hg, e])), hv.block fun g hg => Below.heap_setCell _ _ _ _ (fun e => h1 (by rw [hg, e])), h.apart1, h1, h2⟩
theorem ArenaR.setTaken (h : ArenaR w b v1 v2 most tk bk) {v : Value} {l : List Bool} (hv : Owns encB w v l) (h1 : v.ownBlock ≠ some b) (h2 : ∀ g, v.ownBlock = some g → v2.ownBlock ≠ some g) : ArenaR (w.setCell ⟨b, 1, none⟩ v) b v v2 most l bk :=
  ⟨heap_setCell_same w b 1 _ _ v h.row, hv.block fun g hg => Below.heap_setCell _ _ _ _ (fun e => h1 (by rw [hg, e])), h.back.block fun g hg => Below.heap_setCell _ _ _ _ (fun e => h.apart2 (by rw [hg, e])), h1, h.apart2, h2⟩
/-- A flag written. -/
theorem ArenaR.setFlag {g c n : Nat} (h : ArenaR w b (.slice (some ⟨g, 0, none⟩) tk.length c) v2 most tk bk) (hn : n < tk.length) (x : Bool) : ArenaR (w.setCell ⟨g, n, none⟩ (.bool x)) b (.slice (some ⟨g, 0, none⟩) tk.length c) v2 most (tk.set n x) bk :=
  ⟨(Below.heap_setCell _ _ _ _ (fun e => h.apart1 (by rw [e]; rfl))).trans h.row, h.taken.put rfl rfl hn, h.back.block fun k hk => Below.heap_setCell _ _ _ _ (fun e => h.apart g rfl (by rw [hk, e])), h.apart1, h.apart2, h.apart⟩
end

set_option maxRecDepth 100000 in
set_option maxHeartbeats 1000000 in
theorem arenaTakeAgain {w : World} {b : Nat} {v1 v2 : Value} {most : Int} {tk : List Bool} {bk : List Int} {n : Nat} (h : ArenaR w b v1 v2 most tk (bk ++ [(n : Int)])) (hn : n < tk.length) (hb : bk.length < 1000000) :
    Calls Tryz.prog 118 #[.pointer (some ⟨b, 0, none⟩)] w fun e w' => e = .returned (.int .i64 n) ∧ ∃ v1' v2', ArenaR w' b v1' v2' most (tk.set n true) bk ∧ Keeps (foot2 b v1 v2) w w' ∧ Within w (foot2 b v1 v2) (foot2 b v1' v2') := by
  have hl : (bk ++ [(n : Int)]).length = bk.length + 1 := by simp
  obtain ⟨g1, k1, rfl, hc1, hm1⟩ := h.taken.some (by omega)
  obtain ⟨g2, k2, rfl, hc2, hm2⟩ := h.back.some (by omega)
  have cn : w.cell? ⟨g2, bk.length, none⟩ = some (.int .i64 (n : Int)) := by
    have := h.back.intAt bk.length (by omega)
    simpa using this
  have ht := h.back.take (n := bk.length) (by omega)
  rw [List.take_left' rfl] at ht
  have hS := h.setBack ht h.apart2 h.apart
  have hF := hS.setFlag hn true
  have z1 := h.free 2
  have z2 : (w.setCell ⟨b, 2, none⟩ (.slice (some ⟨g2, 0, none⟩) bk.length k2)).frozen? ⟨g1, n, none⟩ = false := hS.taken.free n
  have cf := hS.taken.boolAt n hn
  have cb := hS.cells.2.1
  obtain ⟨c0, c1, c2⟩ := h.cells
  have hk : Keeps (foot2 b (.slice (some ⟨g1, 0, none⟩) tk.length k1) (.slice (some ⟨g2, 0, none⟩) (bk ++ [(n : Int)]).length k2)) w ((w.setCell ⟨b, 2, none⟩ (.slice (some ⟨g2, 0, none⟩) bk.length k2)).setCell ⟨g1, n, none⟩ (.bool true)) :=
    (Keeps.of_setCell _ w ⟨b, 2, none⟩ _ (.inl rfl)).and (Keeps.of_setCell _ _ ⟨g1, n, none⟩ _ (.inr (.inl rfl)))
  have HF := Lib.hid hF
  have HK := Lib.hid hk
  clear h ht hS hF hk
  rw [hl] at *
  have hlt : (n : Int) < (tk.length : Int) := by omega
  have hn0 : (0 : Int) ≤ (n : Int) := by omega
  have hb0 : (bk.length : Int) < 1000000 := by omega
  go_enter Tryz.func118, Tryz.ntmps118
  go_wp2
  go_ret
  exact ⟨rfl, _, _, HF.out, HK.out, fun k hk => .inl hk⟩

section
variable {w w' : World} {b : Nat} {v1 v2 v' : Value} {most : Int} {tk : List Bool} {bk : List Int}

theorem ArenaR.appTaken (h : ArenaR w b v1 v2 most tk bk) {l : List Bool} (ho : Owns encB w' v' l) (hg : w.grownBy w' v1.ownBlock) (hat : v'.ownBlock = v1.ownBlock ∨ v'.ownBlock = some w.heap.size) :
    w'.cell? ⟨b, 1, none⟩ = some v1 ∧ w'.frozen? ⟨b, 1, none⟩ = false ∧ ArenaR (w'.setCell ⟨b, 1, none⟩ v') b v' v2 most l bk ∧ Keeps (foot2 b v1 v2) w (w'.setCell ⟨b, 1, none⟩ v') ∧ Within w (foot2 b v1 v2) (foot2 b v' v2) := by
  have hrow : w'.heap[b]? = some (.cells #[.int .i64 most, v1, v2] 118 (0, 0)) := (hg.block b (row_lt h.row) (fun e => h.apart1 e.symm)).trans h.row
  have hb1 : v'.ownBlock ≠ some b := fun e => by
    rcases hat with hat | hat
    · exact h.apart1 (hat ▸ e)
    · have := row_lt h.row; rw [hat] at e; injection e; omega
  have hap : ∀ g, v'.ownBlock = some g → v2.ownBlock ≠ some g := fun g hg1 e => by
    rcases hat with hat | hat
    · exact h.apart g (hat ▸ hg1) e
    · have := h.back.lt g e; rw [hat] at hg1; injection hg1; omega
  refine ⟨by rw [cell_of_row _ _ _ _ _ _ hrow]; rfl, frozen_of_row _ _ _ _ _ hrow, ⟨heap_setCell_same w' b 1 _ _ v' hrow, ho.block fun g hg => Below.heap_setCell _ _ _ _ (fun e => hb1 (by rw [hg, e])),
    (h.back.block fun g hg1 => hg.block g (h.back.lt g hg1) (fun e => h.apart g e.symm hg1)).block fun g hg => Below.heap_setCell _ _ _ _ (fun e => h.apart2 (by rw [hg, e])), hb1, h.apart2, hap⟩,
    (Keeps.of_grown hg (fun k hk => .inr (.inl hk))).and (Keeps.of_setCell _ _ ⟨b, 1, none⟩ _ (.inl rfl)), ?_⟩
  rintro k (rfl | hk | hk)
  · exact .inl (.inl rfl)
  · rcases hat with hat | hat
    · exact .inl (.inr (.inl (hat ▸ hk)))
    · rw [hat] at hk; injection hk with hk; exact .inr (by omega)
  · exact .inl (.inr (.inr hk))

theorem ArenaR.appBack (h : ArenaR w b v1 v2 most tk bk) {l : List Int} (ho : Owns encI w' v' l) (hg : w.grownBy w' v2.ownBlock) (hat : v'.ownBlock = v2.ownBlock ∨ v'.ownBlock = some w.heap.size) :
    w'.cell? ⟨b, 2, none⟩ = some v2 ∧ w'.frozen? ⟨b, 2, none⟩ = false ∧ ArenaR (w'.setCell ⟨b, 2, none⟩ v') b v1 v' most tk l ∧ Keeps (foot2 b v1 v2) w (w'.setCell ⟨b, 2, none⟩ v') ∧ Within w (foot2 b v1 v2) (foot2 b v1 v') := by
  have hrow : w'.heap[b]? = some (.cells #[.int .i64 most, v1, v2] 118 (0, 0)) := (hg.block b (row_lt h.row) (fun e => h.apart2 e.symm)).trans h.row
  have hb1 : v'.ownBlock ≠ some b := fun e => by
    rcases hat with hat | hat
    · exact h.apart2 (hat ▸ e)
    · have := row_lt h.row; rw [hat] at e; injection e; omega
  have hap : ∀ g, v1.ownBlock = some g → v'.ownBlock ≠ some g := fun g hg1 e => by
    rcases hat with hat | hat
    · exact h.apart g hg1 (hat ▸ e)
    · have := h.taken.lt g hg1; rw [hat] at e; injection e; omega
  refine ⟨by rw [cell_of_row _ _ _ _ _ _ hrow]; rfl, frozen_of_row _ _ _ _ _ hrow, ⟨heap_setCell_same w' b 2 _ _ v' hrow,
    (h.taken.block fun g hg1 => hg.block g (h.taken.lt g hg1) (fun e => h.apart g hg1 e.symm)).block fun g hg => Below.heap_setCell _ _ _ _ (fun e => h.apart1 (by rw [hg, e])),
    ho.block fun g hg => Below.heap_setCell _ _ _ _ (fun e => hb1 (by rw [hg, e])), h.apart1, hb1, hap⟩,
    (Keeps.of_grown hg (fun k hk => .inr (.inr hk))).and (Keeps.of_setCell _ _ ⟨b, 2, none⟩ _ (.inl rfl)), ?_⟩
  rintro k (rfl | hk | hk)
  · exact .inl (.inl rfl)
  · exact .inl (.inr (.inl hk))
  · rcases hat with hat | hat
    · exact .inl (.inr (.inr (hat ▸ hk)))
    · rw [hat] at hk; injection hk with hk; exact .inr (by omega)
end

set_option maxRecDepth 100000 in
set_option maxHeartbeats 1000000 in
theorem arenaTakeNew {w : World} {b : Nat} {v1 v2 : Value} {most : Int} {tk : List Bool} {bk : List Int} (h : ArenaR w b v1 v2 most tk bk) (ht : tk.length ≤ 20000) :
    Calls Tryz.prog 119 #[.pointer (some ⟨b, 0, none⟩)] w fun e w' => e = .returned (.int .i64 tk.length) ∧ ∃ v1' v2', ArenaR w' b v1' v2' most (tk ++ [true]) bk ∧ Keeps (foot2 b v1 v2) w w' ∧ Within w (foot2 b v1 v2) (foot2 b v1' v2') := by
  have hA := h.alloc (.cells #[.bool true] 4)
  have hsrc := oneB w true w.heap.size rfl
  have hlen : tk.length + [true].length ≤ 1000000 := by simp; omega
  have hl : (tk ++ [true]).length = tk.length + 1 := by simp
  obtain ⟨a1, k1, a2, k2, rfl, rfl⟩ := h.forms
  obtain ⟨c0, c1, c2⟩ := h.cells
  have hkA := Keeps.of_alloc (foot2 b (.slice a1 tk.length k1) (.slice a2 bk.length k2)) w (.cells #[.bool true] 4)
  have hsz : w.heap.size ≤ (w.alloc (.cells #[.bool true] 4)).heap.size := hkA.size
  clear h
  go_enter Tryz.func119, Tryz.ntmps119
  go_wp2_with (at_builtin; refine appendB rfl (.tmp 13) (.tmp 14) rfl _ _ tk [true] rfl hA.taken rfl hsrc hlen ?_; intro v' w2 hown hgr hat; obtain ⟨d1, z1, hR, hK, hW⟩ := hA.appTaken hown hgr hat; obtain ⟨a', k', e', _⟩ := hown.form; rw [hl] at e'; subst e'; clear hown hgr hat)
  go_ret
  exact ⟨rfl, _, _, hR, hkA.and hK, fun k hk => (hW k hk).imp id (fun e => Nat.le_trans hsz e)⟩

set_option maxRecDepth 100000 in
set_option maxHeartbeats 1000000 in
theorem arenaGive {w : World} {b : Nat} {v1 v2 : Value} {most : Int} {tk : List Bool} {bk : List Int} (h : ArenaR w b v1 v2 most tk bk) (n : Int) (hb : bk.length ≤ 20000) :
    Calls Tryz.prog 92 #[.pointer (some ⟨b, 0, none⟩), .int .i64 n] w fun e w' => 
      (flagAt tk n = false → e = .returned (.iface 63 (.int .i64 1)) ∧ w = w') ∧
      (flagAt tk n = true → e = .returned .nilIface ∧ ∃ v1' v2', ArenaR w' b v1' v2' most (tk.set n.toNat false) (bk ++ [n]) ∧ Keeps (foot2 b v1 v2) w w' ∧ Within w (foot2 b v1 v2) (foot2 b v1' v2')) := by
  go_enter Tryz.func92, Tryz.ntmps92
  go_wp2_with fail
  refine (arenaHas h n).mono ?_
  rintro e w1 ⟨rfl, rfl⟩
  cases hf : flagAt tk n
  · clear h
    go_wp2
    go_ret
    exact ⟨fun _ => ⟨rfl, rfl⟩, fun h => by rw [hf] at h; cases h⟩
  · obtain ⟨m, rfl, hm⟩ : ∃ m : Nat, n = (m : Int) ∧ m < tk.length := by
      simp only [flagAt, Bool.and_eq_true, decide_eq_true_eq] at hf
      refine ⟨n.toNat, by omega, ?_⟩
      rcases Nat.lt_or_ge n.toNat tk.length with h1 | h1
      · exact h1
      · have := hf.2; rw [List.getD, List.getElem?_eq_none h1] at this; cases this
    obtain ⟨g1, k1, e1, hc1, hm1⟩ := h.taken.some (by omega)
    subst e1
    have hF := h.setFlag hm false
    have hk1 := Keeps.of_setCell (foot2 b (.slice (some ⟨g1, 0, none⟩) tk.length k1) v2) w ⟨g1, m, none⟩ (.bool false) (.inr (.inl rfl))
    have cf := h.taken.boolAt m hm
    have z1 := h.taken.free m
    obtain ⟨c0, c1, c2⟩ := h.cells
    obtain ⟨_, _, a2, k2, _, e2⟩ := h.forms
    subst e2
    have hlt : (m : Int) < (tk.length : Int) := by omega
    have hm0 : (0 : Int) ≤ (m : Int) := by omega
    have HS := Lib.hid hk1.size
    have HF := Lib.hid hF
    have HK := Lib.hid hk1
    have d2 := hF.cells.2.2
    clear h hF hk1
    generalize hw : w.setCell ⟨g1, m, none⟩ (.bool false) = W at *
    have hA := HF.out.alloc (.cells #[.int .i64 (m : Int)] 3)
    have hkA := Keeps.of_alloc (foot2 b (.slice (some ⟨g1, 0, none⟩) tk.length k1) (.slice a2 bk.length k2)) W (.cells #[.int .i64 (m : Int)] 3)
    have hsrc := oneI W (m : Int) W.heap.size rfl
    have hlen : bk.length + [(m : Int)].length ≤ 1000000 := by simp; omega
    have hl : (bk ++ [(m : Int)]).length = bk.length + 1 := by simp
    go_wp2_with (at_builtin; refine appendI rfl (.tmp 20) (.tmp 22) rfl _ _ bk [(m : Int)] rfl hA.back rfl hsrc hlen ?_; intro v' w2 hown hgr hat; obtain ⟨q1, z1, hR, hK, hW⟩ := hA.appBack hown hgr hat; obtain ⟨a', k', e', _⟩ := hown.form; rw [hl] at e'; subst e'; clear hown hgr hat)
    go_ret
    exact ⟨(fun h => by rw [hf] at h; cases h), fun _ => ⟨rfl, _, _, hR, (HK.out.and hkA).and hK, fun k hk => (hW k hk).imp id (fun e => by have := hkA.size; have := HS.out; omega)⟩⟩

set_option maxRecDepth 100000 in
theorem arenaNew (most : Int) (w : World) (h0 : 0 ≤ most) (h1 : most ≤ 20000) :
    Calls Tryz.prog 44 #[.int .i64 most] w fun e w' => e = .returned (.pointer (some ⟨w.heap.size, 0, none⟩)) ∧ ArenaR w' w.heap.size (.slice none 0 0) (.slice none 0 0) most [] [] ∧ Below w.heap.size w w' := by
  have h2 : ¬ most < 0 := by omega
  have h3 : ¬ 20000 < most := by omega
  go_enter Tryz.func44, Tryz.ntmps44
  go_wp2
  go_ret
  exact ⟨rfl, ⟨heap_alloc_new _ _, Owns.nil _ _, Owns.nil _ _, (fun h => by cases h), (fun h => by cases h), (fun _ h => by cases h)⟩, by go_grown⟩

set_option maxRecDepth 100000 in
theorem arenaNo (most : Int) (w : World) (h : most < 0 ∨ 20000 < most) :
    Calls Tryz.prog 44 #[.int .i64 most] w fun e w' => e = .returned (.pointer none) ∧ w = w' := by
  by_cases h0 : most < 0
  · go_enter Tryz.func44, Tryz.ntmps44
    go_wp2
    go_ret
    exact ⟨rfl, rfl⟩
  · have h1 : 20000 < most := by omega
    go_enter Tryz.func44, Tryz.ntmps44
    go_wp2
    go_ret
    exact ⟨rfl, rfl⟩

theorem arenaMany_sub {W : World} {b : Nat} {v1 v2 : Value} {most : Int} {tk : List Bool} {bk : List Int} (h : ArenaR W b v1 v2 most tk bk) (hb : bk.length ≤ tk.length) (ht : tk.length ≤ 20000) (u : Sub W) :
    Calls Tryz.prog 56 #[.pointer (some ⟨b, 0, none⟩)] u.1 fun e w'' => e = .returned (.int .i64 (tk.length - bk.length)) ∧ ∃ x : Sub W, w'' = x.1 :=
  (arenaMany (h.keep (F := noBlock) (Keeps.of_below u.2 _) (fun _ _ h => h)) hb ht).mono fun _ w' ⟨he, hw⟩ => ⟨he, ⟨w', u.2.trans (hw.mono u.2.size)⟩, rfl⟩

set_option maxRecDepth 100000 in
set_option maxHeartbeats 1000000 in
theorem arenaTake_full {w : World} {b : Nat} {v1 v2 : Value} {most : Int} {tk : List Bool} {bk : List Int} (h : ArenaR w b v1 v2 most tk bk) (hb : bk.length ≤ tk.length) (ht : tk.length ≤ 20000) (hf : (tk.length : Int) - bk.length = most) :
    Calls Tryz.prog 98 #[.pointer (some ⟨b, 0, none⟩)] w fun e w' => e = .returned (.tuple #[.int .i64 0, .iface 63 (.int .i64 2)]) ∧ Below w.heap.size w w' := by
  have c0 : ∀ u : Sub w, u.1.cell? ⟨b, 0, none⟩ = some (.int .i64 most) := fun u => (h.keep (F := noBlock) (Keeps.of_below u.2 _) (fun _ _ h => h)).cells.1
  have hM := arenaMany_sub h hb ht
  rw [hf] at hM
  clear h hf
  go_enter Tryz.func98, Tryz.ntmps98
  go_wp2
  refine wp_region_quiet_all (C := fun w' => ∃ u : Sub w, w' = u.1) (by kernel_rfl) (by kernel_rfl) (InSub.drew w) ?_
  go_big_quiet_step (fail)
  go_big_quiet_step (exact hM _)
  iterate 5 (go_big_quiet_step (fail))
  refine wpQuiet_nil ?_
  clear c0 hM
  intro w' hw'
  obtain ⟨u, rfl⟩ := hw'
  have hk := u.2
  generalize u.1 = w1 at *
  go_wp2
  go_ret2
  exact ⟨rfl, hk⟩

set_option maxRecDepth 100000 in
set_option maxHeartbeats 1000000 in
theorem arenaTake_new {w : World} {b : Nat} {v1 v2 : Value} {most : Int} {tk : List Bool} (h : ArenaR w b v1 v2 most tk []) (ht : tk.length ≤ 20000) (hf : (tk.length : Int) ≠ most) :
    Calls Tryz.prog 98 #[.pointer (some ⟨b, 0, none⟩)] w fun e w' => e = .returned (.tuple #[.int .i64 tk.length, .nilIface]) ∧ ∃ v1' v2', ArenaR w' b v1' v2' most (tk ++ [true]) [] ∧ Keeps (foot2 b v1 v2) w w' ∧ Within w (foot2 b v1 v2) (foot2 b v1' v2') := by
  have hfb : ((tk.length : Int) == most) = false := by rw [beq_eq_false_iff_ne]; omega
  have c0 : ∀ u : Sub w, u.1.cell? ⟨b, 0, none⟩ = some (.int .i64 most) := fun u => (h.keep (F := noBlock) (Keeps.of_below u.2 _) (fun _ _ h => h)).cells.1
  have hM := arenaMany_sub h (Nat.zero_le _) ht
  have H := Lib.hid h
  clear h
  go_enter Tryz.func98, Tryz.ntmps98
  go_wp2
  refine wp_region_quiet_all (C := fun w' => ∃ u : Sub w, w' = u.1) (by kernel_rfl) (by kernel_rfl) (InSub.drew w) ?_
  go_big_quiet_step (fail)
  go_big_quiet_step (exact hM _)
  iterate 5 (go_big_quiet_step (fail))
  refine wpQuiet_nil ?_
  clear c0 hM
  intro w' hw'
  obtain ⟨u, rfl⟩ := hw'
  have hk := u.2
  generalize u.1 = w1 at *
  have h1 := H.out.keep (F := noBlock) (Keeps.of_below hk _) (fun _ _ h => h)
  clear H
  obtain ⟨a1, k1, a2, k2, rfl, rfl⟩ := h1.forms
  obtain ⟨c0, c1, c2⟩ := h1.cells
  go_wp2_with fail
  refine (arenaTakeNew h1 ht).mono ?_
  rintro e w2 ⟨rfl, v1', v2', hR, hK, hW⟩
  clear c0 c1 c2 h1
  go_wp2
  go_ret2
  exact ⟨rfl, v1', v2', hR, (Keeps.of_below hk _).and hK, fun k h => (hW k h).imp id (fun e => Nat.le_trans hk.size e)⟩

set_option maxRecDepth 100000 in
set_option maxHeartbeats 1000000 in
theorem arenaTake_again {w : World} {b : Nat} {v1 v2 : Value} {most : Int} {tk : List Bool} {bk : List Int} {n : Nat} (h : ArenaR w b v1 v2 most tk (bk ++ [(n : Int)])) (hb : bk.length < tk.length) (hn : n < tk.length) (ht : tk.length ≤ 20000) (hf : (tk.length : Int) - (bk.length + 1) ≠ most) :
    Calls Tryz.prog 98 #[.pointer (some ⟨b, 0, none⟩)] w fun e w' => e = .returned (.tuple #[.int .i64 n, .nilIface]) ∧ ∃ v1' v2', ArenaR w' b v1' v2' most (tk.set n true) bk ∧ Keeps (foot2 b v1 v2) w w' ∧ Within w (foot2 b v1 v2) (foot2 b v1' v2') := by
  have hl : (bk ++ [(n : Int)]).length = bk.length + 1 := by simp
  have hfb : ((tk.length : Int) - ((bk.length : Int) + 1) == most) = false := by rw [beq_eq_false_iff_ne]; omega
  have hpos : (0 : Int) < (bk.length : Int) + 1 := by omega
  have c0 : ∀ u : Sub w, u.1.cell? ⟨b, 0, none⟩ = some (.int .i64 most) := fun u => (h.keep (F := noBlock) (Keeps.of_below u.2 _) (fun _ _ h => h)).cells.1
  have hM := arenaMany_sub h (by rw [hl]; omega) ht
  rw [hl] at hM
  have H := Lib.hid h
  clear h
  go_enter Tryz.func98, Tryz.ntmps98
  go_wp2
  refine wp_region_quiet_all (C := fun w' => ∃ u : Sub w, w' = u.1) (by kernel_rfl) (by kernel_rfl) (InSub.drew w) ?_
  go_big_quiet_step (fail)
  go_big_quiet_step (exact hM _)
  iterate 5 (go_big_quiet_step (fail))
  refine wpQuiet_nil ?_
  clear c0 hM
  intro w' hw'
  obtain ⟨u, rfl⟩ := hw'
  have hk := u.2
  generalize u.1 = w1 at *
  have h1 := H.out.keep (F := noBlock) (Keeps.of_below hk _) (fun _ _ h => h)
  clear H
  obtain ⟨a1, k1, a2, k2, rfl, rfl⟩ := h1.forms
  obtain ⟨c0, c1, c2⟩ := h1.cells
  rw [hl] at c2
  go_wp2_with fail
  refine (arenaTakeAgain h1 hn (by omega)).mono ?_
  rintro e w2 ⟨rfl, v1', v2', hR, hK, hW⟩
  clear c0 c1 c2 h1
  go_wp2
  go_ret2
  exact ⟨rfl, v1', v2', hR, (Keeps.of_below hk _).and hK, fun k h => (hW k h).imp id (fun e => Nat.le_trans hk.size e)⟩

end Go.Proofs.YtdcomiopjgcboaaGreatDoor
