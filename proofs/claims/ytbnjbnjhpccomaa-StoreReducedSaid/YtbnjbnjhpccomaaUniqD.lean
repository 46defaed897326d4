/-
  Walks of package uniq: double.
-/
import Derived.Test.YtbnjbnjhpccomaaUniqG
namespace Go.Proofs.Ytbnjbnjhpccomaa
open Go Go.RowKit

/-- Block p is a variable that holds a place. -/
def PlaceAt (w : World) (p : Nat) (x0 : Bool) (x1 x2 x3 : Int) : Prop := w.heap[p]? = some (.cells #[.bool x0, .int .i64 x1, .int .i64 x2, .int .i64 x3] 96 (0, 0))
section
variable {w w' : World} {p : Nat} {x0 : Bool} {x1 x2 x3 : Int}
theorem PlaceAt.keep (h : PlaceAt w p x0 x1 x2 x3) (hb : Below w.heap.size w w') : PlaceAt w' p x0 x1 x2 x3 := (hb.block p (row_lt' h)).trans h
theorem PlaceAt.cells (h : PlaceAt w p x0 x1 x2 x3) : w.cell? ⟨p, 0, none⟩ = some (.bool x0) ∧ w.cell? ⟨p, 1, none⟩ = some (.int .i64 x1) ∧ w.cell? ⟨p, 2, none⟩ = some (.int .i64 x2) ∧ w.cell? ⟨p, 3, none⟩ = some (.int .i64 x3) := by
  refine ⟨?_, ?_, ?_, ?_⟩ <;> (rw [cell_of_row _ _ _ _ _ _ h]; rfl)
theorem PlaceAt.new (w : World) (x0 : Bool) (x1 x2 x3 : Int) : PlaceAt (w.alloc (.cells #[.bool x0, .int .i64 x1, .int .i64 x2, .int .i64 x3] 96)) w.heap.size x0 x1 x2 x3 := heap_alloc_new _ _
end

theorem content_take_none {T : List (Option Ent)} {k : Nat} (h : T[k]? = some none) : content (T.take (k + 1)) = content (T.take k) := by
  obtain ⟨hk, h⟩ := List.getElem?_eq_some_iff.1 h
  rw [List.take_succ_eq_append_getElem hk, content_append, h]
  simp [content]
theorem content_take_some {T : List (Option Ent)} {k : Nat} {e : Ent} (h : T[k]? = some (some e)) : content (T.take (k + 1)) = content (T.take k) ++ [e] := by
  obtain ⟨hk, h⟩ := List.getElem?_eq_some_iff.1 h
  rw [List.take_succ_eq_append_getElem hk, content_append, h]
  rfl
theorem content_split (T : List (Option Ent)) (k : Nat) : content T = content (T.take k) ++ content (T.drop k) := by rw [← content_append, List.take_append_drop]
/-- What lies further behind is not yet laid. -/
theorem content_free {T : List (Option Ent)} (h : Apart (content T)) {k : Nat} {e : Ent} (hk : T[k]? = some (some e)) : ∀ x ∈ content (T.take k), x.1 ≠ e.1 := by
  intro x hx he
  obtain ⟨i, hi⟩ := mem_content.1 hx
  have hik : i < k := by
    have := (List.getElem?_eq_some_iff.1 hi).1
    rw [List.length_take] at this; omega
  rw [List.getElem?_take, if_pos hik] at hi
  have := h.place hi hk he
  omega

set_option maxRecDepth 100000 in
set_option maxHeartbeats 1000000 in
theorem uniqDoubleV {w : World} {b g cap n : Nat} {many : Int} {T : List (Option Ent)} {L : List Ent} (h : UniqV w b g cap n many T) (H : TInv n (homeN n) T L) (hl : Places n) (hl2 : Places (2 * n)) :
    Calls Try.prog 75 #[.pointer (some ⟨b, 0, none⟩)] w fun e w' => e = .returned (.tuple #[]) ∧ ∃ g' T', w.heap.size ≤ g' ∧ UniqV w' b g' (2 * n) (2 * n) many T' ∧ TInv (2 * n) (homeN (2 * n)) T' L ∧ Keeps (fun k => k = b) w w' := by
  have h8 := hl.least
  have hM := hl2.most
  have hbw := h.ltb
  have hm : (Instr.makeSlice 86 (.int .i64 (2 * (n : Int))) (.int .i64 (2 * (n : Int)))).run Try.prog w = .ok (.slice (some ⟨w.heap.size, 0, none⟩) (2 * n) (2 * n)) (w.alloc (.cells (madeCells encP.zero.cells (2 * n * encP.size)) encP.elem)) := by
    have := run_made encP (2 * n) (by omega) w
    rwa [Int.natCast_mul] at this
  have ho := owns_made encP none rfl (2 * n) (by omega) w
  have hb : Below w.heap.size w (w.alloc (.cells (madeCells encP.zero.cells (2 * n * encP.size)) encP.elem)) := by go_grown
  generalize w.alloc (.cells (madeCells encP.zero.cells (2 * n * encP.size)) encP.elem) = W at *
  have h1 := h.below hb
  obtain ⟨c0, c1⟩ := h.cells
  obtain ⟨d0, d1⟩ := h1.cells
  have y0 := h1.free 0
  have h2 := h1.setPlaces ho List.length_replicate (by omega)
  have hk2 : Keeps (fun k => k = b) w (W.setCell ⟨b, 0, none⟩ (.slice (some ⟨w.heap.size, 0, none⟩) (2 * n) (2 * n))) := (Keeps.of_below hb _).and (Keeps.of_setCell _ W ⟨b, 0, none⟩ _ rfl)
  have hI0 := TInv.bare (2 * n) (homeN (2 * n)) (fun k => homeN_lt (by omega) k)
  have hbg := h.ne
  have hgw := h.ltg
  have hown := h.owns
  have hlen := h.len
  clear h h1
  replace h2 := Lib.hid h2
  replace hk2 := Lib.hid hk2
  replace ho := Lib.hid ho
  go_enter Try.func75, Try.ntmps75
  go_wp2
  go_loopw [18] (fun i wr => ∃ (k : Nat) (T' : List (Option Ent)), k ≤ n ∧ i = .int .i64 k ∧ UniqV wr b w.heap.size (2 * n) (2 * n) many T' ∧ TInv (2 * n) (homeN (2 * n)) T' (content (T.take k)) ∧ Keeps (fun k => k = b) w wr) (fun i _ => n - (intOf i).toNat)
  case atStart => exact ⟨0, _, Nat.zero_le _, rfl, h2.out, by rw [List.take_zero]; exact hI0, hk2.out⟩
  case round =>
    obtain ⟨k, T', hk, rfl, hv, hI, hK⟩ := hrel
    clear h2 hk2 ho hI0
    by_cases hlt : k < n
    · obtain ⟨a, ha⟩ : ∃ a, T[k]? = some a := ⟨T[k]'(by omega), List.getElem?_eq_getElem (by omega)⟩
      have hold : Owns encP wr (.slice (some ⟨g, 0, none⟩) n cap) T := hown.keep hK (fun j hj => by injection hj with hj; subst hj; exact hbg)
      obtain ⟨p1, p2, hcs⟩ := entCells_form a
      have hq : wr.cell? ⟨g, k * 4, none⟩ = some (.bool a.isSome) ∧ wr.cell? ⟨g, k * 4 + 1, none⟩ = some (.int .i64 p1) ∧ wr.cell? ⟨g, k * 4 + 2, none⟩ = some (.int .i64 p2) ∧ wr.cell? ⟨g, k * 4 + 3, none⟩ = some (.int .i64 (placeN a)) := by
        have := placeAt (cap := cap) (by rw [hlen]; exact hold) k a ha
        rwa [hcs] at this
      obtain ⟨q0, q1, q2, q3⟩ := hq
      have hk0 : (0 : Int) ≤ (k : Int) := by omega
      have hk1 : (k : Int) < (n : Int) := by omega
      clear hold
      cases a with
      | none =>
        have HT := Lib.hid (content_take_none ha)
        simp only [Option.isSome_none] at *
        clear hcs ha
        generalize placeN none = p3 at *
        go_wp2
        refine ⟨⟨k + 1, T', hlt, by go_num, hv.below ((Below.refl _ _).alloc (Nat.le_refl _) _), by rw [HT.out]; exact hI, hK.and (Keeps.of_alloc _ _ _)⟩, ?_⟩
        simp [intOf]; omega
      | some e =>
        have HT := Lib.hid (content_take_some ha)
        have hfree := content_free H.apartC ha
        obtain ⟨⟨e1, e2⟩, e3⟩ := e
        simp only [Option.isSome_some, entCells, placeN, List.cons.injEq, Value.int.injEq, true_and, and_true] at *
        obtain ⟨rfl, rfl⟩ := hcs
        clear ha
        have hA := hv.below ((Below.refl _ _).alloc (Nat.le_refl _) (.cells #[.bool true, .int .i64 e1, .int .i64 e2, .int .i64 e3] 96))
        have hKA := hK.and (Keeps.of_alloc _ wr (.cells #[.bool true, .int .i64 e1, .int .i64 e2, .int .i64 e3] 96))
        have hP := PlaceAt.new wr true e1 e2 e3
        have hcl : (content T').length < 2 * n := by
          have h1 := hI.perm.length_eq
          have h2 := content_le (T.take k)
          rw [List.length_take] at h2
          omega
        obtain ⟨c, F⟩ := found_exists hI.len hI.home hcl (e1, e2)
        have hno : T'[onBy (2 * n) (homeN (2 * n) (e1, e2)) c]? = some none := by
          rcases hI.search F with ⟨h1, _⟩ | ⟨x, hx, hxe, _⟩
          · exact h1
          · exact absurd hxe (hfree x hx)
        have hput := hI.put (e := ((e1, e2), e3)) F hno
        have hFind := fun W (hW : UniqV W b w.heap.size (2 * n) (2 * n) many T') => uniqFindV hW hl2 e1 e2 F
        have hNlt : onBy (2 * n) (homeN (2 * n) (e1, e2)) c < 2 * n := onBy_lt (homeN_lt (by omega) _) (Nat.le_of_lt F.lt)
        clear F hfree hcl hno
        simp only at hput
        generalize onBy (2 * n) (homeN (2 * n) (e1, e2)) c = N at *
        rw [← HT.out] at hput
        have hN0 : (0 : Int) ≤ (N : Int) := by omega
        have hN1 : (N : Int) < ((2 * n : Nat) : Int) := by omega
        replace hput := Lib.hid hput
        clear HT hI hv hK
        go_wp2
        generalize wr.alloc (.cells #[.bool true, .int .i64 e1, .int .i64 e2, .int .i64 e3] 96) = V at *
        refine wp_region_quiet_tail (C := fun w' => ∃ u : Sub V, w' = u.1) 10 (by kernel_rfl) (by kernel_rfl) (InSub.drew V) ?_
        have hf : ∀ u : Sub V, Calls Try.prog 54 #[.pointer (some ⟨b, 0, none⟩), .agg #[.int .i64 e1, .int .i64 e2]] u.1 fun e w' => e = .returned (.int .i64 N) ∧ ∃ x : Sub V, w' = x.1 := fun u => subBelow (hFind u.1 (hA.below u.2))
        have x0 : ∀ u : Sub V, u.1.cell? ⟨b, 0, none⟩ = some (.slice (some ⟨w.heap.size, 0, none⟩) (2 * n) (2 * n)) := fun u => (hA.below u.2).cells.1
        have r0 := fun u : Sub V => (hP.keep u.2).cells.1
        have r1 := fun u : Sub V => (hP.keep u.2).cells.2.1
        have r2 := fun u : Sub V => (hP.keep u.2).cells.2.2.1
        have r3 := fun u : Sub V => (hP.keep u.2).cells.2.2.2
        replace hA := Lib.hid hA
        replace hKA := Lib.hid hKA
        clear hP hFind
        simp only [List.take_succ_cons, List.take_zero]
        iterate 7 (go_big_quiet_step (fail))
        go_big_quiet_step (exact hf _)
        iterate 2 (go_big_quiet_step (fail))
        refine wpQuiet_nil ?_
        clear hf x0 r0 r1 r2 r3
        intro w' hw'
        obtain ⟨u, rfl⟩ := hw'
        have hk := u.2
        generalize u.1 = W1 at *
        have hv := hA.out.below hk
        have hv2 := hv.putPlace hNlt (some ((e1, e2), e3))
        have hb2 := (hKA.out.and (Keeps.of_below hk _)).trans (Keeps.of_setCells (fun k => k = w.heap.size) w.heap.size rfl (entCells (some ((e1, e2), e3))) (N * 4) W1) (fun k hk => .inr (by omega))
        obtain ⟨a', ha'⟩ : ∃ a, T'[N]? = some a := ⟨T'[N]'(by rw [hv.len]; exact hNlt), List.getElem?_eq_getElem (by rw [hv.len]; exact hNlt)⟩
        obtain ⟨p1, p2, hcs⟩ := entCells_form a'
        have hq := hv.place N a' ha'
        rw [hcs] at hq
        simp only [List.getElem?_cons_zero, List.getElem?_cons_succ] at hq
        obtain ⟨z0, z1, z2, z3⟩ := hq
        have y0 := hv.freeP (N * 4)
        have y1 := hv.freeP (N * 4 + 1)
        have y2 := hv.freeP (N * 4 + 2)
        have y3 := hv.freeP (N * 4 + 3)
        replace hv2 := Lib.hid hv2
        replace hb2 := Lib.hid hb2
        clear hv ha' hcs hA hKA hk
        simp only [List.drop_succ_cons, List.drop_zero]
        go_wp2
        exact ⟨⟨k + 1, _, hlt, by go_num, hv2.out, hput.out, hb2.out⟩, by simp [intOf]; omega⟩
    · have hkn : k = n := by omega
      subst hkn
      rw [List.take_of_length_le (by omega)] at hI
      go_wp2
      refine bodyPost_end (v := .tuple #[]) (by simp [results, Try.results75, go_sem]) rfl ?_
      exact ⟨rfl, _, T', Nat.le_refl _, hv, ⟨hI.len, hI.home, hI.perm.trans H.perm, H.apart, hI.chain⟩, hK⟩

end Go.Proofs.Ytbnjbnjhpccomaa
