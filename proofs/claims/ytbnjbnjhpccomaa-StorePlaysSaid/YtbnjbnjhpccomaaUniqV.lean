/-
  The code's table with the number of its places as a number of its own ('List.length' of places lets the walks run away).
-/
import Derived.Test.YtbnjbnjhpccomaaUniqF
import Derived.Test.YtbnjbnjhpccomaaMem2
namespace Go.Proofs.Ytbnjbnjhpccomaa
open Go Go.RowKit

/-- At block b stands a table of n places, which lie in block g. -/
structure UniqV (w : World) (b g cap n : Nat) (many : Int) (T : List (Option Ent)) : Prop where
  len : T.length = n
  row : UniqR w b (.slice (some ⟨g, 0, none⟩) n cap) many T

theorem UniqR.view {w : World} {b : Nat} {v : Value} {many : Int} {T : List (Option Ent)} (h : UniqR w b v many T) (hl : 0 < T.length) : ∃ g cap, v = .slice (some ⟨g, 0, none⟩) T.length cap ∧ UniqV w b g cap T.length many T := by
  obtain ⟨g, cap, rfl, _, _⟩ := h.form hl
  exact ⟨g, cap, rfl, rfl, h⟩

section
variable {w w' : World} {b g cap n : Nat} {many : Int} {T : List (Option Ent)}

theorem UniqV.owns (h : UniqV w b g cap n many T) : Owns encP w (.slice (some ⟨g, 0, none⟩) n cap) T := h.row.places
theorem UniqV.keep (h : UniqV w b g cap n many T) {F : Nat → Prop} (hb : Keeps F w w') (hF : ∀ k, k = b ∨ k = g → ¬ F k) : UniqV w' b g cap n many T :=
  ⟨h.len, h.row.keep hb fun k hk => hF k (hk.imp id (fun e => by injection e with e; exact e.symm))⟩
theorem UniqV.below (h : UniqV w b g cap n many T) (hb : Below w.heap.size w w') : UniqV w' b g cap n many T := ⟨h.len, h.row.below hb⟩
theorem UniqV.drewN (h : UniqV w b g cap n many T) (k : Nat) : UniqV (w.drewN k) b g cap n many T := h.below (below_drewN (Below.refl _ _))
theorem UniqV.cells (h : UniqV w b g cap n many T) : w.cell? ⟨b, 0, none⟩ = some (.slice (some ⟨g, 0, none⟩) n cap) ∧ w.cell? ⟨b, 1, none⟩ = some (.int .i64 many) := h.row.cells
theorem UniqV.free (h : UniqV w b g cap n many T) (j : Nat) : w.frozen? ⟨b, j, none⟩ = false := h.row.free j
theorem UniqV.freeP (h : UniqV w b g cap n many T) (j : Nat) : w.frozen? ⟨g, j, none⟩ = false := h.row.places.free j
theorem UniqV.ne (h : UniqV w b g cap n many T) : g ≠ b := fun e => h.row.apart (by rw [e]; rfl)
theorem UniqV.ltb (h : UniqV w b g cap n many T) : b < w.heap.size := h.row.lt b (.inl rfl)
theorem UniqV.ltg (h : UniqV w b g cap n many T) : g < w.heap.size := h.row.lt g (.inr rfl)
theorem UniqV.place (h : UniqV w b g cap n many T) (i : Nat) (a : Option Ent) (hi : T[i]? = some a) :
    w.cell? ⟨g, i * 4, none⟩ = (entCells a)[0]? ∧ w.cell? ⟨g, i * 4 + 1, none⟩ = (entCells a)[1]? ∧ w.cell? ⟨g, i * 4 + 2, none⟩ = (entCells a)[2]? ∧ w.cell? ⟨g, i * 4 + 3, none⟩ = (entCells a)[3]? := by
  obtain ⟨rfl, h⟩ := h
  exact placeAt h.places i a hi

theorem uniqAfterV (h : UniqV w b g cap n many T) (hl : Places n) (i : Nat) (hi : i < n) :
    Calls Try.prog 69 #[.pointer (some ⟨b, 0, none⟩), .int .i64 i] w fun e w' => e = .returned (.int .i64 (onBy n i 1)) ∧ w = w' := by
  obtain ⟨rfl, h⟩ := h
  exact uniqAfter h hl i hi
theorem uniqStepsV (h : UniqV w b g cap n many T) (hl : Places n) (i j : Nat) (hi : i < n) (hj : j < n) :
    Calls Try.prog 70 #[.pointer (some ⟨b, 0, none⟩), .int .i64 i, .int .i64 j] w fun e w' => e = .returned (.int .i64 (dist n i j)) ∧ w = w' := by
  obtain ⟨rfl, h⟩ := h
  exact uniqSteps h hl i j hi hj
theorem uniqHomeV (h : UniqV w b g cap n many T) (hl : Places n) (k1 k2 : Int) :
    Calls Try.prog 68 #[.pointer (some ⟨b, 0, none⟩), .agg #[.int .i64 k1, .int .i64 k2]] w fun e w' => e = .returned (.int .i64 (homeN n (k1, k2))) ∧ Below w.heap.size w w' := by
  obtain ⟨rfl, h⟩ := h
  exact uniqHome h hl (k1, k2)
theorem uniqFindV (h : UniqV w b g cap n many T) (hl : Places n) (k1 k2 : Int) {c : Nat} (F : Found n (homeN n) T (k1, k2) c) :
    Calls Try.prog 54 #[.pointer (some ⟨b, 0, none⟩), .agg #[.int .i64 k1, .int .i64 k2]] w fun e w' => e = .returned (.int .i64 (onBy n (homeN n (k1, k2)) c)) ∧ Below w.heap.size w w' := by
  obtain ⟨rfl, h⟩ := h
  exact uniqFind h hl (k1, k2) F
/-- A place written. -/
theorem UniqV.putPlace (h : UniqV w b g cap n many T) {i : Nat} (hi : i < n) (a : Option Ent) : UniqV (w.setCells g (i * 4) (entCells a)) b g cap n many (T.set i a) := by
  have hne := h.ne
  obtain ⟨rfl, h⟩ := h
  refine ⟨List.length_set, (heap_setCells_other g _ _ _ (fun e => hne e.symm)).trans h.row, ?_, h.apart⟩
  have := owns_putCells (E := encP) h.places hi a
  unfold Owns at this ⊢
  exact this
theorem UniqV.setMany (h : UniqV w b g cap n many T) (m : Int) : UniqV (w.setCell ⟨b, 1, none⟩ (.int .i64 m)) b g cap n m T :=
  ⟨h.len, heap_setCell_same w b 1 _ _ _ h.row.row, h.row.places.block fun k hk => Below.heap_setCell _ _ _ _ (fun e => h.ne (by injection hk with hk; exact hk.trans e)), h.row.apart⟩
theorem UniqV.setPlaces (h : UniqV w b g cap n many T) {g' cap' n' : Nat} {T' : List (Option Ent)} (ho : Owns encP w (.slice (some ⟨g', 0, none⟩) n' cap') T') (hl : T'.length = n') (hne : g' ≠ b) : UniqV (w.setCell ⟨b, 0, none⟩ (.slice (some ⟨g', 0, none⟩) n' cap')) b g' cap' n' many T' :=
  ⟨hl, heap_setCell_same w b 0 _ _ _ h.row.row, ho.block fun k hk => Below.heap_setCell _ _ _ _ (fun e => hne (by injection hk with hk; exact hk.trans e)), fun e => hne (by injection e)⟩
end

end Go.Proofs.Ytbnjbnjhpccomaa
