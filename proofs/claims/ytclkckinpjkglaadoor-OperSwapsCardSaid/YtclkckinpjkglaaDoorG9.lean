/-
  Texts of this proof, one behind the other: CoS, CoW, CoW2, CoX.
-/
import Derived.Test.YtclkckinpjkglaaDoorG7
import Derived.Test.YtclkckinpjkglaaDoorG8
/-
  The code's store, as it lies in memory.
-/
namespace Go.Proofs.YtclkckinpjkglaaDoor
open Go Go.RowKit

/-- Places: a node, and how often it is had. -/
def encX : Enc Tryd.prog (Nd × Int) where
  slice := 46
  elem := 84
  size := 4
  bytes := 32
  cells x := [.int .i64 x.1.var, .int .i64 x.1.lo, .int .i64 x.1.hi, .int .i64 x.2]
  zero := .agg #[.int .i64 0, .int .i64 0, .int .i64 0, .int .i64 0]
  und := Tryd.underlying46
  info := info_of _ _ _ _ _ (by kernel_rfl)
  zsize := rfl
  pos := by decide
  few := by decide
  len _ := rfl
  one _ u h := by
    simp only [List.mem_cons, List.not_mem_nil, or_false] at h
    rcases h with rfl | rfl | rfl | rfl <;> rfl

/-- A pointer to a block. -/
abbrev pv (b : Nat) : Value := .pointer (some ⟨b, 0, none⟩)

/-- The blocks of a store. -/
def footC (b : Nat) (FA : Nat → Prop) (FT : Nat → Nat → Prop) (v : Value) (k : Nat) : Prop := k = b ∨ v.ownBlock = some k ∨ FA k ∨ ∃ i, i < 8 ∧ FT i k

/-- Its own row. -/
def rowC (most : Int) (o : Nat → Int) (bA : Nat) (bT : Nat → Nat) (v : Value) : Obj :=
  .cells #[.int .i64 most, .int .i64 (o 0), .int .i64 (o 1), .int .i64 (o 2), .int .i64 (o 3), .int .i64 (o 4), .int .i64 (o 5), .int .i64 (o 6), .int .i64 (o 7), pv bA, pv (bT 0), pv (bT 1), pv (bT 2), pv (bT 3), pv (bT 4), pv (bT 5), pv (bT 6), pv (bT 7), v] 48 (0, 0)

/-- At block b stands the code's store. -/
structure CoR (w : World) (b bA : Nat) (FA : Nat → Prop) (bT : Nat → Nat) (FT : Nat → Nat → Prop) (v : Value) (o : Nat → Int) (ar : AS) (X : List (Nd × Int)) (tabs : Nat → TS) : Prop where
  row : w.heap[b]? = some (rowC ar.most o bA bT v)
  ar : ArenaAt w bA FA ar
  tab : ∀ i, i < 8 → UniqAt w (bT i) (FT i) (tabs i)
  places : Owns encX w v X
  apart1 : v.ownBlock ≠ some b
  apart2 : ∀ k, FA k → k ≠ b ∧ v.ownBlock ≠ some k
  apart3 : ∀ i, i < 8 → ∀ k, FT i k → k ≠ b ∧ v.ownBlock ≠ some k ∧ ¬ FA k
  apart4 : ∀ i, i < 8 → ∀ j, j < 8 → i ≠ j → ∀ k, FT i k → ¬ FT j k

/-- By its state. -/
def CoAt (w : World) (b : Nat) (F : Nat → Prop) (s : MS) (R : List Int) (f : Int → Int) : Prop :=
  ∃ bA FA bT FT v X tabs, F = footC b FA FT v ∧ CoR w b bA FA bT FT v s.o s.ar X tabs ∧ s.Co R f X tabs

section
variable {w w' : World} {b bA : Nat} {FA F G : Nat → Prop} {bT : Nat → Nat} {FT : Nat → Nat → Prop} {v : Value} {o : Nat → Int} {ar : AS} {X : List (Nd × Int)} {tabs : Nat → TS} {s : MS} {R : List Int} {f : Int → Int}

theorem CoR.lt (h : CoR w b bA FA bT FT v o ar X tabs) : ∀ k, footC b FA FT v k → k < w.heap.size := by
  rintro k (rfl | hk | hk | ⟨i, hi, hk⟩)
  · exact row_lt h.row
  · exact h.places.lt k hk
  · exact h.ar.lt k hk
  · exact (h.tab i hi).lt k hk
theorem CoR.keep (h : CoR w b bA FA bT FT v o ar X tabs) (hb : Keeps G w w') (hF : ∀ k, footC b FA FT v k → ¬ G k) : CoR w' b bA FA bT FT v o ar X tabs :=
  ⟨(hb.block b (row_lt h.row) (hF b (.inl rfl))).trans h.row, h.ar.keep hb fun k hk => hF k (.inr (.inr (.inl hk))), fun i hi => (h.tab i hi).keep hb fun k hk => hF k (.inr (.inr (.inr ⟨i, hi, hk⟩))),
    h.places.keep hb fun g hg => hF g (.inr (.inl hg)), h.apart1, h.apart2, h.apart3, h.apart4⟩
theorem CoR.below (h : CoR w b bA FA bT FT v o ar X tabs) (hb : Below w.heap.size w w') : CoR w' b bA FA bT FT v o ar X tabs := h.keep (Keeps.of_below hb noBlock) (fun _ _ h => h)
theorem CoR.sub (h : CoR w b bA FA bT FT v o ar X tabs) (u : Sub w) : CoR u.1 b bA FA bT FT v o ar X tabs := h.below u.2
theorem CoR.cell (h : CoR w b bA FA bT FT v o ar X tabs) : w.cell? ⟨b, 0, none⟩ = some (.int .i64 ar.most) ∧ w.cell? ⟨b, 9, none⟩ = some (pv bA) ∧ w.cell? ⟨b, 18, none⟩ = some v :=
  ⟨by rw [cell_of_row _ _ _ _ _ _ h.row]; rfl, by rw [cell_of_row _ _ _ _ _ _ h.row]; rfl, by rw [cell_of_row _ _ _ _ _ _ h.row]; rfl⟩
theorem CoR.place (h : CoR w b bA FA bT FT v o ar X tabs) (i : Nat) (hi : i < 8) : w.cell? ⟨b, 1 + i, none⟩ = some (.int .i64 (o i)) := by
  rw [cell_of_row _ _ _ _ _ _ h.row]
  rcases (by omega : i = 0 ∨ i = 1 ∨ i = 2 ∨ i = 3 ∨ i = 4 ∨ i = 5 ∨ i = 6 ∨ i = 7) with rfl | rfl | rfl | rfl | rfl | rfl | rfl | rfl <;> rfl
theorem CoR.table (h : CoR w b bA FA bT FT v o ar X tabs) (i : Nat) (hi : i < 8) : w.cell? ⟨b, 10 + i, none⟩ = some (pv (bT i)) := by
  rw [cell_of_row _ _ _ _ _ _ h.row]
  rcases (by omega : i = 0 ∨ i = 1 ∨ i = 2 ∨ i = 3 ∨ i = 4 ∨ i = 5 ∨ i = 6 ∨ i = 7) with rfl | rfl | rfl | rfl | rfl | rfl | rfl | rfl <;> rfl
theorem CoR.order (h : CoR w b bA FA bT FT v o ar X tabs) : w.cell? ⟨b, 1, none⟩ = some (.int .i64 (o 0)) ∧ w.cell? ⟨b, 2, none⟩ = some (.int .i64 (o 1)) ∧ w.cell? ⟨b, 3, none⟩ = some (.int .i64 (o 2)) ∧ w.cell? ⟨b, 4, none⟩ = some (.int .i64 (o 3)) ∧
    w.cell? ⟨b, 5, none⟩ = some (.int .i64 (o 4)) ∧ w.cell? ⟨b, 6, none⟩ = some (.int .i64 (o 5)) ∧ w.cell? ⟨b, 7, none⟩ = some (.int .i64 (o 6)) ∧ w.cell? ⟨b, 8, none⟩ = some (.int .i64 (o 7)) :=
  ⟨h.place 0 (by decide), h.place 1 (by decide), h.place 2 (by decide), h.place 3 (by decide), h.place 4 (by decide), h.place 5 (by decide), h.place 6 (by decide), h.place 7 (by decide)⟩
theorem CoR.free (h : CoR w b bA FA bT FT v o ar X tabs) (j : Nat) : w.frozen? ⟨b, j, none⟩ = false := frozen_of_row _ _ _ _ _ h.row
theorem CoR.form (h : CoR w b bA FA bT FT v o ar X tabs) : ∃ a c, v = .slice a X.length c := by
  obtain ⟨a, c, e, _⟩ := h.places.form
  exact ⟨a, c, e⟩

theorem CoAt.lt (h : CoAt w b F s R f) (k : Nat) (hk : F k) : k < w.heap.size := by obtain ⟨bA, FA, bT, FT, v, X, tabs, rfl, h, _⟩ := h; exact h.lt k hk
theorem CoAt.keep (h : CoAt w b F s R f) (hb : Keeps G w w') (hF : ∀ k, F k → ¬ G k) : CoAt w' b F s R f := by obtain ⟨bA, FA, bT, FT, v, X, tabs, rfl, h, c⟩ := h; exact ⟨bA, FA, bT, FT, v, X, tabs, rfl, h.keep hb hF, c⟩
theorem CoAt.below (h : CoAt w b F s R f) (hb : Below w.heap.size w w') : CoAt w' b F s R f := h.keep (Keeps.of_below hb noBlock) (fun _ _ h => h)
theorem CoAt.sub (h : CoAt w b F s R f) (u : Sub w) : CoAt u.1 b F s R f := h.below u.2
theorem CoAt.congr {g : Int → Int} (h : CoAt w b F s R f) (e : ∀ m, f m = g m) : CoAt w b F s R g := by
  obtain rfl : f = g := funext e
  exact h

/-- A place's cells. -/
theorem placeX {g cap n : Nat} {l : List (Nd × Int)} (h : Owns encX w (.slice (some ⟨g, 0, none⟩) n cap) l) (i : Nat) (hi : i < l.length) :
    w.cell? ⟨g, i * 4, none⟩ = some (.int .i64 l[i].1.var) ∧ w.cell? ⟨g, i * 4 + 1, none⟩ = some (.int .i64 l[i].1.lo) ∧ w.cell? ⟨g, i * 4 + 2, none⟩ = some (.int .i64 l[i].1.hi) ∧ w.cell? ⟨g, i * 4 + 3, none⟩ = some (.int .i64 l[i].2) := by
  obtain ⟨a, c, hv, _, _, _, H⟩ := h.form
  injection hv with ha _ hc
  obtain ⟨g', e, _, _, hcell⟩ := H ⟨g, 0, none⟩ ha.symm
  cases e
  exact ⟨hcell i hi 0 (by decide), hcell i hi 1 (by decide), hcell i hi 2 (by decide), hcell i hi 3 (by decide)⟩

/-- The arena has turned. -/
theorem CoR.setAr (h : CoR w b bA FA bT FT v o ar X tabs) {FA' : Nat → Prop} {ar' : AS} (hA : ArenaAt w' bA FA' ar') (hm : ar'.most = ar.most) (hK : Keeps FA w w') (hW : Within w FA FA') :
    CoR w' b bA FA' bT FT v o ar' X tabs ∧ Keeps (footC b FA FT v) w w' ∧ Within w (footC b FA FT v) (footC b FA' FT v) := by
  have hn : ∀ k, k < w.heap.size → ¬ FA k → ¬ FA' k := fun k hk h1 h2 => (hW k h2).elim h1 (fun h3 => by omega)
  have hb : ¬ FA b := fun e => (h.apart2 b e).1 rfl
  have hv : ∀ k, v.ownBlock = some k → ¬ FA k := fun k hk e => (h.apart2 k e).2 hk
  have ht : ∀ i, i < 8 → ∀ k, FT i k → ¬ FA k := fun i hi k hk => (h.apart3 i hi k hk).2.2
  refine ⟨⟨?_, hA, fun i hi => (h.tab i hi).keep hK (ht i hi), h.places.keep hK hv, h.apart1, fun k hk => ⟨fun e => ?_, fun e => ?_⟩, fun i hi k hk => ⟨(h.apart3 i hi k hk).1, (h.apart3 i hi k hk).2.1, ?_⟩, h.apart4⟩, hK.mono fun k hk => .inr (.inr (.inl hk)), ?_⟩
  · rw [hm]; exact (hK.block b (row_lt h.row) hb).trans h.row
  · subst e; exact hn _ (row_lt h.row) hb hk
  · exact hn _ (h.places.lt k e) (hv k e) hk
  · exact hn _ ((h.tab i hi).lt k hk) (ht i hi k hk)
  · rintro k (e | e | e | e)
    · exact .inl (.inl e)
    · exact .inl (.inr (.inl e))
    · exact (hW k e).imp (fun h => .inr (.inr (.inl h))) id
    · exact .inl (.inr (.inr (.inr e)))

/-- A table has turned. -/
theorem CoR.setTab (h : CoR w b bA FA bT FT v o ar X tabs) {i : Nat} (hi : i < 8) {F' : Nat → Prop} {t' : TS} (hA : UniqAt w' (bT i) F' t') (hK : Keeps (FT i) w w') (hW : Within w (FT i) F') :
    CoR w' b bA FA bT (upd FT i F') v o ar X (upd tabs i t') ∧ Keeps (footC b FA FT v) w w' ∧ Within w (footC b FA FT v) (footC b FA (upd FT i F') v) := by
  have hn : ∀ k, k < w.heap.size → ¬ FT i k → ¬ F' k := fun k hk h1 h2 => (hW k h2).elim h1 (fun h3 => by omega)
  have hb : ¬ FT i b := fun e => (h.apart3 i hi b e).1 rfl
  have hv : ∀ k, v.ownBlock = some k → ¬ FT i k := fun k hk e => (h.apart3 i hi k e).2.1 hk
  have ha : ∀ k, FA k → ¬ FT i k := fun k hk e => (h.apart3 i hi k e).2.2 hk
  have ht : ∀ j, j < 8 → j ≠ i → ∀ k, FT j k → ¬ FT i k := fun j hj hne k hk => h.apart4 j hj i hi hne k hk
  refine ⟨⟨(hK.block b (row_lt h.row) hb).trans h.row, h.ar.keep hK ha, fun j hj => ?_, h.places.keep hK hv, h.apart1, h.apart2, fun j hj k hk => ?_, fun j hj l hl hne k hk hk2 => ?_⟩, hK.mono fun k hk => .inr (.inr (.inr ⟨i, hi, hk⟩)), ?_⟩
  · by_cases e : j = i
    · subst e; rw [upd_same, upd_same]; exact hA
    · rw [upd_other _ _ _ e, upd_other _ _ _ e]; exact (h.tab j hj).keep hK (ht j hj e)
  · by_cases e : j = i
    · subst e
      rw [upd_same] at hk
      refine ⟨fun e => ?_, fun e => ?_, fun e => ?_⟩
      · subst e; exact hn _ (row_lt h.row) hb hk
      · exact hn _ (h.places.lt k e) (hv k e) hk
      · exact hn _ (h.ar.lt k e) (ha k e) hk
    · rw [upd_other _ _ _ e] at hk; exact h.apart3 j hj k hk
  · by_cases e : j = i
    · subst e
      rw [upd_same] at hk
      rw [upd_other _ _ _ (Ne.symm hne)] at hk2
      exact hn _ ((h.tab l hl).lt k hk2) (ht l hl (Ne.symm hne) k hk2) hk
    · rw [upd_other _ _ _ e] at hk
      by_cases e2 : l = i
      · subst e2
        rw [upd_same] at hk2
        exact hn _ ((h.tab j hj).lt k hk) (ht j hj e k hk) hk2
      · rw [upd_other _ _ _ e2] at hk2
        exact h.apart4 j hj l hl hne k hk hk2
  · rintro k (e | e | e | ⟨j, hj, e⟩)
    · exact .inl (.inl e)
    · exact .inl (.inr (.inl e))
    · exact .inl (.inr (.inr (.inl e)))
    · by_cases e2 : j = i
      · subst e2
        rw [upd_same] at e
        exact (hW k e).imp (fun h => .inr (.inr (.inr ⟨j, hj, h⟩))) id
      · rw [upd_other _ _ _ e2] at e
        exact .inl (.inr (.inr (.inr ⟨j, hj, e⟩)))

/-- The places have turned, and lie where they lay. -/
theorem CoR.setX (h : CoR w b bA FA bT FT v o ar X tabs) {X' : List (Nd × Int)} {g : Nat} (hg : v.ownBlock = some g) (hO : Owns encX w' v X') (hK : Keeps (fun k => k = g) w w') :
    CoR w' b bA FA bT FT v o ar X' tabs ∧ Keeps (footC b FA FT v) w w' := by
  refine ⟨⟨(hK.block b (row_lt h.row) fun e => h.apart1 (e ▸ hg)).trans h.row, h.ar.keep hK fun k hk e => (h.apart2 k hk).2 (e ▸ hg), fun i hi => (h.tab i hi).keep hK fun k hk e => (h.apart3 i hi k hk).2.1 (e ▸ hg), hO, h.apart1, h.apart2, h.apart3, h.apart4⟩, hK.mono fun k hk => .inr (.inl (hk ▸ hg))⟩
/-- A cell of the places written. -/
theorem CoR.putCell {g n cap j : Nat} (h : CoR w b bA FA bT FT (.slice (some ⟨g, 0, none⟩) n cap) o ar X tabs) {X' : List (Nd × Int)} {u : Value} (hl : X'.length = X.length) (he : encX.all X' = (encX.all X).set j u) :
    CoR (w.setCell ⟨g, j, none⟩ u) b bA FA bT FT (.slice (some ⟨g, 0, none⟩) n cap) o ar X' tabs ∧ Keeps (footC b FA FT (.slice (some ⟨g, 0, none⟩) n cap)) w (w.setCell ⟨g, j, none⟩ u) := by
  refine h.setX rfl ?_ (Keeps.of_setCell _ w ⟨g, j, none⟩ u rfl)
  have hO := h.places
  obtain ⟨a, c, hv, _⟩ := hO.form
  injection hv with _ hn _
  subst hn
  have h1 := (World.ownsRow.stored hO j u).1
  unfold Owns
  rw [hl, he]
  exact h1
/-- The slice of places stored anew. -/
theorem CoR.setV (h : CoR w b bA FA bT FT v o ar X tabs) {v' : Value} {X' : List (Nd × Int)} (hO : Owns encX w v' X') (h1 : ∀ k, v'.ownBlock = some k → v.ownBlock = some k ∨ (k ≠ b ∧ ¬ FA k ∧ ∀ i, i < 8 → ¬ FT i k)) :
    CoR (w.setCell ⟨b, 18, none⟩ v') b bA FA bT FT v' o ar X' tabs := by
  have hK := Keeps.of_setCell (fun k => k = b) w ⟨b, 18, none⟩ v' rfl
  have hb : v'.ownBlock ≠ some b := fun e => (h1 b e).elim h.apart1 fun h => h.1 rfl
  refine ⟨(heap_setCell_same w b 18 _ _ v' h.row).trans rfl, h.ar.keep hK fun k hk e => (h.apart2 k hk).1 e, fun i hi => (h.tab i hi).keep hK fun k hk e => (h.apart3 i hi k hk).1 e, hO.keep hK fun g hg e => hb (e ▸ hg), hb, fun k hk => ⟨(h.apart2 k hk).1, fun e => ?_⟩, fun i hi k hk => ⟨(h.apart3 i hi k hk).1, fun e => ?_, (h.apart3 i hi k hk).2.2⟩, h.apart4⟩
  · exact (h1 k e).elim (h.apart2 k hk).2 fun h => h.2.1 hk
  · exact (h1 k e).elim (h.apart3 i hi k hk).2.1 fun h => h.2.2 i hi hk
/-- The order stored anew. -/
theorem CoR.setOrder (h : CoR w b bA FA bT FT v o ar X tabs) (p : Nat → Int) :
    CoR (w.setCells b 1 [.int .i64 (p 0), .int .i64 (p 1), .int .i64 (p 2), .int .i64 (p 3), .int .i64 (p 4), .int .i64 (p 5), .int .i64 (p 6), .int .i64 (p 7)]) b bA FA bT FT v p ar X tabs ∧
      Keeps (footC b FA FT v) w (w.setCells b 1 [.int .i64 (p 0), .int .i64 (p 1), .int .i64 (p 2), .int .i64 (p 3), .int .i64 (p 4), .int .i64 (p 5), .int .i64 (p 6), .int .i64 (p 7)]) := by
  have hk := Keeps.of_setCells (fun k => k = b) b rfl [.int .i64 (p 0), .int .i64 (p 1), .int .i64 (p 2), .int .i64 (p 3), .int .i64 (p 4), .int .i64 (p 5), .int .i64 (p 6), .int .i64 (p 7)] 1 w
  refine ⟨⟨?_, h.ar.keep hk fun k hk e => (h.apart2 k hk).1 e, fun i hi => (h.tab i hi).keep hk fun k hk e => (h.apart3 i hi k hk).1 e, h.places.keep hk fun g hg e => h.apart1 (e ▸ hg), h.apart1, h.apart2, h.apart3, h.apart4⟩, hk.mono fun k e => .inl e⟩
  have r1 := heap_setCell_same _ b 1 _ _ (.int .i64 (p 0)) h.row
  have r2 := heap_setCell_same _ b 2 _ _ (.int .i64 (p 1)) r1
  have r3 := heap_setCell_same _ b 3 _ _ (.int .i64 (p 2)) r2
  have r4 := heap_setCell_same _ b 4 _ _ (.int .i64 (p 3)) r3
  have r5 := heap_setCell_same _ b 5 _ _ (.int .i64 (p 4)) r4
  have r6 := heap_setCell_same _ b 6 _ _ (.int .i64 (p 5)) r5
  have r7 := heap_setCell_same _ b 7 _ _ (.int .i64 (p 6)) r6
  have r8 := heap_setCell_same _ b 8 _ _ (.int .i64 (p 7)) r7
  refine Eq.trans r8 ?_
  simp [rowC]
end

/-- The cells of what is there. -/
theorem CoR.node {w : World} {b bA : Nat} {FA : Nat → Prop} {bT : Nat → Nat} {FT : Nat → Nat → Prop} {v : Value} {s : MS} {R : List Int} {f : Int → Int} {X : List (Nd × Int)} {tabs : Nat → TS} (h : CoR w b bA FA bT FT v s.o s.ar X tabs) (c : s.Co R f X tabs) (ok : s.Base) {n : Int} (hn : s.has n = true) :
    ∃ (g cap : Nat), v = .slice (some ⟨g, 0, none⟩) X.length cap ∧ 2 ≤ n ∧ 0 ≤ n - 2 ∧ n - 2 < (X.length : Int) ∧
    w.cell? ⟨g, (n - 2).toNat * 4, none⟩ = some (.int .i64 (s.nd n).var) ∧ w.cell? ⟨g, (n - 2).toNat * 4 + 1, none⟩ = some (.int .i64 (s.nd n).lo) ∧ w.cell? ⟨g, (n - 2).toNat * 4 + 2, none⟩ = some (.int .i64 (s.nd n).hi) ∧ w.cell? ⟨g, (n - 2).toNat * 4 + 3, none⟩ = some (.int .i64 (f n)) := by
  obtain ⟨r1, r2, _⟩ := ok.range hn
  have hl := c.len
  obtain ⟨g, cap, rfl, _, _⟩ := h.places.some (by omega)
  have hi : n = ((n - 2).toNat : Int) + 2 := by omega
  have hX : (n - 2).toNat < X.length := by omega
  have := placeX h.places (n - 2).toNat hX
  rw [c.node _ hX (by rw [← hi]; exact hn), c.above _ hX, ← hi] at this
  exact ⟨g, cap, rfl, r1, by omega, by omega, this⟩

end Go.Proofs.YtclkckinpjkglaaDoor

/-
  Walks of the code's store: what only looks.
-/
namespace Go.Proofs.YtclkckinpjkglaaDoor
open Go Go.RowKit

theorem MS.has_not {s : MS} (ok : s.Base) {n : Int} (h : n < 2 ∨ (s.N.length : Int) + 2 ≤ n) : s.has n = false := by
  rw [Bool.eq_false_iff]
  intro e
  have := ok.range e
  omega
theorem MS.mem_not {s : MS} (ok : s.Base) {n : Int} (h : n < 0 ∨ (s.N.length : Int) ≤ n) : decide (n ∈ s.ar.T) = false := by
  rw [decide_eq_false_iff_not]
  intro e
  have := (ok.ar.all n).1 (.inl e)
  have := ok.len
  omega

/-- A constant. -/
def isC (n : Int) : Bool := decide (0 ≤ n) && decide (n < 2)
theorem isC_not {s : MS} {n : Int} (h : isC n = true) : s.has n = false ∧ (n = 0 ∨ n = 1) := by
  simp only [isC, Bool.and_eq_true, decide_eq_true_eq] at h
  rcases (by omega : n = 0 ∨ n = 1) with rfl | rfl
  · exact ⟨rfl, .inl rfl⟩
  · exact ⟨rfl, .inr rfl⟩
theorem isC_of {s : MS} (ok : s.Base) {n : Int} (h : s.has n = true) : isC n = false := by
  have := (ok.range h).1
  simp only [isC, Bool.and_eq_false_iff, decide_eq_false_iff_not]
  omega
theorem isC_no {n : Int} (h : isC n = false) : n ≠ 0 ∧ n ≠ 1 := by
  simp only [isC, Bool.and_eq_false_iff, decide_eq_false_iff_not] at h
  omega

set_option maxRecDepth 100000 in
theorem coIsConst (n : Int) (w : World) : Calls Tryd.prog 47 #[.int .i64 n] w fun e w' => e = .returned (.bool (isC n)) ∧ w = w' := by
  go_enter Tryd.func47, Tryd.ntmps47
  by_cases h0 : 0 ≤ n
  · by_cases h1 : n < 2
    · have e : isC n = true := by simp [isC, h0, h1]
      rw [e]
      go_wp2
      go_ret
      exact ⟨rfl, rfl⟩
    · have e : isC n = false := by simp [isC, h1]
      rw [e]
      go_wp2
      go_ret
      exact ⟨rfl, rfl⟩
  · have e : isC n = false := by simp [isC, h0]
    rw [e]
    go_wp2
    go_ret
    exact ⟨rfl, rfl⟩

section
variable {w : World} {b : Nat} {F : Nat → Prop} {s : MS} {R : List Int} {f : Int → Int}

set_option maxRecDepth 100000 in
theorem coHas (h : CoAt w b F s R f) (ok : s.Base) (n : Int) (hn : n ≤ 9223372036854775807 ∧ -9223372036854775808 ≤ n) :
    Calls Tryd.prog 41 #[pv b, .int .i64 n] w fun e w' => e = .returned (.bool (s.has n)) ∧ w = w' := by
  obtain ⟨bA, FA, bT, FT, v, X, tabs, rfl, hR, c⟩ := h
  obtain ⟨c0, c9, c18⟩ := hR.cell
  have hf := ok.few
  have HA := fun m => arenaHasS hR.ar ok.ar m
  go_enter Tryd.func41, Tryd.ntmps41
  by_cases h2 : -9223372036854775806 ≤ n
  · have e : s.has n = decide (n - 2 ∈ s.ar.T) := by
      cases hh : s.has n
      · have : ¬ n - 2 ∈ s.ar.T := fun e => by rw [(MS.has_mem ok).2 e] at hh; cases hh
        simp [this]
      · simp [(MS.has_mem ok).1 hh]
    rw [e]
    clear hR c e hf
    go_wp2_with fail
    refine (HA _).mono ?_
    rintro e w1 ⟨rfl, rfl⟩
    clear HA
    go_wp2
    go_ret
    exact ⟨rfl, rfl⟩
  · have e : s.has n = false := MS.has_not ok (by omega)
    rw [e]
    have hx : n = -9223372036854775808 ∨ n = -9223372036854775807 := by omega
    have n0 := MS.mem_not ok (n := wrap64 (-9223372036854775810)) (by rw [show wrap64 (-9223372036854775810) = 9223372036854775806 by kernel_rfl]; omega)
    have n1 := MS.mem_not ok (n := wrap64 (-9223372036854775809)) (by rw [show wrap64 (-9223372036854775809) = 9223372036854775807 by kernel_rfl]; omega)
    clear hR c e hf
    rcases hx with rfl | rfl
    · go_wp2_with fail
      refine (HA _).mono ?_
      rintro e w1 ⟨rfl, rfl⟩
      clear HA
      rw [n0]
      go_wp2
      go_ret
      exact ⟨rfl, rfl⟩
    · go_wp2_with fail
      refine (HA _).mono ?_
      rintro e w1 ⟨rfl, rfl⟩
      clear HA
      rw [n1]
      go_wp2
      go_ret
      exact ⟨rfl, rfl⟩



set_option maxRecDepth 100000 in
theorem coOrder (h : CoAt w b F s R f) : Calls Tryd.prog 21 #[pv b] w fun e w' => e = .returned (ov s.o) ∧ Below w.heap.size w w' := by
  obtain ⟨bA, FA, bT, FT, v, X, tabs, rfl, hR, c⟩ := h
  have hb : Below w.heap.size w (w.alloc (.cells #[.int .i64 0, .int .i64 0, .int .i64 0, .int .i64 0, .int .i64 0, .int .i64 0, .int .i64 0, .int .i64 0] 43)) := by go_grown
  obtain ⟨c1, c2, c3, c4, c5, c6, c7, c8⟩ := (hR.below hb).order
  clear hR c
  go_enter Tryd.func21, Tryd.ntmps21
  go_wp2
  exact bodyPost_ret (ret_holdsO Tryd.results21 rfl (HoldsO.new w s.o w.heap.size rfl)) rfl ⟨rfl, by go_grown⟩

/-- A place, as the program holds it. -/
def plv (x : Nd) (k : Int) : Value := .agg #[.int .i64 x.var, .int .i64 x.lo, .int .i64 x.hi, .int .i64 k]
/-- Block b is a variable that holds a place. -/
def HoldsP (w : World) (b : Nat) (x : Nd) (k : Int) : Prop := w.heap[b]? = some (.cells #[.int .i64 x.var, .int .i64 x.lo, .int .i64 x.hi, .int .i64 k] 84 (0, 0))
theorem HoldsP.lt {x : Nd} {k : Int} {B : Nat} (h : HoldsP w B x k) : B < w.heap.size := row_lt h
theorem HoldsP.below {w' : World} {x : Nd} {k : Int} {B : Nat} (h : HoldsP w B x k) (hb : Below w.heap.size w w') : HoldsP w' B x k := (hb.block B h.lt).trans h
theorem HoldsP.sub {x : Nd} {k : Int} {B : Nat} (h : HoldsP w B x k) (u : Sub w) : HoldsP u.1 B x k := h.below u.2
theorem HoldsP.cells {x : Nd} {k : Int} {B : Nat} (h : HoldsP w B x k) : w.cell? ⟨B, 0, none⟩ = some (.int .i64 x.var) ∧ w.cell? ⟨B, 1, none⟩ = some (.int .i64 x.lo) ∧ w.cell? ⟨B, 2, none⟩ = some (.int .i64 x.hi) :=
  ⟨by rw [cell_of_row _ _ _ _ _ _ h]; rfl, by rw [cell_of_row _ _ _ _ _ _ h]; rfl, by rw [cell_of_row _ _ _ _ _ _ h]; rfl⟩
theorem HoldsP.new (w : World) (x : Nd) (k : Int) : HoldsP (w.alloc (.cells #[.int .i64 x.var, .int .i64 x.lo, .int .i64 x.hi, .int .i64 k] 84)) w.heap.size x k := heap_alloc_new _ _
theorem ret_holdsP {fn : Func} {p : Tmp} {tmps : Array Value} {B : Nat} {x : Nd} {k : Int} (h : fn.results = #[.cell p 84]) (hp : tmps.getD p undef = .pointer (some ⟨B, 0, none⟩)) (hh : HoldsP w B x k) :
    (results fn tmps).run Tryd.prog w = .ok (plv x k) w :=
  results_cell_row h tmps w B _ _ _ _ hp hh Tryd.underlying84 rfl (by kernel_rfl)

theorem fieldP (x : Nd) (k : Int) (w : World) : (Instr.field 84 (.agg #[.int .i64 x.var, .int .i64 x.lo, .int .i64 x.hi, .int .i64 k]) 0).run Tryd.prog w = .ok (.agg #[.int .i64 x.var, .int .i64 x.lo, .int .i64 x.hi]) w := by kernel_rfl
theorem fieldK (x : Nd) (k : Int) (w : World) : (Instr.field 84 (.agg #[.int .i64 x.var, .int .i64 x.lo, .int .i64 x.hi, .int .i64 k]) 1).run Tryd.prog w = .ok (.int .i64 k) w := by kernel_rfl
theorem fieldV (x : Nd) (w : World) : (Instr.field 61 (.agg #[.int .i64 x.var, .int .i64 x.lo, .int .i64 x.hi]) 0).run Tryd.prog w = .ok (.int .i64 x.var) w := by kernel_rfl

set_option maxRecDepth 100000 in
theorem coAt (h : CoAt w b F s R f) (ok : s.Base) {n : Int} (hn : s.has n = true) : Calls Tryd.prog 42 #[pv b, .int .i64 n] w fun e w' => e = .returned (plv (s.nd n) (f n)) ∧ Below w.heap.size w w' := by
  obtain ⟨bA, FA, bT, FT, v, X, tabs, rfl, hR, c⟩ := h
  have hb : Below w.heap.size w (w.alloc (.cells #[.int .i64 0, .int .i64 0, .int .i64 0, .int .i64 0] 84)) := by go_grown
  have hfew := ok.few
  have hl := c.len
  obtain ⟨g, cap, rfl, h2, i0, i1, d0, d1, d2, d3⟩ := (hR.below hb).node c ok hn
  obtain ⟨c0, c9, c18⟩ := (hR.below hb).cell
  clear hR c
  go_enter Tryd.func42, Tryd.ntmps42
  go_wp2
  exact bodyPost_ret (ret_holdsP Tryd.results42 rfl (HoldsP.new w (s.nd n) (f n))) rfl ⟨rfl, by go_grown⟩

set_option maxRecDepth 100000 in
theorem coNode (h : CoAt w b F s R f) (ok : s.Base) (n : Int) (hn : n ≤ 9223372036854775807 ∧ -9223372036854775808 ≤ n) : Calls Tryd.prog 26 #[pv b, .int .i64 n] w fun e w' => e = .returned (nodeV s n) ∧ Below w.heap.size w w' := by
  have hb : Below w.heap.size w (w.alloc (.cells #[.int .i64 0, .int .i64 0, .int .i64 0] 61)) := by go_grown
  have HH := coHas (h.below hb) ok n hn
  have HA := fun e : s.has n = true => coAt (h.below hb) ok e
  clear h
  have hz := HoldsN.new w ⟨0, 0, 0⟩
  unfold nodeV
  go_enter Tryd.func26, Tryd.ntmps26
  cases hh : s.has n
  · rw [hh] at HH
    go_wp2_with fail
    refine HH.mono ?_
    rintro e w1 ⟨rfl, rfl⟩
    clear HH HA
    go_wp2
    exact bodyPost_ret (ret_node Tryd.results26 rfl rfl (x := ⟨0, 0, 0⟩) (heap_alloc_new _ _)) rfl ⟨rfl, hb⟩
  · rw [hh] at HH
    go_wp2_with fail
    refine HH.mono ?_
    rintro e w1 ⟨rfl, rfl⟩
    replace HA := HA hh
    clear HH
    go_wp2_with fail
    refine HA.mono ?_
    rintro e w1 ⟨rfl, hb1⟩
    clear HA
    generalize w.alloc (.cells #[.int .i64 0, .int .i64 0, .int .i64 0] 61) = W at *
    have hz1 : HoldsN w1 w.heap.size ⟨0, 0, 0⟩ := HoldsN.below hz hb1
    obtain ⟨z0, z1, z2⟩ := hz1.cells
    have y0 := hz1.free 0
    have y1 := hz1.free 1
    have y2 := hz1.free 2
    have hx := hz1.put (s.nd n)
    have hb2 := ((((hb.trans (hb1.mono hb.size)).setCell (p := ⟨w.heap.size, 0, none⟩) (Nat.le_refl _) (.int .i64 (s.nd n).var)).setCell (p := ⟨w.heap.size, 1, none⟩) (Nat.le_refl _) (.int .i64 (s.nd n).lo)).setCell (p := ⟨w.heap.size, 2, none⟩) (Nat.le_refl _) (.int .i64 (s.nd n).hi))
    replace hx := Lib.hid hx
    replace hb2 := Lib.hid hb2
    clear hz hz1 hb hb1
    unfold plv
    have q0 := fieldP (s.nd n) (f n)
    go_wp2
    exact bodyPost_ret (ret_node Tryd.results26 rfl rfl (x := s.nd n) hx.out) rfl ⟨rfl, hb2.out⟩

end

end Go.Proofs.YtclkckinpjkglaaDoor

/-
  Walks of the code's store: what only looks, more.
-/
namespace Go.Proofs.YtclkckinpjkglaaDoor
open Go Go.RowKit

section
variable {w : World} {b : Nat} {F : Nat → Prop} {s : MS} {R : List Int} {f : Int → Int}

set_option maxRecDepth 100000 in
set_option maxHeartbeats 1000000 in
theorem coFits (h : CoAt w b F s R f) (ok : s.Base) (n l v : Int) (hn : n ≤ 9223372036854775807 ∧ -9223372036854775808 ≤ n) (hl : l = levO s.o v) : Calls Tryd.prog 33 #[pv b, .int .i64 n, .int .i64 l] w fun e w' => e = .returned (.bool (s.behind n v)) ∧ Below w.heap.size w w' := by
  subst hl
  have HC := coIsConst n w
  go_enter Tryd.func33, Tryd.ntmps33
  by_cases hc : isC n = true
  · have e2 : s.behind n v = true := MS.behind_const (isC_not (s := s) hc).2
    rw [e2]
    rw [hc] at HC
    clear h
    go_wp2_with fail
    refine HC.mono ?_
    rintro e w1 ⟨rfl, rfl⟩
    clear HC
    go_wp2
    go_ret
    exact ⟨rfl, Below.refl _ _⟩
  · have hc' : isC n = false := by simpa using hc
    rw [hc'] at HC
    have hx := isC_no hc'
    have HH := fun u : Sub w => coHas (h.sub u) ok n hn
    cases hh : s.has n
    · have e2 : s.behind n v = false := by simp [MS.behind, MS.node, hh, hx]
      rw [e2]
      rw [hh] at HH
      clear h
      go_wp2_with fail
      refine HC.mono ?_
      rintro e w1 ⟨rfl, rfl⟩
      clear HC
      go_wp2
      refine wp_region_quiet_all (C := fun w' => ∃ u : Sub w, w' = u.1) (by kernel_rfl) (by kernel_rfl) (InSub.drew w) ?_
      iterate 2 (go_big_quiet_step (fail))
      go_big_quiet_step (exact subSame (HH _))
      go_big_quiet_step (fail)
      iterate 12 go_big_quiet_skip
      iterate 2 (go_big_quiet_step (fail))
      refine wpQuiet_nil ?_
      clear HH
      intro w' hw'
      obtain ⟨u, rfl⟩ := hw'
      go_wp2
      go_ret
      exact ⟨rfl, u.2⟩
    · have e2 : s.behind n v = decide (levO s.o (s.nd n).var > levO s.o v) := MS.behind_node hh
      rw [e2]
      rw [hh] at HH
      have HA := fun u : Sub w => coAt (h.sub u) ok hh
      have HL := fun u : Sub w => permLevel s.o (s.nd n).var u.1
      obtain ⟨bA, FA, bT, FT, vv, X, tabs, rfl, hR, c⟩ := h
      have c1 := fun u : Sub w => (hR.sub u).order.1
      have c2 := fun u : Sub w => (hR.sub u).order.2.1
      have c3 := fun u : Sub w => (hR.sub u).order.2.2.1
      have c4 := fun u : Sub w => (hR.sub u).order.2.2.2.1
      have c5 := fun u : Sub w => (hR.sub u).order.2.2.2.2.1
      have c6 := fun u : Sub w => (hR.sub u).order.2.2.2.2.2.1
      have c7 := fun u : Sub w => (hR.sub u).order.2.2.2.2.2.2.1
      have c8 := fun u : Sub w => (hR.sub u).order.2.2.2.2.2.2.2
      have q0 := fieldP (s.nd n) (f n)
      have q1 := fieldV (s.nd n)
      unfold plv at HA
      simp only [ov] at HL
      clear hR c
      generalize levO s.o (s.nd n).var = X at *
      generalize levO s.o v = Y at *
      go_wp2_with fail
      refine HC.mono ?_
      rintro e w1 ⟨rfl, rfl⟩
      clear HC
      go_wp2
      refine wp_region_quiet_all (C := fun w' => ∃ u : Sub w, w' = u.1) (by kernel_rfl) (by kernel_rfl) (InSub.drew w) ?_
      iterate 2 (go_big_quiet_step (fail))
      go_big_quiet_step (exact subSame (HH _))
      iterate 7 (go_big_quiet_step (fail))
      go_big_quiet_step (exact subBelow (HA _))
      iterate 2 (go_big_quiet_step (fail))
      go_big_quiet_step (exact subBelow (HL _))
      iterate 4 (go_big_quiet_step (fail))
      refine wpQuiet_nil ?_
      clear HH HA HL c1 c2 c3 c4 c5 c6 c7 c8
      intro w' hw'
      obtain ⟨u, rfl⟩ := hw'
      go_wp2
      go_ret
      exact ⟨rfl, u.2⟩



end

end Go.Proofs.YtclkckinpjkglaaDoor

/-
  Walks of the code's store: hang, lay.
-/
namespace Go.Proofs.YtclkckinpjkglaaDoor
open Go Go.RowKit

theorem list_set_same {α : Type} {l : List α} {j : Nat} {v : α} (h : l[j]? = some v) : l.set j v = l := by
  refine List.ext_getElem? fun i => ?_
  rw [List.getElem?_set]
  split
  · rename_i e
    subst e
    have := (List.getElem?_eq_some_iff.1 h).1
    rw [if_pos this]
    exact h.symm
  · rfl
theorem encX_cell (X : List (Nd × Int)) (i : Nat) (hi : i < X.length) : (encX.all X)[i * 4]? = some (.int .i64 X[i].1.var) ∧ (encX.all X)[i * 4 + 1]? = some (.int .i64 X[i].1.lo) ∧ (encX.all X)[i * 4 + 2]? = some (.int .i64 X[i].1.hi) ∧ (encX.all X)[i * 4 + 3]? = some (.int .i64 X[i].2) :=
  ⟨encX.all_get X i hi 0 (by decide), encX.all_get X i hi 1 (by decide), encX.all_get X i hi 2 (by decide), encX.all_get X i hi 3 (by decide)⟩
/-- How often one is had, written. -/
theorem encX_above (X : List (Nd × Int)) (i : Nat) (hi : i < X.length) (k : Int) : encX.all (X.set i (X[i].1, k)) = (encX.all X).set (i * 4 + 3) (.int .i64 k) := by
  obtain ⟨h0, h1, h2, _⟩ := encX_cell X i hi
  rw [encX.all_set X i hi]
  show ((((encX.all X).set (i * 4) (.int .i64 X[i].1.var)).set (i * 4 + 1) (.int .i64 X[i].1.lo)).set (i * 4 + 1 + 1) (.int .i64 X[i].1.hi)).set (i * 4 + 1 + 1 + 1) (.int .i64 k) = _
  rw [list_set_same h0, list_set_same h1, list_set_same h2]
/-- A node, written. -/
theorem encX_node (X : List (Nd × Int)) (i : Nat) (hi : i < X.length) (x : Nd) : encX.all (X.set i (x, X[i].2)) = setMany (encX.all X) (i * 4) [.int .i64 x.var, .int .i64 x.lo, .int .i64 x.hi] := by
  obtain ⟨_, _, _, h3⟩ := encX_cell X i hi
  rw [encX.all_set X i hi]
  show ((((encX.all X).set (i * 4) (.int .i64 x.var)).set (i * 4 + 1) (.int .i64 x.lo)).set (i * 4 + 1 + 1) (.int .i64 x.hi)).set (i * 4 + 1 + 1 + 1) (.int .i64 X[i].2) = (((encX.all X).set (i * 4) (.int .i64 x.var)).set (i * 4 + 1) (.int .i64 x.lo)).set (i * 4 + 1 + 1) (.int .i64 x.hi)
  refine list_set_same ?_
  rw [List.getElem?_set_ne (by omega), List.getElem?_set_ne (by omega), List.getElem?_set_ne (by omega)]
  exact h3

section
variable {w : World} {b bA : Nat} {FA F : Nat → Prop} {bT : Nat → Nat} {FT : Nat → Nat → Prop} {v : Value} {o : Nat → Int} {ar : AS} {X : List (Nd × Int)} {tabs : Nat → TS} {s : MS} {R : List Int} {f : Int → Int}

theorem CoR.putNode {g n cap i : Nat} (h : CoR w b bA FA bT FT (.slice (some ⟨g, 0, none⟩) n cap) o ar X tabs) (hi : i < X.length) (x : Nd) :
    CoR (w.setCells g (i * 4) [.int .i64 x.var, .int .i64 x.lo, .int .i64 x.hi]) b bA FA bT FT (.slice (some ⟨g, 0, none⟩) n cap) o ar (X.set i (x, X[i].2)) tabs ∧ Keeps (footC b FA FT (.slice (some ⟨g, 0, none⟩) n cap)) w (w.setCells g (i * 4) [.int .i64 x.var, .int .i64 x.lo, .int .i64 x.hi]) := by
  refine h.setX rfl ?_ (Keeps.of_setCells (fun k => k = g) g rfl _ _ w)
  have hO := h.places
  obtain ⟨a, c, hv, _⟩ := hO.form
  injection hv with _ hn _
  subst hn
  have h1 := ownsRow_setCells [.int .i64 x.var, .int .i64 x.lo, .int .i64 x.hi] (i * 4) w _ hO
  unfold Owns
  rw [List.length_set, encX_node X i hi x]
  exact h1

/-- What a part of a node's sides has. -/
def cntK (x : Nd) (k : Nat) (m : Int) : Int := (if 1 ≤ k ∧ x.lo = m then 1 else 0) + (if 2 ≤ k ∧ x.hi = m then 1 else 0)
theorem cntK_zero (x : Nd) (m : Int) : cntK x 0 m = 0 := by simp [cntK]
theorem cntK_one (x : Nd) (m : Int) : cntK x 1 m = if x.lo = m then 1 else 0 := by simp [cntK]
theorem cntK_two (x : Nd) (m : Int) : cntK x 2 m = cnt x m := by simp [cntK, cnt]
theorem cntK_range (x : Nd) (k : Nat) (m : Int) : 0 ≤ cntK x k m ∧ cntK x k m ≤ 2 := by
  unfold cntK; split <;> split <;> decide

theorem cntK_next (x : Nd) {k : Nat} (hk : k < 2) {by' : Int} (hby : by' = 1 ∨ by' = -1) (m : Int) : by' * cntK x k m + (if (if k = 0 then x.lo else x.hi) = m then by' else 0) = by' * cntK x (k + 1) m := by
  rcases (by omega : k = 0 ∨ k = 1) with rfl | rfl
  · rw [cntK_zero, cntK_one, if_pos rfl]
    by_cases h1 : x.lo = m <;> simp [h1]
  · rw [cntK_one, cntK_two, show (if (1 : Nat) = 0 then x.lo else x.hi) = x.hi from rfl]
    unfold cnt
    rcases hby with rfl | rfl <;> by_cases h1 : x.lo = m <;> by_cases h2 : x.hi = m <;> simp [h1, h2]

/-- A constant is had by one more, or less: nothing is to be done. -/
theorem CoAt.bumpC (h : CoAt w b F s R f) {n : Int} (hc : n = 0 ∨ n = 1) (by' : Int) : CoAt w b F s R (fun m => f m + (if n = m then by' else 0)) := by
  obtain ⟨bA, FA, bT, FT, v, X, tabs, rfl, hR, c⟩ := h
  have h1 := c.bump n by' (by omega)
  have h2 : bump X n by' = X := by simp [bump, hc]
  rw [h2] at h1
  exact ⟨bA, FA, bT, FT, v, X, tabs, rfl, hR, h1⟩
/-- A node is. -/
theorem CoR.bumpN {g n1 cap : Nat} (h : CoR w b bA FA bT FT (.slice (some ⟨g, 0, none⟩) n1 cap) s.o s.ar X tabs) (c : s.Co R f X tabs) {n : Int} (h2 : 2 ≤ n) (hX : (n - 2).toNat < X.length) (by' : Int) :
    CoAt (w.setCell ⟨g, (n - 2).toNat * 4 + 3, none⟩ (.int .i64 (f n + by'))) b (footC b FA FT (.slice (some ⟨g, 0, none⟩) n1 cap)) s R (fun m => f m + (if n = m then by' else 0)) ∧
      Keeps (footC b FA FT (.slice (some ⟨g, 0, none⟩) n1 cap)) w (w.setCell ⟨g, (n - 2).toNat * 4 + 3, none⟩ (.int .i64 (f n + by'))) := by
  have h1 := c.bump n by' (by omega)
  have e : bump X n by' = X.set (n - 2).toNat (X[(n - 2).toNat].1, f n + by') := by
    have h3 := c.above _ hX
    rw [show ((n - 2).toNat : Int) + 2 = n by omega] at h3
    simp [bump, show ¬ (n = 0 ∨ n = 1) by omega, List.getD, hX, h3]
  obtain ⟨h4, h5⟩ := h.putCell (X' := bump X n by') (j := (n - 2).toNat * 4 + 3) (u := .int .i64 (f n + by')) (bump_length _ _ _) (by rw [e, encX_above X _ hX])
  exact ⟨⟨bA, FA, bT, FT, _, _, tabs, rfl, h4, h1⟩, h5⟩

set_option maxRecDepth 100000 in
set_option maxHeartbeats 1000000 in
theorem coHang (h : CoAt w b F s R f) (ok : s.Base) (x : Nd) (by' : Int) (hlo : s.there x.lo = true) (hhi : s.there x.hi = true) (hf : ∀ m, -100000 ≤ f m ∧ f m ≤ 100000) (hby : by' = 1 ∨ by' = -1) :
    Calls Tryd.prog 62 #[pv b, nv x, .int .i64 by'] w fun e w' => e = .returned (.tuple #[]) ∧ CoAt w' b F s R (fun m => f m + by' * cnt x m) ∧ Keeps F w w' := by
  have hfew := ok.few
  unfold nv
  go_enter Tryd.func62, Tryd.ntmps62
  go_wp2
  have hb : Below w.heap.size w (w.alloc (.cells #[.int .i64 x.var, .int .i64 x.lo, .int .i64 x.hi] 61)) := by go_grown
  replace h := h.below hb
  have hK0 := Keeps.of_below hb F
  generalize w.alloc (.cells #[.int .i64 x.var, .int .i64 x.lo, .int .i64 x.hi] 61) = W at *
  go_loopw [13] (fun i wr => ∃ k : Nat, k ≤ 2 ∧ i = .int .i64 k ∧ CoAt wr b F s R (fun m => f m + by' * cntK x k m) ∧ Keeps F w wr) (fun i _ => 2 - (intOf i).toNat)
  case atStart => exact ⟨0, by omega, rfl, h.congr fun m => by rw [cntK_zero]; omega, hK0⟩
  case round =>
    clear h hK0 hb
    obtain ⟨k, hk, rfl, h, hK⟩ := hrel
    by_cases hlt : k < 2
    · have hnext := cntK_next x hlt hby
      have hr := cntK_range x k
      have hthere : s.there (if k = 0 then x.lo else x.hi) = true := by split <;> assumption
      have hcm : ∀ W, CoAt W b F s R (fun m => (f m + by' * cntK x k m) + (if (if k = 0 then x.lo else x.hi) = m then by' else 0)) → CoAt W b F s R (fun m => f m + by' * cntK x (k + 1) m) := fun W hW => hW.congr fun m => by
        have := hnext m; omega
      have hbnd : ∀ m, -200000 ≤ f m + by' * cntK x k m ∧ f m + by' * cntK x k m ≤ 200000 := fun m => by
        have := hr m; have := hf m; rcases hby with rfl | rfl <;> omega
      have hix : ∀ W, (Instr.index 106 (.agg #[.int .i64 x.lo, .int .i64 x.hi]) (.int .i64 (k : Int))).run Tryd.prog W = .ok (.int .i64 (if k = 0 then x.lo else x.hi)) W := fun W => by
        rcases (by omega : k = 0 ∨ k = 1) with rfl | rfl <;> kernel_rfl
      clear hnext hr hlo hhi hf
      generalize hf1 : (fun m => f m + by' * cntK x k m) = f1 at *
      replace hbnd : ∀ m, -200000 ≤ f1 m ∧ f1 m ≤ 200000 := by subst hf1; exact hbnd
      replace hcm : ∀ W, CoAt W b F s R (fun m => f1 m + (if (if k = 0 then x.lo else x.hi) = m then by' else 0)) → CoAt W b F s R (fun m => f m + by' * cntK x (k + 1) m) := by subst hf1; exact hcm
      clear hf1
      generalize (if k = 0 then x.lo else x.hi) = n at *
      have hk2 : (k : Int) < 2 := by omega
      have HC := fun W => coIsConst n W
      replace hcm := Lib.hid hcm
      rcases MS.there_cases hthere with ⟨hc, _⟩ | hh
      · have hN := h.bumpC hc by'
        have e : isC n = true := by rcases hc with rfl | rfl <;> rfl
        rw [e] at HC
        clear h hc hthere
        go_wp2_with fail
        refine (HC _).mono ?_
        rintro e w1 ⟨rfl, rfl⟩
        clear HC
        go_wp2
        exact ⟨⟨k + 1, by omega, by go_num, hcm.out _ hN, hK⟩, by simp [intOf]; omega⟩
      · have e : isC n = false := isC_of ok hh
        rw [e] at HC
        have hbn := hbnd n
        obtain ⟨bA, FA, bT, FT, v, X, tabs, rfl, hR, c⟩ := h
        have hl := c.len
        obtain ⟨g, cap, rfl, h2, i0, i1, d0, d1, d2, d3⟩ := hR.node c ok hh
        have z3 := hR.places.free ((n - 2).toNat * 4 + 3)
        have c18 := hR.cell.2.2
        obtain ⟨hN, hK2⟩ := hR.bumpN c h2 (by omega) by'
        have HN := Lib.hid (hcm.out _ hN)
        have HK := Lib.hid (hK.and hK2)
        clear hR c hN hK2 hcm hbnd hK hthere
        go_wp2_with fail
        refine (HC _).mono ?_
        rintro e w1 ⟨rfl, rfl⟩
        clear HC
        go_wp2
        exact ⟨⟨k + 1, by omega, by go_num, HN.out, HK.out⟩, by simp [intOf]; omega⟩
    · obtain rfl : k = 2 := by omega
      go_wp2
      exact bodyPost_end (v := .tuple #[]) (by simp [results, Tryd.results62, go_sem]) rfl ⟨rfl, h.congr fun m => by rw [cntK_two], hK⟩

theorem chain_nodeC (W : World) (g k : Nat) (v0 v1 v2 : Value) : ((W.setCell ⟨g, k, none⟩ v0).setCell ⟨g, k + 1, none⟩ v1).setCell ⟨g, k + 2, none⟩ v2 = W.setCells g k [v0, v1, v2] := rfl
theorem MS.setNd_there {n m : Int} {x : Nd} : (s.setNd n x).there m = s.there m := rfl
theorem MS.Base.setNd (h : s.Base) (n : Int) (x : Nd) : (s.setNd n x).Base := ⟨h.ar, by simp [MS.setNd, h.len]⟩

set_option maxRecDepth 100000 in
set_option maxHeartbeats 2000000 in
theorem coLay {n : Int} (h : CoAt w b F s (n :: R) f) (ok : s.Base) (hn : s.has n = true) (hnR : n ∉ R) (x : Nd) (hv : 0 ≤ x.var ∧ x.var ≤ 7) (hlo : s.there x.lo = true) (hhi : s.there x.hi = true) (hone : ∀ m, s.has m = true → m ∉ n :: R → s.nd m ≠ x) (hf : ∀ m, -100000 ≤ f m ∧ f m ≤ 100000) :
    Calls Tryd.prog 50 #[pv b, .int .i64 n, nv x] w fun e w' => e = .returned (.tuple #[]) ∧ ∃ F', CoAt w' b F' (s.setNd n x) R (fun m => f m + cnt x m) ∧ Keeps F w w' ∧ Within w F F' := by
  have hfew := ok.few
  obtain ⟨xv, xl, xh⟩ := x
  dsimp only at hv hlo hhi
  obtain ⟨vn, rfl⟩ := Int.eq_ofNat_of_zero_le hv.1
  have okn := ok.setNd n ⟨(vn : Int), xl, xh⟩
  have hv8 : vn < 8 := by omega
  have hv8' : (vn : Int) < 8 := by omega
  obtain ⟨bA, FA, bT, FT, v, X, tabs, rfl, hR, c⟩ := h
  have hl := c.len
  obtain ⟨g, cap, rfl, h2, i0, i1, _, _, _, _⟩ := hR.node c ok hn
  have hX : (n - 2).toNat < X.length := by omega
  obtain ⟨cL, hget⟩ := c.lay ok hn hnR hv8 xl xh hone
  have hput : (tabs vn).putB (xl, xh) = true := by simp [TS.putB, hget]
  have tok := c.ok vn hv8
  have tsl := c.slots vn hv8
  have e2 : (X.getD (n - 2).toNat (⟨0, 0, 0⟩, 0)).2 = X[(n - 2).toNat].2 := by simp [List.getD, hX]
  rw [e2] at cL
  clear e2 hget hone
  unfold nv
  dsimp only
  have hBF := hR.lt
  go_enter Tryd.func50, Tryd.ntmps50
  go_wp2
  have hx := HoldsN.new w ⟨(vn : Int), xl, xh⟩
  dsimp only at hx
  have hb : Below w.heap.size w (w.alloc (.cells #[.int .i64 (vn : Int), .int .i64 xl, .int .i64 xh] 61)) := by go_grown
  replace hR := hR.below hb
  have hK := Keeps.of_below hb (footC b FA FT (.slice (some ⟨g, 0, none⟩) X.length cap))
  generalize w.alloc (.cells #[.int .i64 (vn : Int), .int .i64 xl, .int .i64 xh] 61) = W at *
  have c18 := fun u : Sub W => (hR.sub u).cell.2.2
  have x0 := fun u : Sub W => (HoldsN.sub hx u).cells.1
  have x1 := fun u : Sub W => (HoldsN.sub hx u).cells.2.1
  have x2 := fun u : Sub W => (HoldsN.sub hx u).cells.2.2
  dsimp only at x0 x1 x2
  replace cL := Lib.hid cL
  refine wp_region_quiet_tail (C := fun w' => ∃ u : Sub W, w' = u.1) 9 (by kernel_rfl) (by kernel_rfl) (InSub.drew W) ?_
  simp only [List.take_succ_cons, List.take_zero]
  iterate 9 (go_big_quiet_step (fail))
  refine wpQuiet_nil ?_
  clear c18 x0 x1 x2
  intro w' hw'
  obtain ⟨u, rfl⟩ := hw'
  have hR5 := hR.sub u
  have hx5 := HoldsN.sub hx u
  have hk5 := hK.and (Keeps.of_below u.2 _)
  clear hR hK hx
  generalize u.1 = W5 at *
  obtain ⟨q0, q1, q2, q3⟩ := placeX hR5.places (n - 2).toNat hX
  have y0 := hR5.places.free ((n - 2).toNat * 4)
  have y1 := hR5.places.free ((n - 2).toNat * 4 + 1)
  have y2 := hR5.places.free ((n - 2).toNat * 4 + 2)
  obtain ⟨hR6, hk6⟩ := hR5.putNode hX ⟨(vn : Int), xl, xh⟩
  have hx6 := hx5.keep hk6 (fun e => by have := hBF _ e; omega)
  replace hk6 := hk5.and hk6
  dsimp only at hR6 hk6 hx6
  have HR6 := Lib.hid hR6
  have HK6 := Lib.hid hk6
  have HX6 := Lib.hid hx6
  clear hR5 hx5 hk5 hR6 hk6 hx6 q3
  simp only [List.drop_succ_cons, List.drop_zero]
  apply wpList_step
  intro K1 hK1
  go_simp
  apply hK1
  clear hK1 q0 q1 q2 y0 y1 y2
  rw [chain_nodeC]
  have hR := HR6.out
  have hK := HK6.out
  have hx := HX6.out
  clear HR6 HK6 HX6
  generalize W5.setCells g ((n - 2).toNat * 4) [.int .i64 (vn : Int), .int .i64 xl, .int .i64 xh] = W6 at *
  refine wpList_nil ?_
  have x0 := fun u : Sub W6 => (HoldsN.sub hx u).cells.1
  have x1 := fun u : Sub W6 => (HoldsN.sub hx u).cells.2.1
  have x2 := fun u : Sub W6 => (HoldsN.sub hx u).cells.2.2
  dsimp only at x0 x1 x2
  have ct := fun u : Sub W6 => (hR.sub u).table vn hv8
  go_wp2
  refine wp_region_quiet_tail (C := fun w' => ∃ u : Sub W6, w' = u.1) 12 (by kernel_rfl) (by kernel_rfl) (InSub.drew W6) ?_
  simp only [List.take_succ_cons, List.take_zero]
  iterate 12 (go_big_quiet_step (fail))
  refine wpQuiet_nil ?_
  clear x0 x1 x2 ct
  intro w' hw'
  obtain ⟨u, rfl⟩ := hw'
  have hR7 := hR.sub u
  have hx7 := HoldsN.sub hx u
  have hk7 := hK.and (Keeps.of_below u.2 _)
  clear hR hK hx
  generalize u.1 = W7 at *
  have HP := uniqPutS (hR7.tab vn hv8) tok (by omega) xl xh n
  rw [hput] at HP
  simp only [List.drop_succ_cons, List.drop_zero]
  apply wpList_step
  intro K1 hK1
  go_simp
  refine HP.mono ?_
  rintro e W8 ⟨rfl, FT', hU, hKU, hWU⟩
  clear HP
  obtain ⟨hR8, hK8, hW8⟩ := hR7.setTab hv8 hU hKU hWU
  have hx8 := hx7.keep hK8 (fun e => by have := hBF _ e; omega)
  have hsz := hk7.size
  have hKf := hk7.and hK8
  have hWf : Within w (footC b FA FT (.slice (some ⟨g, 0, none⟩) X.length cap)) (footC b FA (upd FT vn FT') (.slice (some ⟨g, 0, none⟩) X.length cap)) := fun k hk => (hW8 k hk).imp id (fun h => by omega)
  clear hR7 hx7 hk7 hU hKU hWU hK8 hW8
  apply hK1
  clear hK1
  refine wpList_nil ?_
  have hlX : (X.set (n - 2).toNat (⟨(vn : Int), xl, xh⟩, X[(n - 2).toNat].2)).length = X.length := List.length_set ..
  have hC : CoAt W8 b (footC b FA (upd FT vn FT') (.slice (some ⟨g, 0, none⟩) X.length cap)) (s.setNd n ⟨(vn : Int), xl, xh⟩) R f := ⟨bA, FA, bT, upd FT vn FT', _, _, _, rfl, hR8, cL.out⟩
  have HH := coHang hC okn ⟨(vn : Int), xl, xh⟩ 1 hlo hhi hf (.inl rfl)
  unfold nv at HH
  dsimp only at HH
  obtain ⟨x0, x1, x2⟩ := hx8.cells
  dsimp only at x0 x1 x2
  clear hR8 hC hx8 cL tok
  go_wp2_with fail
  refine HH.mono ?_
  rintro e W9 ⟨rfl, hC9, hK9⟩
  clear HH
  go_wp2
  exact bodyPost_end (v := .tuple #[]) (by simp [results, Tryd.results50, go_sem]) rfl ⟨rfl, _, hC9.congr fun m => by omega, hKf.trans hK9 hWf, hWf⟩
end

end Go.Proofs.YtclkckinpjkglaaDoor
