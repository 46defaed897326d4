/-
  The code's store, as it lies in memory.
-/
import Derived.Test.YtbnjbnjhpccomaaCoM
import Derived.Test.YtbnjbnjhpccomaaArenaS
import Derived.Test.YtbnjbnjhpccomaaPerm
import Derived.Test.YtbnjbnjhpccomaaStoreC
namespace Go.Proofs.Ytbnjbnjhpccomaa
open Go Go.RowKit

/-- Places: a node, and how often it is had. -/
def encX : Enc Try.prog (Nd × Int) where
  slice := 60
  elem := 74
  size := 4
  bytes := 32
  cells x := [.int .i64 x.1.var, .int .i64 x.1.lo, .int .i64 x.1.hi, .int .i64 x.2]
  zero := .agg #[.int .i64 0, .int .i64 0, .int .i64 0, .int .i64 0]
  und := Try.underlying60
  info := info_of _ _ _ _ _ (by kernel_rfl)
  zsize := rfl
  pos := by decide
  few := by decide
  len _ := rfl
  one _ u h := by
    simp only [List.mem_cons, List.not_mem_nil, or_false] at h
    rcases h with rfl | rfl | rfl | rfl <;> rfl

/-- A pointer to a block. -/
abbrev pv (b : Nat) : Value := .pointer (some ⟨b, 0, none⟩)

/-- The blocks of a store. -/
def footC (b : Nat) (FA : Nat → Prop) (FT : Nat → Nat → Prop) (v : Value) (k : Nat) : Prop := k = b ∨ v.ownBlock = some k ∨ FA k ∨ ∃ i, i < 8 ∧ FT i k

/-- Its own row. -/
def rowC (most : Int) (o : Nat → Int) (bA : Nat) (bT : Nat → Nat) (v : Value) : Obj :=
  .cells #[.int .i64 most, .int .i64 (o 0), .int .i64 (o 1), .int .i64 (o 2), .int .i64 (o 3), .int .i64 (o 4), .int .i64 (o 5), .int .i64 (o 6), .int .i64 (o 7), pv bA, pv (bT 0), pv (bT 1), pv (bT 2), pv (bT 3), pv (bT 4), pv (bT 5), pv (bT 6), pv (bT 7), v] 62 (0, 0)

/-- At block b stands the code's store. -/
structure CoR (w : World) (b bA : Nat) (FA : Nat → Prop) (bT : Nat → Nat) (FT : Nat → Nat → Prop) (v : Value) (o : Nat → Int) (ar : AS) (X : List (Nd × Int)) (tabs : Nat → TS) : Prop where
  row : w.heap[b]? = some (rowC ar.most o bA bT v)
  ar : ArenaAt w bA FA ar
  tab : ∀ i, i < 8 → UniqAt w (bT i) (FT i) (tabs i)
  places : Owns encX w v X
  apart1 : v.ownBlock ≠ some b
  apart2 : ∀ k, FA k → k ≠ b ∧ v.ownBlock ≠ some k
  apart3 : ∀ i, i < 8 → ∀ k, FT i k → k ≠ b ∧ v.ownBlock ≠ some k ∧ ¬ FA k
  apart4 : ∀ i, i < 8 → ∀ j, j < 8 → i ≠ j → ∀ k, FT i k → ¬ FT j k

/-- By its state. -/
def CoAt (w : World) (b : Nat) (F : Nat → Prop) (s : MS) (R : List Int) (f : Int → Int) : Prop :=
  ∃ bA FA bT FT v X tabs, F = footC b FA FT v ∧ CoR w b bA FA bT FT v s.o s.ar X tabs ∧ s.Co R f X tabs

section
variable {w w' : World} {b bA : Nat} {FA F G : Nat → Prop} {bT : Nat → Nat} {FT : Nat → Nat → Prop} {v : Value} {o : Nat → Int} {ar : AS} {X : List (Nd × Int)} {tabs : Nat → TS} {s : MS} {R : List Int} {f : Int → Int}

theorem CoR.lt (h : CoR w b bA FA bT FT v o ar X tabs) : ∀ k, footC b FA FT v k → k < w.heap.size := by
  rintro k (rfl | hk | hk | ⟨i, hi, hk⟩)
  · exact row_lt h.row
  · exact h.places.lt k hk
  · exact h.ar.lt k hk
  · exact (h.tab i hi).lt k hk
theorem CoR.keep (h : CoR w b bA FA bT FT v o ar X tabs) (hb : Keeps G w w') (hF : ∀ k, footC b FA FT v k → ¬ G k) : CoR w' b bA FA bT FT v o ar X tabs :=
  ⟨(hb.block b (row_lt h.row) (hF b (.inl rfl))).trans h.row, h.ar.keep hb fun k hk => hF k (.inr (.inr (.inl hk))), fun i hi => (h.tab i hi).keep hb fun k hk => hF k (.inr (.inr (.inr ⟨i, hi, hk⟩))),
    h.places.keep hb fun g hg => hF g (.inr (.inl hg)), h.apart1, h.apart2, h.apart3, h.apart4⟩
theorem CoR.below (h : CoR w b bA FA bT FT v o ar X tabs) (hb : Below w.heap.size w w') : CoR w' b bA FA bT FT v o ar X tabs := h.keep (Keeps.of_below hb noBlock) (fun _ _ h => h)
theorem CoR.sub (h : CoR w b bA FA bT FT v o ar X tabs) (u : Sub w) : CoR u.1 b bA FA bT FT v o ar X tabs := h.below u.2
theorem CoR.cell (h : CoR w b bA FA bT FT v o ar X tabs) : w.cell? ⟨b, 0, none⟩ = some (.int .i64 ar.most) ∧ w.cell? ⟨b, 9, none⟩ = some (pv bA) ∧ w.cell? ⟨b, 18, none⟩ = some v :=
  ⟨by rw [cell_of_row _ _ _ _ _ _ h.row]; rfl, by rw [cell_of_row _ _ _ _ _ _ h.row]; rfl, by rw [cell_of_row _ _ _ _ _ _ h.row]; rfl⟩
theorem CoR.place (h : CoR w b bA FA bT FT v o ar X tabs) (i : Nat) (hi : i < 8) : w.cell? ⟨b, 1 + i, none⟩ = some (.int .i64 (o i)) := by
  rw [cell_of_row _ _ _ _ _ _ h.row]
  rcases (by omega : i = 0 ∨ i = 1 ∨ i = 2 ∨ i = 3 ∨ i = 4 ∨ i = 5 ∨ i = 6 ∨ i = 7) with rfl | rfl | rfl | rfl | rfl | rfl | rfl | rfl <;> rfl
theorem CoR.table (h : CoR w b bA FA bT FT v o ar X tabs) (i : Nat) (hi : i < 8) : w.cell? ⟨b, 10 + i, none⟩ = some (pv (bT i)) := by
  rw [cell_of_row _ _ _ _ _ _ h.row]
  rcases (by omega : i = 0 ∨ i = 1 ∨ i = 2 ∨ i = 3 ∨ i = 4 ∨ i = 5 ∨ i = 6 ∨ i = 7) with rfl | rfl | rfl | rfl | rfl | rfl | rfl | rfl <;> rfl
theorem CoR.order (h : CoR w b bA FA bT FT v o ar X tabs) : w.cell? ⟨b, 1, none⟩ = some (.int .i64 (o 0)) ∧ w.cell? ⟨b, 2, none⟩ = some (.int .i64 (o 1)) ∧ w.cell? ⟨b, 3, none⟩ = some (.int .i64 (o 2)) ∧ w.cell? ⟨b, 4, none⟩ = some (.int .i64 (o 3)) ∧
    w.cell? ⟨b, 5, none⟩ = some (.int .i64 (o 4)) ∧ w.cell? ⟨b, 6, none⟩ = some (.int .i64 (o 5)) ∧ w.cell? ⟨b, 7, none⟩ = some (.int .i64 (o 6)) ∧ w.cell? ⟨b, 8, none⟩ = some (.int .i64 (o 7)) :=
  ⟨h.place 0 (by decide), h.place 1 (by decide), h.place 2 (by decide), h.place 3 (by decide), h.place 4 (by decide), h.place 5 (by decide), h.place 6 (by decide), h.place 7 (by decide)⟩
theorem CoR.free (h : CoR w b bA FA bT FT v o ar X tabs) (j : Nat) : w.frozen? ⟨b, j, none⟩ = false := frozen_of_row _ _ _ _ _ h.row
theorem CoR.form (h : CoR w b bA FA bT FT v o ar X tabs) : ∃ a c, v = .slice a X.length c := by
  obtain ⟨a, c, e, _⟩ := h.places.form
  exact ⟨a, c, e⟩

theorem CoAt.lt (h : CoAt w b F s R f) (k : Nat) (hk : F k) : k < w.heap.size := by obtain ⟨bA, FA, bT, FT, v, X, tabs, rfl, h, _⟩ := h; exact h.lt k hk
theorem CoAt.keep (h : CoAt w b F s R f) (hb : Keeps G w w') (hF : ∀ k, F k → ¬ G k) : CoAt w' b F s R f := by obtain ⟨bA, FA, bT, FT, v, X, tabs, rfl, h, c⟩ := h; exact ⟨bA, FA, bT, FT, v, X, tabs, rfl, h.keep hb hF, c⟩
theorem CoAt.below (h : CoAt w b F s R f) (hb : Below w.heap.size w w') : CoAt w' b F s R f := h.keep (Keeps.of_below hb noBlock) (fun _ _ h => h)
theorem CoAt.sub (h : CoAt w b F s R f) (u : Sub w) : CoAt u.1 b F s R f := h.below u.2
theorem CoAt.congr {g : Int → Int} (h : CoAt w b F s R f) (e : ∀ m, f m = g m) : CoAt w b F s R g := by
  obtain rfl : f = g := funext e
  exact h

/-- A place's cells. -/
theorem placeX {g cap n : Nat} {l : List (Nd × Int)} (h : Owns encX w (.slice (some ⟨g, 0, none⟩) n cap) l) (i : Nat) (hi : i < l.length) :
    w.cell? ⟨g, i * 4, none⟩ = some (.int .i64 l[i].1.var) ∧ w.cell? ⟨g, i * 4 + 1, none⟩ = some (.int .i64 l[i].1.lo) ∧ w.cell? ⟨g, i * 4 + 2, none⟩ = some (.int .i64 l[i].1.hi) ∧ w.cell? ⟨g, i * 4 + 3, none⟩ = some (.int .i64 l[i].2) := by
  obtain ⟨a, c, hv, _, _, _, H⟩ := h.form
  injection hv with ha _ hc
  obtain ⟨g', e, _, _, hcell⟩ := H ⟨g, 0, none⟩ ha.symm
  cases e
  exact ⟨hcell i hi 0 (by decide), hcell i hi 1 (by decide), hcell i hi 2 (by decide), hcell i hi 3 (by decide)⟩

/-- The arena has turned. -/
theorem CoR.setAr (h : CoR w b bA FA bT FT v o ar X tabs) {FA' : Nat → Prop} {ar' : AS} (hA : ArenaAt w' bA FA' ar') (hm : ar'.most = ar.most) (hK : Keeps FA w w') (hW : Within w FA FA') :
    CoR w' b bA FA' bT FT v o ar' X tabs ∧ Keeps (footC b FA FT v) w w' ∧ Within w (footC b FA FT v) (footC b FA' FT v) := by
  have hn : ∀ k, k < w.heap.size → ¬ FA k → ¬ FA' k := fun k hk h1 h2 => (hW k h2).elim h1 (fun h3 => by omega)
  have hb : ¬ FA b := fun e => (h.apart2 b e).1 rfl
  have hv : ∀ k, v.ownBlock = some k → ¬ FA k := fun k hk e => (h.apart2 k e).2 hk
  have ht : ∀ i, i < 8 → ∀ k, FT i k → ¬ FA k := fun i hi k hk => (h.apart3 i hi k hk).2.2
  refine ⟨⟨?_, hA, fun i hi => (h.tab i hi).keep hK (ht i hi), h.places.keep hK hv, h.apart1, fun k hk => ⟨fun e => ?_, fun e => ?_⟩, fun i hi k hk => ⟨(h.apart3 i hi k hk).1, (h.apart3 i hi k hk).2.1, ?_⟩, h.apart4⟩, hK.mono fun k hk => .inr (.inr (.inl hk)), ?_⟩
  · rw [hm]; exact (hK.block b (row_lt h.row) hb).trans h.row
  · subst e; exact hn _ (row_lt h.row) hb hk
  · exact hn _ (h.places.lt k e) (hv k e) hk
  · exact hn _ ((h.tab i hi).lt k hk) (ht i hi k hk)
  · rintro k (e | e | e | e)
    · exact .inl (.inl e)
    · exact .inl (.inr (.inl e))
    · exact (hW k e).imp (fun h => .inr (.inr (.inl h))) id
    · exact .inl (.inr (.inr (.inr e)))

/-- A table has turned. -/
theorem CoR.setTab (h : CoR w b bA FA bT FT v o ar X tabs) {i : Nat} (hi : i < 8) {F' : Nat → Prop} {t' : TS} (hA : UniqAt w' (bT i) F' t') (hK : Keeps (FT i) w w') (hW : Within w (FT i) F') :
    CoR w' b bA FA bT (upd FT i F') v o ar X (upd tabs i t') ∧ Keeps (footC b FA FT v) w w' ∧ Within w (footC b FA FT v) (footC b FA (upd FT i F') v) := by
  have hn : ∀ k, k < w.heap.size → ¬ FT i k → ¬ F' k := fun k hk h1 h2 => (hW k h2).elim h1 (fun h3 => by omega)
  have hb : ¬ FT i b := fun e => (h.apart3 i hi b e).1 rfl
  have hv : ∀ k, v.ownBlock = some k → ¬ FT i k := fun k hk e => (h.apart3 i hi k e).2.1 hk
  have ha : ∀ k, FA k → ¬ FT i k := fun k hk e => (h.apart3 i hi k e).2.2 hk
  have ht : ∀ j, j < 8 → j ≠ i → ∀ k, FT j k → ¬ FT i k := fun j hj hne k hk => h.apart4 j hj i hi hne k hk
  refine ⟨⟨(hK.block b (row_lt h.row) hb).trans h.row, h.ar.keep hK ha, fun j hj => ?_, h.places.keep hK hv, h.apart1, h.apart2, fun j hj k hk => ?_, fun j hj l hl hne k hk hk2 => ?_⟩, hK.mono fun k hk => .inr (.inr (.inr ⟨i, hi, hk⟩)), ?_⟩
  · by_cases e : j = i
    · subst e; rw [upd_same, upd_same]; exact hA
    · rw [upd_other _ _ _ e, upd_other _ _ _ e]; exact (h.tab j hj).keep hK (ht j hj e)
  · by_cases e : j = i
    · subst e
      rw [upd_same] at hk
      refine ⟨fun e => ?_, fun e => ?_, fun e => ?_⟩
      · subst e; exact hn _ (row_lt h.row) hb hk
      · exact hn _ (h.places.lt k e) (hv k e) hk
      · exact hn _ (h.ar.lt k e) (ha k e) hk
    · rw [upd_other _ _ _ e] at hk; exact h.apart3 j hj k hk
  · by_cases e : j = i
    · subst e
      rw [upd_same] at hk
      rw [upd_other _ _ _ (Ne.symm hne)] at hk2
      exact hn _ ((h.tab l hl).lt k hk2) (ht l hl (Ne.symm hne) k hk2) hk
    · rw [upd_other _ _ _ e] at hk
      by_cases e2 : l = i
      · subst e2
        rw [upd_same] at hk2
        exact hn _ ((h.tab j hj).lt k hk) (ht j hj e k hk) hk2
      · rw [upd_other _ _ _ e2] at hk2
        exact h.apart4 j hj l hl hne k hk hk2
  · rintro k (e | e | e | ⟨j, hj, e⟩)
    · exact .inl (.inl e)
    · exact .inl (.inr (.inl e))
    · exact .inl (.inr (.inr (.inl e)))
    · by_cases e2 : j = i
      · subst e2
        rw [upd_same] at e
        exact (hW k e).imp (fun h => .inr (.inr (.inr ⟨j, hj, h⟩))) id
      · rw [upd_other _ _ _ e2] at e
        exact .inl (.inr (.inr (.inr ⟨j, hj, e⟩)))

/-- The places have turned, and lie where they lay. -/
theorem CoR.setX (h : CoR w b bA FA bT FT v o ar X tabs) {X' : List (Nd × Int)} {g : Nat} (hg : v.ownBlock = some g) (hO : Owns encX w' v X') (hK : Keeps (fun k => k = g) w w') :
    CoR w' b bA FA bT FT v o ar X' tabs ∧ Keeps (footC b FA FT v) w w' := by
  refine ⟨⟨(hK.block b (row_lt h.row) fun e => h.apart1 (e ▸ hg)).trans h.row, h.ar.keep hK fun k hk e => (h.apart2 k hk).2 (e ▸ hg), fun i hi => (h.tab i hi).keep hK fun k hk e => (h.apart3 i hi k hk).2.1 (e ▸ hg), hO, h.apart1, h.apart2, h.apart3, h.apart4⟩, hK.mono fun k hk => .inr (.inl (hk ▸ hg))⟩
/-- A cell of the places written. -/
theorem CoR.putCell {g n cap j : Nat} (h : CoR w b bA FA bT FT (.slice (some ⟨g, 0, none⟩) n cap) o ar X tabs) {X' : List (Nd × Int)} {u : Value} (hl : X'.length = X.length) (he : encX.all X' = (encX.all X).set j u) :
    CoR (w.setCell ⟨g, j, none⟩ u) b bA FA bT FT (.slice (some ⟨g, 0, none⟩) n cap) o ar X' tabs ∧ Keeps (footC b FA FT (.slice (some ⟨g, 0, none⟩) n cap)) w (w.setCell ⟨g, j, none⟩ u) := by
  refine h.setX rfl ?_ (Keeps.of_setCell _ w ⟨g, j, none⟩ u rfl)
  have hO := h.places
  obtain ⟨a, c, hv, _⟩ := hO.form
  injection hv with _ hn _
  subst hn
  have h1 := (World.ownsRow.stored hO j u).1
  unfold Owns
  rw [hl, he]
  exact h1
/-- The slice of places stored anew. -/
theorem CoR.setV (h : CoR w b bA FA bT FT v o ar X tabs) {v' : Value} {X' : List (Nd × Int)} (hO : Owns encX w v' X') (h1 : ∀ k, v'.ownBlock = some k → v.ownBlock = some k ∨ (k ≠ b ∧ ¬ FA k ∧ ∀ i, i < 8 → ¬ FT i k)) :
    CoR (w.setCell ⟨b, 18, none⟩ v') b bA FA bT FT v' o ar X' tabs := by
  have hK := Keeps.of_setCell (fun k => k = b) w ⟨b, 18, none⟩ v' rfl
  have hb : v'.ownBlock ≠ some b := fun e => (h1 b e).elim h.apart1 fun h => h.1 rfl
  refine ⟨(heap_setCell_same w b 18 _ _ v' h.row).trans rfl, h.ar.keep hK fun k hk e => (h.apart2 k hk).1 e, fun i hi => (h.tab i hi).keep hK fun k hk e => (h.apart3 i hi k hk).1 e, hO.keep hK fun g hg e => hb (e ▸ hg), hb, fun k hk => ⟨(h.apart2 k hk).1, fun e => ?_⟩, fun i hi k hk => ⟨(h.apart3 i hi k hk).1, fun e => ?_, (h.apart3 i hi k hk).2.2⟩, h.apart4⟩
  · exact (h1 k e).elim (h.apart2 k hk).2 fun h => h.2.1 hk
  · exact (h1 k e).elim (h.apart3 i hi k hk).2.1 fun h => h.2.2 i hi hk
/-- The order stored anew. -/
theorem CoR.setOrder (h : CoR w b bA FA bT FT v o ar X tabs) (p : Nat → Int) :
    CoR (w.setCells b 1 [.int .i64 (p 0), .int .i64 (p 1), .int .i64 (p 2), .int .i64 (p 3), .int .i64 (p 4), .int .i64 (p 5), .int .i64 (p 6), .int .i64 (p 7)]) b bA FA bT FT v p ar X tabs ∧
      Keeps (footC b FA FT v) w (w.setCells b 1 [.int .i64 (p 0), .int .i64 (p 1), .int .i64 (p 2), .int .i64 (p 3), .int .i64 (p 4), .int .i64 (p 5), .int .i64 (p 6), .int .i64 (p 7)]) := by
  have hk := Keeps.of_setCells (fun k => k = b) b rfl [.int .i64 (p 0), .int .i64 (p 1), .int .i64 (p 2), .int .i64 (p 3), .int .i64 (p 4), .int .i64 (p 5), .int .i64 (p 6), .int .i64 (p 7)] 1 w
  refine ⟨⟨?_, h.ar.keep hk fun k hk e => (h.apart2 k hk).1 e, fun i hi => (h.tab i hi).keep hk fun k hk e => (h.apart3 i hi k hk).1 e, h.places.keep hk fun g hg e => h.apart1 (e ▸ hg), h.apart1, h.apart2, h.apart3, h.apart4⟩, hk.mono fun k e => .inl e⟩
  have r1 := heap_setCell_same _ b 1 _ _ (.int .i64 (p 0)) h.row
  have r2 := heap_setCell_same _ b 2 _ _ (.int .i64 (p 1)) r1
  have r3 := heap_setCell_same _ b 3 _ _ (.int .i64 (p 2)) r2
  have r4 := heap_setCell_same _ b 4 _ _ (.int .i64 (p 3)) r3
  have r5 := heap_setCell_same _ b 5 _ _ (.int .i64 (p 4)) r4
  have r6 := heap_setCell_same _ b 6 _ _ (.int .i64 (p 5)) r5
  have r7 := heap_setCell_same _ b 7 _ _ (.int .i64 (p 6)) r6
  have r8 := heap_setCell_same _ b 8 _ _ (.int .i64 (p 7)) r7
  refine Eq.trans r8 ?_
  simp [rowC]
end

/-- The cells of what is there. -/
theorem CoR.node {w : World} {b bA : Nat} {FA : Nat → Prop} {bT : Nat → Nat} {FT : Nat → Nat → Prop} {v : Value} {s : MS} {R : List Int} {f : Int → Int} {X : List (Nd × Int)} {tabs : Nat → TS} (h : CoR w b bA FA bT FT v s.o s.ar X tabs) (c : s.Co R f X tabs) (ok : s.Base) {n : Int} (hn : s.has n = true) :
    ∃ (g cap : Nat), v = .slice (some ⟨g, 0, none⟩) X.length cap ∧ 2 ≤ n ∧ 0 ≤ n - 2 ∧ n - 2 < (X.length : Int) ∧
    w.cell? ⟨g, (n - 2).toNat * 4, none⟩ = some (.int .i64 (s.nd n).var) ∧ w.cell? ⟨g, (n - 2).toNat * 4 + 1, none⟩ = some (.int .i64 (s.nd n).lo) ∧ w.cell? ⟨g, (n - 2).toNat * 4 + 2, none⟩ = some (.int .i64 (s.nd n).hi) ∧ w.cell? ⟨g, (n - 2).toNat * 4 + 3, none⟩ = some (.int .i64 (f n)) := by
  obtain ⟨r1, r2, _⟩ := ok.range hn
  have hl := c.len
  obtain ⟨g, cap, rfl, _, _⟩ := h.places.some (by omega)
  have hi : n = ((n - 2).toNat : Int) + 2 := by omega
  have hX : (n - 2).toNat < X.length := by omega
  have := placeX h.places (n - 2).toNat hX
  rw [c.node _ hX (by rw [← hi]; exact hn), c.above _ hX, ← hi] at this
  exact ⟨g, cap, rfl, r1, by omega, by omega, this⟩

end Go.Proofs.Ytbnjbnjhpccomaa
