/-
  Texts of this proof, one behind the other: SlotC, Nums.
-/
import Derived.Test.YtilcjpaifbcjaaaG1
import Derived.Test.YtilcjpaifbcjaaaG4
import Derived.Test.YtilcjpaifbcjaaaG5
/-
  The landed package slots: its slots in memory.
-/
namespace Go.Proofs.Ytilcjpaifbcjaaa
open Go Go.RowKit

/-- The cells of slots. -/
structure SlRow (cs : Array Value) (t : Int) (f : SF) : Prop where
  size : cs.size = 49
  ten : cs[0]? = some (.int .i64 t)
  cell : ∀ i, i < 16 → cs[1 + i * 3]? = some (.bool (f i).held) ∧ cs[1 + i * 3 + 1]? = some (.int .i64 (f i).gen) ∧ cs[1 + i * 3 + 2]? = some (.int .i64 (f i).val)

/-- At block b stand a tenant's slots. -/
def SlC (w : World) (b : Nat) (t : Int) (f : SF) : Prop := ∃ cs, w.heap[b]? = some (.cells cs 59 (0, 0)) ∧ SlRow cs t f

theorem SlRow.setHeld {cs : Array Value} {t : Int} {f : SF} (h : SlRow cs t f) {i : Nat} (hi : i < 16) (x : Bool) : SlRow (cs.setIfInBounds (1 + i * 3) (.bool x)) t (f.put i ⟨(f i).gen, x, (f i).val⟩) := by
  refine ⟨by simp [h.size], ?_, fun j hj => ?_⟩
  · rw [Array.getElem?_setIfInBounds_ne (by omega)]; exact h.ten
  · obtain ⟨h1, h2, h3⟩ := h.cell j hj
    have hs := h.size
    by_cases e : j = i
    · subst e
      rw [SF.put_same, Array.getElem?_setIfInBounds_self_of_lt (by omega), Array.getElem?_setIfInBounds_ne (by omega), Array.getElem?_setIfInBounds_ne (by omega)]
      exact ⟨rfl, h2, h3⟩
    · rw [SF.put_other _ _ _ e, Array.getElem?_setIfInBounds_ne (by omega), Array.getElem?_setIfInBounds_ne (by omega), Array.getElem?_setIfInBounds_ne (by omega)]
      exact ⟨h1, h2, h3⟩

theorem SlRow.setGen {cs : Array Value} {t : Int} {f : SF} (h : SlRow cs t f) {i : Nat} (hi : i < 16) (x : Int) : SlRow (cs.setIfInBounds (1 + i * 3 + 1) (.int .i64 x)) t (f.put i ⟨x, (f i).held, (f i).val⟩) := by
  refine ⟨by simp [h.size], ?_, fun j hj => ?_⟩
  · rw [Array.getElem?_setIfInBounds_ne (by omega)]; exact h.ten
  · obtain ⟨h1, h2, h3⟩ := h.cell j hj
    have hs := h.size
    by_cases e : j = i
    · subst e
      rw [SF.put_same, Array.getElem?_setIfInBounds_ne (by omega), Array.getElem?_setIfInBounds_self_of_lt (by omega), Array.getElem?_setIfInBounds_ne (by omega)]
      exact ⟨h1, rfl, h3⟩
    · rw [SF.put_other _ _ _ e, Array.getElem?_setIfInBounds_ne (by omega), Array.getElem?_setIfInBounds_ne (by omega), Array.getElem?_setIfInBounds_ne (by omega)]
      exact ⟨h1, h2, h3⟩

theorem SlRow.setVal {cs : Array Value} {t : Int} {f : SF} (h : SlRow cs t f) {i : Nat} (hi : i < 16) (x : Int) : SlRow (cs.setIfInBounds (1 + i * 3 + 2) (.int .i64 x)) t (f.put i ⟨(f i).gen, (f i).held, x⟩) := by
  refine ⟨by simp [h.size], ?_, fun j hj => ?_⟩
  · rw [Array.getElem?_setIfInBounds_ne (by omega)]; exact h.ten
  · obtain ⟨h1, h2, h3⟩ := h.cell j hj
    have hs := h.size
    by_cases e : j = i
    · subst e
      rw [SF.put_same, Array.getElem?_setIfInBounds_ne (by omega), Array.getElem?_setIfInBounds_ne (by omega), Array.getElem?_setIfInBounds_self_of_lt (by omega)]
      exact ⟨h1, h2, rfl⟩
    · rw [SF.put_other _ _ _ e, Array.getElem?_setIfInBounds_ne (by omega), Array.getElem?_setIfInBounds_ne (by omega), Array.getElem?_setIfInBounds_ne (by omega)]
      exact ⟨h1, h2, h3⟩

section
variable {w w' : World} {b : Nat} {t : Int} {f : SF}

theorem SlC.lt (h : SlC w b t f) : b < w.heap.size := by
  obtain ⟨cs, hr, _⟩ := h
  exact (Array.getElem?_eq_some_iff.1 hr).1
theorem SlC.block (h : SlC w b t f) (hb : w'.heap[b]? = w.heap[b]?) : SlC w' b t f := by
  obtain ⟨cs, hr, hc⟩ := h
  exact ⟨cs, hb.trans hr, hc⟩
theorem SlC.below (h : SlC w b t f) (hb : Below w.heap.size w w') : SlC w' b t f := h.block (hb.block b h.lt)
theorem SlC.keep (h : SlC w b t f) {F : Nat → Prop} (hb : Keeps F w w') (hF : ¬ F b) : SlC w' b t f := h.block (hb.block b h.lt hF)
theorem SlC.ten (h : SlC w b t f) : w.cell? ⟨b, 0, none⟩ = some (.int .i64 t) := by
  obtain ⟨cs, hr, hc⟩ := h
  rw [cell_of_row _ _ _ _ _ _ hr, hc.ten]
theorem SlC.cells (h : SlC w b t f) (i : Nat) (hi : i < 16) : w.cell? ⟨b, 1 + i * 3, none⟩ = some (.bool (f i).held) ∧ w.cell? ⟨b, 1 + i * 3 + 1, none⟩ = some (.int .i64 (f i).gen) ∧ w.cell? ⟨b, 1 + i * 3 + 2, none⟩ = some (.int .i64 (f i).val) := by
  obtain ⟨cs, hr, hc⟩ := h
  rw [cell_of_row _ _ _ _ _ _ hr, cell_of_row _ _ _ _ _ _ hr, cell_of_row _ _ _ _ _ _ hr]
  exact hc.cell i hi
theorem SlC.free (h : SlC w b t f) (j : Nat) : w.frozen? ⟨b, j, none⟩ = false := by
  obtain ⟨cs, hr, _⟩ := h
  exact frozen_of_row _ _ _ _ _ hr
theorem SlC.setHeld (h : SlC w b t f) {i : Nat} (hi : i < 16) (x : Bool) : SlC (w.setCell ⟨b, 1 + i * 3, none⟩ (.bool x)) b t (f.put i ⟨(f i).gen, x, (f i).val⟩) := by
  obtain ⟨cs, hr, hc⟩ := h
  exact ⟨_, heap_setCell_same w b _ _ _ _ hr, hc.setHeld hi x⟩
theorem SlC.setGen (h : SlC w b t f) {i : Nat} (hi : i < 16) (x : Int) : SlC (w.setCell ⟨b, 1 + i * 3 + 1, none⟩ (.int .i64 x)) b t (f.put i ⟨x, (f i).held, (f i).val⟩) := by
  obtain ⟨cs, hr, hc⟩ := h
  exact ⟨_, heap_setCell_same w b _ _ _ _ hr, hc.setGen hi x⟩
theorem SlC.setVal (h : SlC w b t f) {i : Nat} (hi : i < 16) (x : Int) : SlC (w.setCell ⟨b, 1 + i * 3 + 2, none⟩ (.int .i64 x)) b t (f.put i ⟨(f i).gen, (f i).held, x⟩) := by
  obtain ⟨cs, hr, hc⟩ := h
  exact ⟨_, heap_setCell_same w b _ _ _ _ hr, hc.setVal hi x⟩

theorem put_put (f : SF) (i : Nat) (a c : Slo) : (f.put i a).put i c = f.put i c := by
  funext j
  by_cases e : j = i
  · subst e; rw [SF.put_same, SF.put_same]
  · rw [SF.put_other _ _ _ e, SF.put_other _ _ _ e, SF.put_other _ _ _ e]

/-- A whole slot written. -/
theorem SlC.setAll (h : SlC w b t f) {i : Nat} (hi : i < 16) (x : Bool) (g v : Int) : SlC (((w.setCell ⟨b, 1 + i * 3, none⟩ (.bool x)).setCell ⟨b, 1 + i * 3 + 1, none⟩ (.int .i64 g)).setCell ⟨b, 1 + i * 3 + 2, none⟩ (.int .i64 v)) b t (f.put i ⟨g, x, v⟩) := by
  have h3 := ((h.setHeld hi x).setGen hi g).setVal hi v
  simp only [SF.put_same, put_put] at h3
  exact h3
theorem SlC.setTwo (h : SlC w b t f) {i : Nat} (hi : i < 16) (x : Bool) (v : Int) : SlC ((w.setCell ⟨b, 1 + i * 3, none⟩ (.bool x)).setCell ⟨b, 1 + i * 3 + 2, none⟩ (.int .i64 v)) b t (f.put i ⟨(f i).gen, x, v⟩) := by
  have h3 := (h.setHeld hi x).setVal hi v
  simp only [SF.put_same, put_put] at h3
  exact h3
end

end Go.Proofs.Ytilcjpaifbcjaaa

/-
  Slices of numbers of 64 bits without a sign; slices of whatever made since.
-/
namespace Go.Proofs.Ytilcjpaifbcjaaa
open Go Go.RowKit

/-- A slice of somebody's own, made since w. -/
structure NRel {P : Program} {α : Type} (E : Enc P α) (w : World) (out : List α) (v : Value) (wr : World) : Prop where
  own : Owns E wr v out
  new : ∀ g, v.ownBlock = some g → w.heap.size ≤ g
  below : Below w.heap.size w wr

section
variable {P : Program} {α : Type} {E : Enc P α} {w wr w' : World} {out : List α} {v : Value}

theorem NRel.start (E : Enc P α) {w wr : World} (hb : Below w.heap.size w wr) : NRel E w [] (.slice none 0 0) wr := ⟨Owns.nil _ _, (fun g h => by cases h), hb⟩
theorem NRel.later (h : NRel E w out v wr) (hb : Below wr.heap.size wr w') : NRel E w out v w' :=
  ⟨h.own.block fun g hg => hb.block g (h.own.lt g hg), h.new, h.below.trans (hb.mono h.below.size)⟩
theorem NRel.keep (h : NRel E w out v wr) {F : Nat → Prop} (hk : Keeps F wr w') (hF : ∀ k, F k → w.heap.size ≤ k) (ha : ∀ g, v.ownBlock = some g → ¬ F g) : NRel E w out v w' :=
  ⟨h.own.keep hk ha, h.new, h.below.trans (hk.below h.below.size hF)⟩
theorem NRel.apart (R : NRel E w out v wr) {k : Nat} (hk : k < w.heap.size) : ∀ ad n c, v = .slice (some ad) n c → ad.block ≠ k := by
  intro ad n c e
  obtain ⟨a, cap, rfl, _, _, _, H⟩ := R.own.form
  injection e with e1 _ _
  obtain ⟨g, rfl, hg, _⟩ := H ad e1
  have := R.new g hg
  dsimp only
  omega
/-- One more behind it, of a slice just made. -/
theorem NRel.push (R : NRel E w out v wr) (o : Obj) {w2 : World} {v' : Value} {l : List α} (hown : Owns E w2 v' l) (hgr : (wr.alloc o).grownBy w2 v.ownBlock) (hat : v'.ownBlock = v.ownBlock ∨ v'.ownBlock = some (wr.alloc o).heap.size) : NRel E w l v' w2 := by
  refine ⟨hown, fun g hg => ?_, (R.below.alloc R.below.size _).grown hgr (by have := R.below.size; simp; omega) R.new⟩
  rcases hat with hat | hat
  · exact R.new g (hat ▸ hg)
  · rw [hat] at hg; injection hg with hg; have := R.below.size; simp at hg; omega
end

/-- Numbers of 64 bits. -/
def encU : Enc Try.prog Nat where
  slice := 28
  elem := 29
  size := 1
  bytes := 8
  cells n := [.int .u64 n]
  zero := .int .u64 0
  und := Try.underlying28
  info := info_of _ _ _ _ _ (by kernel_rfl)
  zsize := rfl
  pos := by decide
  few := by decide
  len _ := rfl
  one _ u h := by cases List.mem_singleton.1 h; rfl

theorem Owns.natAt {w : World} {g cap : Nat} {l : List Nat} (h : Owns encU w (.slice (Option.some ⟨g, 0, none⟩) l.length cap) l) (i : Nat) (hi : i < l.length) : w.cell? ⟨g, i, none⟩ = Option.some (.int .u64 l[i]) := by
  obtain ⟨a, c, hv, _, _, _, H⟩ := h.form
  injection hv with ha _ hc
  obtain ⟨g', e, _, _, hcell⟩ := H ⟨g, 0, none⟩ ha.symm
  cases e
  have := hcell i hi 0 (by decide)
  simpa [encU] using this

theorem Reads.natAt {w : World} {a : Option Addr} {cap : Nat} {l : List Nat} (h : Reads encU w (.slice a l.length cap) l) (i : Nat) (hi : i < l.length) : ∃ ad, a = some ad ∧ w.cell? (ad.add i) = some (.int .u64 l[i]) := by
  obtain ⟨ad, rfl, H⟩ := h.at i hi
  have := H 0 (by decide)
  exact ⟨ad, rfl, by simpa [encU] using this⟩

theorem appendU {ops : Array Oper} {rest : List Oper} {o : Oper} {a : Act} {w : World} {Q : Exit → Act → World → Prop} (hgd : o.guard = none) (s x : Operand)
    (ho : o.op = .call { callee := .builtin .append, args := #[s, x], argTypes := #[28, 28] })
    (v y : Value) (l k : List Nat) (hs : a.eval s = v) (hown : Owns encU w v l) (hx : a.eval x = y) (hsrc : Reads encU w y k) (hn : l.length + k.length ≤ 1000000)
    (h : ∀ v' w', Owns encU w' v' (l ++ k) → w.grownBy w' v.ownBlock → (v'.ownBlock = v.ownBlock ∨ v'.ownBlock = some w.heap.size) → wpList Try.prog ops Q rest (a.put o.dst v') w') : wpList Try.prog ops Q (o :: rest) a w :=
  wpList_append_owns encU hgd s x ho v y l k hs hown hx hsrc hn h

theorem oneU (w : World) (n : Nat) (b : Nat) (hb : b = w.heap.size := by rfl) : Reads encU (w.alloc (.cells #[.int .u64 n] 29)) (.slice (some ⟨b, 0, none⟩) 1 1) [n] := Reads.one encU w n _ rfl b hb

theorem add_block (p : Addr) (j : Nat) : (p.add j).block = p.block := by unfold Addr.add; split <;> rfl
theorem cell_of_block {w w' : World} {p : Addr} (h : w'.heap[p.block]? = w.heap[p.block]?) : w'.cell? p = w.cell? p := by simp [World.cell?, h]

/-- A slice reads as it did where nothing of its block turned. -/
theorem Reads.stay {P : Program} {α : Type} {E : Enc P α} {w w' : World} {v : Value} {l : List α} (h : Reads E w v l) {F : Nat → Prop} (hK : Keeps F w w') (hF : ∀ ad n c, v = .slice (Option.some ad) n c → ¬ F ad.block) : Reads E w' v l := by
  rcases h with h | ⟨ad, cap, rfl, hc⟩
  · exact .inl h
  · refine .inr ⟨ad, cap, rfl, fun j u hj => ?_⟩
    have h1 := hc j u hj
    have h2 := block_lt_of_cell h1
    rw [add_block] at h2
    rw [cell_of_block (w := w) (w' := w') (by rw [add_block]; exact hK.block _ h2 (hF ad _ _ rfl))]
    exact h1

/-- Only block b turned. -/
def only (b : Nat) (k : Nat) : Prop := k = b

/-- Places as numbers. -/
def ints (l : List Nat) : List Int := l.map fun i : Nat => (i : Int)
theorem ints_length (l : List Nat) : (ints l).length = l.length := List.length_map _
theorem ints_get (l : List Nat) (i : Nat) (h : i < (ints l).length) : (ints l)[i] = ((l[i]'(by rwa [ints_length] at h) : Nat) : Int) := by simp [ints]
theorem ints_append (l k : List Nat) : ints (l ++ k) = ints l ++ ints k := List.map_append

end Go.Proofs.Ytilcjpaifbcjaaa
