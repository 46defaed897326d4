/-
  Texts of this proof, one behind the other: Mem, Arr.
-/
import Derived.Test.YtnnkkedflfmaoaaG3
import Derived.Laws.OwnMore
import Derived.Maps.AppendAt
import Derived.Laws.AppendOwnNone
import Derived.Test.YtnnkkedflfmaoaaProg
import Derived.WalkKit
import Derived.Outline
import Derived.RegionTactic
import Derived.ChangeAlike
import Derived.Handy
import Derived.StillTailTactics
import Derived.Deep.RegionHeld3
import Derived.KernelRfl
import Derived.Lib.Hide
/-
  Memory by footprints: which blocks a step may write, in which blocks a thing lies; slices that are somebody's own, of whatever elements. Nothing of the program is read here.
-/
namespace Go.Proofs.Ytnnkkedflfmaoaa
open Go Go.RowKit

/-- Of what stood in w only the blocks F may have turned. -/
structure Keeps (F : Nat → Prop) (w w' : World) : Prop where
  os : w'.os = w.os
  tape : w'.tape = w.tape
  output : w'.output = w.output
  size : w.heap.size ≤ w'.heap.size
  block : ∀ k, k < w.heap.size → ¬ F k → w'.heap[k]? = w.heap[k]?

/-- F' lies in F and in what was made since w. -/
def Within (w : World) (F F' : Nat → Prop) : Prop := ∀ k, F' k → F k ∨ w.heap.size ≤ k

/-- No block. -/
def noBlock (_ : Nat) : Prop := False

theorem Within.refl (w : World) (F : Nat → Prop) : Within w F F := fun _ h => .inl h
theorem Within.trans {a b : World} {F G H : Nat → Prop} (h : Within a F G) (k : Within b G H) (hs : a.heap.size ≤ b.heap.size) : Within a F H := fun i hi =>
  (k i hi).elim (fun h1 => h i h1) (fun h1 => .inr (Nat.le_trans hs h1))

theorem Keeps.refl (F : Nat → Prop) (w : World) : Keeps F w w := ⟨rfl, rfl, rfl, Nat.le_refl _, fun _ _ _ => rfl⟩
theorem Keeps.mono {F G : Nat → Prop} {w w' : World} (h : Keeps F w w') (hs : ∀ k, F k → G k) : Keeps G w w' :=
  ⟨h.os, h.tape, h.output, h.size, fun k hk hn => h.block k hk (fun e => hn (hs k e))⟩
theorem Keeps.trans {F G : Nat → Prop} {a b c : World} (h : Keeps F a b) (k : Keeps G b c) (hs : Within a F G) : Keeps F a c :=
  ⟨k.os.trans h.os, k.tape.trans h.tape, k.output.trans h.output, Nat.le_trans h.size k.size, fun i hi hn =>
    (k.block i (Nat.lt_of_lt_of_le hi h.size) (fun e => (hs i e).elim hn (fun h1 => by omega))).trans (h.block i hi hn)⟩
theorem Keeps.of_below {w w' : World} (h : Below w.heap.size w w') (F : Nat → Prop) : Keeps F w w' := ⟨h.os, h.tape, h.output, h.size, fun k hk _ => h.block k hk⟩
theorem Keeps.below {F : Nat → Prop} {w w' : World} (h : Keeps F w w') {B : Nat} (hB : B ≤ w.heap.size) (hF : ∀ k, F k → B ≤ k) : Below B w w' :=
  ⟨h.os, h.tape, h.output, h.size, fun k hk => h.block k (by omega) (fun e => by have := hF k e; omega)⟩
theorem Keeps.of_grown {F : Nat → Prop} {w w' : World} {row : Option Nat} (h : w.grownBy w' row) (hF : ∀ k, row = some k → F k) : Keeps F w w' :=
  ⟨h.os, h.tape, h.output, h.size, fun k hk hn => h.block k hk (fun e => hn (hF k e.symm))⟩
theorem Keeps.of_setCell (F : Nat → Prop) (w : World) (p : Addr) (u : Value) (hF : F p.block) : Keeps F w (w.setCell p u) :=
  ⟨rfl, rfl, rfl, by simp [World.setCell], fun k _ hn => Below.heap_setCell _ _ _ _ (fun e => hn (e ▸ hF))⟩
theorem Keeps.of_alloc (F : Nat → Prop) (w : World) (o : Obj) : Keeps F w (w.alloc o) := ⟨rfl, rfl, rfl, by simp, fun k hk _ => Below.heap_alloc _ _ _ hk⟩
theorem Keeps.of_drew (F : Nat → Prop) (w : World) : Keeps F w w.drew := ⟨rfl, rfl, rfl, Nat.le_refl _, fun _ _ _ => rfl⟩
/-- One step more that stays within F. -/
theorem Keeps.and {F : Nat → Prop} {a b c : World} (h : Keeps F a b) (k : Keeps F b c) : Keeps F a c := h.trans k (Within.refl _ _)

/-- A kind of elements: their cells. -/
structure Enc (P : Program) (α : Type) where
  slice : TypeId
  elem : TypeId
  size : Nat
  bytes : Nat
  cells : α → List Value
  zero : Value
  und : P.underlying slice = some (.slice elem)
  info : ∃ i, P.info? elem = some i ∧ i.zero = some zero ∧ i.size = size ∧ i.bytes = bytes
  zsize : zero.cells.size = size
  pos : 0 < size
  few : bytes ≤ 1000
  len : ∀ a, (cells a).length = size
  one : ∀ a, ∀ u ∈ cells a, u.oneCell' = true

section
variable {P : Program} {α : Type}

/-- The cells of a list of elements. -/
def Enc.all (E : Enc P α) (l : List α) : List Value := l.flatMap E.cells

theorem Enc.all_length (E : Enc P α) (l : List α) : (E.all l).length = l.length * E.size := by
  unfold Enc.all
  induction l with
  | nil => simp
  | cons a l ih => simp [ih, E.len, Nat.add_mul]; omega

theorem Enc.all_append (E : Enc P α) (l k : List α) : E.all (l ++ k) = E.all l ++ E.all k := by simp [Enc.all]

theorem Enc.all_one (E : Enc P α) (l : List α) : ∀ u ∈ E.all l, u.oneCell' = true := by
  intro u hu
  obtain ⟨a, _, h⟩ := List.mem_flatMap.1 hu
  exact E.one a u h

theorem Enc.all_get (E : Enc P α) (l : List α) : ∀ (i : Nat) (h : i < l.length) (j : Nat), j < E.size → (E.all l)[i * E.size + j]? = (E.cells l[i])[j]? := by
  induction l with
  | nil => intro i h; cases h
  | cons a l ih =>
    intro i h j hj
    have hl := E.len a
    cases i with
    | zero =>
      show (E.cells a ++ E.all l)[0 * E.size + j]? = (E.cells a)[j]?
      rw [Nat.zero_mul, Nat.zero_add, List.getElem?_append_left (by omega)]
    | succ i =>
      have hi : i < l.length := by simpa using h
      have := ih i hi j hj
      show (E.cells a ++ E.all l)[(i + 1) * E.size + j]? = (E.cells l[i])[j]?
      rw [List.getElem?_append_right (by rw [hl, Nat.add_mul]; omega), ← this]
      congr 1
      rw [hl, Nat.add_mul]; omega

theorem Enc.all_take (E : Enc P α) (l : List α) (n : Nat) (hn : n ≤ l.length) : E.all (l.take n) = (E.all l).take (n * E.size) := by
  have h : E.all l = E.all (l.take n) ++ E.all (l.drop n) := by rw [← E.all_append, List.take_append_drop]
  rw [h, List.take_left' (by rw [E.all_length, List.length_take, Nat.min_eq_left hn])]

/-- A slice of somebody's own that holds these elements. -/
def Owns (E : Enc P α) (w : World) (v : Value) (l : List α) : Prop := w.ownsRow 0 E.elem E.size v l.length (E.all l)

/-- A slice that reads as these elements. -/
def Reads (E : Enc P α) (w : World) (v : Value) (l : List α) : Prop :=
  (v = .slice none 0 0 ∧ l = []) ∨ ∃ ad cap, v = .slice (some ad) l.length cap ∧ ∀ j u, (E.all l)[j]? = some u → w.cell? (ad.add j) = some u

variable {E : Enc P α} {w w' : World} {v : Value} {l : List α}

theorem Reads.keep (h : Reads E w v l) (hb : Below w.heap.size w w') : Reads E w' v l := by
  rcases h with h | ⟨ad, cap, rfl, hc⟩
  · exact .inl h
  · refine .inr ⟨ad, cap, rfl, fun j u hj => ?_⟩
    have h1 := hc j u hj
    rw [hb.cell (p := ad.add j) (block_lt_of_cell h1)]
    exact h1

theorem Reads.form (h : Reads E w v l) : ∃ a cap, v = .slice a l.length cap := by
  rcases h with ⟨rfl, rfl⟩ | ⟨ad, cap, rfl, _⟩
  · exact ⟨none, 0, rfl⟩
  · exact ⟨_, _, rfl⟩

/-- An element of it, cell by cell. -/
theorem Reads.at {a : Option Addr} {cap : Nat} (h : Reads E w (.slice a l.length cap) l) (i : Nat) (hi : i < l.length) : ∃ ad, a = some ad ∧ ∀ j, j < E.size → w.cell? (ad.add (i * E.size + j)) = (E.cells l[i])[j]? := by
  rcases h with ⟨_, rfl⟩ | ⟨ad, cap', hv, hc⟩
  · cases hi
  · refine ⟨ad, by injection hv, fun j hj => ?_⟩
    have h1 := E.all_get l i hi j hj
    have hj2 : j < (E.cells l[i]).length := by rw [E.len]; exact hj
    rw [List.getElem?_eq_getElem hj2] at h1 ⊢
    exact hc _ _ h1

theorem Owns.reads (h : Owns E w v l) : Reads E w v l := by
  obtain ⟨h1, ⟨rfl, h2⟩ | ⟨g, cap, cur, rfl, hr⟩⟩ := h
  · exact .inl ⟨rfl, List.length_eq_zero_iff.1 h2⟩
  · have h := World.ownsRow.cells (w := w) (base := 0) (e := E.elem) (size := E.size) (v := .slice (some ⟨g, 0, none⟩) l.length cap) (n := l.length) (xs := E.all l) ⟨h1, .inr ⟨g, cap, cur, rfl, hr⟩⟩ (g := g) rfl
    exact .inr ⟨⟨g, 0, none⟩, cap, rfl, h⟩

theorem Owns.nil (E : Enc P α) (w : World) : Owns E w (.slice none 0 0) [] := ⟨by simp [Enc.all], .inl ⟨rfl, rfl⟩⟩

theorem Owns.block (h : Owns E w v l) (hb : ∀ g, v.ownBlock = some g → w'.heap[g]? = w.heap[g]?) : Owns E w' v l := by
  obtain ⟨h1, h2 | ⟨g, cap, cur, rfl, h3, h4, h5⟩⟩ := h
  · exact ⟨h1, .inl h2⟩
  · exact ⟨h1, .inr ⟨g, cap, cur, rfl, h3, (hb g rfl).trans h4, h5⟩⟩

theorem Owns.lt (h : Owns E w v l) (g : Nat) (hg : v.ownBlock = some g) : g < w.heap.size := (World.ownsRow.lt h g hg).2
theorem Owns.keep (h : Owns E w v l) {F : Nat → Prop} (hb : Keeps F w w') (hF : ∀ g, v.ownBlock = some g → ¬ F g) : Owns E w' v l :=
  h.block fun g hg => hb.block g (h.lt g hg) (hF g hg)
theorem Owns.alloc (h : Owns E w v l) (o : Obj) : Owns E (w.alloc o) v l := h.block fun g hg => heap_alloc_old _ _ (h.lt g hg)

/-- Its shape; what its cells hold; they may be written. -/
theorem Owns.form (h : Owns E w v l) : ∃ a cap, v = .slice a l.length cap ∧ l.length ≤ cap ∧ cap ≤ maxLen ∧ (a = none → cap = 0) ∧ ∀ ad, a = some ad → ∃ g, ad = ⟨g, 0, none⟩ ∧ v.ownBlock = some g ∧ (∀ j, w.frozen? ⟨g, j, none⟩ = false) ∧
    ∀ i (hi : i < l.length) j, j < E.size → w.cell? ⟨g, i * E.size + j, none⟩ = (E.cells l[i])[j]? := by
  obtain ⟨h1, ⟨rfl, h2⟩ | ⟨g, cap, cur, rfl, h3, h4, h5, h6, h7⟩⟩ := h
  · exact ⟨none, 0, by rw [h2], by omega, Nat.zero_le _, fun _ => rfl, fun ad h => by cases h⟩
  · refine ⟨some ⟨g, 0, none⟩, cap, rfl, h5, h6, (fun h => by cases h), fun ad he => ?_⟩
    cases he
    have H : w.ownsRow 0 E.elem E.size (.slice (some ⟨g, 0, none⟩) l.length cap) l.length (E.all l) := ⟨h1, .inr ⟨g, cap, cur, rfl, h3, h4, h5, h6, h7⟩⟩
    refine ⟨g, rfl, rfl, H.frozenAt, fun i hi j hj => ?_⟩
    have hlt : i * E.size + j < l.length * E.size := by
      have : (i + 1) * E.size ≤ l.length * E.size := Nat.mul_le_mul_right _ hi
      rw [Nat.add_mul] at this; omega
    rw [World.ownsRow.cellAt H _ hlt, E.all_get l i hi j hj]

/-- Its first n elements. -/
theorem Owns.take {a : Option Addr} {cap n : Nat} (h : Owns E w (.slice a l.length cap) l) (hn : n ≤ l.length) : Owns E w (.slice a n cap) (l.take n) := by
  have hl : (l.take n).length = n := by rw [List.length_take, Nat.min_eq_left hn]
  obtain ⟨h1, ⟨hv, h2⟩ | ⟨g, cap', cur, hv, h3, h4, h5, h6, h7, h8⟩⟩ := h
  · injection hv with ha _ hc
    obtain rfl : n = 0 := by omega
    subst ha hc
    exact ⟨by simp [Enc.all], .inl ⟨rfl, by simp⟩⟩
  · injection hv with ha _ hc
    subst ha hc
    refine ⟨by rw [E.all_length], .inr ⟨g, cap, cur, by rw [hl], h3, h4, by omega, h6, h7, ?_⟩⟩
    rw [hl, E.all_take l n hn, ← h8, List.take_take, Nat.min_eq_left (Nat.mul_le_mul_right _ hn)]

/-- One of its elements, of one cell, written. -/
theorem Owns.put {g cap i : Nat} {a : α} {u : Value} (h : Owns E w (.slice (some ⟨g, 0, none⟩) l.length cap) l) (hs : E.size = 1) (hu : E.cells a = [u]) (hi : i < l.length) :
    Owns E (w.setCell ⟨g, i, none⟩ u) (.slice (some ⟨g, 0, none⟩) l.length cap) (l.set i a) := by
  have h1 := (World.ownsRow.stored h i u).1
  have e : E.all (l.set i a) = (E.all l).set i u := by
    refine List.ext_getElem? fun j => ?_
    rcases Nat.lt_or_ge j l.length with hj | hj
    · have h2 := E.all_get (l.set i a) j (by simpa using hj) 0 (by omega)
      have h3 := E.all_get l j hj 0 (by omega)
      rw [hs, Nat.mul_one, Nat.add_zero] at h2 h3
      rw [h2, List.getElem?_set]
      split
      · rename_i he; subst he; simp [hu, E.all_length, hs, hi]
      · rename_i he; rw [h3, List.getElem_set_ne he]
    · rw [List.getElem?_eq_none (by rw [E.all_length, List.length_set, hs]; omega), List.getElem?_eq_none (by rw [List.length_set, E.all_length, hs]; omega)]
  unfold Owns
  rw [List.length_set, e]
  exact h1

/-- A slice that was just made of one element. -/
theorem Reads.one (E : Enc P α) (w : World) (a : α) (cs : Array Value) (hcs : cs.toList = E.cells a) (b : Nat) (hb : b = w.heap.size) : Reads E (w.alloc (.cells cs E.elem)) (.slice (some ⟨b, 0, none⟩) 1 1) [a] := by
  subst hb
  refine .inr ⟨⟨w.heap.size, 0, none⟩, 1, rfl, fun j u hj => ?_⟩
  rw [show (⟨w.heap.size, 0, none⟩ : Addr).add j = ⟨w.heap.size, j, none⟩ by simp [Addr.add]; omega, cell_of_row _ _ _ _ _ _ (heap_alloc_new _ _)]
  simp only [Enc.all, List.flatMap_cons, List.flatMap_nil, List.append_nil] at hj
  rw [← hj, ← hcs]
  simp

/-- append(x, y...), x somebody's own. -/
theorem wpList_append_owns {ops : Array Oper} {rest : List Oper} {o : Oper} {a : Act} {w : World} {Q : Exit → Act → World → Prop} (E : Enc P α) (hgd : o.guard = none) (s x : Operand)
    (ho : o.op = .call { callee := .builtin .append, args := #[s, x], argTypes := #[E.slice, E.slice] })
    (v y : Value) (l k : List α) (hs : a.eval s = v) (hown : Owns E w v l) (hx : a.eval x = y) (hsrc : Reads E w y k)
    (hn : l.length + k.length ≤ 1000000)
    (h : ∀ v' w', Owns E w' v' (l ++ k) → w.grownBy w' v.ownBlock → (v'.ownBlock = v.ownBlock ∨ v'.ownBlock = some w.heap.size) → wpList P ops Q rest (a.put o.dst v') w') : wpList P ops Q (o :: rest) a w := by
  obtain ⟨i, hi, hz, hsz, hby⟩ := E.info
  have hfew := E.few
  rcases hsrc with ⟨rfl, rfl⟩ | ⟨ad, cap, rfl, hc⟩
  · refine wpList_append_own_none hgd s x _ ho 0 E.elem i E.size E.und hi v l.length (E.all l) hs hown hx ?_
    refine h v w (by rw [List.append_nil]; exact hown) ⟨rfl, rfl, rfl, Nat.le_refl _, fun _ _ _ => rfl⟩ (.inl rfl)
  · have hb : (l.length + k.length) * E.bytes ≤ 1000000 * 1000 := Nat.mul_le_mul hn hfew
    refine wpList_append_own_at w hgd s x _ ho 0 E.elem i _ E.size E.bytes E.und hi hz hsz hby E.zsize E.pos v l.length (E.all l) hs hown ad k.length cap (E.all k) hx (E.all_length k) hc (E.all_one k) (by unfold maxLen; omega) (by omega) (Nat.zero_le _) ?_
    intro v' w' h1 h2 _ h4
    exact h v' w' (by unfold Owns; rw [List.length_append, E.all_append]; exact h1) h2 h4
end

end Go.Proofs.Ytnnkkedflfmaoaa

/-
  Slices of numbers and of bools.
-/
namespace Go.Proofs.Ytnnkkedflfmaoaa
open Go Go.RowKit

theorem info_of (P : Program) (t : TypeId) (z : Value) (s n : Nat) (h : (P.info? t).map (fun i => (i.zero, i.size, i.bytes)) = some (some z, s, n)) : ∃ i, P.info? t = some i ∧ i.zero = some z ∧ i.size = s ∧ i.bytes = n := by
  obtain ⟨i, hi, h0, h1, h2⟩ := info_parts h
  exact ⟨i, hi, h0, h1, h2⟩



theorem Owns.free {P : Program} {α : Type} {E : Enc P α} {w : World} {g n cap : Nat} {l : List α} (h : Owns E w (.slice (some ⟨g, 0, none⟩) n cap) l) (j : Nat) : w.frozen? ⟨g, j, none⟩ = false := by
  obtain ⟨a, c, hv, _, _, _, H⟩ := h.form
  injection hv with ha _ hc
  obtain ⟨g', e, _, hf, _⟩ := H ⟨g, 0, none⟩ ha.symm
  cases e
  exact hf j

theorem Owns.some {P : Program} {α : Type} {E : Enc P α} {w : World} {v : Value} {l : List α} (h : Owns E w v l) (hl : 0 < l.length) : ∃ g cap, v = .slice (some ⟨g, 0, none⟩) l.length cap ∧ l.length ≤ cap ∧ cap ≤ maxLen := by
  obtain ⟨a, c, rfl, h1, h2, h3, H⟩ := h.form
  cases a with
  | none => have := h3 rfl; omega
  | some ad => obtain ⟨g, rfl, _⟩ := H ad rfl; exact ⟨g, c, rfl, h1, h2⟩


end Go.Proofs.Ytnnkkedflfmaoaa
