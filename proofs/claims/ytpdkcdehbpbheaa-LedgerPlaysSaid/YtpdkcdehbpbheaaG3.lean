/-
  Texts of this proof, one behind the other: Arr, Mem2.
-/
import Derived.Test.YtpdkcdehbpbheaaG2
import Derived.Test.YtpdkcdehbpbheaaProg
import Derived.WalkKit
import Derived.Outline
import Derived.RegionTactic
import Derived.ChangeAlike
import Derived.Handy
import Derived.StillTailTactics
import Derived.Deep.RegionHeld3
import Derived.KernelRfl
import Derived.Lib.Hide
import Derived.Laws.IdiomCopy
import Derived.Laws.MakeOwn
import Derived.Deep.AppendLies
/-
  Slices of numbers and of bools.
-/
namespace Go.Proofs.Ytpdkcdehbpbheaa
open Go Go.RowKit

theorem info_of (P : Program) (t : TypeId) (z : Value) (s n : Nat) (h : (P.info? t).map (fun i => (i.zero, i.size, i.bytes)) = some (some z, s, n)) : ∃ i, P.info? t = some i ∧ i.zero = some z ∧ i.size = s ∧ i.bytes = n := by
  obtain ⟨i, hi, h0, h1, h2⟩ := info_parts h
  exact ⟨i, hi, h0, h1, h2⟩

/-- Numbers. -/
def encI : Enc Try.prog Int where
  slice := 41
  elem := 3
  size := 1
  bytes := 8
  cells n := [.int .i64 n]
  zero := .int .i64 0
  und := Try.underlying41
  info := info_of _ _ _ _ _ (by kernel_rfl)
  zsize := rfl
  pos := by decide
  few := by decide
  len _ := rfl
  one _ u h := by cases List.mem_singleton.1 h; rfl

theorem Owns.intAt {w : World} {g cap : Nat} {l : List Int} (h : Owns encI w (.slice (some ⟨g, 0, none⟩) l.length cap) l) (i : Nat) (hi : i < l.length) : w.cell? ⟨g, i, none⟩ = some (.int .i64 l[i]) := by
  obtain ⟨a, c, hv, _, _, _, H⟩ := h.form
  injection hv with ha _ hc
  obtain ⟨g', e, _, _, hcell⟩ := H ⟨g, 0, none⟩ ha.symm
  cases e
  have := hcell i hi 0 (by decide)
  simpa [encI] using this

theorem appendI {ops : Array Oper} {rest : List Oper} {o : Oper} {a : Act} {w : World} {Q : Exit → Act → World → Prop} (hgd : o.guard = none) (s x : Operand)
    (ho : o.op = .call { callee := .builtin .append, args := #[s, x], argTypes := #[41, 41] })
    (v y : Value) (l k : List Int) (hs : a.eval s = v) (hown : Owns encI w v l) (hx : a.eval x = y) (hsrc : Reads encI w y k) (hn : l.length + k.length ≤ 1000000)
    (h : ∀ v' w', Owns encI w' v' (l ++ k) → w.grownBy w' v.ownBlock → (v'.ownBlock = v.ownBlock ∨ v'.ownBlock = some w.heap.size) → wpList Try.prog ops Q rest (a.put o.dst v') w') : wpList Try.prog ops Q (o :: rest) a w :=
  wpList_append_owns encI hgd s x ho v y l k hs hown hx hsrc hn h

theorem oneI (w : World) (n : Int) (b : Nat) (hb : b = w.heap.size := by rfl) : Reads encI (w.alloc (.cells #[.int .i64 n] 3)) (.slice (some ⟨b, 0, none⟩) 1 1) [n] := Reads.one encI w n _ rfl b hb


theorem Owns.free {P : Program} {α : Type} {E : Enc P α} {w : World} {g n cap : Nat} {l : List α} (h : Owns E w (.slice (some ⟨g, 0, none⟩) n cap) l) (j : Nat) : w.frozen? ⟨g, j, none⟩ = false := by
  obtain ⟨a, c, hv, _, _, _, H⟩ := h.form
  injection hv with ha _ hc
  obtain ⟨g', e, _, hf, _⟩ := H ⟨g, 0, none⟩ ha.symm
  cases e
  exact hf j

theorem Owns.some {P : Program} {α : Type} {E : Enc P α} {w : World} {v : Value} {l : List α} (h : Owns E w v l) (hl : 0 < l.length) : ∃ g cap, v = .slice (some ⟨g, 0, none⟩) l.length cap ∧ l.length ≤ cap ∧ cap ≤ maxLen := by
  obtain ⟨a, c, rfl, h1, h2, h3, H⟩ := h.form
  cases a with
  | none => have := h3 rfl; omega
  | some ad => obtain ⟨g, rfl, _⟩ := H ad rfl; exact ⟨g, c, rfl, h1, h2⟩

/-- A slice of numbers of somebody's own, made since w. -/
structure WRel (w : World) (out : List Int) (v : Value) (wr : World) : Prop where
  own : Owns encI wr v out
  new : ∀ g, v.ownBlock = some g → w.heap.size ≤ g
  below : Below w.heap.size w wr

theorem WRel.keep' {w W W' : World} {l : List Int} {v : Value} (h : WRel w l v W) (hb : Below W.heap.size W W') : WRel w l v W' :=
  ⟨h.own.block fun g hg => hb.block g (h.own.lt g hg), h.new, h.below.trans (hb.mono h.below.size)⟩

theorem Reads.intAt {w : World} {a : Option Addr} {cap : Nat} {l : List Int} (h : Reads encI w (.slice a l.length cap) l) (i : Nat) (hi : i < l.length) : ∃ ad, a = some ad ∧ w.cell? (ad.add i) = some (.int .i64 l[i]) := by
  obtain ⟨ad, rfl, H⟩ := h.at i hi
  have := H 0 (by decide)
  exact ⟨ad, rfl, by simpa [encI] using this⟩

end Go.Proofs.Ytpdkcdehbpbheaa

/-
  Memory by footprints, more: an element of several cells written; a slice just made. Nothing of the program is read here.
-/
namespace Go.Proofs.Ytpdkcdehbpbheaa
open Go Go.RowKit

/-- Many cells set, one behind the other. -/
def setMany (xs : List Value) : Nat → List Value → List Value
  | _, [] => xs
  | o, v :: r => setMany (xs.set o v) (o + 1) r

theorem setMany_mid : ∀ (vs A B C : List Value), B.length = vs.length → setMany (A ++ B ++ C) A.length vs = A ++ vs ++ C := by
  intro vs
  induction vs with
  | nil => intro A B C h; cases B with | nil => simp [setMany] | cons b B => simp at h
  | cons v r ih =>
    intro A B C h
    cases B with
    | nil => simp at h
    | cons b B =>
      have h1 := ih (A ++ [v]) B C (by simpa using h)
      simp only [setMany]
      rw [show (A ++ b :: B ++ C).set A.length v = A ++ [v] ++ B ++ C by simp]
      rw [show A.length + 1 = (A ++ [v]).length by simp, h1]
      simp

section
variable {P : Program} {α : Type} {E : Enc P α} {w w' : World} {v : Value} {l : List α}

theorem ownsRow_setCells {base : Nat} {e : TypeId} {size n g cap : Nat} : ∀ (vs : List Value) (o : Nat) (w : World) (xs : List Value), w.ownsRow base e size (.slice (some ⟨g, 0, none⟩) n cap) n xs →
    (w.setCells g o vs).ownsRow base e size (.slice (some ⟨g, 0, none⟩) n cap) n (setMany xs o vs)
  | [], _, _, _, h => h
  | u :: r, o, w, xs, h => by
    simp only [World.setCells, setMany]
    exact ownsRow_setCells r (o + 1) _ _ (World.ownsRow.stored h o u).1

theorem Enc.all_set (E : Enc P α) (l : List α) (i : Nat) (hi : i < l.length) (a : α) : E.all (l.set i a) = setMany (E.all l) (i * E.size) (E.cells a) := by
  have e1 : l = l.take i ++ l[i] :: l.drop (i + 1) := by rw [← List.drop_eq_getElem_cons hi, List.take_append_drop]
  have hl : (l.take i).length = i := by rw [List.length_take, Nat.min_eq_left (Nat.le_of_lt hi)]
  have e2 : l.set i a = l.take i ++ a :: l.drop (i + 1) := by rw [List.set_eq_take_append_cons_drop, if_pos hi]
  have e3 : E.all l = E.all (l.take i) ++ E.cells l[i] ++ E.all (l.drop (i + 1)) := by
    have h := congrArg E.all e1
    rw [E.all_append] at h
    rw [h, List.append_assoc]
    rfl
  have e4 : E.all (l.set i a) = E.all (l.take i) ++ E.cells a ++ E.all (l.drop (i + 1)) := by
    rw [e2, E.all_append]; simp [Enc.all]
  have e5 : (E.all (l.take i)).length = i * E.size := by rw [E.all_length, hl]
  rw [e4, e3, ← e5, setMany_mid _ _ _ _ (by rw [E.len, E.len])]

/-- One of its elements written. -/
theorem owns_putCells {g cap i : Nat} (h : Owns E w (.slice (some ⟨g, 0, none⟩) l.length cap) l) (hi : i < l.length) (a : α) :
    Owns E (w.setCells g (i * E.size) (E.cells a)) (.slice (some ⟨g, 0, none⟩) l.length cap) (l.set i a) := by
  have h1 := ownsRow_setCells (E.cells a) (i * E.size) w _ h
  unfold Owns
  rw [List.length_set, E.all_set l i hi a]
  exact h1

theorem heap_setCells_other (g : Nat) : ∀ (vs : List Value) (o : Nat) (w : World) {k : Nat}, k ≠ g → (w.setCells g o vs).heap[k]? = w.heap[k]?
  | [], _, _, _, _ => rfl
  | v :: r, o, w, k, hk => by
    simp only [World.setCells]
    rw [heap_setCells_other g r (o + 1) _ hk]
    exact Below.heap_setCell _ _ _ _ (fun e => hk e)

theorem size_setCells' (g : Nat) : ∀ (vs : List Value) (o : Nat) (w : World), (w.setCells g o vs).heap.size = w.heap.size
  | [], _, _ => rfl
  | v :: r, o, w => by
    simp only [World.setCells]
    rw [size_setCells' g r (o + 1)]
    simp [World.setCell]

theorem Keeps.of_setCells (F : Nat → Prop) (g : Nat) (hF : F g) : ∀ (vs : List Value) (o : Nat) (w : World), Keeps F w (w.setCells g o vs)
  | [], _, w => Keeps.refl F w
  | v :: r, o, w => (Keeps.of_setCell F w ⟨g, o, none⟩ v hF).and (Keeps.of_setCells F g hF r (o + 1) _)

theorem Enc.all_made (E : Enc P α) (a : α) (ha : E.cells a = E.zero.cells.toList) (n : Nat) : E.all (List.replicate n a) = (madeCells E.zero.cells (n * E.size)).toList := by
  have hs := E.zsize
  have hp := E.pos
  refine List.ext_getElem? fun j => ?_
  by_cases hj : j < n * E.size
  · have hq : j / E.size < n := Nat.div_lt_of_lt_mul (by rwa [Nat.mul_comm])
    have hr : j % E.size < E.size := Nat.mod_lt _ hp
    have h1 := E.all_get (List.replicate n a) (j / E.size) (by simpa using hq) (j % E.size) hr
    have hdm : j / E.size * E.size + j % E.size = j := by rw [Nat.mul_comm]; exact Nat.div_add_mod j E.size
    rw [hdm] at h1
    rw [h1]
    simp only [List.getElem_replicate]
    rw [ha]
    simp [madeCells, hj, hs, hr]
  · have e1 : (E.all (List.replicate n a)).length = n * E.size := by rw [E.all_length, List.length_replicate]
    rw [List.getElem?_eq_none (by omega), List.getElem?_eq_none (by rw [Array.length_toList, size_madeCells]; omega)]

/-- A slice that was just made. -/
theorem owns_made (E : Enc P α) (a : α) (ha : E.cells a = E.zero.cells.toList) (n : Nat) (hn : n ≤ 1000000) (w : World) :
    Owns E (w.alloc (.cells (madeCells E.zero.cells (n * E.size)) E.elem)) (.slice (some ⟨w.heap.size, 0, none⟩) n n) (List.replicate n a) := by
  have h := World.ownsRow_lit (base := 0) (e := E.elem) (size := E.size) w (madeCells E.zero.cells (n * E.size)) n (Nat.zero_le _) (by unfold maxLen; omega) (size_madeCells _ _)
  unfold Owns
  rw [List.length_replicate, E.all_made a ha]
  exact h

theorem run_made (E : Enc P α) (n : Nat) (hn : n ≤ 1000000) (w : World) : (Instr.makeSlice E.slice (.int .i64 (n : Int)) (.int .i64 (n : Int))).run P w = .ok (.slice (some ⟨w.heap.size, 0, none⟩) n n) (w.alloc (.cells (madeCells E.zero.cells (n * E.size)) E.elem)) := by
  obtain ⟨i, hi, hz, hsz, hby⟩ := E.info
  have hfew := E.few
  have hb : i.bytes * n ≤ 1000 * 1000000 := Nat.mul_le_mul (by omega) hn
  have h := run_make (P := P) w E.slice E.elem i E.zero E.und hi hz .i64 .i64 n n (by omega) (Int.le_refl _) (by rw [← Int.natCast_mul]; omega) (by omega)
  rw [hsz] at h
  simpa using h
/-- append(x, y...), x somebody's own, y not empty: at an operation that comes up in whatever order. -/
theorem step_append_owns {ops : Array Oper} {o : Oper} {a : Act} {w : World} {K : Act → World → Prop} {Q : Exit → Act → World → Prop} {Z : Prop} (E : Enc P α) (hgd : o.guard = none) (s x : Operand)
    (ho : o.op = .call { callee := .builtin .append, args := #[s, x], argTypes := #[E.slice, E.slice] })
    (v y : Value) (l k : List α) (hs : a.eval s = v) (hown : Owns E w v l) (hx : a.eval x = y) (hsrc : Reads E w y k) (hk : 0 < k.length) (hn : l.length + k.length ≤ 1000000)
    (h : ∀ v' w', Owns E w' v' (l ++ k) → w.grownBy w' v.ownBlock → (v'.ownBlock = v.ownBlock ∨ v'.ownBlock = some w.heap.size) → K (a.put o.dst v') w') : if Region.wanted o (yielded ops a.tmps) = true then Oper.wp P o a w K Q else Z := by
  obtain ⟨i, hi, hz, hsz, hby⟩ := E.info
  have hfew := E.few
  rcases hsrc with ⟨_, rfl⟩ | ⟨ad, cap, rfl, hc⟩
  · simp at hk
  · have hb : (l.length + k.length) * E.bytes ≤ 1000000 * 1000 := Nat.mul_le_mul hn hfew
    refine step_append_lies w hgd s x _ ho 0 E.elem i _ E.size E.bytes E.und hi hz hsz hby E.zsize E.pos v l.length (E.all l) hs hown ad k.length cap (E.all k) hx (E.all_length k) hc (E.all_one k) hk (by unfold maxLen; omega) (by omega) (Nat.zero_le _) _ rfl ?_
    intro g c w' h1 h2 h3 _
    refine h _ w' (by unfold Owns; rw [List.length_append, E.all_append]; exact h1) h2 ?_
    rcases h3 with h3 | h3
    · exact .inl h3.symm
    · exact .inr (by rw [h3]; rfl)
end

end Go.Proofs.Ytpdkcdehbpbheaa
