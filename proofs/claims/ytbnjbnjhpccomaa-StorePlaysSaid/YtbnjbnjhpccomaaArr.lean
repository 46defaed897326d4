/-
  Slices of numbers and of bools.
-/
import Derived.Test.YtbnjbnjhpccomaaMem
import Derived.Test.YtbnjbnjhpccomaaProg
import Derived.WalkKit
import Derived.Outline
import Derived.RegionTactic
import Derived.ChangeAlike
import Derived.Handy
import Derived.StillTailTactics
import Derived.Deep.RegionHeld3
import Derived.KernelRfl
import Derived.Lib.Hide
namespace Go.Proofs.Ytbnjbnjhpccomaa
open Go Go.RowKit

theorem info_of (P : Program) (t : TypeId) (z : Value) (s n : Nat) (h : (P.info? t).map (fun i => (i.zero, i.size, i.bytes)) = some (some z, s, n)) : ∃ i, P.info? t = some i ∧ i.zero = some z ∧ i.size = s ∧ i.bytes = n := by
  obtain ⟨i, hi, h0, h1, h2⟩ := info_parts h
  exact ⟨i, hi, h0, h1, h2⟩

/-- Numbers. -/
def encI : Enc Try.prog Int where
  slice := 34
  elem := 3
  size := 1
  bytes := 8
  cells n := [.int .i64 n]
  zero := .int .i64 0
  und := Try.underlying34
  info := info_of _ _ _ _ _ (by kernel_rfl)
  zsize := rfl
  pos := by decide
  few := by decide
  len _ := rfl
  one _ u h := by cases List.mem_singleton.1 h; rfl

theorem Owns.intAt {w : World} {g cap : Nat} {l : List Int} (h : Owns encI w (.slice (some ⟨g, 0, none⟩) l.length cap) l) (i : Nat) (hi : i < l.length) : w.cell? ⟨g, i, none⟩ = some (.int .i64 l[i]) := by
  obtain ⟨a, c, hv, _, _, _, H⟩ := h.form
  injection hv with ha _ hc
  obtain ⟨g', e, _, _, hcell⟩ := H ⟨g, 0, none⟩ ha.symm
  cases e
  have := hcell i hi 0 (by decide)
  simpa [encI] using this

theorem appendI {ops : Array Oper} {rest : List Oper} {o : Oper} {a : Act} {w : World} {Q : Exit → Act → World → Prop} (hgd : o.guard = none) (s x : Operand)
    (ho : o.op = .call { callee := .builtin .append, args := #[s, x], argTypes := #[34, 34] })
    (v y : Value) (l k : List Int) (hs : a.eval s = v) (hown : Owns encI w v l) (hx : a.eval x = y) (hsrc : Reads encI w y k) (hn : l.length + k.length ≤ 1000000)
    (h : ∀ v' w', Owns encI w' v' (l ++ k) → w.grownBy w' v.ownBlock → (v'.ownBlock = v.ownBlock ∨ v'.ownBlock = some w.heap.size) → wpList Try.prog ops Q rest (a.put o.dst v') w') : wpList Try.prog ops Q (o :: rest) a w :=
  wpList_append_owns encI hgd s x ho v y l k hs hown hx hsrc hn h

theorem oneI (w : World) (n : Int) (b : Nat) (hb : b = w.heap.size := by rfl) : Reads encI (w.alloc (.cells #[.int .i64 n] 3)) (.slice (some ⟨b, 0, none⟩) 1 1) [n] := Reads.one encI w n _ rfl b hb

/-- Bools. -/
def encB : Enc Try.prog Bool where
  slice := 44
  elem := 4
  size := 1
  bytes := 1
  cells n := [.bool n]
  zero := .bool false
  und := Try.underlying44
  info := info_of _ _ _ _ _ (by kernel_rfl)
  zsize := rfl
  pos := by decide
  few := by decide
  len _ := rfl
  one _ u h := by cases List.mem_singleton.1 h; rfl

theorem Owns.boolAt {w : World} {g cap : Nat} {l : List Bool} (h : Owns encB w (.slice (some ⟨g, 0, none⟩) l.length cap) l) (i : Nat) (hi : i < l.length) : w.cell? ⟨g, i, none⟩ = some (.bool l[i]) := by
  obtain ⟨a, c, hv, _, _, _, H⟩ := h.form
  injection hv with ha _ hc
  obtain ⟨g', e, _, _, hcell⟩ := H ⟨g, 0, none⟩ ha.symm
  cases e
  have := hcell i hi 0 (by decide)
  simpa [encB] using this

theorem appendB {ops : Array Oper} {rest : List Oper} {o : Oper} {a : Act} {w : World} {Q : Exit → Act → World → Prop} (hgd : o.guard = none) (s x : Operand)
    (ho : o.op = .call { callee := .builtin .append, args := #[s, x], argTypes := #[44, 44] })
    (v y : Value) (l k : List Bool) (hs : a.eval s = v) (hown : Owns encB w v l) (hx : a.eval x = y) (hsrc : Reads encB w y k) (hn : l.length + k.length ≤ 1000000)
    (h : ∀ v' w', Owns encB w' v' (l ++ k) → w.grownBy w' v.ownBlock → (v'.ownBlock = v.ownBlock ∨ v'.ownBlock = some w.heap.size) → wpList Try.prog ops Q rest (a.put o.dst v') w') : wpList Try.prog ops Q (o :: rest) a w :=
  wpList_append_owns encB hgd s x ho v y l k hs hown hx hsrc hn h

theorem oneB (w : World) (n : Bool) (b : Nat) (hb : b = w.heap.size := by rfl) : Reads encB (w.alloc (.cells #[.bool n] 4)) (.slice (some ⟨b, 0, none⟩) 1 1) [n] := Reads.one encB w n _ rfl b hb

theorem Owns.free {P : Program} {α : Type} {E : Enc P α} {w : World} {g n cap : Nat} {l : List α} (h : Owns E w (.slice (some ⟨g, 0, none⟩) n cap) l) (j : Nat) : w.frozen? ⟨g, j, none⟩ = false := by
  obtain ⟨a, c, hv, _, _, _, H⟩ := h.form
  injection hv with ha _ hc
  obtain ⟨g', e, _, hf, _⟩ := H ⟨g, 0, none⟩ ha.symm
  cases e
  exact hf j

theorem Owns.some {P : Program} {α : Type} {E : Enc P α} {w : World} {v : Value} {l : List α} (h : Owns E w v l) (hl : 0 < l.length) : ∃ g cap, v = .slice (some ⟨g, 0, none⟩) l.length cap ∧ l.length ≤ cap ∧ cap ≤ maxLen := by
  obtain ⟨a, c, rfl, h1, h2, h3, H⟩ := h.form
  cases a with
  | none => have := h3 rfl; omega
  | some ad => obtain ⟨g, rfl, _⟩ := H ad rfl; exact ⟨g, c, rfl, h1, h2⟩

end Go.Proofs.Ytbnjbnjhpccomaa
