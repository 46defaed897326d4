/-
  append of slices of functions at a step of a region whose order is open; what such a region leans on where it reads an order and a function.
-/
import Derived.Test.YtgccgjeehggagaaDoorFSlice
import Derived.Test.YtgccgjeehggagaaDoorRefTop
namespace Go.Proofs.YtgccgjeehggagaaDoor
open Go Go.RowKit Go.Maps

theorem stepF {ops : Array Oper} {o : Oper} {a : Act} {w : World} {K : Act → World → Prop} {Q : Exit → Act → World → Prop} {E : Prop} (hgd : o.guard = none) (s x : Operand)
    (ho : o.op = .call { callee := .builtin .append, args := #[s, x], argTypes := #[22, 22] })
    (base : Nat) (v y : Value) (l k : List Fn) (hs : a.eval s = v) (hown : OwnsF w base v l) (hx : a.eval x = y) (hsrc : SliceF w y k)
    (hn : l.length + k.length ≤ 1000000) (hbase : base ≤ w.heap.size)
    (h : ∀ v' w', OwnsF w' base v' (l ++ k) → w.grownBy w' v.ownBlock → K (a.put o.dst v') w') : if Region.wanted o (yielded ops a.tmps) = true then Oper.wp Tryd.prog o a w K Q else E := by
  have hw : Region.wanted o (yielded ops a.tmps) = true := by simp [Region.wanted, hgd]
  rw [if_pos hw]
  obtain ⟨i, hi, hz, hsz, hby⟩ := infoF
  rcases hsrc with ⟨rfl, rfl⟩ | ⟨ad, cap, rfl, hc⟩
  · have hrun := run_append_owned_none (P := Tryd.prog) (w := w) base 22 o.type 26 i 4 Tryd.underlying22 hi v l.length (cellsL l) hown
    unfold Oper.wp
    simp [execOp, ho, resolve, invoke, builtin, hs, hx, hrun, Result.andThen]
    exact h v w (by rw [List.append_nil]; exact hown) ⟨rfl, rfl, rfl, Nat.le_refl _, fun _ _ _ => rfl⟩
  · obtain ⟨v', w', hr, h2, h3, _, _⟩ := run_append_own_at (P := Tryd.prog) w base 22 o.type 26 i _ 4 32 Tryd.underlying22 hi hz hsz hby rfl (by decide) v l.length (cellsL l) hown ad k.length cap (cellsL k) (cellsL_length k) hc (cellsL_one k) (by unfold maxLen; omega) (by omega) hbase
    unfold Oper.wp
    simp [execOp, ho, resolve, invoke, builtin, hs, hx, hr, Result.andThen]
    exact h v' w' (by unfold OwnsF; rw [List.length_append, cellsL_append]; exact h2) h3

end Go.Proofs.YtgccgjeehggagaaDoor
