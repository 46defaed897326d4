/-
  Plain mathematics of layer 3: how many nodes there are, reckoned.
-/
import Derived.Test.YtgccgjeehggagaaDoorMath3c
namespace Go.Proofs.YtgccgjeehggagaaDoor
open Go Go.RowKit

/-- The reckoning, with so many steps at most. -/
def nrun (o : Nat → Int) : Nat → List Fn → List Fn → Nat → Option Nat
  | 0, _, _, _ => none
  | d + 1, out, work, k =>
    match work[k]? with
    | none => some out.length
    | some f =>
      if f ∈ work.take k then nrun o d out work (k + 1)
      else if supF f = 0 then nrun o d out work (k + 1)
      else if 0 ≤ topF f o then nrun o d (out ++ [f]) (work ++ [cofAny f (topF f o) false, cofAny f (topF f o) true]) (k + 1)
      else nrun o d (out ++ [f]) work (k + 1)

theorem nrun_ok {l : List Fn} {o : Nat → Int} (d : Nat) : ∀ {out work : List Fn} {k n : Nat}, NInv l o out work k → nrun o d out work k = some n → IsSize l o n := by
  induction d with
  | zero => intro out work k n _ h; cases h
  | succ d ih =>
    intro out work k n h hr
    simp only [nrun] at hr
    split at hr
    · rename_i hk
      have := h.done (by have := List.getElem?_eq_none_iff.1 hk; omega)
      rwa [Option.some.inj hr] at this
    · rename_i f hf
      obtain ⟨hk, rfl⟩ := List.getElem?_eq_some_iff.1 hf
      split at hr
      · rename_i hin; exact ih (h.seen hk hin) hr
      · rename_i hin
        split at hr
        · rename_i hs; exact ih (h.const hk hs) hr
        · rename_i hs
          split at hr
          · rename_i ht; exact ih (h.node hk hin hs ht) hr
          · rename_i ht; exact ih (h.leaf hk hin hs ht) hr

theorem size_by {l : List Fn} {o : Nat → Int} {n : Nat} (d : Nat) (h : nrun o d [] l 0 = some n) : sizeF l o = n := sizeF_eq (nrun_ok d (NInv.start l o) h)

/-- The example's function. -/
def exX : Fn := 0x6666666666666666666666666666666666666666666666666666666666666666#256
theorem exX_eq : (varAny 0 ^^^ varAny 1) = exX := by decide +kernel
theorem exX_top : topF exX (fun i => if i = 0 then 7 else if i = 1 then 1 else 0) = 1 := by decide +kernel
theorem exX_size : sizeF [exX] (fun i => (i : Int)) = 3 := size_by 8 (by decide +kernel)
theorem one_size : sizeF [BitVec.allOnes 256] (fun i => (i : Int)) = 0 := size_by 3 (by decide +kernel)

end Go.Proofs.YtgccgjeehggagaaDoor
