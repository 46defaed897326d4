/-
  Walk of tab.Ite.
-/
import Derived.Test.YtgccgjeehggagaaDoorTab
import Derived.Test.YtgccgjeehggagaaDoorQuiet
import Derived.Lib.Hide
namespace Go.Proofs.YtgccgjeehggagaaDoor
open Go Go.RowKit

attribute [local go_sem] setCell_drewN alloc_drewN

theorem bcell {W w1 : World} (hb : Below W.heap.size W w1) :
    (∀ b o, b < W.heap.size → w1.cell? ⟨b, o, none⟩ = W.cell? ⟨b, o, none⟩) ∧ (∀ b o, b < W.heap.size → w1.frozen? ⟨b, o, none⟩ = W.frozen? ⟨b, o, none⟩) :=
  ⟨fun b o h => hb.cell (p := ⟨b, o, none⟩) h, fun b o h => hb.frozen (p := ⟨b, o, none⟩) h⟩

theorem below_from {w W w1 : World} (hb : Below W.heap.size W w1) (hW : Below w.heap.size w W) : Below w.heap.size w w1 := hW.trans (hb.mono hW.size)

theorem below_set4 {B b : Nat} {a w : World} {x0 x1 x2 x3 : Value} (h : Below B a w) (hb : B ≤ b) :
    Below B a ((((w.setCell ⟨b, 0, none⟩ x0).setCell ⟨b, 1, none⟩ x1).setCell ⟨b, 2, none⟩ x2).setCell ⟨b, 3, none⟩ x3) :=
  (((h.setCell hb _).setCell hb _).setCell hb _).setCell hb _


theorem fv_zero : fv 0#256 = .agg #[.int .u64 0, .int .u64 0, .int .u64 0, .int .u64 0] := by
  simp [fv, wd]

set_option maxHeartbeats 400000 in
theorem tabConst (b : Bool) (w : World) :
    Calls Tryd.prog 14 #[.bool b] w fun e w' => e = .returned (fv (if b then BitVec.allOnes 256 else 0#256)) ∧ Below w.heap.size w w' := by
  cases b with
  | false =>
    simp only [Bool.false_eq_true, if_false, fv_zero]
    go_enter Tryd.func14, Tryd.ntmps14
    go_wp2
    exact bodyPost_ret (v := .agg #[.int .u64 0, .int .u64 0, .int .u64 0, .int .u64 0]) (by simp [results, Tryd.results14, go_sem]) rfl ⟨rfl, by go_grown⟩
  | true =>
    have hone : ~~~(0#256) = BitVec.allOnes 256 := by decide
    simp only [if_true, ← hone]
    clear hone
    go_enter Tryd.func14, Tryd.ntmps14
    go_wp2_with fail
    rw [← fv_zero]
    refine (tabNot 0#256 _).mono ?_
    generalize hg : ~~~(0#256) = g
    have Hg := Lib.hid hg
    clear hg
    rintro e w1 ⟨rfl, hb⟩
    obtain ⟨hc, hf⟩ := bcell hb
    simp only [fv]
    go_wp2
    clear hf
    refine bodyPost_ret (v := .agg #[.int .u64 (wd g 0), .int .u64 (wd g 1), .int .u64 (wd g 2), .int .u64 (wd g 3)]) ?_ rfl ⟨by rw [Hg.out, fv], ?_⟩
    · simp [results, Tryd.results14, go_sem, hc]
    · exact below_set4 (below_from hb (by go_grown)) (Nat.le_refl _)

end Go.Proofs.YtgccgjeehggagaaDoor
