/-
  Texts of this proof, one behind the other: HandT.
-/
import Derived.Test.YtgdeckmfnfigjaaG3
/-
  The document's example of layer 15; HandTells.
-/
namespace Go.Proofs.Ytgdeckmfnfigjaa
open Go Go.RowKit

set_option maxRecDepth 100000 in
theorem up15_may : mayH 1 2 3 := by unfold mayH; decide
set_option maxRecDepth 100000 in
theorem up15_pack : packN 1 2 3 = 72620543991349251 := packN_yes (t := 1) (s := 2) (g := 3) up15_may

set_option maxRecDepth 100000 in
set_option maxHeartbeats 4000000 in
theorem up15 (w : World) : Calls Try.prog 5 #[] w fun e w' => e = .returned (.bool true) ∧ w = w' := by
  have hU : Calls Try.prog 6 #[.int .u64 72620543991349251] w fun e w' => e = .returned (.tuple #[.int .i64 1, .int .i64 2, .int .i64 3, .bool true]) ∧ w = w' := by
    have h := handUnpack 72620543991349251 (by decide) w
    obtain ⟨a, b, c, d⟩ := up_yes up15_may
    rw [up15_pack] at a b c d
    rw [a, b, c, d] at h
    exact h
  have hP : ∀ W, Calls Try.prog 8 #[.int .i64 1, .int .i64 2, .int .i64 3] W fun e w' => e = .returned (.int .u64 72620543991349251) ∧ W = w' := by
    intro W
    have h := handPack 1 2 3 W
    rw [up15_pack] at h
    exact h
  have hZ : ∀ W, Calls Try.prog 8 #[.int .i64 0, .int .i64 0, .int .i64 0] W fun e w' => e = .returned (.int .u64 0) ∧ W = w' := by
    intro W
    have h := handPack 0 0 0 W
    rw [packN_no (by unfold mayH; decide)] at h
    exact h
  replace hP := Lib.hid hP
  replace hZ := Lib.hid hZ
  go_enter Try.func5, Try.ntmps5
  go_wp2_with fail
  refine hU.mono ?_
  rintro e w' ⟨rfl, rfl⟩
  clear hU
  go_wp2_with fail
  refine (hP.out _).mono ?_
  rintro e w' ⟨rfl, rfl⟩
  go_wp2_with fail
  refine (hZ.out _).mono ?_
  rintro e w' ⟨rfl, rfl⟩
  go_wp2
  go_ret
  exact ⟨rfl, rfl⟩

set_option maxRecDepth 100000 in
set_option maxHeartbeats 4000000 in
theorem handTells0 (t s g : Int) (h : Nat) (hh : h < 18446744073709551616) (w : World) :
    Calls Try.prog 3 #[.int .i64 t, .int .i64 s, .int .i64 g, .int .u64 h] w fun e w' => e = .returned (.bool true) ∧ w = w' := by
  have hU := fun W => handUnpack h hh W
  have hV := fun W => refHUnpack h hh W
  have hP := fun W => handPack t s g W
  have hR := fun W => refHPack t s g W
  generalize upT h = a at *
  generalize upS h = b at *
  generalize upG h = c at *
  generalize upB h = d at *
  generalize packN t s g = n at *
  replace hP := Lib.hid hP
  replace hR := Lib.hid hR
  replace hU := Lib.hid hU
  replace hV := Lib.hid hV
  clear hh
  go_enter Try.func3, Try.ntmps3
  go_wp2_with fail
  refine (up15 _).mono ?_
  rintro e w1 ⟨rfl, rfl⟩
  go_wp2_with fail
  refine (hU.out _).mono ?_
  rintro e w' ⟨rfl, rfl⟩
  go_wp2_with fail
  refine (hV.out _).mono ?_
  rintro e w' ⟨rfl, rfl⟩
  go_wp2_with fail
  refine (hP.out _).mono ?_
  rintro e w' ⟨rfl, rfl⟩
  go_wp2_with fail
  refine (hR.out _).mono ?_
  rintro e w' ⟨rfl, rfl⟩
  go_wp2
  go_ret
  exact ⟨rfl, rfl⟩

theorem handTells (t s g : Int) (h : Nat) (w : World) (hh : h < 18446744073709551616) :
    Calls Try.prog 3 #[.int .i64 t, .int .i64 s, .int .i64 g, .int .u64 h] w fun e w' => e = .returned (.bool true) ∧ Below w.heap.size w w' :=
  (handTells0 t s g h hh w).mono fun _ _ ⟨he, hw⟩ => ⟨he, hw ▸ Below.refl w.heap.size w⟩

end Go.Proofs.Ytgdeckmfnfigjaa
