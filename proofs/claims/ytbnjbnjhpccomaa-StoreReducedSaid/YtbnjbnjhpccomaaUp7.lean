/-
  The document's example of layer 7; a store and its model at the beginning.
-/
import Derived.Test.YtbnjbnjhpccomaaDo7
namespace Go.Proofs.Ytbnjbnjhpccomaa
open Go Go.RowKit

/-- One node. -/
def oneS : MS := ⟨⟨3, 1, [0], []⟩, [⟨0, 0, 1⟩], plainO⟩
theorem up7_a : (MS.none 3).mk 0 0 1 [] = (2, 0, oneS) := rfl
theorem up7_b : oneS.mk 0 0 1 [] = (2, 0, oneS) := rfl
theorem up7_c : oneS.mk 1 1 1 [] = (1, 0, oneS) := rfl
theorem up7_n : nodeV oneS 2 = .tuple #[.agg #[.int .i64 0, .int .i64 0, .int .i64 1], .bool true] := rfl
theorem up7_l : oneS.all.length = 1 := rfl
theorem up7_r : oneS.room = 2 := rfl
theorem oneS_ok : oneS.Ok := by
  have := (MS.none_ok 3 (by decide)).made 0 0 1
  rwa [up7_a] at this
theorem errV0 : errV 0 = .nilIface := rfl

theorem UpS.step {StAt : World → Nat → (Nat → Prop) → MS → Prop} {w w1 w2 : World} {b : Nat} {F F2 : Nat → Prop} {s : MS} (hb : Below w.heap.size w w1) (hF : ∀ k, F k → w.heap.size ≤ k) (hA2 : StAt w2 b F2 s) (hK : Keeps F w1 w2) (hW : Within w1 F F2) :
    (∃ F, StAt w2 b F s ∧ ∀ k, F k → w.heap.size ≤ k) ∧ Below w.heap.size w w2 :=
  ⟨⟨F2, hA2, fun k hk => (hW k hk).elim (hF k) (fun h => Nat.le_trans hb.size h)⟩, hb.trans (hK.below hb.size hF)⟩

set_option maxRecDepth 100000 in
set_option maxHeartbeats 4000000 in
theorem up07 {StAt : World → Nat → (Nat → Prop) → MS → Prop} (H : StoreC StAt) (w : World) : Calls Try.prog 5 #[] w fun e w' => e = .returned (.bool true) ∧ Below w.heap.size w w' := by
  go_enter Try.func5, Try.ntmps5
  go_wp2_with fail
  refine (H.new 3 w (by decide) (by decide)).mono ?_
  rintro e w1 ⟨b, rfl, ⟨F, hA, hF⟩, hb⟩
  have M := H.make hA (MS.none_ok 3 (by decide)) 0 0 1 (by decide) (by decide)
  rw [show (3 : Int).toNat = 3 from rfl, up7_a] at M
  dsimp only at M
  rw [errV0] at M
  go_wp2_with fail
  refine M.mono ?_
  rintro e w2 ⟨rfl, F2, hA2, hK, hW⟩
  have R := UpS.step hb hF hA2 hK hW
  clear hA hF hb hA2 hK hW M
  obtain ⟨⟨F, hA, hF⟩, hb⟩ := R
  have M := H.make hA oneS_ok 0 0 1 (by decide) (by decide)
  rw [up7_b] at M
  dsimp only at M
  rw [errV0] at M
  go_wp2_with fail
  refine M.mono ?_
  rintro e w3 ⟨rfl, F2, hA2, hK, hW⟩
  have R := UpS.step hb hF hA2 hK hW
  clear hA hF hb hA2 hK hW M
  obtain ⟨⟨F, hA, hF⟩, hb⟩ := R
  have M := H.make hA oneS_ok 1 1 1 (by decide) (by decide)
  rw [up7_c] at M
  dsimp only at M
  rw [errV0] at M
  go_wp2_with fail
  refine M.mono ?_
  rintro e w4 ⟨rfl, F2, hA2, hK, hW⟩
  have R := UpS.step hb hF hA2 hK hW
  clear hA hF hb hA2 hK hW M
  obtain ⟨⟨F, hA, hF⟩, hb⟩ := R
  have M := H.node hA oneS_ok 2 (by decide)
  rw [up7_n] at M
  go_wp2_with fail
  refine M.mono ?_
  rintro e w5 ⟨rfl, hb5⟩
  replace hb5 := hb5.alloc hb5.size (.cells #[.int .i64 0, .int .i64 0, .int .i64 1] 39)
  have hq := run_eql_nodes 0 0 1 0 0 1 true rfl
  have y0 := (HoldsN.new w5 ⟨0, 0, 1⟩).cells
  dsimp only at y0
  obtain ⟨y0, y1, y2⟩ := y0
  have hA5 := H.below hA hb5
  replace hb := hb.trans (hb5.mono hb.size)
  clear hA hF M hb5
  go_wp2_with fail
  generalize w5.alloc (.cells #[.int .i64 0, .int .i64 0, .int .i64 1] 39) = W5 at *
  have M := H.live hA5 oneS_ok
  rw [up7_l] at M
  refine M.mono ?_
  rintro e w6 ⟨rfl, hb6⟩
  have hA6 := H.below hA5 hb6
  replace hb := hb.trans (hb6.mono hb.size)
  clear hA5 M hb6 y0 y1 y2
  go_wp2_with fail
  have M := H.room hA6 oneS_ok
  rw [up7_r] at M
  refine M.mono ?_
  rintro e w7 ⟨rfl, hb7⟩
  replace hb := hb.trans (hb7.mono hb.size)
  clear hA6 M hb7
  go_wp2
  go_ret
  exact ⟨rfl, hb⟩

end Go.Proofs.Ytbnjbnjhpccomaa
