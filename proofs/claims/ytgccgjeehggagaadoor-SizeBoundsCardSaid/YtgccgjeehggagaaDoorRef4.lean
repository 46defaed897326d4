/-
  Walks of the document's Support, Exists, Forall, Compose.
-/
import Derived.Test.YtgccgjeehggagaaDoorRef3
namespace Go.Proofs.YtgccgjeehggagaaDoor
open Go Go.RowKit

set_option maxRecDepth 100000 in
set_option maxHeartbeats 1000000 in
theorem refSupport (f : Fn) (w : World) :
    Calls Tryd.prog 29 #[fv f] w fun e w' => e = .returned (.int .i64 (supF f)) ∧ Below w.heap.size w w' := by
  simp only [fv]
  go_enter Tryd.func29, Tryd.ntmps29
  go_wp2
  go_loopw [3, 4] (fun s i wr => ∃ j : Nat, j ≤ 8 ∧ i = .int .i64 ((j : Int) - 1) ∧ s = .int .i64 (supFrom f (8 - j) j) ∧ Holds wr w.heap.size f ∧ Below w.heap.size w wr) (fun _ i _ => (intOf i + 1).toNat)
  case atStart => exact ⟨8, Nat.le_refl _, rfl, rfl, Holds.new _ _ _, by go_grown⟩
  case round =>
    obtain ⟨j, hj, rfl, rfl, h0, hb⟩ := hrel
    by_cases hlt : 1 ≤ j
    · obtain ⟨i, rfl⟩ : ∃ i, j = i + 1 := ⟨j - 1, by omega⟩
      have Hs := Lib.hid (show supFrom f (8 - i) i = 2 * supFrom f (8 - (i + 1)) (i + 1) + (if depF f i then 1 else 0) by
        rw [show 8 - i = (8 - (i + 1)) + 1 by omega]; rfl)
      have hs : supFrom f (8 - (i + 1)) (i + 1) < 256 := Nat.lt_of_lt_of_le (supFrom_lt f _ _) (Nat.pow_le_pow_right (n := 2) (j := 8) (by decide) (by omega))
      have hi : i < 8 := by omega
      have ei : ((i + 1 : Nat) : Int) - 1 = (i : Int) := by omega
      rw [ei]
      clear ei
      generalize supFrom f (8 - (i + 1)) (i + 1) = y at *
      obtain ⟨c0, c1, c2, c3⟩ := h0.cells
      go_wp2_with fail
      clear c0 c1 c2 c3
      refine (refDepends f i _).mono ?_
      rw [depAny, if_pos (by omega), Int.toNat_natCast]
      rintro e w1 ⟨rfl, hb1⟩
      have k0 := h0.keep hb1 h0.lt
      have kb := hb.trans (hb1.mono hb.size)
      clear h0 hb hb1
      cases hd : depF f i
      · rw [hd] at Hs
        go_wp2
        exact ⟨⟨i, by omega, by go_num, by rw [Hs.out]; rfl, k0, kb⟩, by simp [intOf]⟩
      · rw [hd] at Hs
        go_wp2
        exact ⟨⟨i, by omega, by go_num, by rw [Hs.out]; rfl, k0, kb⟩, by simp [intOf]⟩
    · obtain rfl : j = 0 := by omega
      go_wp2
      go_ret
      exact ⟨rfl, hb⟩



/-- With g in variable v's place. -/
def compF (f : Fn) (v : Int) (g : Fn) : Fn := g &&& cofAny f v true ||| ~~~g &&& cofAny f v false


end Go.Proofs.YtgccgjeehggagaaDoor
