/-
  What a node is in a row, by the code's Node.
-/
import Derived.Test.YtbnjbnjhpccomaaPlays7
namespace Go.Proofs.Ytbnjbnjhpccomaa
open Go Go.RowKit

/-- A bit of a row. -/
def rowBit (x : Int) (v : Int) : Bool := (x / 2 ^ v.toNat).tmod 2 == 1

set_option maxRecDepth 100000 in
set_option maxHeartbeats 4000000 in
theorem lawFunction {StAt : World → Nat → (Nat → Prop) → MS → Prop} (H : StoreC StAt) {w : World} {b : Nat} {F : Nat → Prop} {s : MS} (h : StAt w b F s) (ok : s.Ok) (n : Int) (hn : s.there n = true) (x : Int) (_hx0 : 0 ≤ x) (_hx1 : x ≤ 255) :
    Calls Try.prog 15 #[.pointer (some ⟨b, 0, none⟩), .int .i64 n, .int .i64 x] w fun e w' => e = .returned (.bool (s.val (rowBit x) n)) ∧ Below w.heap.size w w' := by
  generalize hval : s.val (rowBit x) n = V
  have hdep := ok.dep_le n
  go_enter Try.func15, Try.ntmps15
  go_wp2
  go_loopw [1, 7] (fun m i wr => ∃ (k : Nat) (m' : Int), k ≤ 8 ∧ i = .int .i64 k ∧ m = .int .i64 m' ∧ s.there m' = true ∧ s.dep m' + k ≤ 8 ∧ s.val (rowBit x) m' = V ∧ Below w.heap.size w wr) (fun _ i _ => 9 - (intOf i).toNat)
  case atStart => exact ⟨0, n, by omega, rfl, rfl, hn, by omega, hval, Below.refl _ _⟩
  case round =>
    clear hn hval hdep
    obtain ⟨k, n, hk, rfl, rfl, hn, hdep, hval, hb⟩ := hrel
    have hk9 : (k : Int) < 9 := by omega
    have hk0 : (0 : Int) ≤ (k : Int) := by omega
    have hle : n ≤ 9223372036854775807 ∧ -9223372036854775808 ≤ n := by
      rcases MS.there_cases hn with ⟨hc, _⟩ | hh
      · omega
      · have := ok.toBase.has_le hh; omega
    have HN := H.node (H.below h hb) ok n hle
    unfold nodeV nv at HN
    cases hh : s.has n
    · simp only [hh, Bool.false_eq_true, if_false] at HN
      rw [MS.val_const _ hh] at hval
      replace hval := Lib.hid hval
      clear hdep hn hh
      go_wp2_with fail
      refine HN.mono ?_
      rintro e w2 ⟨rfl, hb2⟩
      clear HN
      go_wp2
      go_ret
      exact ⟨by rw [← hval.out]; rfl, (hb.trans (hb2.mono hb.size)).alloc (hb.trans (hb2.mono hb.size)).size _⟩
    · simp only [hh, if_true] at HN
      rw [ok.val_node _ hh] at hval
      have d1 := ok.dep_behind hh (ok.lo n hh)
      have d2 := ok.dep_behind hh (ok.hi n hh)
      have t1 := MS.behind_there (ok.lo n hh)
      have t2 := MS.behind_there (ok.hi n hh)
      have hv := ok.var n hh
      clear hn hh
      generalize s.nd n = y at *
      obtain ⟨y0, y1, y2⟩ := y
      dsimp only at HN hval d1 d2 t1 t2 hv
      have HP := fun U => lawPick y0 8 U (by decide) (by decide) (WalkArith.wf_i64 (by omega))
      rw [Int.emod_eq_of_lt hv.1 (by omega)] at HP
      go_wp2_with fail
      refine HN.mono ?_
      rintro e w2 ⟨rfl, hb2⟩
      have hb3 := (hb.trans (hb2.mono hb.size)).alloc (hb.trans (hb2.mono hb.size)).size (.cells #[.int .i64 y0, .int .i64 y1, .int .i64 y2] 39)
      have z0 := (HoldsN.new w2 ⟨y0, y1, y2⟩).cells
      dsimp only at z0
      obtain ⟨z0, z1, z2⟩ := z0
      clear HN hb2
      go_wp2_with fail
      generalize w2.alloc (.cells #[.int .i64 y0, .int .i64 y1, .int .i64 y2] 39) = W3 at *
      refine (HP _).mono ?_
      rintro e w4 ⟨rfl, rfl⟩
      clear HP
      obtain ⟨m, rfl⟩ := Int.eq_ofNat_of_zero_le hv.1
      go_wp2
      · rename_i hbit
        have hbt : rowBit x (m : Int) = true := hbit
        rw [hbt, if_pos rfl] at hval
        exact ⟨⟨k + 1, y2, by omega, by go_num, rfl, t2, by omega, hval, hb3⟩, by simp [intOf]; omega⟩
      · rename_i hbit
        have hbt : rowBit x (m : Int) = false := hbit
        rw [hbt, if_neg (by decide)] at hval
        exact ⟨⟨k + 1, y1, by omega, by go_num, rfl, t1, by omega, hval, hb3⟩, by simp [intOf]; omega⟩

end Go.Proofs.Ytbnjbnjhpccomaa
