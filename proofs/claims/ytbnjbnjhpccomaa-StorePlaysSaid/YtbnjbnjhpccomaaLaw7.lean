/-
  Layer 7's law: the two stores compared; a deed.
-/
import Derived.Test.YtbnjbnjhpccomaaStoreC
import Derived.Test.YtbnjbnjhpccomaaOrdEq
import Derived.Deep.RegionHeld3
namespace Go.Proofs.Ytbnjbnjhpccomaa
open Go Go.RowKit
attribute [local go_sem] run_equal_same' run_eql_same run_neq_same run_guard_order

theorem run_neq_nodes (a0 a1 a2 : Int) (w : World) : (binOp .neq 39 (.agg #[.int .i64 a0, .int .i64 a1, .int .i64 a2]) (.agg #[.int .i64 a0, .int .i64 a1, .int .i64 a2])).run Try.prog w = .ok (.bool false) w := by
  have hq : ∀ (w : World) (a b : Int), (Op.equalIn 9999 3 (.int .i64 a) (.int .i64 b)).run Try.prog w = .ok (a == b) w := fun w a b => run_equalIn_int w 9998 _ _ _ _ _ Try.underlying3
  rw [run_neq_struct, run_equalIn_agg w 9999 _ _ _ (by kernel_rfl) (by kernel_rfl)]
  simp [Op.eqFields, part, go_sem, hq]

section
variable {StAt : World → Nat → (Nat → Prop) → MS → Prop} {w0 W W' : World} {bA bM : Nat} {FA FM FA' FM' : Nat → Prop} {sA sM s' : MS}
/-- The order's cells. -/
def OrdAt (w : World) (b : Nat) (o : Nat → Int) : Prop := w.cell? ⟨b, 2, none⟩ = some (.int .i64 (o 0)) ∧ w.cell? ⟨b, 3, none⟩ = some (.int .i64 (o 1)) ∧ w.cell? ⟨b, 4, none⟩ = some (.int .i64 (o 2)) ∧ w.cell? ⟨b, 5, none⟩ = some (.int .i64 (o 3)) ∧
    w.cell? ⟨b, 6, none⟩ = some (.int .i64 (o 4)) ∧ w.cell? ⟨b, 7, none⟩ = some (.int .i64 (o 5)) ∧ w.cell? ⟨b, 8, none⟩ = some (.int .i64 (o 6)) ∧ w.cell? ⟨b, 9, none⟩ = some (.int .i64 (o 7))
theorem P2.order (h : P2 StAt w0 bA bM FA FM sA sM W) : OrdAt W bM sM.o := by
  obtain ⟨_, _, _, _, hR⟩ := h.m
  exact hR.order
end

set_option maxRecDepth 100000 in
set_option maxHeartbeats 8000000 in
theorem lawSame {StAt : World → Nat → (Nat → Prop) → MS → Prop} (H : StoreC StAt) {w0 w : World} {bA bM : Nat} {FA FM : Nat → Prop} {s : MS} (P : P2 StAt w0 bA bM FA FM s s w) (ok : s.Ok) :
    Calls Try.prog 9 #[.pointer (some ⟨bA, 0, none⟩), .pointer (some ⟨bM, 0, none⟩)] w fun e w' => e = .returned (.int .i64 1) ∧ Below w.heap.size w w' := by
  have hal : s.all.length ≤ 20000 := Nat.le_trans (numsTo_filter_length s.has s.N.length) ok.toBase.few
  go_enter Try.func9, Try.ntmps9
  go_wp2_with fail
  refine (refSAll P.m ok.toBase).mono ?_
  rintro e w1 ⟨vA, rfl, RA⟩
  replace P := P.keep H RA.below
  obtain ⟨aA, cA, rfl, _⟩ := RA.own.form
  replace P := P.keep H (Below.refl w1.heap.size w1).drew
  have hb1 := RA.below.drew
  have hA := RA.own.reads.keep (Below.refl w1.heap.size w1).drew
  clear RA
  go_wp2
  have hS0 := P.order
  simp only [OrdAt] at hS0
  replace P := Lib.hid P
  replace hA := Lib.hid hA
  replace H := Lib.hid H
  go_region_held3 (fun w' => w'.cell? ⟨bM, 2, none⟩ = some (.int .i64 (s.o 0)) ∧ w'.cell? ⟨bM, 3, none⟩ = some (.int .i64 (s.o 1)) ∧ w'.cell? ⟨bM, 4, none⟩ = some (.int .i64 (s.o 2)) ∧ w'.cell? ⟨bM, 5, none⟩ = some (.int .i64 (s.o 3)) ∧
    w'.cell? ⟨bM, 6, none⟩ = some (.int .i64 (s.o 4)) ∧ w'.cell? ⟨bM, 7, none⟩ = some (.int .i64 (s.o 5)) ∧ w'.cell? ⟨bM, 8, none⟩ = some (.int .i64 (s.o 6)) ∧ w'.cell? ⟨bM, 9, none⟩ = some (.int .i64 (s.o 7))) (first | assumption)
    (first
      | (go_at_call 10; refine (H.out.all P.out.a ok).mono ?_; rintro e W1 ⟨v1, rfl, R1⟩; have P1 := Lib.hid (P.out.keep H.out R1.below); have hb2 := hb1.trans (R1.below.mono hb1.size); have hA1 := Lib.hid (hA.out.keep R1.below); have hS1 := P1.out.order; simp only [OrdAt] at hS1)
      | (go_at_call 18; refine (lawInts s.all v1 _ _ R1.own.reads hA1.out (by omega)).mono ?_; rintro e W2 ⟨rfl, R2⟩; have P2 := Lib.hid (P1.out.keep H.out R2); have hb3 := hb2.trans (R2.mono hb2.size); have hA2 := Lib.hid (hA1.out.keep R2); have hS2 := P2.out.order; simp only [OrdAt] at hS2)
      | (go_at_call 20; refine (H.out.live P2.out.a ok).mono ?_; rintro e W3 ⟨rfl, R3⟩; have P3 := Lib.hid (P2.out.keep H.out R3); have hb4 := hb3.trans (R3.mono hb3.size); have hA3 := Lib.hid (hA2.out.keep R3); have hS3 := P3.out.order; simp only [OrdAt] at hS3)
      | (go_at_call 21; refine (H.out.room P3.out.a ok).mono ?_; rintro e W4 ⟨rfl, R4⟩; have P4 := Lib.hid (P3.out.keep H.out R4); have hb5 := hb4.trans (R4.mono hb4.size); have hA4 := Lib.hid (hA3.out.keep R4); have hS4 := P4.out.order; simp only [OrdAt] at hS4)
      | (go_at_call 32; refine (refSRoom P4.out.m ok.toBase).mono ?_; rintro e W5 ⟨rfl, R5⟩; have P5 := Lib.hid (P4.out.keep H.out R5); have hb6 := hb5.trans (R5.mono hb5.size); have hA5 := Lib.hid (hA4.out.keep R5); have hS5 := P5.out.order; simp only [OrdAt] at hS5)
      | (go_at_call 11; refine (H.out.order P5.out.a ok).mono ?_; rintro e W6 ⟨rfl, R6⟩; have P6 := Lib.hid (P5.out.keep H.out R6); have hb7 := hb6.trans (R6.mono hb6.size); have hA6 := Lib.hid (hA5.out.keep R6); have hS6 := P6.out.order; simp only [OrdAt] at hS6; simp only [ov]))
  replace P := P6.out
  replace hA := hA6.out
  replace H := H.out
  clear hS0 hS1 hS2 hS3 hS4 hS5 hS6 P1 P2 P3 P4 P5 P6 hA1 hA2 hA3 hA4 hA5 hA6 R1 R2 R3 R4 R5 R6 hb1 hb2 hb3 hb4 hb5 hb6
  go_wp2
  go_loopw [6] (fun i wr => ∃ k : Nat, k ≤ s.all.length ∧ i = .int .i64 k ∧ Below W6.heap.size W6 wr) (fun i _ => s.all.length - (intOf i).toNat)
  case atStart => exact ⟨0, Nat.zero_le _, rfl, Below.refl _ _⟩
  case round =>
    obtain ⟨k, hk, rfl, hb⟩ := hrel
    by_cases hlt : k < s.all.length
    · replace P := P.keep H hb
      obtain ⟨ad, rfl, hc⟩ := (hA.keep hb).intAt k hlt
      have hhas : s.has s.all[k] = true := ok.toBase.mem_all.1 (List.getElem_mem hlt)
      generalize s.all[k] = n at *
      have hle := ok.toBase.has_le hhas
      have hk0 : (0 : Int) ≤ (k : Int) := by omega
      have hk1 : (k : Int) < (s.all.length : Int) := by omega
      have HA := H.node P.a ok n (by omega)
      have HM := fun V (hV : Below wr.heap.size wr V) => refSNode (P.m.below hV) ok.toBase n (by omega)
      simp only [nodeV, hhas, if_true, nv] at HA HM
      generalize s.nd n = x at *
      obtain ⟨x0, x1, x2⟩ := x
      dsimp only at HA HM
      have hq := run_neq_nodes x0 x1 x2
      clear hA P
      go_wp2_with fail
      refine HA.mono ?_
      rintro e w2 ⟨rfl, hb2⟩
      have hb3 := hb2.alloc hb2.size (.cells #[.int .i64 x0, .int .i64 x1, .int .i64 x2] 39)
      have y0 := HoldsN.new w2 ⟨x0, x1, x2⟩
      dsimp only at y0
      have hc3 := (hb3.cell (p := ad.add k) (block_lt_of_cell hc)).trans hc
      go_wp2_with fail
      generalize w2.alloc (.cells #[.int .i64 x0, .int .i64 x1, .int .i64 x2] 39) = W3 at *
      refine (HM _ hb3).mono ?_
      rintro e w4 ⟨rfl, hb4⟩
      replace y0 := y0.below hb4
      replace hb4 := hb3.trans (hb4.mono hb3.size)
      clear HA HM hc3 hc
      have z0 := HoldsN.new w4 ⟨x0, x1, x2⟩
      have hb5 : Below wr.heap.size wr (w4.alloc (.cells #[.int .i64 x0, .int .i64 x1, .int .i64 x2] 39)) := hb4.alloc hb4.size _
      have y1 : HoldsN (w4.alloc (.cells #[.int .i64 x0, .int .i64 x1, .int .i64 x2] 39)) w2.heap.size ⟨x0, x1, x2⟩ := y0.keep (Keeps.of_alloc noBlock _ _) (fun h => h)
      dsimp only at z0
      obtain ⟨a0, a1, a2⟩ := y1.cells
      obtain ⟨c0, c1, c2⟩ := z0.cells
      dsimp only at a0 a1 a2 c0 c1 c2
      clear y0 y1 z0
      go_wp2
      exact ⟨⟨k + 1, by omega, by go_num, hb.trans (hb5.mono hb.size)⟩, by simp [intOf]; omega⟩
    · obtain rfl : k = s.all.length := by omega
      go_wp2
      go_ret
      exact ⟨rfl, hb7.trans (hb.mono hb7.size)⟩

end Go.Proofs.Ytbnjbnjhpccomaa
