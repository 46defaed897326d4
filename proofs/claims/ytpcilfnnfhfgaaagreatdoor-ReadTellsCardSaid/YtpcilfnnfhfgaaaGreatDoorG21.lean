/-
  Texts of this proof, one behind the other: OrdEq, Law7, Do7, Up7, Plays7, Ref2, Ref3.
-/
import Derived.Test.YtpcilfnnfhfgaaaGreatDoorG7
import Derived.ChangeKeysEq
import Derived.WalkKit
import Derived.KernelRfl
import Derived.Test.YtpcilfnnfhfgaaaGreatDoorG10
import Derived.Deep.RegionHeld3
import Derived.Test.YtpcilfnnfhfgaaaGreatDoorG14
import Derived.Test.YtpcilfnnfhfgaaaGreatDoorG18
/-
  Orders compared.
-/
namespace Go.Proofs.YtpcilfnnfhfgaaaGreatDoor
open Go Go.RowKit

theorem run_equal_same (d : Nat) (a0 a1 a2 a3 a4 a5 a6 a7 : Int) (w : World) : (Op.equalIn (d + 1 + 1) 62 (.agg #[.int .i64 a0, .int .i64 a1, .int .i64 a2, .int .i64 a3, .int .i64 a4, .int .i64 a5, .int .i64 a6, .int .i64 a7]) (.agg #[.int .i64 a0, .int .i64 a1, .int .i64 a2, .int .i64 a3, .int .i64 a4, .int .i64 a5, .int .i64 a6, .int .i64 a7])).run Tryz.prog w = .ok true w := by
  obtain ⟨i, hi⟩ : ∃ i, Tryz.prog.info? 3 = some i := info_of_underlying Tryz.underlying3
  rw [run_equalIn_array w (d + 1) _ _ Tryz.underlying62 hi]
  have hc : Tryz.prog.cellsOf 3 = 1 := by kernel_rfl
  have hr : List.range 8 = [0, 1, 2, 3, 4, 5, 6, 7] := rfl
  rw [hc, hr]
  have hq : ∀ (w : World) (a b : Int), (Op.equalIn (d + 1) 3 (.int .i64 a) (.int .i64 b)).run Tryz.prog w = .ok (a == b) w := fun w a b => run_equalIn_int w d _ _ _ _ _ Tryz.underlying3
  simp [Op.eqItems, part, go_sem, hq]

theorem run_eql_same (a0 a1 a2 a3 a4 a5 a6 a7 : Int) (w : World) : (binOp .eql 62 (.agg #[.int .i64 a0, .int .i64 a1, .int .i64 a2, .int .i64 a3, .int .i64 a4, .int .i64 a5, .int .i64 a6, .int .i64 a7]) (.agg #[.int .i64 a0, .int .i64 a1, .int .i64 a2, .int .i64 a3, .int .i64 a4, .int .i64 a5, .int .i64 a6, .int .i64 a7])).run Tryz.prog w = .ok (.bool true) w := by
  rw [run_eql_struct, run_equal_same 9998]
  rfl
theorem run_neq_same (a0 a1 a2 a3 a4 a5 a6 a7 : Int) (w : World) : (binOp .neq 62 (.agg #[.int .i64 a0, .int .i64 a1, .int .i64 a2, .int .i64 a3, .int .i64 a4, .int .i64 a5, .int .i64 a6, .int .i64 a7]) (.agg #[.int .i64 a0, .int .i64 a1, .int .i64 a2, .int .i64 a3, .int .i64 a4, .int .i64 a5, .int .i64 a6, .int .i64 a7])).run Tryz.prog w = .ok (.bool false) w := by
  rw [run_neq_struct, run_equal_same 9998]
  rfl
theorem run_guard_order (op : BinOp) (x y : Operand) (a b : Array Value) (w : World) : (eqGuard op 62 x y (.agg a) (.agg b)).run Tryz.prog w = .ok () w :=
  run_eqGuard_agg w op _ x y _ _ (by kernel_rfl)
theorem run_equal_same' (a0 a1 a2 a3 a4 a5 a6 a7 : Int) (w : World) : (Op.equalIn 10000 62 (.agg #[.int .i64 a0, .int .i64 a1, .int .i64 a2, .int .i64 a3, .int .i64 a4, .int .i64 a5, .int .i64 a6, .int .i64 a7]) (.agg #[.int .i64 a0, .int .i64 a1, .int .i64 a2, .int .i64 a3, .int .i64 a4, .int .i64 a5, .int .i64 a6, .int .i64 a7])).run Tryz.prog w = .ok true w := run_equal_same 9998 _ _ _ _ _ _ _ _ w

end Go.Proofs.YtpcilfnnfhfgaaaGreatDoor

/-
  Layer 7's law: the two stores compared; a deed.
-/
namespace Go.Proofs.YtpcilfnnfhfgaaaGreatDoor
open Go Go.RowKit
attribute [local go_sem] run_equal_same' run_eql_same run_neq_same run_guard_order

theorem run_neq_nodes (a0 a1 a2 : Int) (w : World) : (binOp .neq 69 (.agg #[.int .i64 a0, .int .i64 a1, .int .i64 a2]) (.agg #[.int .i64 a0, .int .i64 a1, .int .i64 a2])).run Tryz.prog w = .ok (.bool false) w := by
  have hq : ∀ (w : World) (a b : Int), (Op.equalIn 9999 3 (.int .i64 a) (.int .i64 b)).run Tryz.prog w = .ok (a == b) w := fun w a b => run_equalIn_int w 9998 _ _ _ _ _ Tryz.underlying3
  rw [run_neq_struct, run_equalIn_agg w 9999 _ _ _ (by kernel_rfl) (by kernel_rfl)]
  simp [Op.eqFields, part, go_sem, hq]

section
variable {StAt : World → Nat → (Nat → Prop) → MS → Prop} {w0 W W' : World} {bA bM : Nat} {FA FM FA' FM' : Nat → Prop} {sA sM s' : MS}
/-- The order's cells. -/
def OrdAt (w : World) (b : Nat) (o : Nat → Int) : Prop := w.cell? ⟨b, 2, none⟩ = some (.int .i64 (o 0)) ∧ w.cell? ⟨b, 3, none⟩ = some (.int .i64 (o 1)) ∧ w.cell? ⟨b, 4, none⟩ = some (.int .i64 (o 2)) ∧ w.cell? ⟨b, 5, none⟩ = some (.int .i64 (o 3)) ∧
    w.cell? ⟨b, 6, none⟩ = some (.int .i64 (o 4)) ∧ w.cell? ⟨b, 7, none⟩ = some (.int .i64 (o 5)) ∧ w.cell? ⟨b, 8, none⟩ = some (.int .i64 (o 6)) ∧ w.cell? ⟨b, 9, none⟩ = some (.int .i64 (o 7))
theorem P2.order (h : P2 StAt w0 bA bM FA FM sA sM W) : OrdAt W bM sM.o := by
  obtain ⟨_, _, _, _, hR⟩ := h.m
  exact hR.order
end

set_option maxRecDepth 100000 in
set_option maxHeartbeats 8000000 in
theorem lawSame {StAt : World → Nat → (Nat → Prop) → MS → Prop} (H : StoreC StAt) {w0 w : World} {bA bM : Nat} {FA FM : Nat → Prop} {s : MS} (P : P2 StAt w0 bA bM FA FM s s w) (ok : s.Ok) :
    Calls Tryz.prog 25 #[.pointer (some ⟨bA, 0, none⟩), .pointer (some ⟨bM, 0, none⟩)] w fun e w' => e = .returned (.int .i64 1) ∧ Below w.heap.size w w' := by
  have hal : s.all.length ≤ 20000 := Nat.le_trans (numsTo_filter_length s.has s.N.length) ok.toBase.few
  go_enter Tryz.func25, Tryz.ntmps25
  go_wp2_with fail
  refine (refSAll P.m ok.toBase).mono ?_
  rintro e w1 ⟨vA, rfl, RA⟩
  replace P := P.keep H RA.below
  obtain ⟨aA, cA, rfl, _⟩ := RA.own.form
  replace P := P.keep H (Below.refl w1.heap.size w1).drew
  have hb1 := RA.below.drew
  have hA := RA.own.reads.keep (Below.refl w1.heap.size w1).drew
  clear RA
  go_wp2
  have hS0 := P.order
  simp only [OrdAt] at hS0
  replace P := Lib.hid P
  replace hA := Lib.hid hA
  replace H := Lib.hid H
  go_region_held3 (fun w' => w'.cell? ⟨bM, 2, none⟩ = some (.int .i64 (s.o 0)) ∧ w'.cell? ⟨bM, 3, none⟩ = some (.int .i64 (s.o 1)) ∧ w'.cell? ⟨bM, 4, none⟩ = some (.int .i64 (s.o 2)) ∧ w'.cell? ⟨bM, 5, none⟩ = some (.int .i64 (s.o 3)) ∧
    w'.cell? ⟨bM, 6, none⟩ = some (.int .i64 (s.o 4)) ∧ w'.cell? ⟨bM, 7, none⟩ = some (.int .i64 (s.o 5)) ∧ w'.cell? ⟨bM, 8, none⟩ = some (.int .i64 (s.o 6)) ∧ w'.cell? ⟨bM, 9, none⟩ = some (.int .i64 (s.o 7))) (first | assumption)
    (first
      | (go_at_call 60; refine (H.out.all P.out.a ok).mono ?_; rintro e W1 ⟨v1, rfl, R1⟩; have P1 := Lib.hid (P.out.keep H.out R1.below); have hb2 := hb1.trans (R1.below.mono hb1.size); have hA1 := Lib.hid (hA.out.keep R1.below); have hS1 := P1.out.order; simp only [OrdAt] at hS1)
      | (go_at_call 19; refine (lawInts s.all v1 _ _ R1.own.reads hA1.out (by omega)).mono ?_; rintro e W2 ⟨rfl, R2⟩; have P2 := Lib.hid (P1.out.keep H.out R2); have hb3 := hb2.trans (R2.mono hb2.size); have hA2 := Lib.hid (hA1.out.keep R2); have hS2 := P2.out.order; simp only [OrdAt] at hS2)
      | (go_at_call 29; refine (H.out.live P2.out.a ok).mono ?_; rintro e W3 ⟨rfl, R3⟩; have P3 := Lib.hid (P2.out.keep H.out R3); have hb4 := hb3.trans (R3.mono hb3.size); have hA3 := Lib.hid (hA2.out.keep R3); have hS3 := P3.out.order; simp only [OrdAt] at hS3)
      | (go_at_call 61; refine (H.out.room P3.out.a ok).mono ?_; rintro e W4 ⟨rfl, R4⟩; have P4 := Lib.hid (P3.out.keep H.out R4); have hb5 := hb4.trans (R4.mono hb4.size); have hA4 := Lib.hid (hA3.out.keep R4); have hS4 := P4.out.order; simp only [OrdAt] at hS4)
      | (go_at_call 62; refine (refSRoom P4.out.m ok.toBase).mono ?_; rintro e W5 ⟨rfl, R5⟩; have P5 := Lib.hid (P4.out.keep H.out R5); have hb6 := hb5.trans (R5.mono hb5.size); have hA5 := Lib.hid (hA4.out.keep R5); have hS5 := P5.out.order; simp only [OrdAt] at hS5)
      | (go_at_call 31; refine (H.out.order P5.out.a ok).mono ?_; rintro e W6 ⟨rfl, R6⟩; have P6 := Lib.hid (P5.out.keep H.out R6); have hb7 := hb6.trans (R6.mono hb6.size); have hA6 := Lib.hid (hA5.out.keep R6); have hS6 := P6.out.order; simp only [OrdAt] at hS6; simp only [ov]))
  replace P := P6.out
  replace hA := hA6.out
  replace H := H.out
  clear hS0 hS1 hS2 hS3 hS4 hS5 hS6 P1 P2 P3 P4 P5 P6 hA1 hA2 hA3 hA4 hA5 hA6 R1 R2 R3 R4 R5 R6 hb1 hb2 hb3 hb4 hb5 hb6
  go_wp2
  go_loopw [6] (fun i wr => ∃ k : Nat, k ≤ s.all.length ∧ i = .int .i64 k ∧ Below W6.heap.size W6 wr) (fun i _ => s.all.length - (intOf i).toNat)
  case atStart => exact ⟨0, Nat.zero_le _, rfl, Below.refl _ _⟩
  case round =>
    obtain ⟨k, hk, rfl, hb⟩ := hrel
    by_cases hlt : k < s.all.length
    · replace P := P.keep H hb
      obtain ⟨ad, rfl, hc⟩ := (hA.keep hb).intAt k hlt
      have hhas : s.has s.all[k] = true := ok.toBase.mem_all.1 (List.getElem_mem hlt)
      generalize s.all[k] = n at *
      have hle := ok.toBase.has_le hhas
      have hk0 : (0 : Int) ≤ (k : Int) := by omega
      have hk1 : (k : Int) < (s.all.length : Int) := by omega
      have HA := H.node P.a ok n (by omega)
      have HM := fun V (hV : Below wr.heap.size wr V) => refSNode (P.m.below hV) ok.toBase n (by omega)
      simp only [nodeV, hhas, if_true, nv] at HA HM
      generalize s.nd n = x at *
      obtain ⟨x0, x1, x2⟩ := x
      dsimp only at HA HM
      have hq := run_neq_nodes x0 x1 x2
      clear hA P
      go_wp2_with fail
      refine HA.mono ?_
      rintro e w2 ⟨rfl, hb2⟩
      have hb3 := hb2.alloc hb2.size (.cells #[.int .i64 x0, .int .i64 x1, .int .i64 x2] 69)
      have y0 := HoldsN.new w2 ⟨x0, x1, x2⟩
      dsimp only at y0
      have hc3 := (hb3.cell (p := ad.add k) (block_lt_of_cell hc)).trans hc
      go_wp2_with fail
      generalize w2.alloc (.cells #[.int .i64 x0, .int .i64 x1, .int .i64 x2] 69) = W3 at *
      refine (HM _ hb3).mono ?_
      rintro e w4 ⟨rfl, hb4⟩
      replace y0 := y0.below hb4
      replace hb4 := hb3.trans (hb4.mono hb3.size)
      clear HA HM hc3 hc
      have z0 := HoldsN.new w4 ⟨x0, x1, x2⟩
      have hb5 : Below wr.heap.size wr (w4.alloc (.cells #[.int .i64 x0, .int .i64 x1, .int .i64 x2] 69)) := hb4.alloc hb4.size _
      have y1 : HoldsN (w4.alloc (.cells #[.int .i64 x0, .int .i64 x1, .int .i64 x2] 69)) w2.heap.size ⟨x0, x1, x2⟩ := y0.keep (Keeps.of_alloc noBlock _ _) (fun h => h)
      dsimp only at z0
      obtain ⟨a0, a1, a2⟩ := y1.cells
      obtain ⟨c0, c1, c2⟩ := z0.cells
      dsimp only at a0 a1 a2 c0 c1 c2
      clear y0 y1 z0
      go_wp2
      exact ⟨⟨k + 1, by omega, by go_num, hb.trans (hb5.mono hb.size)⟩, by simp [intOf]; omega⟩
    · obtain rfl : k = s.all.length := by omega
      go_wp2
      go_ret
      exact ⟨rfl, hb7.trans (hb.mono hb7.size)⟩

end Go.Proofs.YtpcilfnnfhfgaaaGreatDoor

/-
  Layer 7's law: a deed.
-/
namespace Go.Proofs.YtpcilfnnfhfgaaaGreatDoor
open Go Go.RowKit

theorem le_of_wf {n : Int} (h : (Lit.int .i64 n).wf = true) : n ≤ 9223372036854775807 := by
  simp only [Lit.wf, Bool.and_eq_true, decide_eq_true_eq] at h
  exact h.2
theorem ge_of_wf {n : Int} (h : (Lit.int .i64 n).wf = true) : -9223372036854775808 ≤ n := by
  simp only [Lit.wf, Bool.and_eq_true, decide_eq_true_eq] at h
  exact h.1
theorem pick_wf {n by' : Int} (h : 0 < by') (h2 : by' ≤ 1000) : n % by' ≤ 9223372036854775807 := by
  have := Int.emod_lt_of_pos n h; omega

set_option maxRecDepth 100000 in
set_option maxHeartbeats 8000000 in
theorem lawDo {StAt : World → Nat → (Nat → Prop) → MS → Prop} (H : StoreC StAt) {w0 w : World} {bA bM : Nat} {FA FM : Nat → Prop} {s : MS} (P : P2 StAt w0 bA bM FA FM s s w) (ok : s.Ok) (What A B C : Int) (raw : Bool)
    (wW : (Lit.int .i64 What).wf = true) (wA : (Lit.int .i64 A).wf = true) (wB : (Lit.int .i64 B).wf = true) (wC : (Lit.int .i64 C).wf = true) :
    Calls Tryz.prog 8 #[.pointer (some ⟨bA, 0, none⟩), .pointer (some ⟨bM, 0, none⟩), .agg #[.int .i64 What, .int .i64 A, .int .i64 B, .int .i64 C, .bool raw]] w fun e w' => e = .returned (.int .i64 1) ∧ ∃ s' FA' FM', s'.Ok ∧ P2 StAt w0 bA bM FA' FM' s' s' w' := by
  have bA0 := le_of_wf wA
  have bB := ok.toBase.pick_le (raw := raw) (le_of_wf wB)
  have bC := ok.toBase.pick_le (raw := raw) (le_of_wf wC)
  have bA1 := ok.toBase.pick_le (raw := raw) (le_of_wf wA)
  have gA0 := ge_of_wf wA
  have gB := ok.toBase.pick_ge (raw := raw) (ge_of_wf wB)
  have gC := ok.toBase.pick_ge (raw := raw) (ge_of_wf wC)
  have gA1 := ok.toBase.pick_ge (raw := raw) (ge_of_wf wA)
  have p1 := Int.emod_nonneg What (show (8 : Int) ≠ 0 by decide)
  have p2 := Int.emod_lt_of_pos What (show (0 : Int) < 8 by decide)
  have pk := fun V => lawPick What 8 V (by decide) (by decide) wW
  have pk7 := fun V => lawPick A 7 V (by decide) (by decide) wA
  have pk8 := fun V => lawPick A 8 V (by decide) (by decide) wA
  have nB := fun V (hV : Below w.heap.size w V) => lawNode (P.m.below hV) ok.toBase B raw wB
  have nC := fun V (hV : Below w.heap.size w V) => lawNode (P.m.below hV) ok.toBase C raw wC
  have nA := fun V (hV : Below w.heap.size w V) => lawNode (P.m.below hV) ok.toBase A raw wA
  generalize What % 8 = p at *
  generalize s.pick B raw = lo at *
  generalize s.pick C raw = hi at *
  generalize s.pick A raw = an at *
  go_enter Tryz.func8, Tryz.ntmps8
  go_wp2_with fail
  have hD := heap_alloc_new w (.cells #[.int .i64 What, .int .i64 A, .int .i64 B, .int .i64 C, .bool raw] 31)
  have hb : Below w.heap.size w (w.alloc (.cells #[.int .i64 What, .int .i64 A, .int .i64 B, .int .i64 C, .bool raw] 31)) := by go_grown
  generalize w.alloc (.cells #[.int .i64 What, .int .i64 A, .int .i64 B, .int .i64 C, .bool raw] 31) = W at *
  have hDl := row_lt hD
  refine (nB _ hb).mono ?_
  rintro e w1 ⟨rfl, hb1⟩
  replace hD := (hb1.block _ hDl).trans hD
  replace hb := hb.trans (hb1.mono hb.size)
  have d3 : w1.cell? ⟨w.heap.size, 3, none⟩ = some (.int .i64 C) := by rw [cell_of_row _ _ _ _ _ _ hD]; rfl
  have d4 : w1.cell? ⟨w.heap.size, 4, none⟩ = some (.bool raw) := by rw [cell_of_row _ _ _ _ _ _ hD]; rfl
  clear hb1 hDl nB
  go_wp2_with fail
  have hDl := row_lt hD
  refine (nC _ hb).mono ?_
  rintro e w2 ⟨rfl, hb1⟩
  replace hD := (hb1.block _ hDl).trans hD
  replace hb := hb.trans (hb1.mono hb.size)
  clear hb1 hDl nC d3 d4
  have d0 : w2.cell? ⟨w.heap.size, 0, none⟩ = some (.int .i64 What) := by rw [cell_of_row _ _ _ _ _ _ hD]; rfl
  have d4 : w2.cell? ⟨w.heap.size, 4, none⟩ = some (.bool raw) := by rw [cell_of_row _ _ _ _ _ _ hD]; rfl
  go_wp2_with fail
  refine (pk _).mono ?_
  rintro e w3 ⟨rfl, rfl⟩
  clear pk d0
  replace P := P.keep H hb
  have nA' := nA _ hb
  clear nA hD
  by_cases h4 : p = 4
  · subst h4
    go_wp2_with fail
    refine nA'.mono ?_
    rintro e w3 ⟨rfl, hb3⟩
    replace P := P.keep H hb3
    clear nA' d4 hb3 pk7 pk8
    have hE := s.free_err an
    go_wp2_with fail
    refine (H.free P.a ok an ⟨bA1, gA1⟩).mono ?_
    rintro e w4 ⟨rfl, FA1, hA1, hK1, hW1⟩
    replace P := P.code H hA1 hK1 hW1
    clear hA1 hK1 hW1
    go_wp2_with fail
    refine (lawCode _ _ hE.1 hE.2).mono ?_
    rintro e wx ⟨rfl, rfl⟩
    go_wp2_with fail
    refine (refSFree P.m ok.toBase an bA1).mono ?_
    rintro e w5 ⟨rfl, FM1, hM1, hK1, hW1⟩
    replace P := P.ref H hM1 hK1 hW1
    have ok' := ok.freed an
    clear hM1 hK1 hW1
    generalize (s.free an).1 = E at *
    generalize (s.free an).2 = S at *
    go_wp2
    go_ret
    exact ⟨rfl, S, _, _, ok', P⟩
  clear nA'
  by_cases h5 : p = 5
  · subst h5
    clear pk8 d4
    go_wp2_with fail
    refine (pk7 _).mono ?_
    rintro e w3 ⟨rfl, rfl⟩
    clear pk7
    generalize A % 7 = l at *
    have hE := s.swap_err l
    go_wp2_with fail
    refine (H.swap P.a ok l).mono ?_
    rintro e w4 ⟨rfl, FA1, hA1, hK1, hW1⟩
    replace P := P.code H hA1 hK1 hW1
    clear hA1 hK1 hW1
    go_wp2_with fail
    refine (lawCode _ _ hE.1 hE.2).mono ?_
    rintro e wx ⟨rfl, rfl⟩
    go_wp2_with fail
    refine (refSSwap P.m ok l).mono ?_
    rintro e w5 ⟨rfl, FM1, hM1, hK1, hW1⟩
    replace P := P.ref H hM1 hK1 hW1
    have ok' := ok.swapped l
    clear hM1 hK1 hW1
    generalize (s.swap l).1 = E at *
    generalize (s.swap l).2 = S at *
    go_wp2
    go_ret
    exact ⟨rfl, S, _, _, ok', P⟩
  clear pk7
  by_cases h6 : p = 6
  · subst h6
    clear pk8 d4
    have HA := H.node P.a ok A ⟨bA0, gA0⟩
    have HM := fun V (hV : Below w2.heap.size w2 V) => refSNode (P.m.below hV) ok.toBase A bA0
    unfold nodeV nv at HA HM
    generalize (if s.has A then s.nd A else ⟨0, 0, 0⟩) = x at *
    generalize s.has A = hh at *
    obtain ⟨x0, x1, x2⟩ := x
    dsimp only at HA HM
    have hq := run_neq_nodes x0 x1 x2
    go_wp2_with fail
    refine HA.mono ?_
    rintro e w3 ⟨rfl, hb3⟩
    have hb4 := hb3.alloc hb3.size (.cells #[.int .i64 x0, .int .i64 x1, .int .i64 x2] 69)
    have y0 := HoldsN.new w3 ⟨x0, x1, x2⟩
    dsimp only at y0
    go_wp2_with fail
    generalize w3.alloc (.cells #[.int .i64 x0, .int .i64 x1, .int .i64 x2] 69) = W3 at *
    refine (HM _ hb4).mono ?_
    rintro e w4 ⟨rfl, hb5⟩
    replace y0 := y0.below hb5
    replace hb4 := hb4.trans (hb5.mono hb4.size)
    clear HA HM hb5 hb3
    have z0 := HoldsN.new w4 ⟨x0, x1, x2⟩
    have hb5 : Below w2.heap.size w2 (w4.alloc (.cells #[.int .i64 x0, .int .i64 x1, .int .i64 x2] 69)) := hb4.alloc hb4.size _
    have y1 : HoldsN (w4.alloc (.cells #[.int .i64 x0, .int .i64 x1, .int .i64 x2] 69)) w3.heap.size ⟨x0, x1, x2⟩ := y0.keep (Keeps.of_alloc noBlock _ _) (fun h => h)
    dsimp only at z0
    obtain ⟨a0, a1, a2⟩ := y1.cells
    obtain ⟨c0, c1, c2⟩ := z0.cells
    dsimp only at a0 a1 a2 c0 c1 c2
    clear y0 y1 z0
    go_wp2
    go_ret
    exact ⟨rfl, s, _, _, ok, P.keep H hb5⟩
  by_cases h7 : p = 7
  · subst h7
    clear pk8 d4
    have hE := s.swap_err A
    go_wp2_with fail
    refine (H.swap P.a ok A).mono ?_
    rintro e w4 ⟨rfl, FA1, hA1, hK1, hW1⟩
    replace P := P.code H hA1 hK1 hW1
    clear hA1 hK1 hW1
    go_wp2_with fail
    refine (lawCode _ _ hE.1 hE.2).mono ?_
    rintro e wx ⟨rfl, rfl⟩
    go_wp2_with fail
    refine (refSSwap P.m ok A).mono ?_
    rintro e w5 ⟨rfl, FM1, hM1, hK1, hW1⟩
    replace P := P.ref H hM1 hK1 hW1
    have ok' := ok.swapped A
    clear hM1 hK1 hW1
    generalize (s.swap A).1 = E at *
    generalize (s.swap A).2 = S at *
    go_wp2
    go_ret
    exact ⟨rfl, S, _, _, ok', P⟩
  have e4 : (p == 4) = false := by rw [beq_eq_false_iff_ne]; exact h4
  have e5 : (p == 5) = false := by rw [beq_eq_false_iff_ne]; exact h5
  have e6 : (p == 6) = false := by rw [beq_eq_false_iff_ne]; exact h6
  have e7 : (p == 7) = false := by rw [beq_eq_false_iff_ne]; exact h7
  clear h4 h5 h6 h7
  cases raw
  · go_wp2_with fail
    refine (pk8 _).mono ?_
    rintro e w3 ⟨rfl, rfl⟩
    clear pk8
    generalize A % 8 = v at *
    have hE := s.mk_err v lo hi []
    go_wp2_with fail
    refine (H.make P.a ok v lo hi ⟨bB, gB⟩ ⟨bC, gC⟩).mono ?_
    rintro e w4 ⟨rfl, FA1, hA1, hK1, hW1⟩
    replace P := P.code H hA1 hK1 hW1
    clear hA1 hK1 hW1
    go_wp2_with fail
    refine (refSMk P.m ok.toBase v lo hi bB bC).mono ?_
    rintro e w5 ⟨rfl, FM1, hM1, hK1, hW1⟩
    replace P := P.ref H hM1 hK1 hW1
    have ok' := ok.made v lo hi
    clear hM1 hK1 hW1
    have HC := fun V => lawCode (s.mk v lo hi []).2.1 V hE.1 hE.2
    generalize s.mk v lo hi [] = r at *
    obtain ⟨r0, r1, S⟩ := r
    dsimp only at *
    go_wp2_with fail
    refine (HC _).mono ?_
    rintro e wx ⟨rfl, rfl⟩
    clear HC
    go_wp2
    go_ret
    exact ⟨rfl, S, _, _, ok', P⟩
  · clear pk8
    have hE := s.mk_err A lo hi []
    go_wp2_with fail
    refine (H.make P.a ok A lo hi ⟨bB, gB⟩ ⟨bC, gC⟩).mono ?_
    rintro e w4 ⟨rfl, FA1, hA1, hK1, hW1⟩
    replace P := P.code H hA1 hK1 hW1
    clear hA1 hK1 hW1
    go_wp2_with fail
    refine (refSMk P.m ok.toBase A lo hi bB bC).mono ?_
    rintro e w5 ⟨rfl, FM1, hM1, hK1, hW1⟩
    replace P := P.ref H hM1 hK1 hW1
    have ok' := ok.made A lo hi
    clear hM1 hK1 hW1
    have HC := fun V => lawCode (s.mk A lo hi []).2.1 V hE.1 hE.2
    generalize s.mk A lo hi [] = r at *
    obtain ⟨r0, r1, S⟩ := r
    dsimp only at *
    go_wp2_with fail
    refine (HC _).mono ?_
    rintro e wx ⟨rfl, rfl⟩
    clear HC
    go_wp2
    go_ret
    exact ⟨rfl, S, _, _, ok', P⟩

end Go.Proofs.YtpcilfnnfhfgaaaGreatDoor

/-
  The document's example of layer 7; a store and its model at the beginning.
-/
namespace Go.Proofs.YtpcilfnnfhfgaaaGreatDoor
open Go Go.RowKit

/-- One node. -/
def oneS : MS := ⟨⟨3, 1, [0], []⟩, [⟨0, 0, 1⟩], plainO⟩
theorem up7_a : (MS.none 3).mk 0 0 1 [] = (2, 0, oneS) := rfl
theorem up7_b : oneS.mk 0 0 1 [] = (2, 0, oneS) := rfl
theorem up7_c : oneS.mk 1 1 1 [] = (1, 0, oneS) := rfl
theorem up7_n : nodeV oneS 2 = .tuple #[.agg #[.int .i64 0, .int .i64 0, .int .i64 1], .bool true] := rfl
theorem up7_l : oneS.all.length = 1 := rfl
theorem up7_r : oneS.room = 2 := rfl
theorem oneS_ok : oneS.Ok := by
  have := (MS.none_ok 3 (by decide)).made 0 0 1
  rwa [up7_a] at this


end Go.Proofs.YtpcilfnnfhfgaaaGreatDoor

/-
  StorePlays: the walk.
-/
namespace Go.Proofs.YtpcilfnnfhfgaaaGreatDoor
open Go Go.RowKit

/-- A deed. -/
structure D7 where
  what : Int
  a : Int
  b : Int
  c : Int
  raw : Bool
def D7.good (d : D7) : Prop := (Lit.int .i64 d.what).wf = true ∧ (Lit.int .i64 d.a).wf = true ∧ (Lit.int .i64 d.b).wf = true ∧ (Lit.int .i64 d.c).wf = true

/-- A deed's cells. -/
def encD7 : Enc Tryz.prog D7 where
  slice := 22
  elem := 31
  size := 5
  bytes := 40
  cells d := [.int .i64 d.what, .int .i64 d.a, .int .i64 d.b, .int .i64 d.c, .bool d.raw]
  zero := .agg #[.int .i64 0, .int .i64 0, .int .i64 0, .int .i64 0, .bool false]
  und := Tryz.underlying22
  info := info_of _ _ _ _ _ (by kernel_rfl)
  zsize := rfl
  pos := by decide
  few := by decide
  len _ := rfl
  one d u h := by
    simp only [List.mem_cons, List.not_mem_nil, or_false] at h
    rcases h with rfl | rfl | rfl | rfl | rfl <;> rfl

theorem deedAt7 {w : World} {a : Option Addr} {cap : Nat} {l : List D7} (h : Reads encD7 w (.slice a l.length cap) l) (i : Nat) (hi : i < l.length) : ∃ ad, a = some ad ∧ w.cell? (ad.add (i * 5)) = some (.int .i64 l[i].what) ∧
    w.cell? ⟨(ad.add (i * 5)).block, (ad.add (i * 5)).off + 1, none⟩ = some (.int .i64 l[i].a) ∧ w.cell? ⟨(ad.add (i * 5)).block, (ad.add (i * 5)).off + 2, none⟩ = some (.int .i64 l[i].b) ∧
    w.cell? ⟨(ad.add (i * 5)).block, (ad.add (i * 5)).off + 3, none⟩ = some (.int .i64 l[i].c) ∧ w.cell? ⟨(ad.add (i * 5)).block, (ad.add (i * 5)).off + 4, none⟩ = some (.bool l[i].raw) := by
  obtain ⟨ad, rfl, H⟩ := h.at i hi
  have h0 := H 0 (by decide)
  have h1 := H 1 (by decide)
  have h2 := H 2 (by decide)
  have h3 := H 3 (by decide)
  have h4 := H 4 (by decide)
  simp only [encD7] at h1 h2 h3 h4
  rw [← Addr.add_add, Addr.add, if_neg (by omega)] at h1 h2 h3 h4
  exact ⟨ad, rfl, by simpa [encD7] using h0, by simpa using h1, by simpa using h2, by simpa using h3, by simpa using h4⟩

set_option maxRecDepth 100000 in
set_option maxHeartbeats 4000000 in
theorem lawBegin {StAt : World → Nat → (Nat → Prop) → MS → Prop} (H : StoreC StAt) (most : Int) (w : World) (h0 : 0 ≤ most) (h1 : most ≤ 20000) :
    Calls Tryz.prog 7 #[.int .i64 most] w fun e w' => ∃ bA bM FA FM, e = .returned (.tuple #[.pointer (some ⟨bA, 0, none⟩), .pointer (some ⟨bM, 0, none⟩)]) ∧ P2 StAt w bA bM FA FM (MS.none most.toNat) (MS.none most.toNat) w' := by
  go_enter Tryz.func7, Tryz.ntmps7
  go_wp2_with fail
  refine (H.new most w h0 h1).mono ?_
  rintro e w1 ⟨b, rfl, ⟨F, hA, hF⟩, hb⟩
  go_wp2_with fail
  refine (refSNew most _ h0).mono ?_
  rintro e w2 ⟨b2, rfl, ⟨F2, hM, hF2⟩, hb2⟩
  have P : P2 StAt w b b2 F F2 (MS.none most.toNat) (MS.none most.toNat) w2 := ⟨H.below hA hb2, hM, fun k hk e => by have := H.lt hA k hk; have := hF2 k e; omega, hF, fun k hk => Nat.le_trans hb.size (hF2 k hk), hb.trans (hb2.mono hb.size)⟩
  go_wp2
  go_ret2
  exact ⟨b, b2, F, F2, rfl, P⟩

set_option maxRecDepth 100000 in
set_option maxHeartbeats 4000000 in
theorem lawBegin_no {StAt : World → Nat → (Nat → Prop) → MS → Prop} (H : StoreC StAt) (most : Int) (w : World) (h : most < 0 ∨ 20000 < most) :
    Calls Tryz.prog 7 #[.int .i64 most] w fun e w' => e = .returned (.tuple #[.pointer none, .pointer none]) ∧ Below w.heap.size w w' := by
  go_enter Tryz.func7, Tryz.ntmps7
  go_wp2_with fail
  refine (H.no most w h).mono ?_
  rintro e w1 ⟨rfl, hb⟩
  go_wp2
  go_ret2
  exact ⟨rfl, hb⟩


end Go.Proofs.YtpcilfnnfhfgaaaGreatDoor

/-
  Walks of the document's row, Cof, Depends, Support, Count.
-/
namespace Go.Proofs.YtpcilfnnfhfgaaaGreatDoor
open Go Go.RowKit

theorem ret_int {k : IntKind} {a b : Int} (h : a = b) : Ending.returned (.int k a) = .returned (.int k b) := by rw [h]

set_option maxRecDepth 100000 in
set_option maxHeartbeats 400000 in
theorem refRow (x m : Nat) (b : Bool) (w : World) (hx : x < 256) (hm : m < 8) :
    Calls Tryz.prog 96 #[.int .i64 x, .int .i64 m, .bool b] w fun e w' => e = .returned (.int .i64 (rowF x m b)) ∧ w = w' := by
  go_enter Tryz.func96, Tryz.ntmps96
  go_wp2
  go_loop [7, 8] (fun p i => ∃ j : Nat, j ≤ m ∧ i = .int .i64 j ∧ p = .int .i64 ((2 ^ j : Nat) : Int)) (fun _ i => m - (intOf i).toNat)
  case atStart => exact ⟨0, Nat.zero_le _, rfl, rfl⟩
  case round =>
    obtain ⟨j, hj, rfl, rfl⟩ := hrel
    have hp := pow8 (show j < 8 by omega)
    have Hn : Hid (2 ^ (j + 1) = 2 * 2 ^ j) := by show _ = _; rw [Nat.pow_succ, Nat.mul_comm]
    by_cases hlt : j < m
    · generalize 2 ^ j = y at *
      have hy : 1 ≤ y ∧ y ≤ 128 := by omega
      clear hp
      go_wp2
      go_round
      case rel => exact ⟨j + 1, by omega, by go_num, by rw [Hn.out]; go_num⟩
      case measure => simp [intOf]; omega
    · obtain rfl : j = m := by omega
      have Hr := Lib.hid (show rowF x j b = (if x / 2 ^ j % 2 = 1 then x - 2 ^ j else x) + (if b then 2 ^ j else 0) from rfl)
      clear Hn
      generalize 2 ^ j = y at *
      rcases hp with rfl | rfl | rfl | rfl | rfl | rfl | rfl | rfl
      all_goals
        cases b <;> go_wp2 <;> go_ret <;> (rename_i hbit _; (first | rw [beq_iff_eq] at hbit | rw [beq_eq_false_iff_ne] at hbit); refine ⟨ret_int ?_, rfl⟩; rw [Hr.out]; simp only [if_true, if_false, Bool.false_eq_true]; split <;> omega)

/-- At the loop's head of Cof: what came in, the result's variable, the one that is filled. -/
def Coffing (w : World) (f o : Fn) (wr : World) : Prop :=
  Holds wr w.heap.size f ∧ Holds wr (w.heap.size + 1) 0#256 ∧ Holds wr (w.heap.size + 1 + 1) o ∧ Below w.heap.size w wr

set_option maxRecDepth 100000 in
set_option maxHeartbeats 1000000 in
theorem refCof (f : Fn) (v : Int) (b : Bool) (w : World) :
    Calls Tryz.prog 59 #[fv f, .int .i64 v, .bool b] w fun e w' => e = .returned (fv (cofAny f v b)) ∧ Below w.heap.size w w' := by
  by_cases hv : 0 ≤ v ∧ v < 8
  · obtain ⟨m, rfl⟩ := Int.eq_ofNat_of_zero_le hv.1
    have hm : m < 8 := by omega
    have hm0 : (0 : Int) ≤ (m : Int) := by omega
    have hm7 : (m : Int) ≤ 7 := by omega
    have e : cofAny f (m : Int) b = ofRow (fun x => f.getLsbD (rowF x m b)) := by rw [cofAny, if_pos hv, Int.toNat_natCast]; rfl
    rw [e]
    clear e
    simp only [fv]
    go_enter Tryz.func59, Tryz.ntmps59
    go_wp2
    go_loopw [8] (fun i wr => ∃ n : Nat, n ≤ 256 ∧ i = .int .i64 n ∧ Coffing w f (upTo (fun x => f.getLsbD (rowF x m b)) n) wr) (fun i _ => 256 - (intOf i).toNat)
    case atStart => exact ⟨0, Nat.zero_le _, rfl, by rw [upTo_zero]; exact ⟨((Holds.new _ _ _).alloc _).alloc _, (Holds.new0 _ _).alloc _, Holds.new0 _ _, by go_grown⟩⟩
    case round =>
      obtain ⟨n, hn, rfl, h0, h1, h2, hb⟩ := hrel
      by_cases hlt : n < 256
      · have hr := rowF_lt n m b hlt hm
        have Hf := Lib.hid (upTo_put (fun x => f.getLsbD (rowF x m b)) n (atF f (rowF n m b)) (atF_nat f _ hr))
        generalize upTo (fun x => f.getLsbD (rowF x m b)) n = g at *
        have c0 : ∀ u : Sub wr, u.1.cell? ⟨w.heap.size, 0, none⟩ = some (.int .u64 (wd f 0)) := fun u => (h0.sub u).cells.1
        have c1 : ∀ u : Sub wr, u.1.cell? ⟨w.heap.size, 1, none⟩ = some (.int .u64 (wd f 1)) := fun u => (h0.sub u).cells.2.1
        have c2 : ∀ u : Sub wr, u.1.cell? ⟨w.heap.size, 2, none⟩ = some (.int .u64 (wd f 2)) := fun u => (h0.sub u).cells.2.2.1
        have c3 : ∀ u : Sub wr, u.1.cell? ⟨w.heap.size, 3, none⟩ = some (.int .u64 (wd f 3)) := fun u => (h0.sub u).cells.2.2.2
        have d0 : ∀ u : Sub wr, u.1.cell? ⟨w.heap.size + 1 + 1, 0, none⟩ = some (.int .u64 (wd g 0)) := fun u => (h2.sub u).cells.1
        have d1 : ∀ u : Sub wr, u.1.cell? ⟨w.heap.size + 1 + 1, 1, none⟩ = some (.int .u64 (wd g 1)) := fun u => (h2.sub u).cells.2.1
        have d2 : ∀ u : Sub wr, u.1.cell? ⟨w.heap.size + 1 + 1, 2, none⟩ = some (.int .u64 (wd g 2)) := fun u => (h2.sub u).cells.2.2.1
        have d3 : ∀ u : Sub wr, u.1.cell? ⟨w.heap.size + 1 + 1, 3, none⟩ = some (.int .u64 (wd g 3)) := fun u => (h2.sub u).cells.2.2.2
        go_wp2
        refine wp_region_quiet_tail (C := fun w' => ∃ u : Sub wr, w' = u.1) 9 (by kernel_rfl) (by kernel_rfl) (InSub.drew wr) ?_
        simp only [List.take_succ_cons, List.take_zero, List.drop_succ_cons, List.drop_zero]
        iterate 6 (go_big_quiet_step (fail))
        go_big_quiet_step (exact sub_same (refRow n m b _ hlt hm))
        go_big_quiet_step (exact sub_below (refAt f _ _))
        go_big_quiet_step (exact sub_below (refPut g n _ _ hlt))
        refine wpQuiet_nil ?_
        rw [Hf.out]
        clear c0 c1 c2 c3 d0 d1 d2 d3
        intro w' hw'
        obtain ⟨u, rfl⟩ := hw'
        have k0 := h0.sub u
        have k1 := h1.sub u
        have k2 := h2.sub u
        have hb1 := u.2
        generalize u.1 = w1 at *
        obtain ⟨c0, c1, c2, c3⟩ := k2.cells
        obtain ⟨z0, z1, z2, z3⟩ := k2.free
        simp only [fv]
        go_wp2
        exact ⟨⟨n + 1, by omega, by go_num, k0.other4 (by omega), k1.other4 (by omega), k2.set4 _, below_set4 (hb.trans (hb1.mono hb.size)) (by omega)⟩, by simp [intOf]; omega⟩
      · obtain rfl : n = 256 := by omega
        rw [upTo_all] at h2
        generalize hg : ofRow (fun x => f.getLsbD (rowF x m b)) = g at *
        have Hg := Lib.hid hg
        clear hg
        obtain ⟨c0, c1, c2, c3⟩ := h2.cells
        obtain ⟨d0, d1, d2, d3⟩ := h1.cells
        obtain ⟨z0, z1, z2, z3⟩ := h1.free
        go_wp2
        exact bodyPost_ret (ret_holds Tryz.results59 rfl (h1.set4 g)) rfl ⟨by rw [Hg.out]; rfl, below_set4 hb (by omega)⟩
  · have e : cofAny f v b = f := by rw [cofAny, if_neg hv]
    rw [e]
    clear e
    simp only [fv]
    go_enter Tryz.func59, Tryz.ntmps59
    go_wp2
    all_goals exact bodyPost_ret (v := .agg #[.int .u64 (wd f 0), .int .u64 (wd f 1), .int .u64 (wd f 2), .int .u64 (wd f 3)]) (by simp [results, Tryz.results59, go_sem]) rfl ⟨rfl, by go_grown⟩

end Go.Proofs.YtpcilfnnfhfgaaaGreatDoor

/-
  Walks of the document's Depends, Support, Count.
-/
namespace Go.Proofs.YtpcilfnnfhfgaaaGreatDoor
open Go Go.RowKit

theorem cmp_row (f : Fn) (m n : Nat) (hn : n < 256) (hm : m < 8) (h0 : n / 2 ^ m % 2 = 0) : shows f m n = (atF f n != atF f ((n : Int) + ((2 ^ m : Nat) : Int))) := by
  have h1 : n + 2 ^ m < 256 := by rcases pow8 hm with h | h | h | h | h | h | h | h <;> rw [h] at h0 ⊢ <;> omega
  have e : ((n : Int) + ((2 ^ m : Nat) : Int)) = ((n + 2 ^ m : Nat) : Int) := by simp
  rw [e, atF_nat _ _ hn, atF_nat _ _ h1, shows, decide_eq_true h0, Bool.true_and]

set_option maxRecDepth 100000 in
set_option maxHeartbeats 1000000 in
theorem refDepends (f : Fn) (v : Int) (w : World) :
    Calls Tryz.prog 51 #[fv f, .int .i64 v] w fun e w' => e = .returned (.bool (depAny f v)) ∧ Below w.heap.size w w' := by
  by_cases hv : 0 ≤ v ∧ v < 8
  · obtain ⟨m, rfl⟩ := Int.eq_ofNat_of_zero_le hv.1
    have hm : m < 8 := by omega
    have hm0 : (0 : Int) ≤ (m : Int) := by omega
    have hm7 : (m : Int) ≤ 7 := by omega
    have e : depAny f (m : Int) = depF f m := by rw [depAny, if_pos hv, Int.toNat_natCast]
    rw [e]
    clear e
    simp only [fv]
    go_enter Tryz.func51, Tryz.ntmps51
    go_wp2
    have hy := pow8 hm
    have ew : wrap64 (2 ^ m) = ((2 ^ m : Nat) : Int) := by
      have e2 : ((2 : Int) ^ m) = ((2 ^ m : Nat) : Int) := by simp
      rw [e2]
      exact IntWalk.wrap64_in _ ⟨by omega, by omega⟩
    rw [ew]
    clear ew
    have Hs : ∀ n, n < 256 → n / 2 ^ m % 2 = 0 → Hid (shows f m n = !(atF f n == atF f ((n : Int) + ((2 ^ m : Nat) : Int)))) := fun n hn h0 => cmp_row f m n hn hm h0
    have Hz : ∀ n, ¬ n / 2 ^ m % 2 = 0 → Hid (shows f m n = false) := fun n h0 => by show _ = _; rw [shows, decide_eq_false h0, Bool.false_and]
    generalize 2 ^ m = y at *
    have hy1 : 1 ≤ y ∧ y ≤ 128 := by omega
    clear hy
    go_loopw [6] (fun i wr => ∃ n : Nat, n ≤ 256 ∧ i = .int .i64 n ∧ Hid (∀ x, x < n → shows f m x = false) ∧ Holds wr w.heap.size f ∧ Below w.heap.size w wr) (fun i _ => 256 - (intOf i).toNat)
    case atStart => exact ⟨0, Nat.zero_le _, rfl, fun x hx => absurd hx (Nat.not_lt_zero _), Holds.new _ _ _, by go_grown⟩
    case round =>
      obtain ⟨n, hn, rfl, hno, h0, hb⟩ := hrel
      by_cases hlt : n < 256
      · have hq : n / y ≤ n := Nat.div_le_self _ _
        have hqe : (n : Int) / (y : Int) = ((n / y : Nat) : Int) := by simp
        have hq0 : (0 : Int) ≤ (n : Int) / (y : Int) := by rw [hqe]; exact Int.natCast_nonneg _
        have hq1 : (n : Int) / (y : Int) ≤ 255 := by rw [hqe]; generalize n / y = z at hq; omega
        by_cases hbit : n / y % 2 = 0
        · have hs := Hs n hlt hbit
          have hB : ((n : Int) / (y : Int) % 2 == 0) = true := by rw [beq_iff_eq, hqe]; generalize n / y = z at hbit; omega
          clear Hs Hz hqe
          have hyz : ((y : Int) == 0) = false := by rw [beq_eq_false_iff_ne]; omega
          have c0 : ∀ u : Sub wr, u.1.cell? ⟨w.heap.size, 0, none⟩ = some (.int .u64 (wd f 0)) := fun u => (h0.sub u).cells.1
          have c1 : ∀ u : Sub wr, u.1.cell? ⟨w.heap.size, 1, none⟩ = some (.int .u64 (wd f 1)) := fun u => (h0.sub u).cells.2.1
          have c2 : ∀ u : Sub wr, u.1.cell? ⟨w.heap.size, 2, none⟩ = some (.int .u64 (wd f 2)) := fun u => (h0.sub u).cells.2.2.1
          have c3 : ∀ u : Sub wr, u.1.cell? ⟨w.heap.size, 3, none⟩ = some (.int .u64 (wd f 3)) := fun u => (h0.sub u).cells.2.2.2
          go_wp2
          refine wp_region_quiet_all (C := fun w' => ∃ u : Sub wr, w' = u.1) (by kernel_rfl) (by kernel_rfl) (InSub.drew wr) ?_
          iterate 8 (go_big_quiet_step (fail))
          go_big_quiet_step (exact sub_below (refAt f _ _))
          iterate 4 (go_big_quiet_step (fail))
          go_big_quiet_step (exact sub_below (refAt f _ _))
          iterate 2 (go_big_quiet_step (fail))
          refine wpQuiet_nil ?_
          clear c0 c1 c2 c3
          intro w' hw'
          obtain ⟨u, rfl⟩ := hw'
          have k0 := h0.sub u
          have kb := hb.trans (u.2.mono hb.size)
          clear h0 hb
          generalize u.1 = w1 at *
          generalize (!(atF f n == atF f ((n : Int) + (y : Int)))) = q at *
          cases q
          · go_wp2
            exact ⟨⟨n + 1, by omega, by go_num, fun x hx => by
              rcases Nat.lt_or_ge x n with h | h
              · exact hno.out x h
              · obtain rfl : x = n := by omega
                exact hs.out, k0, kb⟩, by simp [intOf]; omega⟩
          · go_wp2
            go_ret
            exact ⟨ret_bool (depF_true hlt hs.out).symm, kb⟩
        · have hs := Hz n hbit
          have hB : ((n : Int) / (y : Int) % 2 == 0) = false := by rw [beq_eq_false_iff_ne, hqe]; generalize n / y = z at hbit; omega
          clear Hs Hz hqe
          have hyz : ((y : Int) == 0) = false := by rw [beq_eq_false_iff_ne]; omega
          go_wp2
          refine wp_region_quiet_all (C := fun w' => ∃ u : Sub wr, w' = u.1) (by kernel_rfl) (by kernel_rfl) (InSub.drew wr) ?_
          iterate 6 (go_big_quiet_step (fail))
          iterate 9 go_big_quiet_skip
          go_big_quiet_step (fail)
          refine wpQuiet_nil ?_
          intro w' hw'
          obtain ⟨u, rfl⟩ := hw'
          have k0 := h0.sub u
          have kb := hb.trans (u.2.mono hb.size)
          clear h0 hb
          generalize u.1 = w1 at *
          go_wp2
          exact ⟨⟨n + 1, by omega, by go_num, fun x hx => by
            rcases Nat.lt_or_ge x n with h | h
            · exact hno.out x h
            · obtain rfl : x = n := by omega
              exact hs.out, k0, kb⟩, by simp [intOf]; omega⟩
      · obtain rfl : n = 256 := by omega
        have Hd := Lib.hid (depF_false hno.out)
        clear Hs Hz
        go_wp2
        go_ret
        exact ⟨ret_bool Hd.out.symm, hb⟩
  · have e : depAny f v = false := by rw [depAny, if_neg hv]
    rw [e]
    clear e
    simp only [fv]
    go_enter Tryz.func51, Tryz.ntmps51
    go_wp2
    all_goals
      go_ret
      exact ⟨rfl, by go_grown⟩

set_option maxRecDepth 100000 in
set_option maxHeartbeats 1000000 in
theorem refCount (f : Fn) (w : World) :
    Calls Tryz.prog 15 #[fv f] w fun e w' => e = .returned (.int .i64 (cntF f 256)) ∧ Below w.heap.size w w' := by
  simp only [fv]
  go_enter Tryz.func15, Tryz.ntmps15
  go_wp2
  go_loopw [3, 4] (fun c i wr => ∃ n : Nat, n ≤ 256 ∧ i = .int .i64 n ∧ c = .int .i64 (cntF f n) ∧ Holds wr w.heap.size f ∧ Below w.heap.size w wr) (fun _ i _ => 256 - (intOf i).toNat)
  case atStart => exact ⟨0, Nat.zero_le _, rfl, rfl, Holds.new _ _ _, by go_grown⟩
  case round =>
    obtain ⟨n, hn, rfl, rfl, h0, hb⟩ := hrel
    by_cases hlt : n < 256
    · have Hs := Lib.hid (show cntF f (n + 1) = cntF f n + (if f.getLsbD n then 1 else 0) from rfl)
      have hc := cntF_le f n
      obtain ⟨c0, c1, c2, c3⟩ := h0.cells
      go_wp2_with fail
      clear c0 c1 c2 c3
      refine (refAt f n _).mono ?_
      rw [atF_nat f n hlt]
      rintro e w1 ⟨rfl, hb1⟩
      have k0 := h0.keep hb1 h0.lt
      have kb := hb.trans (hb1.mono hb.size)
      clear h0 hb hb1
      generalize cntF f n = y at *
      cases hbit : f.getLsbD n
      · rw [hbit] at Hs
        go_wp2
        exact ⟨⟨n + 1, by omega, by go_num, by rw [Hs.out]; rfl, k0, kb⟩, by simp [intOf]; omega⟩
      · rw [hbit] at Hs
        go_wp2
        exact ⟨⟨n + 1, by omega, by go_num, by rw [Hs.out]; rfl, k0, kb⟩, by simp [intOf]; omega⟩
    · obtain rfl : n = 256 := by omega
      go_wp2
      go_ret
      exact ⟨rfl, hb⟩

end Go.Proofs.YtpcilfnnfhfgaaaGreatDoor
