/-
  Layer 7's law: a deed.
-/
import Derived.Test.YtbnjbnjhpccomaaLaw7
namespace Go.Proofs.Ytbnjbnjhpccomaa
open Go Go.RowKit

theorem le_of_wf {n : Int} (h : (Lit.int .i64 n).wf = true) : n ≤ 9223372036854775807 := by
  simp only [Lit.wf, Bool.and_eq_true, decide_eq_true_eq] at h
  exact h.2
theorem ge_of_wf {n : Int} (h : (Lit.int .i64 n).wf = true) : -9223372036854775808 ≤ n := by
  simp only [Lit.wf, Bool.and_eq_true, decide_eq_true_eq] at h
  exact h.1
theorem pick_wf {n by' : Int} (h : 0 < by') (h2 : by' ≤ 1000) : n % by' ≤ 9223372036854775807 := by
  have := Int.emod_lt_of_pos n h; omega

set_option maxRecDepth 100000 in
set_option maxHeartbeats 8000000 in
theorem lawDo {StAt : World → Nat → (Nat → Prop) → MS → Prop} (H : StoreC StAt) {w0 w : World} {bA bM : Nat} {FA FM : Nat → Prop} {s : MS} (P : P2 StAt w0 bA bM FA FM s s w) (ok : s.Ok) (What A B C : Int) (raw : Bool)
    (wW : (Lit.int .i64 What).wf = true) (wA : (Lit.int .i64 A).wf = true) (wB : (Lit.int .i64 B).wf = true) (wC : (Lit.int .i64 C).wf = true) :
    Calls Try.prog 8 #[.pointer (some ⟨bA, 0, none⟩), .pointer (some ⟨bM, 0, none⟩), .agg #[.int .i64 What, .int .i64 A, .int .i64 B, .int .i64 C, .bool raw]] w fun e w' => e = .returned (.int .i64 1) ∧ ∃ s' FA' FM', s'.Ok ∧ P2 StAt w0 bA bM FA' FM' s' s' w' := by
  have bA0 := le_of_wf wA
  have bB := ok.toBase.pick_le (raw := raw) (le_of_wf wB)
  have bC := ok.toBase.pick_le (raw := raw) (le_of_wf wC)
  have bA1 := ok.toBase.pick_le (raw := raw) (le_of_wf wA)
  have gA0 := ge_of_wf wA
  have gB := ok.toBase.pick_ge (raw := raw) (ge_of_wf wB)
  have gC := ok.toBase.pick_ge (raw := raw) (ge_of_wf wC)
  have gA1 := ok.toBase.pick_ge (raw := raw) (ge_of_wf wA)
  have p1 := Int.emod_nonneg What (show (8 : Int) ≠ 0 by decide)
  have p2 := Int.emod_lt_of_pos What (show (0 : Int) < 8 by decide)
  have pk := fun V => lawPick What 8 V (by decide) (by decide) wW
  have pk7 := fun V => lawPick A 7 V (by decide) (by decide) wA
  have pk8 := fun V => lawPick A 8 V (by decide) (by decide) wA
  have nB := fun V (hV : Below w.heap.size w V) => lawNode (P.m.below hV) ok.toBase B raw wB
  have nC := fun V (hV : Below w.heap.size w V) => lawNode (P.m.below hV) ok.toBase C raw wC
  have nA := fun V (hV : Below w.heap.size w V) => lawNode (P.m.below hV) ok.toBase A raw wA
  generalize What % 8 = p at *
  generalize s.pick B raw = lo at *
  generalize s.pick C raw = hi at *
  generalize s.pick A raw = an at *
  go_enter Try.func8, Try.ntmps8
  go_wp2_with fail
  have hD := heap_alloc_new w (.cells #[.int .i64 What, .int .i64 A, .int .i64 B, .int .i64 C, .bool raw] 31)
  have hb : Below w.heap.size w (w.alloc (.cells #[.int .i64 What, .int .i64 A, .int .i64 B, .int .i64 C, .bool raw] 31)) := by go_grown
  generalize w.alloc (.cells #[.int .i64 What, .int .i64 A, .int .i64 B, .int .i64 C, .bool raw] 31) = W at *
  have hDl := row_lt hD
  refine (nB _ hb).mono ?_
  rintro e w1 ⟨rfl, hb1⟩
  replace hD := (hb1.block _ hDl).trans hD
  replace hb := hb.trans (hb1.mono hb.size)
  have d3 : w1.cell? ⟨w.heap.size, 3, none⟩ = some (.int .i64 C) := by rw [cell_of_row _ _ _ _ _ _ hD]; rfl
  have d4 : w1.cell? ⟨w.heap.size, 4, none⟩ = some (.bool raw) := by rw [cell_of_row _ _ _ _ _ _ hD]; rfl
  clear hb1 hDl nB
  go_wp2_with fail
  have hDl := row_lt hD
  refine (nC _ hb).mono ?_
  rintro e w2 ⟨rfl, hb1⟩
  replace hD := (hb1.block _ hDl).trans hD
  replace hb := hb.trans (hb1.mono hb.size)
  clear hb1 hDl nC d3 d4
  have d0 : w2.cell? ⟨w.heap.size, 0, none⟩ = some (.int .i64 What) := by rw [cell_of_row _ _ _ _ _ _ hD]; rfl
  have d4 : w2.cell? ⟨w.heap.size, 4, none⟩ = some (.bool raw) := by rw [cell_of_row _ _ _ _ _ _ hD]; rfl
  go_wp2_with fail
  refine (pk _).mono ?_
  rintro e w3 ⟨rfl, rfl⟩
  clear pk d0
  replace P := P.keep H hb
  have nA' := nA _ hb
  clear nA hD
  by_cases h4 : p = 4
  · subst h4
    go_wp2_with fail
    refine nA'.mono ?_
    rintro e w3 ⟨rfl, hb3⟩
    replace P := P.keep H hb3
    clear nA' d4 hb3 pk7 pk8
    have hE := s.free_err an
    go_wp2_with fail
    refine (H.free P.a ok an ⟨bA1, gA1⟩).mono ?_
    rintro e w4 ⟨rfl, FA1, hA1, hK1, hW1⟩
    replace P := P.code H hA1 hK1 hW1
    clear hA1 hK1 hW1
    go_wp2_with fail
    refine (lawCode _ _ hE.1 hE.2).mono ?_
    rintro e wx ⟨rfl, rfl⟩
    go_wp2_with fail
    refine (refSFree P.m ok.toBase an bA1).mono ?_
    rintro e w5 ⟨rfl, FM1, hM1, hK1, hW1⟩
    replace P := P.ref H hM1 hK1 hW1
    have ok' := ok.freed an
    clear hM1 hK1 hW1
    generalize (s.free an).1 = E at *
    generalize (s.free an).2 = S at *
    go_wp2
    go_ret
    exact ⟨rfl, S, _, _, ok', P⟩
  clear nA'
  by_cases h5 : p = 5
  · subst h5
    clear pk8 d4
    go_wp2_with fail
    refine (pk7 _).mono ?_
    rintro e w3 ⟨rfl, rfl⟩
    clear pk7
    generalize A % 7 = l at *
    have hE := s.swap_err l
    go_wp2_with fail
    refine (H.swap P.a ok l).mono ?_
    rintro e w4 ⟨rfl, FA1, hA1, hK1, hW1⟩
    replace P := P.code H hA1 hK1 hW1
    clear hA1 hK1 hW1
    go_wp2_with fail
    refine (lawCode _ _ hE.1 hE.2).mono ?_
    rintro e wx ⟨rfl, rfl⟩
    go_wp2_with fail
    refine (refSSwap P.m ok l).mono ?_
    rintro e w5 ⟨rfl, FM1, hM1, hK1, hW1⟩
    replace P := P.ref H hM1 hK1 hW1
    have ok' := ok.swapped l
    clear hM1 hK1 hW1
    generalize (s.swap l).1 = E at *
    generalize (s.swap l).2 = S at *
    go_wp2
    go_ret
    exact ⟨rfl, S, _, _, ok', P⟩
  clear pk7
  by_cases h6 : p = 6
  · subst h6
    clear pk8 d4
    have HA := H.node P.a ok A ⟨bA0, gA0⟩
    have HM := fun V (hV : Below w2.heap.size w2 V) => refSNode (P.m.below hV) ok.toBase A bA0
    unfold nodeV nv at HA HM
    generalize (if s.has A then s.nd A else ⟨0, 0, 0⟩) = x at *
    generalize s.has A = hh at *
    obtain ⟨x0, x1, x2⟩ := x
    dsimp only at HA HM
    have hq := run_neq_nodes x0 x1 x2
    go_wp2_with fail
    refine HA.mono ?_
    rintro e w3 ⟨rfl, hb3⟩
    have hb4 := hb3.alloc hb3.size (.cells #[.int .i64 x0, .int .i64 x1, .int .i64 x2] 39)
    have y0 := HoldsN.new w3 ⟨x0, x1, x2⟩
    dsimp only at y0
    go_wp2_with fail
    generalize w3.alloc (.cells #[.int .i64 x0, .int .i64 x1, .int .i64 x2] 39) = W3 at *
    refine (HM _ hb4).mono ?_
    rintro e w4 ⟨rfl, hb5⟩
    replace y0 := y0.below hb5
    replace hb4 := hb4.trans (hb5.mono hb4.size)
    clear HA HM hb5 hb3
    have z0 := HoldsN.new w4 ⟨x0, x1, x2⟩
    have hb5 : Below w2.heap.size w2 (w4.alloc (.cells #[.int .i64 x0, .int .i64 x1, .int .i64 x2] 39)) := hb4.alloc hb4.size _
    have y1 : HoldsN (w4.alloc (.cells #[.int .i64 x0, .int .i64 x1, .int .i64 x2] 39)) w3.heap.size ⟨x0, x1, x2⟩ := y0.keep (Keeps.of_alloc noBlock _ _) (fun h => h)
    dsimp only at z0
    obtain ⟨a0, a1, a2⟩ := y1.cells
    obtain ⟨c0, c1, c2⟩ := z0.cells
    dsimp only at a0 a1 a2 c0 c1 c2
    clear y0 y1 z0
    go_wp2
    go_ret
    exact ⟨rfl, s, _, _, ok, P.keep H hb5⟩
  by_cases h7 : p = 7
  · subst h7
    clear pk8 d4
    have hE := s.swap_err A
    go_wp2_with fail
    refine (H.swap P.a ok A).mono ?_
    rintro e w4 ⟨rfl, FA1, hA1, hK1, hW1⟩
    replace P := P.code H hA1 hK1 hW1
    clear hA1 hK1 hW1
    go_wp2_with fail
    refine (lawCode _ _ hE.1 hE.2).mono ?_
    rintro e wx ⟨rfl, rfl⟩
    go_wp2_with fail
    refine (refSSwap P.m ok A).mono ?_
    rintro e w5 ⟨rfl, FM1, hM1, hK1, hW1⟩
    replace P := P.ref H hM1 hK1 hW1
    have ok' := ok.swapped A
    clear hM1 hK1 hW1
    generalize (s.swap A).1 = E at *
    generalize (s.swap A).2 = S at *
    go_wp2
    go_ret
    exact ⟨rfl, S, _, _, ok', P⟩
  have e4 : (p == 4) = false := by rw [beq_eq_false_iff_ne]; exact h4
  have e5 : (p == 5) = false := by rw [beq_eq_false_iff_ne]; exact h5
  have e6 : (p == 6) = false := by rw [beq_eq_false_iff_ne]; exact h6
  have e7 : (p == 7) = false := by rw [beq_eq_false_iff_ne]; exact h7
  clear h4 h5 h6 h7
  cases raw
  · go_wp2_with fail
    refine (pk8 _).mono ?_
    rintro e w3 ⟨rfl, rfl⟩
    clear pk8
    generalize A % 8 = v at *
    have hE := s.mk_err v lo hi []
    go_wp2_with fail
    refine (H.make P.a ok v lo hi ⟨bB, gB⟩ ⟨bC, gC⟩).mono ?_
    rintro e w4 ⟨rfl, FA1, hA1, hK1, hW1⟩
    replace P := P.code H hA1 hK1 hW1
    clear hA1 hK1 hW1
    go_wp2_with fail
    refine (refSMk P.m ok.toBase v lo hi bB bC).mono ?_
    rintro e w5 ⟨rfl, FM1, hM1, hK1, hW1⟩
    replace P := P.ref H hM1 hK1 hW1
    have ok' := ok.made v lo hi
    clear hM1 hK1 hW1
    have HC := fun V => lawCode (s.mk v lo hi []).2.1 V hE.1 hE.2
    generalize s.mk v lo hi [] = r at *
    obtain ⟨r0, r1, S⟩ := r
    dsimp only at *
    go_wp2_with fail
    refine (HC _).mono ?_
    rintro e wx ⟨rfl, rfl⟩
    clear HC
    go_wp2
    go_ret
    exact ⟨rfl, S, _, _, ok', P⟩
  · clear pk8
    have hE := s.mk_err A lo hi []
    go_wp2_with fail
    refine (H.make P.a ok A lo hi ⟨bB, gB⟩ ⟨bC, gC⟩).mono ?_
    rintro e w4 ⟨rfl, FA1, hA1, hK1, hW1⟩
    replace P := P.code H hA1 hK1 hW1
    clear hA1 hK1 hW1
    go_wp2_with fail
    refine (refSMk P.m ok.toBase A lo hi bB bC).mono ?_
    rintro e w5 ⟨rfl, FM1, hM1, hK1, hW1⟩
    replace P := P.ref H hM1 hK1 hW1
    have ok' := ok.made A lo hi
    clear hM1 hK1 hW1
    have HC := fun V => lawCode (s.mk A lo hi []).2.1 V hE.1 hE.2
    generalize s.mk A lo hi [] = r at *
    obtain ⟨r0, r1, S⟩ := r
    dsimp only at *
    go_wp2_with fail
    refine (HC _).mono ?_
    rintro e wx ⟨rfl, rfl⟩
    clear HC
    go_wp2
    go_ret
    exact ⟨rfl, S, _, _, ok', P⟩

end Go.Proofs.Ytbnjbnjhpccomaa
