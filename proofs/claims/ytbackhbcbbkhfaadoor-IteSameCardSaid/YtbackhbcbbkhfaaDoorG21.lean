/-
  Texts of this proof, one behind the other: IteS, Inst9, Open, Open3, OpenG.
-/
import Derived.Test.YtbackhbcbbkhfaaDoorG20
import Derived.Test.YtbackhbcbbkhfaaDoorG18
import Derived.Test.YtbackhbcbbkhfaaDoorG16
import Derived.Deep.CutRange
import Derived.OwnWalk
import Derived.Test.YtbackhbcbbkhfaaDoorG12
import Derived.Test.YtbackhbcbbkhfaaDoorRows
import Derived.Test.YtbackhbcbbkhfaaDoorG15
import Derived.ProofKit
import Derived.OpenShut
import Derived.LaidLaws
import Derived.ChangeVars
import Derived.Laws.IdiomArrays
import Derived.Stop.Joined
import Derived.Test.YtbackhbcbbkhfaaDoorG7
import Derived.Deep.Slices
import Derived.Carry
import Derived.SizedLaws
import Derived.Test.YtbackhbcbbkhfaaDoorG3
/-
  IteSame over the contracts.
-/
namespace Go.Proofs.YtbackhbcbbkhfaaDoor
open Go Go.RowKit
attribute [local go_sem] run_eql_fv run_eql_fv1 run_neq_fv run_guard_fv run_guard_fv1 run_eql_fv2 run_guard_fv2 run_equal_fv2

/-- A store's exchange of a level that is one: no error, or no room. -/
theorem MS.swap_in (s : MS) {l : Int} (h0 : 0 ≤ l) (h6 : l ≤ 6) : (s.swap l).1 = 0 ∨ (s.swap l).1 = 2 := by
  unfold MS.swap
  split
  · omega
  · dsimp only
    split <;> simp

/-- What is known of the numbers. -/
structure Same9 (s : MS) (f g h : Fn) (a b d n : Int) : Prop where
  ok : s.Ok
  a : s.there a = true ∧ s.tab a = f
  b : s.there b = true ∧ s.tab b = g
  d : s.there d = true ∧ s.tab d = h
  n : s.there n = true ∧ s.tab n = iteF f g h
theorem Same9.grows {s t : MS} {f g h : Fn} {a b d n : Int} (x : Same9 s f g h a b d n) (ok : t.Ok) (e : MS.Grows s t) : Same9 t f g h a b d n :=
  ⟨ok, ⟨e.there _ x.a.1, (e.tab x.a.1).trans x.a.2⟩, ⟨e.there _ x.b.1, (e.tab x.b.1).trans x.b.2⟩, ⟨e.there _ x.d.1, (e.tab x.d.1).trans x.d.2⟩, ⟨e.there _ x.n.1, (e.tab x.n.1).trans x.n.2⟩⟩
theorem Same9.again {s : MS} {f g h : Fn} {a b d n : Int} (x : Same9 s f g h a b d n) : s.ite a b d = (n, 0, s) := x.ok.ite_same x.a.1 x.b.1 x.d.1 x.n.1 (by rw [x.n.2, x.a.2, x.b.2, x.d.2])
theorem Same9.same {s : MS} {f g h : Fn} {a b d n : Int} (x : Same9 s f g h a b d n) : s.ite a 1 0 = (a, 0, s) := x.ok.ite_same x.a.1 s.tab_one.1 s.tab_zero.1 x.a.1 (by rw [s.tab_one.2, s.tab_zero.2, iteF_10])
theorem Same9.then {s : MS} {f g h : Fn} {a b d n : Int} (x : Same9 s f g h a b d n) : s.ite a b b = (b, 0, s) := x.ok.ite_same x.a.1 x.b.1 x.b.1 x.b.1 (by rw [iteF_same])

set_option maxRecDepth 100000 in
set_option maxHeartbeats 8000000 in
theorem iteSame' {StAt CAt : World → Nat → (Nat → Prop) → MS → Prop} (H : StoreC StAt) (R : ReadC StAt) (I : IteC StAt CAt) (hUp : ∀ W, LowW W → Calls Tryd.prog 4 #[] W fun e w' => e = .returned (.bool true) ∧ Below W.heap.size W w')
    (f g h : Fn) (swaps : List Int) (flush : Bool) (v : Value) (w : World) (hL : LowW w) (hv : Reads encI w v swaps) (hwf : ∀ n ∈ swaps, (Lit.int .i64 n).wf = true) :
    Calls Tryd.prog 3 #[fv f, fv g, fv h, v, .bool flush] w fun e w' => e = .returned (.bool true) ∧ Below w.heap.size w w' := by
  obtain ⟨a, cap, rfl⟩ := hv.form
  simp only [fv]
  go_enter Tryd.func3, Tryd.ntmps3
  go_wp2_with fail
  have h0 : Holds (((w.alloc (.cells #[.int .u64 (wd f 0), .int .u64 (wd f 1), .int .u64 (wd f 2), .int .u64 (wd f 3)] 24)).alloc (.cells #[.int .u64 (wd g 0), .int .u64 (wd g 1), .int .u64 (wd g 2), .int .u64 (wd g 3)] 24)).alloc (.cells #[.int .u64 (wd h 0), .int .u64 (wd h 1), .int .u64 (wd h 2), .int .u64 (wd h 3)] 24)) w.heap.size f := ((Holds.new _ _ _).alloc _).alloc _
  have h1 : Holds (((w.alloc (.cells #[.int .u64 (wd f 0), .int .u64 (wd f 1), .int .u64 (wd f 2), .int .u64 (wd f 3)] 24)).alloc (.cells #[.int .u64 (wd g 0), .int .u64 (wd g 1), .int .u64 (wd g 2), .int .u64 (wd g 3)] 24)).alloc (.cells #[.int .u64 (wd h 0), .int .u64 (wd h 1), .int .u64 (wd h 2), .int .u64 (wd h 3)] 24)) (w.heap.size + 1) g := (Holds.new _ _ _).alloc _
  have h2 : Holds (((w.alloc (.cells #[.int .u64 (wd f 0), .int .u64 (wd f 1), .int .u64 (wd f 2), .int .u64 (wd f 3)] 24)).alloc (.cells #[.int .u64 (wd g 0), .int .u64 (wd g 1), .int .u64 (wd g 2), .int .u64 (wd g 3)] 24)).alloc (.cells #[.int .u64 (wd h 0), .int .u64 (wd h 1), .int .u64 (wd h 2), .int .u64 (wd h 3)] 24)) (w.heap.size + 1 + 1) h := Holds.new _ _ _
  have hb : Below w.heap.size w (((w.alloc (.cells #[.int .u64 (wd f 0), .int .u64 (wd f 1), .int .u64 (wd f 2), .int .u64 (wd f 3)] 24)).alloc (.cells #[.int .u64 (wd g 0), .int .u64 (wd g 1), .int .u64 (wd g 2), .int .u64 (wd g 3)] 24)).alloc (.cells #[.int .u64 (wd h 0), .int .u64 (wd h 1), .int .u64 (wd h 2), .int .u64 (wd h 3)] 24)) := by go_grown
  generalize (((w.alloc (.cells #[.int .u64 (wd f 0), .int .u64 (wd f 1), .int .u64 (wd f 2), .int .u64 (wd f 3)] 24)).alloc (.cells #[.int .u64 (wd g 0), .int .u64 (wd g 1), .int .u64 (wd g 2), .int .u64 (wd g 3)] 24)).alloc (.cells #[.int .u64 (wd h 0), .int .u64 (wd h 1), .int .u64 (wd h 2), .int .u64 (wd h 3)] 24)) = W0 at *
  refine (hUp _ (hL.keep hb)).mono ?_
  rintro e W ⟨rfl, hb1⟩
  replace h0 := h0.keep hb1 h0.lt
  replace h1 := h1.keep hb1 h1.lt
  replace h2 := h2.keep hb1 h2.lt
  replace hb := hb.trans (hb1.mono hb.size)
  replace hL := hL.keep hb
  replace hv := hv.keep hb
  clear hb1 hUp
  go_wp2_with fail
  refine (H.new 1000 W (by decide) (by decide)).mono ?_
  rintro e W1 ⟨bA, rfl, ⟨F, hA, hF⟩, hb1⟩
  rw [show (1000 : Int).toNat = 1000 from rfl] at hA
  go_wp2_with fail
  refine (I.new _).mono ?_
  rintro e W2 ⟨c, rfl, ⟨G, hC, hG⟩, hb2⟩
  have X := MS.Fits.none 1000 (by decide)
  have P := P1.start H hA hF hb1 (hC _ X.ok) hG hb2
  clear hA hF hb1 hC hG hb2
  generalize MS.none 1000 = s at *
  by_cases hlen : swaps.length ≤ 20
  · have hl3 : ¬ 20 < (swaps.length : Int) := by omega
    -- f
    obtain ⟨na, s1, hr, X1, E1, ta, ea⟩ := X.bld f (by simp)
    have BA := R.build (hL.keep P.below) (fun k hk => Nat.lt_of_lt_of_le hL.pos (P.lowF k hk)) P.a X.ok f
    rw [hr] at BA
    dsimp only at BA
    simp only [fv, errV0] at BA
    obtain ⟨c0, c1, c2, c3⟩ := (h0.keep P.below h0.lt).cells
    go_wp2_with fail
    refine BA.mono ?_
    rintro e w3 ⟨rfl, F2, hA2, hK, hW⟩
    have P2 := P.store I X.ok X1.ok (MS.Grows.of_ext E1 X.ok X1.ok) hA2 hK hW
    clear BA P hA2 hK hW c0 c1 c2 c3 hr X E1
    -- g
    obtain ⟨nb, s2, hr, X2, E2, tb, eb⟩ := X1.bld g (by simp)
    have ta2 := E2.there ta
    have ea2 := (E2.tab X1.ok X2.ok ta).trans ea
    have BA := R.build (hL.keep P2.below) (fun k hk => Nat.lt_of_lt_of_le hL.pos (P2.lowF k hk)) P2.a X1.ok g
    rw [hr] at BA
    dsimp only at BA
    simp only [fv, errV0] at BA
    obtain ⟨c0, c1, c2, c3⟩ := (h1.keep P2.below h1.lt).cells
    go_wp2_with fail
    refine BA.mono ?_
    rintro e w4 ⟨rfl, F3, hA2, hK, hW⟩
    have P3 := P2.store I X1.ok X2.ok (MS.Grows.of_ext E2 X1.ok X2.ok) hA2 hK hW
    clear BA P2 hA2 hK hW c0 c1 c2 c3 hr X1 E2 ta ea
    -- h
    obtain ⟨nd, s3, hr, X3, E3, td, ed⟩ := X2.bld h (by simp)
    have ta3 := E3.there ta2
    have ea3 := (E3.tab X2.ok X3.ok ta2).trans ea2
    have tb3 := E3.there tb
    have eb3 := (E3.tab X2.ok X3.ok tb).trans eb
    have BA := R.build (hL.keep P3.below) (fun k hk => Nat.lt_of_lt_of_le hL.pos (P3.lowF k hk)) P3.a X2.ok h
    rw [hr] at BA
    dsimp only at BA
    simp only [fv, errV0] at BA
    obtain ⟨c0, c1, c2, c3⟩ := (h2.keep P3.below h2.lt).cells
    go_wp2_with fail
    refine BA.mono ?_
    rintro e w5 ⟨rfl, F4, hA2, hK, hW⟩
    have P4 := P3.store I X2.ok X3.ok (MS.Grows.of_ext E3 X2.ok X3.ok) hA2 hK hW
    clear BA P3 hA2 hK hW c0 c1 c2 c3 hr X2 E3 ta2 ea2 tb eb
    -- their if, then, else
    obtain ⟨n, s4, hr, X4, E4, tn, en⟩ := X3.ite ta3 tb3 td (by simp)
    rw [ea3, eb3, ed] at en
    have Y : Same9 s4 f g h na nb nd n := ⟨X4.ok, ⟨E4.there ta3, (E4.tab X3.ok X4.ok ta3).trans ea3⟩, ⟨E4.there tb3, (E4.tab X3.ok X4.ok tb3).trans eb3⟩, ⟨E4.there td, (E4.tab X3.ok X4.ok td).trans ed⟩, ⟨tn, en⟩⟩
    have ia := X3.ok.toBase.there_i64 ta3
    have ib := X3.ok.toBase.there_i64 tb3
    have id := X3.ok.toBase.there_i64 td
    have M := I.ite P4.a P4.k X3.ok P4.ap na nb nd ia ib id
    rw [hr] at M
    go_wp2_with fail
    refine M.mono ?_
    rintro e w6 hp
    obtain ⟨rfl, F5, G5, P5⟩ := P4.callPost hp
    clear M hp P4 hr X3 X4 E4 ta3 ea3 tb3 eb3 td ed tn en
    dsimp only at P5
    simp only [errV0]
    replace hv := Lib.hid hv
    replace P := Lib.hid P5
    replace Y := Lib.hid Y
    clear P5
    go_wp2
    go_loopw [22] (fun i wr => ∃ (j : Nat) (s : MS) (F G : Nat → Prop), j ≤ swaps.length ∧ i = .int .i64 j ∧ Same9 s f g h na nb nd n ∧ P1 StAt CAt W bA c F G s wr) (fun i _ => swaps.length - (intOf i).toNat)
    case atStart => exact ⟨0, s4, _, _, Nat.zero_le _, rfl, Y.out, P.out⟩
    case round =>
      clear P Y
      obtain ⟨j, s, F, G, hj, rfl, Y, P⟩ := hrel
      by_cases hlt : j < swaps.length
      · obtain ⟨ad, rfl, hc⟩ := (hv.out.keep P.below).intAt j hlt
        have hwk := hwf _ (List.getElem_mem hlt)
        have hk0 : (0 : Int) ≤ (j : Int) := by omega
        have hk1 : (j : Int) < (swaps.length : Int) := by omega
        generalize swaps[j] = m at *
        have HP := fun U => lawPick m 7 U (by decide) (by decide) hwk
        have m0 := Int.emod_nonneg m (show (7 : Int) ≠ 0 by decide)
        have m1 := Int.emod_lt_of_pos m (show (0 : Int) < 7 by decide)
        generalize m % 7 = l at *
        have HS := H.swap P.a Y.ok l
        have ok' := Y.ok.swapped l
        have hgr := MS.Grows.of_swap Y.ok l
        have hE := s.swap_in m0 (by omega)
        have HC := fun V => lawCode (s.swap l).1 V (s.swap_err l).1 (s.swap_err l).2
        replace P := Lib.hid P
        replace Y := Lib.hid Y
        replace hE := Lib.hid hE
        generalize hq : (s.swap l).1 = q at *
        go_wp2_with fail
        refine (HP _).mono ?_
        rintro e w7 ⟨rfl, rfl⟩
        go_wp2_with fail
        refine HS.mono ?_
        rintro e w8 ⟨rfl, F6, hA2, hK, hW⟩
        have P6 := Lib.hid (P.out.store I Y.out.ok ok' hgr hA2 hK hW)
        have Y6 := Lib.hid (Y.out.grows ok' hgr)
        clear HS HP P Y hA2 hK hW hc ok' hgr
        go_wp2_with fail
        refine (HC _).mono ?_
        rintro e w9 ⟨rfl, rfl⟩
        rcases hE.out with hE | hE
        · subst hE
          clear HC
          go_wp2
          exact ⟨⟨j + 1, (s.swap l).2, F6, G, by omega, by go_num, Y6.out, P6.out⟩, by simp [intOf]; omega⟩
        · subst hE
          go_wp2_with fail
          refine (HC _).mono ?_
          rintro e w10 ⟨rfl, rfl⟩
          clear HC
          go_wp2
          exact ⟨⟨j + 1, (s.swap l).2, F6, G, by omega, by go_num, Y6.out, P6.out⟩, by simp [intOf]; omega⟩
      · obtain rfl : j = swaps.length := by omega
        clear hv hwf hlt hj
        have A1 := Y.again
        have A2 := Y.same
        have A3 := Y.then
        have ia := Y.ok.toBase.there_i64 Y.a.1
        have ib := Y.ok.toBase.there_i64 Y.b.1
        have id := Y.ok.toBase.there_i64 Y.d.1
        have i_n := Y.ok.toBase.there_i64 Y.n.1
        replace Y := Lib.hid Y
        replace P := Lib.hid P
        cases flush
        case' true =>
          go_wp2_with fail
          refine (I.flush P.out.k Y.out.ok).mono ?_
          rintro e w7 ⟨rfl, G6, hC, hK, hW⟩
          have P6 := Lib.hid (P.out.flushed H (hC s Y.out.ok) hK hW)
          clear P hC hK hW
          have P := P6
          clear P6
        all_goals
          have M := I.ite P.out.a P.out.k Y.out.ok P.out.ap na nb nd ia ib id
          rw [A1] at M
          go_wp2_with fail
          refine M.mono ?_
          rintro e w8 hp
          obtain ⟨rfl, F7, G7, P7⟩ := P.out.callPost hp
          clear M hp P
          dsimp only at P7
          simp only [errV0]
          have C0 := fun V => lawCode 0 V (by decide) (by decide)
          simp only [errV0] at C0
          go_wp2_with fail
          refine (C0 _).mono ?_
          rintro e w9 ⟨rfl, rfl⟩
          clear C0
          have M := I.ite P7.a P7.k Y.out.ok P7.ap na 1 0 ia (by unfold I64; decide) (by unfold I64; decide)
          rw [A2] at M
          go_wp2_with fail
          refine M.mono ?_
          rintro e w10 hp
          obtain ⟨rfl, F8, G8, P8⟩ := P7.callPost hp
          clear M hp P7
          dsimp only at P8
          simp only [errV0]
          have M := I.ite P8.a P8.k Y.out.ok P8.ap na nb nb ia ib ib
          rw [A3] at M
          go_wp2_with fail
          refine M.mono ?_
          rintro e w11 hp
          obtain ⟨rfl, F9, G9, P9⟩ := P8.callPost hp
          clear M hp P8
          dsimp only at P9
          simp only [errV0]
          replace P9 := Lib.hid P9
          have k0 := h0.keep P9.out.below h0.lt
          have k1 := h1.keep P9.out.below h1.lt
          have k2 := h2.keep P9.out.below h2.lt
          obtain ⟨c0, c1, c2, c3⟩ := k0.cells
          obtain ⟨d0, d1, d2, d3⟩ := k1.cells
          obtain ⟨e0, e1, e2, e3⟩ := k2.cells
          have RI := fun V => refIte f g h V
          simp only [fv] at RI
          go_wp2_with fail
          refine (RI _).mono ?_
          rintro e w12 ⟨rfl, hb12⟩
          clear RI c0 c1 c2 c3 d0 d1 d2 d3 e0 e1 e2 e3
          go_wp2_with fail
          have hX := Holds.new w12 (f &&& g ||| ~~~f &&& h) w12.heap.size
          have hb13 : Below w11.heap.size w11 (w12.alloc (.cells #[.int .u64 (wd (f &&& g ||| ~~~f &&& h) 0), .int .u64 (wd (f &&& g ||| ~~~f &&& h) 1), .int .u64 (wd (f &&& g ||| ~~~f &&& h) 2), .int .u64 (wd (f &&& g ||| ~~~f &&& h) 3)] 24)) := hb12.alloc hb12.size _
          generalize w12.alloc (.cells #[.int .u64 (wd (f &&& g ||| ~~~f &&& h) 0), .int .u64 (wd (f &&& g ||| ~~~f &&& h) 1), .int .u64 (wd (f &&& g ||| ~~~f &&& h) 2), .int .u64 (wd (f &&& g ||| ~~~f &&& h) 3)] 24) = W13 at *
          generalize w12.heap.size = B13 at *
          have PX := P9.out.keep H I hb13
          have D1 := fun u : Sub W13 => R.table (hL.keep (PX.below.trans (u.2.mono PX.below.size))) (H.sub PX.a u) Y.out.ok n i_n
          have D2 := fun u : Sub W13 => R.table (hL.keep (PX.below.trans (u.2.mono PX.below.size))) (H.sub PX.a u) Y.out.ok na ia
          have ey : s.tab n = f &&& g ||| ~~~f &&& h := Y.out.n.2
          rw [ey] at D1
          rw [Y.out.a.2] at D2
          generalize (f &&& g ||| ~~~f &&& h) = X at *
          have x0 := fun u : Sub W13 => (hX.sub u).cells.1
          have x1 := fun u : Sub W13 => (hX.sub u).cells.2.1
          have x2 := fun u : Sub W13 => (hX.sub u).cells.2.2.1
          have x3 := fun u : Sub W13 => (hX.sub u).cells.2.2.2
          have y0 := fun u : Sub W13 => ((h0.keep PX.below h0.lt).sub u).cells.1
          have y1 := fun u : Sub W13 => ((h0.keep PX.below h0.lt).sub u).cells.2.1
          have y2 := fun u : Sub W13 => ((h0.keep PX.below h0.lt).sub u).cells.2.2.1
          have y3 := fun u : Sub W13 => ((h0.keep PX.below h0.lt).sub u).cells.2.2.2
          have hbX := hb.trans (PX.below.mono hb.size)
          have q1 := beq_self_eq_true n
          have q2 := beq_self_eq_true na
          have q3 := beq_self_eq_true nb
          have q4 := beq_self_eq_true X
          have q5 := beq_self_eq_true f
          clear PX hX hb12 hb13 P9 Y A1 A2 A3 h0 h1 h2 hb ia ib id i_n k0 k1 k2
          refine wp_region_quiet_all (C := fun w' => ∃ u : Sub W13, w' = u.1) (by kernel_rfl) (by kernel_rfl) (InSub.drew W13) ?_
          iterate 31 (go_big_quiet_step (fail))
          go_big_quiet_step (exact sub_below (D1 _))
          iterate 6 (go_big_quiet_step (fail))
          go_big_quiet_step (exact sub_below (D2 _))
          iterate 4 (go_big_quiet_step (fail))
          refine wpQuiet_nil ?_
          clear x0 x1 x2 x3 y0 y1 y2 y3 D1 D2
          intro w' hw'
          obtain ⟨u, rfl⟩ := hw'
          replace hbX := hbX.trans (u.2.mono hbX.size)
          generalize u.1 = X4 at *
          go_wp2
          go_ret
          exact ⟨by simp, hbX⟩
  · have hl3 : 20 < (swaps.length : Int) := by omega
    go_wp2
    go_ret
    exact ⟨rfl, hb.trans (P.below.mono hb.size)⟩

end Go.Proofs.YtbackhbcbbkhfaaDoor

/-
  The laws of layer 9 over the landed code.
-/
namespace Go.Proofs.YtbackhbcbbkhfaaDoor
open Go Go.RowKit

theorem iteSame (f g h : Fn) (swaps : List Int) (flush : Bool) (v : Value) (w : World) (hL : LowW w) (hv : Reads encI w v swaps) (_ : swaps.length ≤ maxLen) (hwf : ∀ n ∈ swaps, (Lit.int .i64 n).wf = true) :
    Calls Tryd.prog 3 #[fv f, fv g, fv h, v, .bool flush] w fun e w' => e = .returned (.bool true) ∧ Below w.heap.size w w' :=
  iteSame' storeC (readC storeC) (iteC storeC) (fun W hW => up09 storeC (readC storeC) (iteC storeC) W hW) f g h swaps flush v w hL hv hwf

end Go.Proofs.YtbackhbcbbkhfaaDoor

/-
  How a function of eight variables comes in and reads; the table of words as it is laid.
-/
namespace Go.Proofs.YtbackhbcbbkhfaaDoor
open Go Go.ChangeShapes Go.WideShapes Go.ChangeAt Go.RowKit

/-- The function of four words. -/
def ofWords (a b c d : Nat) : Fn := ofRow fun x => if x < 64 then a.testBit x else if x < 128 then b.testBit (x - 64) else if x < 192 then c.testBit (x - 128) else d.testBit (x - 192)

set_option maxRecDepth 100000 in
theorem wd_of_bits (f : Fn) (i a : Nat) (ha : a < 2 ^ 64) (h : ∀ j, j < 64 → f.getLsbD (64 * i + j) = a.testBit j) : wd f i = a := by
  refine Nat.eq_of_testBit_eq fun j => ?_
  unfold wd
  rw [BitVec.testBit_toNat, BitVec.getLsbD_extractLsb']
  by_cases hj : j < 64
  · rw [h j hj]; simp [hj]
  · have : a.testBit j = false := Nat.testBit_lt_two_pow (Nat.lt_of_lt_of_le ha (Nat.pow_le_pow_right (by decide) (by omega)))
    rw [this]; simp [hj]

set_option maxRecDepth 100000 in
theorem wd_ofWords (a b c d : Nat) (ha : a < 2 ^ 64) (hb : b < 2 ^ 64) (hc : c < 2 ^ 64) (hd : d < 2 ^ 64) :
    wd (ofWords a b c d) 0 = a ∧ wd (ofWords a b c d) 1 = b ∧ wd (ofWords a b c d) 2 = c ∧ wd (ofWords a b c d) 3 = d := by
  refine ⟨wd_of_bits _ _ _ ha fun j hj => ?_, wd_of_bits _ _ _ hb fun j hj => ?_, wd_of_bits _ _ _ hc fun j hj => ?_, wd_of_bits _ _ _ hd fun j hj => ?_⟩
  · rw [ofWords, ofRow_bit _ _ (by omega), if_pos (by omega), show 64 * 0 + j = j by omega]
  · rw [ofWords, ofRow_bit _ _ (by omega), if_neg (by omega), if_pos (by omega), show 64 * 1 + j - 64 = j by omega]
  · rw [ofWords, ofRow_bit _ _ (by omega), if_neg (by omega), if_neg (by omega), if_pos (by omega), show 64 * 2 + j - 128 = j by omega]
  · rw [ofWords, ofRow_bit _ _ (by omega), if_neg (by omega), if_neg (by omega), if_neg (by omega), show 64 * 3 + j - 192 = j by omega]

/-- What it reads as. -/
def datF {H : Type} (f : Fn) : DataW H := .agg [.lit (.int .u64 (wd f 0)), .lit (.int .u64 (wd f 1)), .lit (.int .u64 (wd f 2)), .lit (.int .u64 (wd f 3))]

set_option maxRecDepth 100000 in
theorem Tryd.cellsF : Tryd.prog.cellsOf 24 = 4 := by kernel_rfl
set_option maxRecDepth 100000 in
theorem Tryd.cellsU : Tryd.prog.cellsOf 22 = 1 := by kernel_rfl
set_option maxRecDepth 100000 in
theorem Tryd.own : ownKnob Tryd.prog.godebug = none := by kernel_rfl

set_option maxRecDepth 100000 in
theorem list4 {α : Type} (l : List α) (h : (⟨l⟩ : Array α).size = 4) : ∃ a b c d, l = [a, b, c, d] := by
  match l, h with
  | [a, b, c, d], _ => exact ⟨a, b, c, d, rfl⟩

set_option maxRecDepth 100000 in
theorem wf_u64 {n : Int} (h : (Lit.int .u64 n).wf = true) : ∃ m : Nat, n = (m : Int) ∧ m < 2 ^ 64 := by
  simp [Lit.wf, IntKind.min, IntKind.max, IntKind.signed, IntKind.bits] at h
  exact ⟨n.toNat, by omega, by omega⟩

set_option maxRecDepth 100000 in
theorem wd_wf (f : Fn) (i : Nat) : (Lit.int .u64 (wd f i)).wf = true := by
  have := wd_lt f i
  simp [Lit.wf, IntKind.min, IntKind.max, IntKind.signed, IntKind.bits]
  omega

section
variable {H : Type} {enc : TypeId × Value → H} {w : World} {base : Nat} {spare : Nat → Bool} {held : Bool}

set_option maxRecDepth 100000 in
theorem open_fn {r : Go.Reach} {b0 : Nat} {v : Value} {d : DataW H} {ps : List MemPlace} (hval : Value.okWide Tryd.prog w r b0 24 v) (hd : DataW.Trod enc Tryd.prog w base spare held 24 v d ps) :
    ∃ f : Fn, v = fv f ∧ d = datF f ∧ ps = [] := by
  obtain ⟨cs, rfl, hsz, _⟩ : ∃ cs, v = .agg cs ∧ cs.size = Tryd.prog.cellsOf 24 ∧ Row.okWide Tryd.prog w r b0 24 cs := by
    simpa [Value.okWide, Tryd.underlying24] using hval
  rw [Tryd.cellsF] at hsz
  obtain ⟨l⟩ := cs
  obtain ⟨c0, c1, c2, c3, rfl⟩ := list4 l hsz
  obtain ⟨fuel, hf⟩ := hd
  obtain ⟨y0, y1, y2, y3, m, hx, hy0, hy1, hy2, hy3⟩ := trod_array4 Tryd.underlying24 Tryd.cellsU hf
  obtain ⟨x0, e0, rfl, w0⟩ := DataW.trod_int Tryd.underlying22 hy0
  obtain ⟨x1, e1, rfl, w1⟩ := DataW.trod_int Tryd.underlying22 hy1
  obtain ⟨x2, e2, rfl, w2⟩ := DataW.trod_int Tryd.underlying22 hy2
  obtain ⟨x3, e3, rfl, w3⟩ := DataW.trod_int Tryd.underlying22 hy3
  simp at e0 e1 e2 e3
  subst e0 e1 e2 e3
  simp only [Prod.mk.injEq] at hx
  obtain ⟨rfl, rfl⟩ := hx
  obtain ⟨a, rfl, ha⟩ := wf_u64 w0
  obtain ⟨b, rfl, hb⟩ := wf_u64 w1
  obtain ⟨c, rfl, hc⟩ := wf_u64 w2
  obtain ⟨e, rfl, he⟩ := wf_u64 w3
  obtain ⟨i0, i1, i2, i3⟩ := wd_ofWords a b c e ha hb hc he
  exact ⟨ofWords a b c e, by rw [fv, i0, i1, i2, i3], by rw [datF, i0, i1, i2, i3], rfl⟩

set_option maxRecDepth 100000 in
theorem shut_fn (f : Fn) : DataW.Trod enc Tryd.prog w base spare held 24 (fv f) (datF f) [] :=
  ⟨2, by simp [fv, datF, DataW.trod, Value.cells, Tryd.underlying24, Tryd.underlying22, Tryd.cellsF, Tryd.cellsU, wd_wf, show List.range 4 = [0, 1, 2, 3] from rfl]⟩
end

/-- The table's cells. -/
def lowCells : Array Value := #[.int .u64 12297829382473034410, .int .u64 14757395258967641292, .int .u64 17361641481138401520, .int .u64 18374966859414961920, .int .u64 18446462603027742720, .int .u64 18446744069414584320]

set_option maxRecDepth 100000 in
theorem Tryd.low : Tryd.prog.globalNamed "bower/tab.lowWords" = some 0 := by kernel_rfl
set_option maxRecDepth 100000 in
theorem Tryd.lowType : (Tryd.prog.globals[0]?).map (·.type) = some 114 := by kernel_rfl
set_option maxRecDepth 100000 in
theorem Tryd.cellsLow : Tryd.prog.cellsOf 114 = 6 := by kernel_rfl

set_option maxRecDepth 100000 in
theorem list6 {α : Type} (l : List α) (h : l.length = 6) : ∃ a b c d e f, l = [a, b, c, d, e, f] := by
  match l, h with
  | [a, b, c, d, e, f], _ => exact ⟨a, b, c, d, e, f, rfl⟩

set_option maxRecDepth 100000 in
theorem low_of_laid {W : World} (h : laidMet Tryd.prog [("bower/tab.lowWords", Rows.laid_bower_tab_lowWords)] W) : W.var? Tryd.prog "bower/tab.lowWords" = some lowCells := by
  obtain ⟨ps, ⟨g, t, cs, fuel, p, q, hg, ht, hvar, hd, _, _⟩, _⟩ := h
  obtain rfl := Option.some.inj (Tryd.low.symm.trans hg)
  obtain rfl := Option.some.inj (Tryd.lowType.symm.trans ht)
  rw [hvar]
  congr 1
  obtain ⟨l⟩ := cs
  cases fuel with
  | zero => simp [DataW.trod] at hd
  | succ fuel =>
    simp only [DataW.trod, Tryd.underlying114, Tryd.cellsLow, Tryd.cellsU] at hd
    split at hd
    · rename_i hl
      obtain ⟨c0, c1, c2, c3, c4, c5, rfl⟩ := list6 l (by simpa using hl)
      have e : List.range 6 = [0, 1, 2, 3, 4, 5] := rfl
      rw [e] at hd
      simp only [Option.map_eq_some_iff, List.mapM_cons, List.mapM_nil, Option.bind_eq_bind, Option.bind_eq_some_iff, Option.pure_def, Option.some.injEq] at hd
      obtain ⟨xs, ⟨y0, h0, _, ⟨y1, h1, _, ⟨y2, h2, _, ⟨y3, h3, _, ⟨y4, h4, _, ⟨y5, h5, _, rfl, rfl⟩, rfl⟩, rfl⟩, rfl⟩, rfl⟩, rfl⟩, hx⟩ := hd
      obtain ⟨n0, e0, rfl, _⟩ := DataW.trod_int Tryd.underlying22 h0
      obtain ⟨n1, e1, rfl, _⟩ := DataW.trod_int Tryd.underlying22 h1
      obtain ⟨n2, e2, rfl, _⟩ := DataW.trod_int Tryd.underlying22 h2
      obtain ⟨n3, e3, rfl, _⟩ := DataW.trod_int Tryd.underlying22 h3
      obtain ⟨n4, e4, rfl, _⟩ := DataW.trod_int Tryd.underlying22 h4
      obtain ⟨n5, e5, rfl, _⟩ := DataW.trod_int Tryd.underlying22 h5
      simp at e0 e1 e2 e3 e4 e5
      subst e0 e1 e2 e3 e4 e5
      simp [Rows.laid_bower_tab_lowWords] at hx
      obtain ⟨⟨rfl, rfl, rfl, rfl, rfl, rfl⟩, _⟩ := hx
      rfl
    · cases hd

set_option maxRecDepth 100000 in
theorem lowW_of_laid {W : World} (h : laidMet Tryd.prog [("bower/tab.lowWords", Rows.laid_bower_tab_lowWords)] W) : LowW W := by
  intro i hi
  rw [World.var?_cell Tryd.low (low_of_laid h) i]
  rcases (by omega : i = 0 ∨ i = 1 ∨ i = 2 ∨ i = 3 ∨ i = 4 ∨ i = 5) with rfl | rfl | rfl | rfl | rfl | rfl <;> rfl

/-- A world in which the table is laid. -/
noncomputable def laidWorld (os : Os) : World :=
  { World.holding Tryd.prog os ⟨#[], #[], []⟩ with heap := (World.holding Tryd.prog os ⟨#[], #[], []⟩).heap.modify 0 fun
      | .cells _ t frozen => .cells lowCells t frozen
      | o => o }

set_option maxRecDepth 100000 in
theorem laidWorld_row (os : Os) (args : Array Value) : ((laidWorld os).forCall (fun _ _ => 0) ⟨#[], args, []⟩).memory.heap[0]? = some (.cells lowCells 114 (0, 0)) := by kernel_rfl

set_option maxRecDepth 100000 in
theorem laidWorld_met (os : Os) (args : Array Value) : laidMet Tryd.prog [("bower/tab.lowWords", Rows.laid_bower_tab_lowWords)] ((laidWorld os).forCall (fun _ _ => 0) ⟨#[], args, []⟩).memory :=
  ⟨_, ⟨0, 114, lowCells, 8, [], [], by kernel_rfl, by kernel_rfl, by kernel_rfl, by kernel_rfl, rfl, rfl⟩, by decide, fun b off h => by
    have h' : MemPlace.cell b off ∈ [MemPlace.cell 0 0, .cell 0 1, .cell 0 2, .cell 0 3, .cell 0 4, .cell 0 5] := h
    have hb : b = 0 := by
      simp at h'
      omega
    subst hb
    refine ⟨⟨_, _, laidWorld_row os args⟩, fun u v hc => ?_⟩
    simp only [World.cell?, laidWorld_row os args] at hc
    simp at h'
    rcases h' with rfl | rfl | rfl | rfl | rfl | rfl <;> simp [lowCells] at hc⟩

end Go.Proofs.YtbackhbcbbkhfaaDoor

/-
  How slices of functions and orders come in; arguments that read behind a call as they did.
-/
namespace Go.Proofs.YtbackhbcbbkhfaaDoor
open Go Go.ChangeShapes Go.WideShapes Go.ChangeAt Go.RowKit

theorem Tryd.laidOut : laidOutB Tryd.prog = true := by kernel_rfl

section
variable {H : Type} {enc : TypeId × Value → H}

set_option maxRecDepth 100000 in
theorem trodAll_stays {P : Program} (hl : laidOutB P = true) {W W' : World} (hb : Below W.heap.size W W') : ∀ {ts : List TypeId} {vs : List Value} {ds : List (DataW H)} {ps : List MemPlace}, (∀ t ∈ ts, P.readableRec t = true ∧ t < P.types.size) →
    DataW.TrodAll enc P W 0 (fun _ => true) true ts vs ds ps → (∀ x ∈ ps, x.block < W.heap.size) → DataW.TrodAll enc P W' 0 (fun b => decide (b < W.heap.size)) true ts vs ds ps
  | [], [], [], _, _, h, _ => h
  | _ :: _, _ :: _, _ :: _, _, hT, ⟨p, q, h1, h2, e⟩, hs =>
    ⟨p, q, Below.trod hl (hT _ (List.mem_cons.2 (Or.inl rfl))).1 (hT _ (List.mem_cons.2 (Or.inl rfl))).2 h1 hb (fun x hx => hs x (by rw [e]; exact List.mem_append_left _ hx)),
      trodAll_stays hl hb (fun t ht => hT t (List.mem_cons.2 (Or.inr ht))) h2 (fun x hx => hs x (by rw [e]; exact List.mem_append_right _ hx)), e⟩

variable {w : World} {base : Nat} {spare : Nat → Bool} {held : Bool}

set_option maxRecDepth 100000 in
theorem trod_fn {fuel : Nat} {cs : List Value} {x : DataW H × List MemPlace} (hlen : cs.length = 4) (h : DataW.trod enc Tryd.prog w base spare held fuel 24 cs = some x) :
    ∃ f : Fn, cs = [.int .u64 (wd f 0), .int .u64 (wd f 1), .int .u64 (wd f 2), .int .u64 (wd f 3)] := by
  obtain ⟨c0, c1, c2, c3, rfl⟩ := list4 cs (by simpa using hlen)
  obtain ⟨y0, y1, y2, y3, m, hx, hy0, hy1, hy2, hy3⟩ := trod_array4 Tryd.underlying24 Tryd.cellsU h
  obtain ⟨x0, e0, _, w0⟩ := DataW.trod_int Tryd.underlying22 hy0
  obtain ⟨x1, e1, _, w1⟩ := DataW.trod_int Tryd.underlying22 hy1
  obtain ⟨x2, e2, _, w2⟩ := DataW.trod_int Tryd.underlying22 hy2
  obtain ⟨x3, e3, _, w3⟩ := DataW.trod_int Tryd.underlying22 hy3
  simp at e0 e1 e2 e3
  subst e0 e1 e2 e3
  obtain ⟨a, rfl, ha⟩ := wf_u64 w0
  obtain ⟨b, rfl, hb⟩ := wf_u64 w1
  obtain ⟨c, rfl, hc⟩ := wf_u64 w2
  obtain ⟨e, rfl, he⟩ := wf_u64 w3
  obtain ⟨i0, i1, i2, i3⟩ := wd_ofWords a b c e ha hb hc he
  exact ⟨ofWords a b c e, by rw [i0, i1, i2, i3]⟩

set_option maxRecDepth 100000 in
theorem list8 {α : Type} (l : List α) (h : l.length = 8) : ∃ a b c d e f g i, l = [a, b, c, d, e, f, g, i] := by
  match l, h with
  | [a, b, c, d, e, f, g, i], _ => exact ⟨a, b, c, d, e, f, g, i, rfl⟩

set_option maxRecDepth 100000 in
theorem Tryd.cellsO : Tryd.prog.cellsOf 48 = 8 := by kernel_rfl
set_option maxRecDepth 100000 in
theorem Tryd.cellsI : Tryd.prog.cellsOf 3 = 1 := by kernel_rfl

set_option maxRecDepth 100000 in
/-- An order that came in. -/
theorem open_order {r : Go.Reach} {b0 : Nat} {v : Value} {d : DataW H} {ps : List MemPlace} (hval : Value.okWide Tryd.prog w r b0 48 v) (hd : DataW.Trod enc Tryd.prog w base spare held 48 v d ps) :
    ∃ o : Nat → Int, v = ov o ∧ ∀ i, (Lit.int .i64 (o i)).wf = true := by
  obtain ⟨cs, rfl, hsz, _⟩ : ∃ cs, v = .agg cs ∧ cs.size = Tryd.prog.cellsOf 48 ∧ Row.okWide Tryd.prog w r b0 48 cs := by
    simpa [Value.okWide, Tryd.underlying48] using hval
  rw [Tryd.cellsO] at hsz
  obtain ⟨l⟩ := cs
  obtain ⟨c0, c1, c2, c3, c4, c5, c6, c7, rfl⟩ := list8 l (by simpa using hsz)
  obtain ⟨fuel, hf⟩ := hd
  obtain ⟨xs, m, _, _, _, hxl, hget⟩ := DataW.trod_array Tryd.underlying48 hf
  rw [Tryd.cellsI] at hget
  have key : ∀ i (c : Value), i < 8 → ((Value.agg #[c0, c1, c2, c3, c4, c5, c6, c7]).cells.toList.drop (i * 1)).take 1 = [c] → ∃ n, c = .int .i64 n ∧ (Lit.int .i64 n).wf = true := fun i c hi hc => by
    have h1 := hget i hi
    rw [hc, List.getElem?_eq_getElem (by omega)] at h1
    obtain ⟨n, e, _, hw⟩ := DataW.trod_int Tryd.underlying3 h1
    exact ⟨n, by simpa using e, hw⟩
  obtain ⟨n0, rfl, w0⟩ := key 0 c0 (by decide) rfl
  obtain ⟨n1, rfl, w1⟩ := key 1 c1 (by decide) rfl
  obtain ⟨n2, rfl, w2⟩ := key 2 c2 (by decide) rfl
  obtain ⟨n3, rfl, w3⟩ := key 3 c3 (by decide) rfl
  obtain ⟨n4, rfl, w4⟩ := key 4 c4 (by decide) rfl
  obtain ⟨n5, rfl, w5⟩ := key 5 c5 (by decide) rfl
  obtain ⟨n6, rfl, w6⟩ := key 6 c6 (by decide) rfl
  obtain ⟨n7, rfl, w7⟩ := key 7 c7 (by decide) rfl
  refine ⟨fun i => [n0, n1, n2, n3, n4, n5, n6, n7].getD i 0, rfl, fun i => ?_⟩
  rcases Nat.lt_or_ge i 8 with hi | hi
  · rcases (by omega : i = 0 ∨ i = 1 ∨ i = 2 ∨ i = 3 ∨ i = 4 ∨ i = 5 ∨ i = 6 ∨ i = 7) with rfl | rfl | rfl | rfl | rfl | rfl | rfl | rfl <;> assumption
  · have e : [n0, n1, n2, n3, n4, n5, n6, n7].getD i 0 = 0 := by simp [List.getD, List.getElem?_eq_none (show [n0, n1, n2, n3, n4, n5, n6, n7].length ≤ i by simpa using hi)]
    simp only [e]
    decide
end


end Go.Proofs.YtbackhbcbbkhfaaDoor

/-
  How arguments come in: slices of whatever elements; arguments that read behind a call as they did. No card: nothing is laid.
-/
namespace Go.Proofs.YtbackhbcbbkhfaaDoor
open Go Go.ChangeShapes Go.WideShapes Go.ChangeAt Go.RowKit

theorem Tryd.ownG : ownKnob Tryd.prog.godebug = none := by kernel_rfl
theorem Tryd.laidOutG : laidOutB Tryd.prog = true := by kernel_rfl
theorem Tryd.cellsOfInt : Tryd.prog.cellsOf 3 = 1 := by kernel_rfl

section
variable {H : Type} {enc : TypeId × Value → H}

theorem argsStay {P : Program} (hl : laidOutB P = true) {W W' : World} (hb : Below W.heap.size W W') : ∀ {ts : List TypeId} {vs : List Value} {ds : List (DataW H)} {ps : List MemPlace}, (∀ t ∈ ts, P.readableRec t = true ∧ t < P.types.size) →
    DataW.TrodAll enc P W 0 (fun _ => true) true ts vs ds ps → (∀ x ∈ ps, x.block < W.heap.size) → DataW.TrodAll enc P W' 0 (fun b => decide (b < W.heap.size)) true ts vs ds ps
  | [], [], [], _, _, h, _ => h
  | _ :: _, _ :: _, _ :: _, _, hT, ⟨p, q, h1, h2, e⟩, hs =>
    ⟨p, q, Below.trod hl (hT _ (List.mem_cons.2 (Or.inl rfl))).1 (hT _ (List.mem_cons.2 (Or.inl rfl))).2 h1 hb (fun x hx => hs x (by rw [e]; exact List.mem_append_left _ hx)),
      argsStay hl hb (fun t ht => hT t (List.mem_cons.2 (Or.inr ht))) h2 (fun x hx => hs x (by rw [e]; exact List.mem_append_right _ hx)), e⟩

variable {w : World} {base : Nat} {spare : Nat → Bool} {held : Bool}

theorem Enc.all_at {P : Program} {α : Type} (E : Enc P α) (l : List α) (j : Nat) (u : Value) (h : (E.all l)[j]? = some u) : ∃ (i r : Nat) (hi : i < l.length), r < E.size ∧ j = i * E.size + r ∧ (E.cells l[i])[r]? = some u := by
  have hj : j < (E.all l).length := by
    rcases Nat.lt_or_ge j (E.all l).length with h' | h'
    · exact h'
    · rw [List.getElem?_eq_none h'] at h; cases h
  rw [E.all_length] at hj
  have hp := E.pos
  have hi : j / E.size < l.length := (Nat.div_lt_iff_lt_mul hp).2 hj
  have hr : j % E.size < E.size := Nat.mod_lt _ hp
  have e : j = j / E.size * E.size + j % E.size := by rw [Nat.mul_comm]; exact (Nat.div_add_mod j E.size).symm
  have h2 := E.all_get l (j / E.size) hi (j % E.size) hr
  rw [← e] at h2
  exact ⟨j / E.size, j % E.size, hi, hr, e, h2.symm.trans h⟩

set_option maxRecDepth 100000 in
/-- A slice that came in. -/
theorem open_list {α : Type} [Inhabited α] (E : Enc Tryd.prog α) (good : α → Prop) (hsz : Tryd.prog.cellsOf E.elem = E.size)
    (hel : ∀ fuel cs x, cs.length = E.size → DataW.trod enc Tryd.prog w base spare held fuel E.elem cs = some x → ∃ a, cs = E.cells a ∧ good a)
    {r : Go.Reach} {b0 : Nat} {v : Value} {d : DataW H} {ps : List MemPlace} (hval : Value.okWide Tryd.prog w r b0 E.slice v) (hd : DataW.Trod enc Tryd.prog w base spare held E.slice v d ps) :
    ∃ l : List α, Reads E w v l ∧ l.length ≤ maxLen ∧ ∀ a ∈ l, good a := by
  obtain ⟨a, len, cap, rfl⟩ := okWide_slice E.und hval
  obtain ⟨fuel, hf⟩ := hd
  rcases Deep.open_slice E.und hf with ⟨hcs, hx⟩ | ⟨ad, len', cap', m, n, D, Pl, hcs, _, hl, hm, hmm, hx, hall⟩
  · have hcs' : Value.slice a len cap = .slice none 0 0 := by simpa [Value.cells] using hcs
    rw [hcs']
    exact ⟨[], .inl ⟨rfl, rfl⟩, Nat.zero_le _, fun _ h => by cases h⟩
  · have hcs' : Value.slice a len cap = .slice (some ad) len' cap' := by simpa [Value.cells] using hcs
    rw [hcs']
    have hle : len' ≤ m := by rw [hmm]; split <;> omega
    have hall2 : ∀ i, i < len' → ∃ f : α, (∀ j, j < E.size → w.cell? (ad.add (i * E.size + j)) = (E.cells f)[j]?) ∧ good f := fun i hi => by
      obtain ⟨cs', h1, h2⟩ := hall i (by omega)
      rw [hsz] at h1
      obtain ⟨_, hlen, hc⟩ := World.cells?_some h1
      obtain ⟨f, rfl, hg⟩ := hel _ _ _ hlen h2
      refine ⟨f, fun j hj => ?_, hg⟩
      have h3 := hc j hj
      rwa [Addr.add_add] at h3
    obtain ⟨F, hF⟩ := Deep.choose_lt (α := α) hall2
    refine ⟨(List.range len').map F, .inr ⟨ad, cap', by simp, fun j u hj => ?_⟩, by simp; omega, fun x hx => ?_⟩
    · obtain ⟨i, q, hi, hq, rfl, hu⟩ := E.all_at _ j u hj
      have hi' : i < len' := by simpa using hi
      rw [(hF i hi').1 q hq]
      simpa using hu
    · obtain ⟨i, hi, rfl⟩ := List.mem_map.1 hx
      exact (hF i (List.mem_range.1 hi)).2

set_option maxRecDepth 100000 in
theorem open_ints_list {r : Go.Reach} {b0 : Nat} {v : Value} {d : DataW H} {ps : List MemPlace} (hval : Value.okWide Tryd.prog w r b0 25 v) (hd : DataW.Trod enc Tryd.prog w base spare held 25 v d ps) :
    ∃ l : List Int, Reads encI w v l ∧ l.length ≤ maxLen ∧ ∀ a ∈ l, (Lit.int .i64 a).wf = true :=
  open_list encI (fun a => (Lit.int .i64 a).wf = true) Tryd.cellsOfInt (fun fuel cs x _ h => by
    obtain ⟨n, e, _, hw⟩ := DataW.trod_int Tryd.underlying3 h
    exact ⟨n, e, hw⟩) hval hd
end

end Go.Proofs.YtbackhbcbbkhfaaDoor
