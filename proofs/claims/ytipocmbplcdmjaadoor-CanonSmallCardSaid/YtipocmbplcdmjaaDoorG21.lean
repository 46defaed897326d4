/-
  Texts of this proof, one behind the other: Plain, OrdEq, CanonS, Inst14, Open, Open3.
-/
import Derived.Test.YtipocmbplcdmjaaDoorG6
import Derived.Test.YtipocmbplcdmjaaDoorG2
import Derived.OwnWalk
import Derived.ChangeKeysEq
import Derived.WalkKit
import Derived.KernelRfl
import Derived.Test.YtipocmbplcdmjaaDoorG18
import Derived.Test.YtipocmbplcdmjaaDoorG19
import Derived.Test.YtipocmbplcdmjaaDoorG20
import Derived.Test.YtipocmbplcdmjaaDoorG11
import Derived.Test.YtipocmbplcdmjaaDoorG17
import Derived.Test.YtipocmbplcdmjaaDoorRows
import Derived.Test.YtipocmbplcdmjaaDoorG14
import Derived.ProofKit
import Derived.OpenShut
import Derived.LaidLaws
import Derived.ChangeVars
import Derived.Laws.IdiomArrays
import Derived.Stop.Joined
import Derived.Deep.Slices
import Derived.Carry
import Derived.SizedLaws
/-
  The document's plain order.
-/
namespace Go.Proofs.YtipocmbplcdmjaaDoor
open Go Go.RowKit

set_option maxRecDepth 100000 in
theorem refPlain (w : World) : Calls Tryd.prog 10 #[] w fun e w' => e = .returned (.agg #[.int .i64 0, .int .i64 1, .int .i64 2, .int .i64 3, .int .i64 4, .int .i64 5, .int .i64 6, .int .i64 7]) ∧ Below w.heap.size w w' := by
  go_enter Tryd.func10, Tryd.ntmps10
  go_wp2
  exact bodyPost_ret (ret_holdsO Tryd.results10 rfl (o := plainO) (HoldsO.new w plainO w.heap.size)) rfl ⟨rfl, by go_grown⟩

end Go.Proofs.YtipocmbplcdmjaaDoor

/-
  Orders compared.
-/
namespace Go.Proofs.YtipocmbplcdmjaaDoor
open Go Go.RowKit

theorem run_equal_same (d : Nat) (a0 a1 a2 a3 a4 a5 a6 a7 : Int) (w : World) : (Op.equalIn (d + 1 + 1) 37 (.agg #[.int .i64 a0, .int .i64 a1, .int .i64 a2, .int .i64 a3, .int .i64 a4, .int .i64 a5, .int .i64 a6, .int .i64 a7]) (.agg #[.int .i64 a0, .int .i64 a1, .int .i64 a2, .int .i64 a3, .int .i64 a4, .int .i64 a5, .int .i64 a6, .int .i64 a7])).run Tryd.prog w = .ok true w := by
  obtain ⟨i, hi⟩ : ∃ i, Tryd.prog.info? 3 = some i := info_of_underlying Tryd.underlying3
  rw [run_equalIn_array w (d + 1) _ _ Tryd.underlying37 hi]
  have hc : Tryd.prog.cellsOf 3 = 1 := by kernel_rfl
  have hr : List.range 8 = [0, 1, 2, 3, 4, 5, 6, 7] := rfl
  rw [hc, hr]
  have hq : ∀ (w : World) (a b : Int), (Op.equalIn (d + 1) 3 (.int .i64 a) (.int .i64 b)).run Tryd.prog w = .ok (a == b) w := fun w a b => run_equalIn_int w d _ _ _ _ _ Tryd.underlying3
  simp [Op.eqItems, part, go_sem, hq]

theorem run_guard_order (op : BinOp) (x y : Operand) (a b : Array Value) (w : World) : (eqGuard op 37 x y (.agg a) (.agg b)).run Tryd.prog w = .ok () w :=
  run_eqGuard_agg w op _ x y _ _ (by kernel_rfl)
theorem run_equal_same' (a0 a1 a2 a3 a4 a5 a6 a7 : Int) (w : World) : (Op.equalIn 10000 37 (.agg #[.int .i64 a0, .int .i64 a1, .int .i64 a2, .int .i64 a3, .int .i64 a4, .int .i64 a5, .int .i64 a6, .int .i64 a7]) (.agg #[.int .i64 a0, .int .i64 a1, .int .i64 a2, .int .i64 a3, .int .i64 a4, .int .i64 a5, .int .i64 a6, .int .i64 a7])).run Tryd.prog w = .ok true w := run_equal_same 9998 _ _ _ _ _ _ _ _ w

end Go.Proofs.YtipocmbplcdmjaaDoor

/-
  CanonSmall over contracts.
-/
namespace Go.Proofs.YtipocmbplcdmjaaDoor
open Go Go.RowKit
attribute [local go_sem] run_eql_fv run_eql_fv1 run_neq_fv run_neq_fv1 run_guard_fv run_guard_fv1 run_eql_fv2 run_guard_fv2 run_equal_fv2 run_equal_same' run_guard_order

/-- A store and a list beside it. -/
structure PL (StAt : World → Nat → (Nat → Prop) → MS → Prop) (w0 : World) (b : Nat) (F : Nat → Prop) (s : MS) (v : Value) (l : List Int) (W : World) : Prop where
  a : StAt W b F s
  lowF : ∀ q, F q → w0.heap.size ≤ q
  m : Mine encI w0 F v l W
  below : Below w0.heap.size w0 W
section
variable {StAt : World → Nat → (Nat → Prop) → MS → Prop} {w0 W W' : World} {b : Nat} {F F' : Nat → Prop} {s t : MS} {v v' : Value} {l l' : List Int}
theorem PL.keep (H : StoreC StAt) (h : PL StAt w0 b F s v l W) (hb : Below W.heap.size W W') : PL StAt w0 b F s v l W' := ⟨H.below h.a hb, h.lowF, h.m.below hb, h.below.trans (hb.mono h.below.size)⟩
theorem PL.store (h : PL StAt w0 b F s v l W) (hA : StAt W' b F' t) (hK : Keeps F W W') (hW : Within W F F') : PL StAt w0 b F' t v l W' :=
  ⟨hA, fun q hq => (hW q hq).elim (h.lowF q) (fun h3 => Nat.le_trans h.below.size h3), h.m.store hK hW, h.below.trans (hK.below h.below.size h.lowF)⟩
theorem PL.push (H : StoreC StAt) (h : PL StAt w0 b F s v l W) (hown : Owns encI W' v' l') (hg : W.grownBy W' v.ownBlock) (hat : v'.ownBlock = v.ownBlock ∨ v'.ownBlock = some W.heap.size) : PL StAt w0 b F s v' l' W' :=
  ⟨H.keep h.a (Keeps.of_grown (F := fun q => v.ownBlock = some q) hg fun _ e => e) (fun q h1 h2 => h.m.out q h2 h1), h.lowF, h.m.push h.below.size (H.lt h.a) hown hat, h.below.grown hg h.below.size fun g hg => h.m.low g hg⟩
end

set_option maxRecDepth 100000 in
set_option maxHeartbeats 8000000 in
theorem canonSmall' {StAt : World → Nat → (Nat → Prop) → MS → Prop} (H : StoreC StAt) (R : ReadC StAt) (C : CanonC StAt) (hUp : ∀ W, LowW W → Calls Tryd.prog 4 #[] W fun e w' => e = .returned (.bool true) ∧ Below W.heap.size W w')
    (l : List Fn) (swaps : List Int) (vl vs : Value) (w : World) (hL : LowW w) (hl : SliceF w vl l) (hs : Reads encI w vs swaps) (hwf : ∀ n ∈ swaps, (Lit.int .i64 n).wf = true) :
    Calls Tryd.prog 3 #[vl, vs] w fun e w' => e = .returned (.bool true) ∧ Below w.heap.size w w' := by
  obtain ⟨al, cl, rfl⟩ := hl.form
  obtain ⟨aw, cw, rfl⟩ := hs.form
  go_enter Tryd.func3, Tryd.ntmps3
  go_wp2_with fail
  refine (hUp _ hL).mono ?_
  rintro e w1 ⟨rfl, hb1⟩
  replace hL := hL.keep hb1
  replace hl := hl.keep hb1 (Nat.le_refl _)
  replace hs := hs.keep hb1
  clear hUp
  go_wp2_with fail
  refine (H.new 2000 w1 (by decide) (by decide)).mono ?_
  rintro e w2 ⟨b, rfl, ⟨F, hA, hF⟩, hb2⟩
  rw [show (2000 : Int).toNat = 2000 from rfl, show MS.none 2000 = MS.empty 2000 plainO from rfl] at hA
  have P : PL StAt w1 b F (MS.empty 2000 plainO) (.slice none 0 0) [] w2 := ⟨hA, hF, Mine.nil _ _ _ _, hb2⟩
  clear hA hF hb2
  by_cases hn6 : l.length ≤ 6
  · have hl3 : ¬ 6 < (l.length : Int) := by omega
    by_cases hn30 : swaps.length ≤ 30
    · have hl4 : ¬ 30 < (swaps.length : Int) := by omega
      replace P := Lib.hid P
      replace hL := Lib.hid hL
      replace hl := Lib.hid hl
      replace hs := Lib.hid hs
      go_wp2
      go_loopw [8] (fun i wr => ∃ (k : Nat) (o : Nat → Int) (F : Nat → Prop), k ≤ swaps.length ∧ i = .int .i64 k ∧ mayO o = true ∧ PL StAt w1 b F (MS.empty 2000 o) (.slice none 0 0) [] wr) (fun i _ => swaps.length - (intOf i).toNat)
      case atStart => exact ⟨0, plainO, F, Nat.zero_le _, rfl, plainO_may, P.out⟩
      case round =>
        clear P
        obtain ⟨k, o, F, hk, rfl, may, P⟩ := hrel
        by_cases hlt : k < swaps.length
        · obtain ⟨ad, rfl, hc⟩ := (hs.out.keep P.below).intAt k hlt
          have hwk := hwf _ (List.getElem_mem hlt)
          have hk0 : (0 : Int) ≤ (k : Int) := by omega
          have hk1 : (k : Int) < (swaps.length : Int) := by omega
          generalize swaps[k] = m at *
          have HP := fun U => lawPick m 7 U (by decide) (by decide) hwk
          have m0 := Int.emod_nonneg m (show (7 : Int) ≠ 0 by decide)
          have m1 := Int.emod_lt_of_pos m (show (0 : Int) < 7 by decide)
          generalize m % 7 = q at *
          have HS := H.swap P.a (MS.empty_ok 2000 (by decide) may) q
          rw [MS.empty_swap 2000 o m0 (by omega)] at HS
          have may' : mayO (swapO o q) = true := by rw [swapO_may]; exact may
          dsimp only at HS
          rw [errV0] at HS
          replace P := Lib.hid P
          replace may' := Lib.hid may'
          go_wp2_with fail
          refine (HP _).mono ?_
          rintro e w7 ⟨rfl, rfl⟩
          go_wp2_with fail
          refine HS.mono ?_
          rintro e w8 ⟨rfl, F6, hSt, hK, hW⟩
          have P6 := Lib.hid (P.out.store hSt hK hW)
          clear HS HP P hSt hK hW hc
          go_wp2
          exact ⟨⟨k + 1, _, F6, by omega, by go_num, may'.out, P6.out⟩, by simp [intOf]; omega⟩
        · obtain rfl : k = swaps.length := by omega
          clear hlt hk hs hwf
          have X := MS.Fits.empty (show 2000 ≤ 20000 by decide) may
          generalize MS.empty 2000 o = s at *
          replace P := Lib.hid P
          replace X := Lib.hid X
          go_wp2
          go_loopw [7, 9] (fun vr i wr => ∃ (j : Nat) (s : MS) (F : Nat → Prop) (lr : List Int) (fs : List Fn), j ≤ l.length ∧ i = .int .i64 j ∧ s.Fits fs o 2000 ∧ fs.length = j ∧ PL StAt w1 b F s vr lr wr ∧ Are s lr (l.take j) ∧ lr.length = j) (fun _ i _ => l.length - (intOf i).toNat)
          case atStart => exact ⟨0, s, F, [], [], Nat.zero_le _, rfl, X.out, rfl, P.out, by simpa using Are.nil s, rfl⟩
          case round =>
            clear P X may
            obtain ⟨j, s, F, lr, fs, hj, rfl, X, hfs, P, hA, hlr⟩ := hrel
            by_cases hlt : j < l.length
            · have hj0 : (0 : Int) ≤ (j : Int) := by omega
              have hj1 : (j : Int) < (l.length : Int) := by omega
              obtain ⟨ad, rfl, c0, c1, c2, c3⟩ := (hl.out.keep P.below (Nat.le_refl _)).fnAt j hlt
              have htk : l.take (j + 1) = l.take j ++ [l[j]] := List.take_succ_eq_append_getElem hlt
              generalize l[j] = f at *
              obtain ⟨n, s1, hr, X1, E1, tn, en⟩ := X.bld f (by omega)
              have BA := R.build (hL.out.keep P.below) (fun k hk => Nat.lt_of_lt_of_le hL.out.pos (P.lowF k hk)) P.a X.ok f
              rw [hr] at BA
              dsimp only at BA
              simp only [fv, errV0] at BA
              have hA2 := (hA.grows (MS.Grows.of_ext E1 X.ok X1.ok)).snoc tn en
              rw [← htk] at hA2
              replace P := Lib.hid P
              replace hA2 := Lib.hid hA2
              replace X1 := Lib.hid X1
              clear X hA hr E1 tn en htk
              go_wp2_with fail
              refine BA.mono ?_
              rintro e w3 ⟨rfl, F2, hSt, hK, hW⟩
              replace P := P.out.store hSt hK hW
              clear BA hSt hK hW c0 c1 c2 c3
              have hln : lr.length + [n].length ≤ 1000000 := by simp; omega
              have hsrc := oneI w3 n w3.heap.size rfl
              have P1 := P.keep H ((Below.refl w3.heap.size w3).alloc (Nat.le_refl _) (.cells #[.int .i64 n] 3))
              have hown := P1.m.own
              replace P1 := Lib.hid P1
              clear P
              go_wp2_with (at_builtin; refine appendI rfl (.tmp 70) (.tmp 72) rfl _ _ lr [n] rfl hown rfl hsrc hln ?_; intro v1 w4 hown1 hgr hat; have P2 := Lib.hid (P1.out.push H hown1 hgr hat); clear hown1 hgr hat)
              exact ⟨⟨j + 1, s1, F2, lr ++ [n], f :: fs, by omega, by go_num, X1.out, by simp [hfs], P2.out, hA2.out, by simp [hlr]⟩, by simp [intOf]; omega⟩
            · obtain rfl : j = l.length := by omega
              rw [List.take_length] at hA
              have hso := X.ok
              clear X hlt hj
              obtain ⟨gr, cr, rfl⟩ : ∃ a c, u7 = .slice a l.length c := by obtain ⟨a, c, e, _⟩ := P.m.own.form; exact ⟨a, c, by rw [e, hlr]⟩
              have hPl := fun V => refPlain V
              have hov : ov plainO = .agg #[.int .i64 0, .int .i64 1, .int .i64 2, .int .i64 3, .int .i64 4, .int .i64 5, .int .i64 6, .int .i64 7] := rfl
              have HSz := fun V (hb : Below w1.heap.size w1 V) => refSize l plainO _ V (hl.out.keep hb (Nat.le_refl _)) (by omega)
              rw [hov] at HSz
              have hN := size_77s plainO plainO_may l
              obtain ⟨ns, t, hcan, I, htl, htr, hto⟩ := MS.Ok.canon_small s lr (by rw [hA.2]; omega) hA.1
              have hless := fun h1 => MS.Ok.canon_less s lr (by rw [hA.2]; omega) h1 hA.1
              have hrw : ∀ r ∈ lr, r ≤ 9223372036854775807 ∧ -9223372036854775808 ≤ r := fun r hr => hso.toBase.there_i64 (hA.1 r hr)
              rw [hA.2] at hcan htl hless
              have CC := fun V F (hl : LowW V) (hSt : StAt V b F s) hr => C.canon hl hSt hso (sizeF l plainO) lr (.slice gr l.length cr) (by omega) hr (by omega) hrw
              rw [hcan] at CC
              have CL := fun V F (hl : LowW V) (hSt : StAt V b F s) hr => C.canon hl hSt hso ((sizeF l plainO : Int) - 1) lr (.slice gr l.length cr) (by omega) hr (by omega) hrw
              generalize s.canon ((sizeF l plainO : Int) - 1) lr = less at *
              obtain ⟨less0, less1, less2⟩ := less
              dsimp only at hless
              have hnl : ns.length = l.length := by have := I.len rfl; dsimp only at this; omega
              have hnt : ∀ (i : Nat) (h : i < ns.length) (h' : i < lr.length) (hl : i < l.length), t.there ns[i] = true ∧ t.tab ns[i] = l[i] ∧ s.there lr[i] = true ∧ s.tab lr[i] = l[i] := fun i h h' hl => by
                obtain ⟨a1, a2⟩ := I.num rfl i h' h
                have e := hA.at i h' hl
                exact ⟨a1, a2.trans e.symm, hA.1 _ (List.getElem_mem h'), e.symm⟩
              have okt : t.Ok := I.ok
              generalize sizeF l plainO = N at *
              replace P := Lib.hid P
              replace hA := Lib.hid hA
              replace hnt := Lib.hid hnt
              replace okt := Lib.hid okt
              replace hso := Lib.hid hso
              clear I hcan hrw
              go_wp2_with fail
              refine (hPl _).mono ?_
              rintro e w7 ⟨rfl, hb7⟩
              replace P := Lib.hid (P.out.keep H hb7)
              clear hb7
              go_wp2_with fail
              refine (HSz _ P.out.below).mono ?_
              rintro e w8 ⟨rfl, hb7⟩
              replace P := Lib.hid (P.out.keep H hb7)
              clear hb7 HSz
              go_wp2_with fail
              refine (CC _ _ (hL.out.keep P.out.below) P.out.a (P.out.m.own.reads)).mono ?_
              rintro e w9 (⟨_, b2, F2, v2, rfl, hSt, hF2, hown, hog, hb7⟩ | ⟨h, _⟩)
              case inr => exact absurd rfl h
              have P2 : PL StAt w1 b2 F2 t v2 ns w9 := ⟨hSt, fun q hq => Nat.le_trans P.out.below.size (hF2 q hq), ⟨hown, fun g hg => Nat.le_trans P.out.below.size (hog g hg).1, fun g hg => (hog g hg).2⟩, P.out.below.trans (hb7.mono P.out.below.size)⟩
              replace P := Lib.hid (P.out.keep H hb7)
              replace P2 := Lib.hid P2
              clear CC hSt hF2 hown hog hb7
              obtain ⟨g2, c2, rfl⟩ : ∃ a c, v2 = .slice a l.length c := by obtain ⟨a, c, e, _⟩ := P2.out.m.own.form; exact ⟨a, c, by rw [e, hnl]⟩
              have HTa := fun V (hL : LowW V) (hV : StAt V b F s) (n : Int) hn => R.table hL hV hso.out n hn
              have HTb := fun V (hL : LowW V) (hV : StAt V b2 F2 t) (n : Int) hn => R.table hL hV okt.out n hn
              have HLv := fun V (hV : StAt V b2 F2 t) => H.live hV okt.out
              have HRm := fun V (hV : StAt V b2 F2 t) => H.room hV okt.out
              have HOr := fun V (hV : StAt V b2 F2 t) => H.order hV okt.out
              rw [htl] at HLv
              rw [htr] at HRm
              rw [hto, hov] at HOr
              clear htl htr hto hov
              go_wp2
              go_loopw [16] (fun i wr => ∃ k : Nat, k ≤ l.length ∧ i = .int .i64 k ∧ PL StAt w1 b F s (.slice gr l.length cr) lr wr ∧ PL StAt w1 b2 F2 t (.slice g2 l.length c2) ns wr) (fun i _ => l.length - (intOf i).toNat)
              case atStart => exact ⟨0, Nat.zero_le _, rfl, P.out, P2.out⟩
              case round =>
                clear P P2
                obtain ⟨k, hk, rfl, P, P2⟩ := hrel
                by_cases hlt : k < l.length
                · have hk0 : (0 : Int) ≤ (k : Int) := by omega
                  have hk1 : (k : Int) < (l.length : Int) := by omega
                  have hlt2 : k < lr.length := by omega
                  have hlt3 : k < ns.length := by omega
                  obtain ⟨g1, rfl⟩ : ∃ g, gr = some ⟨g, 0, none⟩ := by obtain ⟨g, c, e, _⟩ := P.m.intAt k hlt2; injection e with e; exact ⟨g, e⟩
                  obtain ⟨g3, rfl⟩ : ∃ g, g2 = some ⟨g, 0, none⟩ := by obtain ⟨g, c, e, _⟩ := P2.m.intAt k hlt3; injection e with e; exact ⟨g, e⟩
                  have x0 := fun z : Sub wr => (show z.1.cell? ⟨g1, k, none⟩ = some (.int .i64 lr[k]) by obtain ⟨g', c', e', h'⟩ := (P.keep H z.2).m.intAt k hlt2; injection e' with e' _ _; cases e'; exact h')
                  have x1 := fun z : Sub wr => (show z.1.cell? ⟨g3, k, none⟩ = some (.int .i64 ns[k]) by obtain ⟨g', c', e', h'⟩ := (P2.keep H z.2).m.intAt k hlt3; injection e' with e' _ _; cases e'; exact h')
                  obtain ⟨ad, rfl, _⟩ := (hl.out.keep P.below (Nat.le_refl _)).fnAt k hlt
                  have yy := fun z : Sub wr => (show z.1.cell? (ad.add (k * 4)) = some (.int .u64 (wd l[k] 0)) ∧ z.1.cell? ⟨(ad.add (k * 4)).block, (ad.add (k * 4)).off + 1, none⟩ = some (.int .u64 (wd l[k] 1)) ∧
                      z.1.cell? ⟨(ad.add (k * 4)).block, (ad.add (k * 4)).off + 2, none⟩ = some (.int .u64 (wd l[k] 2)) ∧ z.1.cell? ⟨(ad.add (k * 4)).block, (ad.add (k * 4)).off + 3, none⟩ = some (.int .u64 (wd l[k] 3)) by
                    obtain ⟨ad', e', h2⟩ := (hl.out.keep (P.below.trans (z.2.mono P.below.size)) (Nat.le_refl _)).fnAt k hlt
                    cases e'; exact h2)
                  have y0 := fun z => (yy z).1
                  have y1 := fun z => (yy z).2.1
                  have y2 := fun z => (yy z).2.2.1
                  have y3 := fun z => (yy z).2.2.2
                  obtain ⟨t1, t2, t3, t4⟩ := hnt.out k hlt3 hlt2 hlt
                  have J1 := fun z : Sub wr => HTb z.1 (hL.out.keep (P2.below.trans (z.2.mono P2.below.size))) (P2.keep H z.2).a ns[k] (okt.out.toBase.there_i64 t1)
                  have J2 := fun z : Sub wr => HTa z.1 (hL.out.keep (P.below.trans (z.2.mono P.below.size))) (P.keep H z.2).a lr[k] (hso.out.toBase.there_i64 t3)
                  rw [t2] at J1
                  rw [t4] at J2
                  generalize lr[k] = n at *
                  generalize ns[k] = m at *
                  generalize l[k] = f at *
                  replace P := Lib.hid P
                  replace P2 := Lib.hid P2
                  clear t1 t2 t3 t4 HTa HTb HLv HRm HOr CL hless hPl hnl hlr yy
                  go_wp2
                  refine wp_region_quiet_all (C := fun w' => ∃ u : Sub wr, w' = u.1) (by kernel_rfl) (by kernel_rfl) (InSub.drew wr) ?_
                  iterate 5 (go_big_quiet_step (fail))
                  go_big_quiet_step (exact subBelow (J1 _))
                  iterate 11 (go_big_quiet_step (fail))
                  go_big_quiet_step (exact subBelow (J2 _))
                  iterate 6 (go_big_quiet_step (fail))
                  refine wpQuiet_nil ?_
                  clear x0 x1 y0 y1 y2 y3 J1 J2
                  intro w' hw'
                  obtain ⟨z, rfl⟩ := hw'
                  go_wp2
                  exact ⟨⟨k + 1, by omega, by go_num, P.out.keep H z.2, P2.out.keep H z.2⟩, by simp [intOf]; omega⟩
                · obtain rfl : k = l.length := by omega
                  clear HTa HTb hlt hk
                  replace P := Lib.hid P
                  replace P2 := Lib.hid P2
                  go_wp2_with fail
                  refine (HLv _ P2.out.a).mono ?_
                  rintro e w10 ⟨rfl, hb7⟩
                  replace P := Lib.hid (P.out.keep H hb7)
                  replace P2 := Lib.hid (P2.out.keep H hb7)
                  clear hb7 HLv
                  go_wp2_with fail
                  refine (HRm _ P2.out.a).mono ?_
                  rintro e w11 ⟨rfl, hb7⟩
                  replace P := Lib.hid (P.out.keep H hb7)
                  replace P2 := Lib.hid (P2.out.keep H hb7)
                  clear hb7 HRm
                  go_wp2_with fail
                  refine (HOr _ P2.out.a).mono ?_
                  rintro e w12 ⟨rfl, hb7⟩
                  replace P := Lib.hid (P.out.keep H hb7)
                  clear hb7 HOr P2
                  go_wp2_with fail
                  refine (hPl _).mono ?_
                  rintro e w13 ⟨rfl, hb7⟩
                  replace P := Lib.hid (P.out.keep H hb7)
                  clear hb7
                  by_cases hN0 : N = 0
                  · subst hN0
                    go_wp2
                    go_ret
                    exact ⟨rfl, hb1.trans (P.out.below.mono hb1.size)⟩
                  · have hl2 := hless (by omega)
                    subst hl2
                    have hne : ((N : Int) == 0) = false := by rw [beq_eq_false_iff_ne]; omega
                    have hN5 : (N : Int) ≤ 1000 := by omega
                    have hN1 : (1 : Int) ≤ (N : Int) := by omega
                    clear hless
                    go_wp2_with fail
                    refine (CL _ _ (hL.out.keep P.out.below) P.out.a (P.out.m.own.reads)).mono ?_
                    rintro e w14 (⟨h, _⟩ | ⟨_, a3, c3, rfl, hb7⟩)
                    case inl => cases h
                    replace P := Lib.hid (P.out.keep H hb7)
                    clear hb7 CL
                    have HC := fun V => lawCode 2 V (by decide) (by decide)
                    go_wp2_with fail
                    refine (HC _).mono ?_
                    rintro e w15 ⟨rfl, rfl⟩
                    go_wp2
                    go_ret
                    exact ⟨rfl, hb1.trans (P.out.below.mono hb1.size)⟩
    · have hl4 : 30 < (swaps.length : Int) := by omega
      go_wp2
      go_ret
      exact ⟨rfl, hb1.trans (P.below.mono hb1.size)⟩
  · have hl3 : 6 < (l.length : Int) := by omega
    go_wp2
    go_ret
    exact ⟨rfl, hb1.trans (P.below.mono hb1.size)⟩

end Go.Proofs.YtipocmbplcdmjaaDoor

/-
  The laws of layer 14 over the landed code.
-/
namespace Go.Proofs.YtipocmbplcdmjaaDoor
open Go Go.RowKit

theorem canonSmall (l : List Fn) (swaps : List Int) (vl vs : Value) (w : World) (hL : LowW w) (hl : SliceF w vl l) (_ : l.length ≤ maxLen) (hs : Reads encI w vs swaps) (_ : swaps.length ≤ maxLen) (hwf : ∀ n ∈ swaps, (Lit.int .i64 n).wf = true) :
    Calls Tryd.prog 3 #[vl, vs] w fun e w' => e = .returned (.bool true) ∧ Below w.heap.size w w' :=
  canonSmall' storeC (readC storeC) (canonC storeC (readC storeC)) (fun W hW => up14 storeC (canonC storeC (readC storeC)) W hW) l swaps vl vs w hL hl hs hwf

end Go.Proofs.YtipocmbplcdmjaaDoor

/-
  How a function of eight variables comes in and reads; the table of words as it is laid.
-/
namespace Go.Proofs.YtipocmbplcdmjaaDoor
open Go Go.ChangeShapes Go.WideShapes Go.ChangeAt Go.RowKit

/-- The function of four words. -/
def ofWords (a b c d : Nat) : Fn := ofRow fun x => if x < 64 then a.testBit x else if x < 128 then b.testBit (x - 64) else if x < 192 then c.testBit (x - 128) else d.testBit (x - 192)

set_option maxRecDepth 100000 in
theorem wd_of_bits (f : Fn) (i a : Nat) (ha : a < 2 ^ 64) (h : ∀ j, j < 64 → f.getLsbD (64 * i + j) = a.testBit j) : wd f i = a := by
  refine Nat.eq_of_testBit_eq fun j => ?_
  unfold wd
  rw [BitVec.testBit_toNat, BitVec.getLsbD_extractLsb']
  by_cases hj : j < 64
  · rw [h j hj]; simp [hj]
  · have : a.testBit j = false := Nat.testBit_lt_two_pow (Nat.lt_of_lt_of_le ha (Nat.pow_le_pow_right (by decide) (by omega)))
    rw [this]; simp [hj]

set_option maxRecDepth 100000 in
theorem wd_ofWords (a b c d : Nat) (ha : a < 2 ^ 64) (hb : b < 2 ^ 64) (hc : c < 2 ^ 64) (hd : d < 2 ^ 64) :
    wd (ofWords a b c d) 0 = a ∧ wd (ofWords a b c d) 1 = b ∧ wd (ofWords a b c d) 2 = c ∧ wd (ofWords a b c d) 3 = d := by
  refine ⟨wd_of_bits _ _ _ ha fun j hj => ?_, wd_of_bits _ _ _ hb fun j hj => ?_, wd_of_bits _ _ _ hc fun j hj => ?_, wd_of_bits _ _ _ hd fun j hj => ?_⟩
  · rw [ofWords, ofRow_bit _ _ (by omega), if_pos (by omega), show 64 * 0 + j = j by omega]
  · rw [ofWords, ofRow_bit _ _ (by omega), if_neg (by omega), if_pos (by omega), show 64 * 1 + j - 64 = j by omega]
  · rw [ofWords, ofRow_bit _ _ (by omega), if_neg (by omega), if_neg (by omega), if_pos (by omega), show 64 * 2 + j - 128 = j by omega]
  · rw [ofWords, ofRow_bit _ _ (by omega), if_neg (by omega), if_neg (by omega), if_neg (by omega), show 64 * 3 + j - 192 = j by omega]

set_option maxRecDepth 100000 in
theorem Tryd.cellsF : Tryd.prog.cellsOf 35 = 4 := by kernel_rfl
set_option maxRecDepth 100000 in
theorem Tryd.cellsU : Tryd.prog.cellsOf 33 = 1 := by kernel_rfl
set_option maxRecDepth 100000 in
theorem Tryd.own : ownKnob Tryd.prog.godebug = none := by kernel_rfl

set_option maxRecDepth 100000 in
theorem list4 {α : Type} (l : List α) (h : (⟨l⟩ : Array α).size = 4) : ∃ a b c d, l = [a, b, c, d] := by
  match l, h with
  | [a, b, c, d], _ => exact ⟨a, b, c, d, rfl⟩

set_option maxRecDepth 100000 in
theorem wf_u64 {n : Int} (h : (Lit.int .u64 n).wf = true) : ∃ m : Nat, n = (m : Int) ∧ m < 2 ^ 64 := by
  simp [Lit.wf, IntKind.min, IntKind.max, IntKind.signed, IntKind.bits] at h
  exact ⟨n.toNat, by omega, by omega⟩

section
variable {H : Type} {enc : TypeId × Value → H} {w : World} {base : Nat} {spare : Nat → Bool} {held : Bool}

end

/-- The table's cells. -/
def lowCells : Array Value := #[.int .u64 12297829382473034410, .int .u64 14757395258967641292, .int .u64 17361641481138401520, .int .u64 18374966859414961920, .int .u64 18446462603027742720, .int .u64 18446744069414584320]

set_option maxRecDepth 100000 in
theorem Tryd.low : Tryd.prog.globalNamed "bower/tab.lowWords" = some 0 := by kernel_rfl
set_option maxRecDepth 100000 in
theorem Tryd.lowType : (Tryd.prog.globals[0]?).map (·.type) = some 108 := by kernel_rfl
set_option maxRecDepth 100000 in
theorem Tryd.cellsLow : Tryd.prog.cellsOf 108 = 6 := by kernel_rfl

set_option maxRecDepth 100000 in
theorem list6 {α : Type} (l : List α) (h : l.length = 6) : ∃ a b c d e f, l = [a, b, c, d, e, f] := by
  match l, h with
  | [a, b, c, d, e, f], _ => exact ⟨a, b, c, d, e, f, rfl⟩

set_option maxRecDepth 100000 in
theorem low_of_laid {W : World} (h : laidMet Tryd.prog [("bower/tab.lowWords", Rows.laid_bower_tab_lowWords)] W) : W.var? Tryd.prog "bower/tab.lowWords" = some lowCells := by
  obtain ⟨ps, ⟨g, t, cs, fuel, p, q, hg, ht, hvar, hd, _, _⟩, _⟩ := h
  obtain rfl := Option.some.inj (Tryd.low.symm.trans hg)
  obtain rfl := Option.some.inj (Tryd.lowType.symm.trans ht)
  rw [hvar]
  congr 1
  obtain ⟨l⟩ := cs
  cases fuel with
  | zero => simp [DataW.trod] at hd
  | succ fuel =>
    simp only [DataW.trod, Tryd.underlying108, Tryd.cellsLow, Tryd.cellsU] at hd
    split at hd
    · rename_i hl
      obtain ⟨c0, c1, c2, c3, c4, c5, rfl⟩ := list6 l (by simpa using hl)
      have e : List.range 6 = [0, 1, 2, 3, 4, 5] := rfl
      rw [e] at hd
      simp only [Option.map_eq_some_iff, List.mapM_cons, List.mapM_nil, Option.bind_eq_bind, Option.bind_eq_some_iff, Option.pure_def, Option.some.injEq] at hd
      obtain ⟨xs, ⟨y0, h0, _, ⟨y1, h1, _, ⟨y2, h2, _, ⟨y3, h3, _, ⟨y4, h4, _, ⟨y5, h5, _, rfl, rfl⟩, rfl⟩, rfl⟩, rfl⟩, rfl⟩, rfl⟩, hx⟩ := hd
      obtain ⟨n0, e0, rfl, _⟩ := DataW.trod_int Tryd.underlying33 h0
      obtain ⟨n1, e1, rfl, _⟩ := DataW.trod_int Tryd.underlying33 h1
      obtain ⟨n2, e2, rfl, _⟩ := DataW.trod_int Tryd.underlying33 h2
      obtain ⟨n3, e3, rfl, _⟩ := DataW.trod_int Tryd.underlying33 h3
      obtain ⟨n4, e4, rfl, _⟩ := DataW.trod_int Tryd.underlying33 h4
      obtain ⟨n5, e5, rfl, _⟩ := DataW.trod_int Tryd.underlying33 h5
      simp at e0 e1 e2 e3 e4 e5
      subst e0 e1 e2 e3 e4 e5
      simp [Rows.laid_bower_tab_lowWords] at hx
      obtain ⟨⟨rfl, rfl, rfl, rfl, rfl, rfl⟩, _⟩ := hx
      rfl
    · cases hd

set_option maxRecDepth 100000 in
theorem lowW_of_laid {W : World} (h : laidMet Tryd.prog [("bower/tab.lowWords", Rows.laid_bower_tab_lowWords)] W) : LowW W := by
  intro i hi
  rw [World.var?_cell Tryd.low (low_of_laid h) i]
  rcases (by omega : i = 0 ∨ i = 1 ∨ i = 2 ∨ i = 3 ∨ i = 4 ∨ i = 5) with rfl | rfl | rfl | rfl | rfl | rfl <;> rfl

/-- A world in which the table is laid. -/
noncomputable def laidWorld (os : Os) : World :=
  { World.holding Tryd.prog os ⟨#[], #[], []⟩ with heap := (World.holding Tryd.prog os ⟨#[], #[], []⟩).heap.modify 0 fun
      | .cells _ t frozen => .cells lowCells t frozen
      | o => o }

set_option maxRecDepth 100000 in
theorem laidWorld_row (os : Os) (args : Array Value) : ((laidWorld os).forCall (fun _ _ => 0) ⟨#[], args, []⟩).memory.heap[0]? = some (.cells lowCells 108 (0, 0)) := by kernel_rfl

set_option maxRecDepth 100000 in
theorem laidWorld_met (os : Os) (args : Array Value) : laidMet Tryd.prog [("bower/tab.lowWords", Rows.laid_bower_tab_lowWords)] ((laidWorld os).forCall (fun _ _ => 0) ⟨#[], args, []⟩).memory :=
  ⟨_, ⟨0, 108, lowCells, 8, [], [], by kernel_rfl, by kernel_rfl, by kernel_rfl, by kernel_rfl, rfl, rfl⟩, by decide, fun b off h => by
    have h' : MemPlace.cell b off ∈ [MemPlace.cell 0 0, .cell 0 1, .cell 0 2, .cell 0 3, .cell 0 4, .cell 0 5] := h
    have hb : b = 0 := by
      simp at h'
      omega
    subst hb
    refine ⟨⟨_, _, laidWorld_row os args⟩, fun u v hc => ?_⟩
    simp only [World.cell?, laidWorld_row os args] at hc
    simp at h'
    rcases h' with rfl | rfl | rfl | rfl | rfl | rfl <;> simp [lowCells] at hc⟩

end Go.Proofs.YtipocmbplcdmjaaDoor

/-
  How slices of functions and orders come in; arguments that read behind a call as they did.
-/
namespace Go.Proofs.YtipocmbplcdmjaaDoor
open Go Go.ChangeShapes Go.WideShapes Go.ChangeAt Go.RowKit

section
variable {H : Type} {enc : TypeId × Value → H}

set_option maxRecDepth 100000 in
theorem trodAll_stays {P : Program} (hl : laidOutB P = true) {W W' : World} (hb : Below W.heap.size W W') : ∀ {ts : List TypeId} {vs : List Value} {ds : List (DataW H)} {ps : List MemPlace}, (∀ t ∈ ts, P.readableRec t = true ∧ t < P.types.size) →
    DataW.TrodAll enc P W 0 (fun _ => true) true ts vs ds ps → (∀ x ∈ ps, x.block < W.heap.size) → DataW.TrodAll enc P W' 0 (fun b => decide (b < W.heap.size)) true ts vs ds ps
  | [], [], [], _, _, h, _ => h
  | _ :: _, _ :: _, _ :: _, _, hT, ⟨p, q, h1, h2, e⟩, hs =>
    ⟨p, q, Below.trod hl (hT _ (List.mem_cons.2 (Or.inl rfl))).1 (hT _ (List.mem_cons.2 (Or.inl rfl))).2 h1 hb (fun x hx => hs x (by rw [e]; exact List.mem_append_left _ hx)),
      trodAll_stays hl hb (fun t ht => hT t (List.mem_cons.2 (Or.inr ht))) h2 (fun x hx => hs x (by rw [e]; exact List.mem_append_right _ hx)), e⟩

variable {w : World} {base : Nat} {spare : Nat → Bool} {held : Bool}

set_option maxRecDepth 100000 in
theorem trod_fn {fuel : Nat} {cs : List Value} {x : DataW H × List MemPlace} (hlen : cs.length = 4) (h : DataW.trod enc Tryd.prog w base spare held fuel 35 cs = some x) :
    ∃ f : Fn, cs = [.int .u64 (wd f 0), .int .u64 (wd f 1), .int .u64 (wd f 2), .int .u64 (wd f 3)] := by
  obtain ⟨c0, c1, c2, c3, rfl⟩ := list4 cs (by simpa using hlen)
  obtain ⟨y0, y1, y2, y3, m, hx, hy0, hy1, hy2, hy3⟩ := trod_array4 Tryd.underlying35 Tryd.cellsU h
  obtain ⟨x0, e0, _, w0⟩ := DataW.trod_int Tryd.underlying33 hy0
  obtain ⟨x1, e1, _, w1⟩ := DataW.trod_int Tryd.underlying33 hy1
  obtain ⟨x2, e2, _, w2⟩ := DataW.trod_int Tryd.underlying33 hy2
  obtain ⟨x3, e3, _, w3⟩ := DataW.trod_int Tryd.underlying33 hy3
  simp at e0 e1 e2 e3
  subst e0 e1 e2 e3
  obtain ⟨a, rfl, ha⟩ := wf_u64 w0
  obtain ⟨b, rfl, hb⟩ := wf_u64 w1
  obtain ⟨c, rfl, hc⟩ := wf_u64 w2
  obtain ⟨e, rfl, he⟩ := wf_u64 w3
  obtain ⟨i0, i1, i2, i3⟩ := wd_ofWords a b c e ha hb hc he
  exact ⟨ofWords a b c e, by rw [i0, i1, i2, i3]⟩

set_option maxRecDepth 100000 in
theorem cellsL_at (l : List Fn) (j : Nat) (u : Value) (h : (cellsL l)[j]? = some u) : ∃ (i r : Nat) (hi : i < l.length), r < 4 ∧ j = i * 4 + r ∧ u = .int .u64 (wd l[i] r) := by
  have hj : j < (cellsL l).length := by
    rcases Nat.lt_or_ge j (cellsL l).length with h' | h'
    · exact h'
    · rw [List.getElem?_eq_none h'] at h; cases h
  rw [cellsL_length] at hj
  have hi : j / 4 < l.length := by omega
  have e : j = j / 4 * 4 + j % 4 := by omega
  have h2 := cellsL_get l (j / 4) hi (j % 4) (by omega)
  rw [← e] at h2
  exact ⟨j / 4, j % 4, hi, by omega, e, Option.some.inj (h.symm.trans h2)⟩

set_option maxRecDepth 100000 in
/-- A slice of functions that came in. -/
theorem open_fns {r : Go.Reach} {b0 : Nat} {v : Value} {d : DataW H} {ps : List MemPlace} (hval : Value.okWide Tryd.prog w r b0 22 v) (hd : DataW.Trod enc Tryd.prog w base spare held 22 v d ps) :
    ∃ l : List Fn, SliceF w v l ∧ l.length ≤ maxLen ∧ ((l = [] ∧ d = .nil) ∨ ∃ xs ys, d = .slice xs ys ∧ xs.length = l.length) := by
  obtain ⟨a, len, cap, rfl⟩ := okWide_slice Tryd.underlying22 hval
  obtain ⟨fuel, hf⟩ := hd
  rcases Deep.open_slice Tryd.underlying22 hf with ⟨hcs, hx⟩ | ⟨ad, len', cap', m, n, D, Pl, hcs, _, hl, hm, hmm, hx, hall⟩
  · have hcs' : Value.slice a len cap = .slice none 0 0 := by simpa [Value.cells] using hcs
    rw [hcs']
    exact ⟨[], .inl ⟨rfl, rfl⟩, Nat.zero_le _, .inl ⟨rfl, congrArg Prod.fst hx⟩⟩
  · have hcs' : Value.slice a len cap = .slice (some ad) len' cap' := by simpa [Value.cells] using hcs
    rw [hcs']
    have hle : len' ≤ m := by rw [hmm]; split <;> omega
    have hall2 : ∀ i, i < len' → ∃ f : Fn, ∀ j, j < 4 → w.cell? (ad.add (i * 4 + j)) = some (.int .u64 (wd f j)) := fun i hi => by
      obtain ⟨cs', h1, h2⟩ := hall i (by omega)
      rw [Tryd.cellsF] at h1
      obtain ⟨_, hlen, hc⟩ := World.cells?_some h1
      obtain ⟨f, rfl⟩ := trod_fn hlen h2
      refine ⟨f, fun j hj => ?_⟩
      have h3 := hc j hj
      rw [Addr.add_add] at h3
      rw [h3]
      rcases (by omega : j = 0 ∨ j = 1 ∨ j = 2 ∨ j = 3) with rfl | rfl | rfl | rfl <;> rfl
    obtain ⟨F, hF⟩ := Deep.choose_lt (α := Fn) hall2
    refine ⟨(List.range len').map F, .inr ⟨ad, cap', by simp, fun j u hj => ?_⟩, by simp; omega, .inr ⟨_, _, congrArg Prod.fst hx, by simp⟩⟩
    obtain ⟨i, q, hi, hq, rfl, rfl⟩ := cellsL_at _ j u hj
    have hi' : i < len' := by simpa using hi
    rw [hF i hi' q hq]
    simp

end

set_option maxRecDepth 100000 in
/-- By the reach. -/
theorem fns_short {H : Type} {ts : List TypeId} {ds : List (DataW H)} (h : (DataW.weightsEach Tryd.prog ts ds).all (· ≤ reachBytes) = true) {j : Nat} {l : List Fn} {d : DataW H} (ht : ts[j]? = some 22) (hd : ds[j]? = some d)
    (hl : (l = [] ∧ d = .nil) ∨ ∃ xs ys, d = .slice xs ys ∧ xs.length = l.length) : l.length ≤ 4611686018427387 := by
  rcases hl with ⟨rfl, _⟩ | ⟨xs, ys, rfl, hx⟩
  · exact Nat.zero_le _
  · have h1 := sized_slice h ht hd Tryd.underlying22
    rw [show Tryd.prog.bytesOf 35 = 32 by kernel_rfl, show reachBytes = 140737488351232 by kernel_rfl] at h1
    omega

end Go.Proofs.YtipocmbplcdmjaaDoor
