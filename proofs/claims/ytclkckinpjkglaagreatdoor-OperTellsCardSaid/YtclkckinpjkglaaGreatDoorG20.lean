/-
  Texts of this proof, one behind the other: Up9, Built9, RefI, IteT, OperT, Inst10, Open.
-/
import Derived.Test.YtclkckinpjkglaaGreatDoorG19
import Derived.Test.YtclkckinpjkglaaGreatDoorG17
import Derived.Test.YtclkckinpjkglaaGreatDoorG18
import Derived.Test.YtclkckinpjkglaaGreatDoorG14
import Derived.Test.YtclkckinpjkglaaGreatDoorG15
import Derived.OwnWalk
import Derived.Test.YtclkckinpjkglaaGreatDoorG16
import Derived.Deep.CutRange
import Derived.Test.YtclkckinpjkglaaGreatDoorG11
import Derived.Test.YtclkckinpjkglaaGreatDoorRows
import Derived.Test.YtclkckinpjkglaaGreatDoorG13
import Derived.ProofKit
import Derived.OpenShut
import Derived.LaidLaws
import Derived.ChangeVars
import Derived.Laws.IdiomArrays
import Derived.Stop.Joined
/-
  The documents' examples of layers 9 to 11, over contracts.
-/
namespace Go.Proofs.YtclkckinpjkglaaGreatDoor
open Go Go.RowKit
attribute [local go_sem] run_eql_fv run_neq_fv run_guard_fv


set_option maxRecDepth 100000 in
set_option maxHeartbeats 8000000 in
theorem up10 {StAt CAt : World → Nat → (Nat → Prop) → MS → Prop} (H : StoreC StAt) (I : IteC StAt CAt) (O : OperC StAt CAt) (w : World) : Calls Tryz.prog 4 #[] w fun e w' => e = .returned (.bool true) ∧ Below w.heap.size w w' := by
  go_enter Tryz.func4, Tryz.ntmps4
  go_wp2_with fail
  refine (H.new 5 w (by decide) (by decide)).mono ?_
  rintro e w1 ⟨b, rfl, ⟨F, hA, hF⟩, hb⟩
  rw [show (5 : Int).toNat = 5 from rfl] at hA
  go_wp2_with fail
  refine (I.new _).mono ?_
  rintro e w2 ⟨c, rfl, ⟨G, hC, hG⟩, hb2⟩
  have P := P1.start H hA hF hb (hC _ (MS.none_ok 5 (by decide))) hG hb2
  clear hA hF hb hC hG hb2
  have M := H.make P.a (MS.none_ok 5 (by decide)) 0 0 1 (by decide) (by decide)
  rw [up9_mk] at M
  dsimp only at M
  rw [errV0] at M
  go_wp2_with fail
  refine M.mono ?_
  rintro e w3 ⟨rfl, FF, hA2, hK, hW⟩
  have P2 := P.store I (MS.none_ok 5 (by decide)) s9a_ok (by have := ((MS.none_ok 5 (by decide))).mk_grows 0 0 1; rwa [up9_mk] at this) hA2 hK hW
  clear M P hA2 hK hW
  have M := O.not P2.a P2.k s9a_ok P2.ap 2 (by unfold I64; decide)
  rw [up9_not] at M
  go_wp2_with fail
  refine M.mono ?_
  rintro e w4 hp
  obtain ⟨rfl, F4, G4, P3⟩ := P2.callPost hp
  clear M hp P2
  dsimp only at P3
  rw [errV0]
  dsimp only
  have M := O.and P3.a P3.k s9b_ok P3.ap 2 3 (by unfold I64; decide) (by unfold I64; decide)
  rw [up10_and] at M
  go_wp2_with fail
  refine M.mono ?_
  rintro e w5 hp
  obtain ⟨rfl, F5, G5, P4⟩ := P3.callPost hp
  clear M hp P3
  dsimp only at P4
  rw [errV0]
  dsimp only
  have M := O.or P4.a P4.k s9b_ok P4.ap 2 3 (by unfold I64; decide) (by unfold I64; decide)
  rw [up10_or] at M
  go_wp2_with fail
  refine M.mono ?_
  rintro e w6 hp
  obtain ⟨rfl, F6, G6, P5⟩ := P4.callPost hp
  clear M hp P4
  dsimp only at P5
  rw [errV0]
  dsimp only
  have hbE := P5.below
  clear P5
  go_wp2
  go_ret
  exact ⟨by simp, hbE⟩


end Go.Proofs.YtclkckinpjkglaaGreatDoor

/-
  Both stores, in which functions were built, and levels changed places.
-/
namespace Go.Proofs.YtclkckinpjkglaaGreatDoor
open Go Go.RowKit

set_option maxRecDepth 100000 in
set_option maxHeartbeats 8000000 in
theorem lawBuilt {StAt : World → Nat → (Nat → Prop) → MS → Prop} (H : StoreC StAt) (R : ReadC StAt) (most : Int) (k : List Fn) (sw : List Int) (vk vs : Value) (w : World) (hL : LowW w) (hk : SliceF w vk k) (hs : Reads encI w vs sw) (hsw : ∀ a ∈ sw, (Lit.int .i64 a).wf = true) :
    Calls Tryz.prog 5 #[.int .i64 most, vk, vs] w fun e w' => (e = .returned (.tuple #[.pointer none, .pointer none, .int .i64 0]) ∧ Below w.heap.size w w') ∨
      ∃ bA bM FA FM s, e = .returned (.tuple #[.pointer (some ⟨bA, 0, none⟩), .pointer (some ⟨bM, 0, none⟩), .int .i64 1]) ∧ s.Ok ∧ P2 StAt w bA bM FA FM s s w' := by
  obtain ⟨ak, ck, rfl⟩ := hk.form
  obtain ⟨as', cs, rfl⟩ := hs.form
  go_enter Tryz.func5, Tryz.ntmps5
  by_cases hmost : 0 ≤ most ∧ most ≤ 20000
  · obtain ⟨h0, h1⟩ := hmost
    go_wp2_with fail
    refine (lawBegin H most _ h0 h1).mono ?_
    rintro e w2 ⟨bA, bM, FA, FM, rfl, P⟩
    have ok := MS.none_ok most.toNat (by omega)
    generalize MS.none most.toNat = s at *
    by_cases hk6 : k.length ≤ 6
    · have hk3 : ¬ 6 < (k.length : Int) := by omega
      by_cases hs30 : sw.length ≤ 30
      · have hs3 : ¬ 30 < (sw.length : Int) := by omega
        replace P := Lib.hid P
        replace ok := Lib.hid ok
        go_wp2
        go_loopw [11] (fun i wr => ∃ (j : Nat) (s : MS) (FA FM : Nat → Prop), j ≤ k.length ∧ i = .int .i64 j ∧ s.Ok ∧ P2 StAt w bA bM FA FM s s wr) (fun i _ => k.length - (intOf i).toNat)
        case atStart => exact ⟨0, s, _, _, Nat.zero_le _, rfl, ok.out, P.out⟩
        case round =>
          clear P ok
          obtain ⟨j, s, FA, FM, hj, rfl, ok, P⟩ := hrel
          by_cases hlt : j < k.length
          · have hk0 : (0 : Int) ≤ (j : Int) := by omega
            have hk1 : (j : Int) < (k.length : Int) := by omega
            have hbw := P.below
            have hLr := hL.keep hbw
            have hlow : ∀ q, FA q → 0 < q := fun q hq => by have := P.lowA q hq; have := hL.pos; omega
            have hkc : ∀ V, Below w.heap.size w V → SliceF V (.slice ak k.length ck) k := fun V hV => hk.keep hV (Nat.le_refl _)
            obtain ⟨ad, rfl, c0, c1, c2, c3⟩ := (hkc _ hbw).fnAt j hlt
            have hB := R.build hLr hlow P.a ok k[j]
            have hM := fun V F (hV : RefSAt V bM F s) => refSBuild 8 s k[j] V F hV ok (supN_8 _)
            have hE := MS.bld_err s k[j] ok
            have okB := (MS.bld_spec 8 s k[j] ok (supN_8 _)).1
            unfold MkPost at hM
            have hkc2 : ∀ V, Below w.heap.size w V → V.cell? (ad.add (j * 4)) = some (.int .u64 (wd k[j] 0)) ∧ V.cell? ⟨(ad.add (j * 4)).block, (ad.add (j * 4)).off + 1, none⟩ = some (.int .u64 (wd k[j] 1)) ∧ V.cell? ⟨(ad.add (j * 4)).block, (ad.add (j * 4)).off + 2, none⟩ = some (.int .u64 (wd k[j] 2)) ∧ V.cell? ⟨(ad.add (j * 4)).block, (ad.add (j * 4)).off + 3, none⟩ = some (.int .u64 (wd k[j] 3)) := fun V hV => by
              obtain ⟨ad2, e, h⟩ := (hkc V hV).fnAt j hlt
              cases e
              exact h
            generalize k[j] = f at *
            generalize MS.bld 8 s f = r at *
            obtain ⟨r0, r1, S⟩ := r
            dsimp only at hB hM hE okB
            simp only [fv] at hB hM
            clear hkc hLr hlow
            go_wp2_with fail
            refine hB.mono ?_
            rintro e w4 ⟨rfl, FA1, hA1, hK1, hW1⟩
            have P1 := P.code H hA1 hK1 hW1
            obtain ⟨c0', c1', c2', c3'⟩ := hkc2 _ P1.below
            clear hB c0 c1 c2 c3 hA1 hK1 hW1 hkc2
            go_wp2_with fail
            refine (hM _ _ P1.m).mono ?_
            rintro e w5 ⟨rfl, FM1, hM1, hK1, hW1⟩
            have P2' := P1.ref H hM1 hK1 hW1
            clear hM c0' c1' c2' c3' hM1 hK1 hW1 P1 P
            go_wp2_with fail
            refine (lawCode _ _ hE.1 hE.2).mono ?_
            rintro e wx ⟨rfl, rfl⟩
            go_wp2
            exact ⟨⟨j + 1, S, FA1, FM1, by omega, by go_num, okB, P2'⟩, by simp [intOf]; omega⟩
          · obtain rfl : j = k.length := by omega
            replace P := Lib.hid P
            replace ok := Lib.hid ok
            go_wp2
            clear hlt hj
            go_loopw [16] (fun i wr => ∃ (j : Nat) (s : MS) (FA FM : Nat → Prop), j ≤ sw.length ∧ i = .int .i64 j ∧ s.Ok ∧ P2 StAt w bA bM FA FM s s wr) (fun i _ => sw.length - (intOf i).toNat)
            case atStart => exact ⟨0, s, _, _, Nat.zero_le _, rfl, ok.out, P.out⟩
            case round =>
              clear P ok
              obtain ⟨j, s, FA, FM, hj, rfl, ok, P⟩ := hrel
              by_cases hlt : j < sw.length
              · have hk0 : (0 : Int) ≤ (j : Int) := by omega
                have hk1 : (j : Int) < (sw.length : Int) := by omega
                obtain ⟨ad, rfl, c0⟩ := (hs.keep P.below).intAt j hlt
                have wA := hsw _ (List.getElem_mem hlt)
                generalize sw[j] = A at *
                have pk7 := fun V => lawPick A 7 V (by decide) (by decide) wA
                go_wp2_with fail
                refine (pk7 _).mono ?_
                rintro e w3 ⟨rfl, rfl⟩
                clear pk7 c0
                generalize A % 7 = l at *
                have hE := s.swap_err l
                have ok' := ok.swapped l
                have hM := fun V F (hV : RefSAt V bM F s) => refSSwap hV ok l
                have hS := H.swap P.a ok l
                generalize s.swap l = r at *
                obtain ⟨E, S⟩ := r
                dsimp only at hE ok' hM hS
                go_wp2_with fail
                refine hS.mono ?_
                rintro e w4 ⟨rfl, FA1, hA1, hK1, hW1⟩
                have P1 := P.code H hA1 hK1 hW1
                clear hS hA1 hK1 hW1 P
                go_wp2_with fail
                refine (lawCode _ _ hE.1 hE.2).mono ?_
                rintro e wx ⟨rfl, rfl⟩
                go_wp2_with fail
                refine (hM _ _ P1.m).mono ?_
                rintro e w5 ⟨rfl, FM1, hM1, hK1, hW1⟩
                have P2' := P1.ref H hM1 hK1 hW1
                clear hM hM1 hK1 hW1 P1
                go_wp2
                exact ⟨⟨j + 1, S, FA1, FM1, by omega, by go_num, ok', P2'⟩, by simp [intOf]; omega⟩
              · obtain rfl : j = sw.length := by omega
                clear hlt hj
                go_wp2_with fail
                refine (lawSame H P ok).mono ?_
                rintro e w6 ⟨rfl, hb6⟩
                have P3 := P.keep H hb6
                clear P hb6
                go_wp2
                go_ret3
                exact .inr ⟨bA, bM, FA, FM, s, rfl, ok, P3⟩
      · have hs3 : 30 < (sw.length : Int) := by omega
        go_wp2
        go_ret3
        exact .inl ⟨rfl, P.below⟩
    · have hk3 : 6 < (k.length : Int) := by omega
      go_wp2
      go_ret3
      exact .inl ⟨rfl, P.below⟩
  · have hm : most < 0 ∨ 20000 < most := by omega
    go_wp2_with fail
    refine (lawBegin_no H most _ hm).mono ?_
    rintro e w2 ⟨rfl, hb2⟩
    go_wp2
    go_ret3
    exact .inl ⟨rfl, hb2⟩

end Go.Proofs.YtclkckinpjkglaaGreatDoor

/-
  The document's Ite, Xor, Restrict, Compose, Exists, Forall walked.
-/
namespace Go.Proofs.YtclkckinpjkglaaGreatDoor
open Go Go.RowKit

theorem MkPost.mono {w W : World} {b : Nat} {F G : Nat → Prop} {r : Int × Int × MS} {e : Ending} {w' : World} (h : MkPost W b G r e w') (hK : Keeps F w W) (hW : Within w F G) : MkPost w b F r e w' := by
  obtain ⟨he, F', hR, hK', hW'⟩ := h
  exact ⟨he, F', hR, hK.trans hK' hW, hW.trans hW' hK.size⟩

set_option maxRecDepth 100000 in
theorem refSThere {w : World} {b : Nat} {F : Nat → Prop} {s : MS} (h : RefSAt w b F s) (ok : s.Base) (n : Int) (hn : n ≤ 9223372036854775807) :
    Calls Tryz.prog 26 #[.pointer (some ⟨b, 0, none⟩), .int .i64 n] w fun e w' => e = .returned (.bool (s.there n)) ∧ w = w' := by
  have H := refSHas h ok n hn
  unfold MS.there
  go_enter Tryz.func26, Tryz.ntmps26
  by_cases h0 : n = 0
  · subst h0
    go_wp2
    go_ret
    exact ⟨rfl, rfl⟩
  · have b0 : (n == 0) = false := by rw [beq_eq_false_iff_ne]; exact h0
    by_cases h1 : n = 1
    · subst h1
      go_wp2
      go_ret
      exact ⟨rfl, rfl⟩
    · have b1 : (n == 1) = false := by rw [beq_eq_false_iff_ne]; exact h1
      rw [b0, b1, Bool.false_or, Bool.false_or]
      clear h0 h1
      generalize s.has n = x at *
      go_wp2_with fail
      refine H.mono ?_
      rintro e w1 ⟨rfl, rfl⟩
      clear H
      go_wp2
      go_ret
      exact ⟨rfl, rfl⟩

set_option maxRecDepth 100000 in
set_option maxHeartbeats 4000000 in
theorem refSIte {w : World} {b : Nat} {F : Nat → Prop} {s : MS} (h : RefSAt w b F s) (ok : s.Ok) (f g k : Int) (hf : f ≤ 9223372036854775807) (hg : g ≤ 9223372036854775807) (hk : k ≤ 9223372036854775807) :
    Calls Tryz.prog 10 #[.pointer (some ⟨b, 0, none⟩), .int .i64 f, .int .i64 g, .int .i64 k] w (MkPost w b F (s.ite f g k)) := by
  have TF := refSThere h ok.toBase f hf
  have TG := refSThere h ok.toBase g hg
  have TK := refSThere h ok.toBase k hk
  generalize hr : s.ite f g k = r
  unfold MS.ite at hr
  unfold MkPost
  go_enter Tryz.func10, Tryz.ntmps10
  cases t1 : s.there f
  · rw [if_neg (by simp [t1])] at hr
    subst hr
    rw [t1] at TF
    clear TG TK
    go_wp2_with fail
    refine TF.mono ?_
    rintro e w1 ⟨rfl, rfl⟩
    clear TF
    go_wp2
    go_ret2
    exact ⟨rfl, F, h, Keeps.refl _ _, Within.refl _ _⟩
  rw [t1] at TF
  cases t2 : s.there g
  · rw [if_neg (by simp [t2])] at hr
    subst hr
    rw [t2] at TG
    clear TK
    go_wp2_with fail
    refine TF.mono ?_
    rintro e w1 ⟨rfl, rfl⟩
    clear TF
    go_wp2_with fail
    refine TG.mono ?_
    rintro e w1 ⟨rfl, rfl⟩
    clear TG
    go_wp2
    go_ret2
    exact ⟨rfl, F, h, Keeps.refl _ _, Within.refl _ _⟩
  rw [t2] at TG
  cases t3 : s.there k
  · rw [if_neg (by simp [t3])] at hr
    subst hr
    rw [t3] at TK
    go_wp2_with fail
    refine TF.mono ?_
    rintro e w1 ⟨rfl, rfl⟩
    clear TF
    go_wp2_with fail
    refine TG.mono ?_
    rintro e w1 ⟨rfl, rfl⟩
    clear TG
    go_wp2_with fail
    refine TK.mono ?_
    rintro e w1 ⟨rfl, rfl⟩
    clear TK
    go_wp2
    go_ret2
    exact ⟨rfl, F, h, Keeps.refl _ _, Within.refl _ _⟩
  rw [t3] at TK
  rw [if_pos ⟨t1, t2, t3⟩] at hr
  have A1 := refSTable ok 8 f w h (ok.dep_le _) hf
  have A2 := fun W (hb : Below w.heap.size w W) => refSTable ok 8 g W (h.below hb) (ok.dep_le _) hg
  have A3 := fun W (hb : Below w.heap.size w W) => refSTable ok 8 k W (h.below hb) (ok.dep_le _) hk
  have A5 := fun W (hb : Below w.heap.size w W) => refSBuild 8 s (iteF (s.tab f) (s.tab g) (s.tab k)) W F (h.below hb) ok (supN_8 _)
  rw [hr] at A5
  have A4 := fun W => refIte (s.tab f) (s.tab g) (s.tab k) W
  unfold MkPost at A5
  rw [show (s.tab f &&& s.tab g ||| ~~~s.tab f &&& s.tab k) = iteF (s.tab f) (s.tab g) (s.tab k) from rfl] at A4
  clear h hr t1 t2 t3
  generalize iteF (s.tab f) (s.tab g) (s.tab k) = x at *
  generalize s.tab f = x1 at *
  generalize s.tab g = x2 at *
  generalize s.tab k = x3 at *
  go_wp2_with fail
  refine TF.mono ?_
  rintro e w1 ⟨rfl, rfl⟩
  clear TF
  go_wp2_with fail
  refine TG.mono ?_
  rintro e w1 ⟨rfl, rfl⟩
  clear TG
  go_wp2_with fail
  refine TK.mono ?_
  rintro e w1 ⟨rfl, rfl⟩
  clear TK
  go_wp2_with fail
  refine A1.mono ?_
  rintro e w1 ⟨rfl, hb1⟩
  clear A1
  go_wp2_with fail
  refine (A2 _ hb1).mono ?_
  rintro e w2 ⟨rfl, hb2⟩
  replace hb1 := hb1.trans (hb2.mono hb1.size)
  clear A2 hb2
  go_wp2_with fail
  refine (A3 _ hb1).mono ?_
  rintro e w2 ⟨rfl, hb2⟩
  replace hb1 := hb1.trans (hb2.mono hb1.size)
  clear A3 hb2
  go_wp2_with fail
  refine (A4 _).mono ?_
  rintro e w2 ⟨rfl, hb2⟩
  replace hb1 := hb1.trans (hb2.mono hb1.size)
  clear A4 hb2
  go_wp2_with fail
  refine (A5 _ hb1).mono ?_
  rintro e w3 ⟨rfl, F', hR, hK, hW⟩
  clear A5
  go_wp2
  go_ret2
  exact ⟨rfl, F', hR, (Keeps.of_below hb1 F).and hK, fun q hq => (hW q hq).imp id (fun h => Nat.le_trans hb1.size h)⟩

set_option maxRecDepth 100000 in
set_option maxHeartbeats 4000000 in
theorem refSXor {w : World} {b : Nat} {F : Nat → Prop} {s : MS} (h : RefSAt w b F s) (ok : s.Ok) (f g : Int) (hf : f ≤ 9223372036854775807) (hg : g ≤ 9223372036854775807) :
    Calls Tryz.prog 14 #[.pointer (some ⟨b, 0, none⟩), .int .i64 f, .int .i64 g] w (MkPost w b F (s.xor f g)) := by
  have TF := refSThere h ok.toBase f hf
  have TG := refSThere h ok.toBase g hg
  generalize hr : s.xor f g = r
  unfold MS.xor at hr
  unfold MkPost
  go_enter Tryz.func14, Tryz.ntmps14
  cases t1 : s.there f
  · rw [if_neg (by simp [t1])] at hr
    subst hr
    rw [t1] at TF
    clear TG
    go_wp2_with fail
    refine TF.mono ?_
    rintro e w1 ⟨rfl, rfl⟩
    clear TF
    go_wp2
    go_ret2
    exact ⟨rfl, F, h, Keeps.refl _ _, Within.refl _ _⟩
  rw [t1] at TF
  cases t2 : s.there g
  · rw [if_neg (by simp [t2])] at hr
    subst hr
    rw [t2] at TG
    go_wp2_with fail
    refine TF.mono ?_
    rintro e w1 ⟨rfl, rfl⟩
    clear TF
    go_wp2_with fail
    refine TG.mono ?_
    rintro e w1 ⟨rfl, rfl⟩
    clear TG
    go_wp2
    go_ret2
    exact ⟨rfl, F, h, Keeps.refl _ _, Within.refl _ _⟩
  rw [t2] at TG
  rw [if_pos ⟨t1, t2⟩] at hr
  dsimp only at hr
  have A1 := refSIte h ok g 0 1 hg (by decide) (by decide)
  obtain ⟨ok1, _, _, hth⟩ := ok.ite_spec g 0 1
  unfold MkPost at A1
  generalize s.ite g 0 1 = n at *
  obtain ⟨n0, n1, s1⟩ := n
  dsimp only at hr A1 ok1 hth
  clear h t1 t2
  by_cases hn : n1 = 0
  · subst hn
    rw [if_neg (by simp)] at hr
    have hle := (ok1.toBase.there_i64 (hth rfl).1).1
    have A2 := fun W F1 (h1 : RefSAt W b F1 s1) => refSIte h1 ok1 f n0 g hf hle hg
    rw [hr] at A2
    unfold MkPost at A2
    clear hth hr
    go_wp2_with fail
    refine TF.mono ?_
    rintro e w1 ⟨rfl, rfl⟩
    clear TF
    go_wp2_with fail
    refine TG.mono ?_
    rintro e w1 ⟨rfl, rfl⟩
    clear TG
    go_wp2_with fail
    refine A1.mono ?_
    rintro e w1 ⟨rfl, F1, hR1, hK1, hW1⟩
    clear A1
    go_wp2_with fail
    refine (A2 _ _ hR1).mono ?_
    rintro e w2 ⟨rfl, F2, hR2, hK2, hW2⟩
    clear A2
    go_wp2
    go_ret2
    exact ⟨rfl, F2, hR2, hK1.trans hK2 hW1, hW1.trans hW2 hK1.size⟩
  · rw [if_pos hn] at hr
    subst hr
    have hb : (n1 == 0) = false := by rw [beq_eq_false_iff_ne]; exact hn
    clear hth hn
    go_wp2_with fail
    refine TF.mono ?_
    rintro e w1 ⟨rfl, rfl⟩
    clear TF
    go_wp2_with fail
    refine TG.mono ?_
    rintro e w1 ⟨rfl, rfl⟩
    clear TG
    go_wp2_with fail
    refine A1.mono ?_
    rintro e w1 ⟨rfl, F1, hR1, hK1, hW1⟩
    clear A1
    go_wp2
    go_ret2
    exact ⟨rfl, F1, hR1, hK1, hW1⟩



end Go.Proofs.YtclkckinpjkglaaGreatDoor

/-
  IteTells over contracts.
-/
namespace Go.Proofs.YtclkckinpjkglaaGreatDoor
open Go Go.RowKit

/-- A call of layer 9. -/
structure C9 where
  what : Int
  f : Int
  g : Int
  h : Int
  raw : Bool
def C9.good (d : C9) : Prop := (Lit.int .i64 d.what).wf = true ∧ (Lit.int .i64 d.f).wf = true ∧ (Lit.int .i64 d.g).wf = true ∧ (Lit.int .i64 d.h).wf = true

/-- Its cells. -/
def encC9 : Enc Tryz.prog C9 where
  slice := 24
  elem := 33
  size := 5
  bytes := 40
  cells d := [.int .i64 d.what, .int .i64 d.f, .int .i64 d.g, .int .i64 d.h, .bool d.raw]
  zero := .agg #[.int .i64 0, .int .i64 0, .int .i64 0, .int .i64 0, .bool false]
  und := Tryz.underlying24
  info := info_of _ _ _ _ _ (by kernel_rfl)
  zsize := rfl
  pos := by decide
  few := by decide
  len _ := rfl
  one d u h := by
    simp only [List.mem_cons, List.not_mem_nil, or_false] at h
    rcases h with rfl | rfl | rfl | rfl | rfl <;> rfl

theorem callAt9 {w : World} {a : Option Addr} {cap : Nat} {l : List C9} (h : Reads encC9 w (.slice a l.length cap) l) (i : Nat) (hi : i < l.length) : ∃ ad, a = some ad ∧ w.cell? (ad.add (i * 5)) = some (.int .i64 l[i].what) ∧
    w.cell? ⟨(ad.add (i * 5)).block, (ad.add (i * 5)).off + 1, none⟩ = some (.int .i64 l[i].f) ∧ w.cell? ⟨(ad.add (i * 5)).block, (ad.add (i * 5)).off + 2, none⟩ = some (.int .i64 l[i].g) ∧
    w.cell? ⟨(ad.add (i * 5)).block, (ad.add (i * 5)).off + 3, none⟩ = some (.int .i64 l[i].h) ∧ w.cell? ⟨(ad.add (i * 5)).block, (ad.add (i * 5)).off + 4, none⟩ = some (.bool l[i].raw) := by
  obtain ⟨ad, rfl, H⟩ := h.at i hi
  have h0 := H 0 (by decide)
  have h1 := H 1 (by decide)
  have h2 := H 2 (by decide)
  have h3 := H 3 (by decide)
  have h4 := H 4 (by decide)
  simp only [encC9] at h1 h2 h3 h4
  rw [← Addr.add_add, Addr.add, if_neg (by omega)] at h1 h2 h3 h4
  exact ⟨ad, rfl, by simpa [encC9] using h0, by simpa using h1, by simpa using h2, by simpa using h3, by simpa using h4⟩

/-- A variable that holds a call. -/
def HoldsC9 (w : World) (b : Nat) (d : C9) : Prop := w.heap[b]? = some (.cells #[.int .i64 d.what, .int .i64 d.f, .int .i64 d.g, .int .i64 d.h, .bool d.raw] 33 (0, 0))
theorem HoldsC9.cells {w : World} {b : Nat} {d : C9} (h : HoldsC9 w b d) : w.cell? ⟨b, 0, none⟩ = some (.int .i64 d.what) ∧ w.cell? ⟨b, 1, none⟩ = some (.int .i64 d.f) ∧ w.cell? ⟨b, 2, none⟩ = some (.int .i64 d.g) ∧ w.cell? ⟨b, 3, none⟩ = some (.int .i64 d.h) ∧ w.cell? ⟨b, 4, none⟩ = some (.bool d.raw) :=
  ⟨by rw [cell_of_row _ _ _ _ _ _ h]; rfl, by rw [cell_of_row _ _ _ _ _ _ h]; rfl, by rw [cell_of_row _ _ _ _ _ _ h]; rfl, by rw [cell_of_row _ _ _ _ _ _ h]; rfl, by rw [cell_of_row _ _ _ _ _ _ h]; rfl⟩
theorem HoldsC9.lt {w : World} {b : Nat} {d : C9} (h : HoldsC9 w b d) : b < w.heap.size := row_lt h
theorem HoldsC9.keep {w w' : World} {b : Nat} {d : C9} {F : Nat → Prop} (h : HoldsC9 w b d) (hb : Keeps F w w') (hF : ¬ F b) : HoldsC9 w' b d := (hb.block b h.lt hF).trans h
theorem HoldsC9.below {w w' : World} {b : Nat} {d : C9} (h : HoldsC9 w b d) (hb : Below w.heap.size w w') : HoldsC9 w' b d := (hb.block b h.lt).trans h
theorem HoldsC9.new (w : World) (d : C9) : HoldsC9 (w.alloc (.cells #[.int .i64 d.what, .int .i64 d.f, .int .i64 d.g, .int .i64 d.h, .bool d.raw] 33)) w.heap.size d := heap_alloc_new _ _


end Go.Proofs.YtclkckinpjkglaaGreatDoor

/-
  OperTells over contracts.
-/
namespace Go.Proofs.YtclkckinpjkglaaGreatDoor
open Go Go.RowKit

set_option maxRecDepth 100000 in
set_option maxHeartbeats 8000000 in
theorem operTells' {StAt CAt : World → Nat → (Nat → Prop) → MS → Prop} (H : StoreC StAt) (R : ReadC StAt) (I : IteC StAt CAt) (O : OperC StAt CAt) (hUp : ∀ W, LowW W → Calls Tryz.prog 4 #[] W fun e w' => e = .returned (.bool true) ∧ Below W.heap.size W w')
    (most : Int) (k : List Fn) (sw : List Int) (l : List C9) (vk vs vc : Value) (w : World) (hL : LowW w) (hk : SliceF w vk k) (hs : Reads encI w vs sw) (hsw : ∀ a ∈ sw, (Lit.int .i64 a).wf = true) (hc : Reads encC9 w vc l) (hcw : ∀ d ∈ l, d.good) :
    Calls Tryz.prog 3 #[.int .i64 most, vk, vs, vc] w fun e w' => e = .returned (.bool true) ∧ Below w.heap.size w w' := by
  obtain ⟨ac, cc, rfl⟩ := hc.form
  go_enter Tryz.func3, Tryz.ntmps3
  go_wp2_with fail
  refine (hUp _ hL).mono ?_
  rintro e w1 ⟨rfl, hb1⟩
  have HB := lawBuilt H R most k sw vk vs w1 (hL.keep hb1) (hk.keep hb1 (Nat.le_refl _)) (hs.keep hb1) hsw
  go_wp2_with fail
  refine HB.mono ?_
  clear HB hk hs hsw hL
  rintro e w2 (⟨rfl, hb2⟩ | ⟨bA, bM, FA, FM, s, rfl, ok, P⟩)
  · go_wp2_with fail
    refine (I.new _).mono ?_
    rintro e w3 ⟨c, rfl, _, hb3⟩
    have hb := (hb1.trans (hb2.mono hb1.size)).trans (hb3.mono (hb1.trans (hb2.mono hb1.size)).size)
    clear hb1 hb2 hb3
    go_wp2
    go_ret
    exact ⟨rfl, hb⟩
  go_wp2_with fail
  refine (I.new _).mono ?_
  rintro e w3 ⟨bC, rfl, ⟨FC, hC, hFC⟩, hb3⟩
  have P3 : P3 StAt CAt w1 bA bM bC FA FM FC s w3 := ⟨P.keep H hb3, hC s ok, fun k h1 h2 => by have := H.lt P.a k h1; have := hFC k h2; omega, fun k h1 h2 => by have := P.m.lt k h1; have := hFC k h2; omega, fun k h1 => Nat.le_trans P.below.size (hFC k h1)⟩
  clear P hC hFC hb3
  by_cases hl20 : l.length ≤ 20
  · have hl3 : ¬ 20 < (l.length : Int) := by omega
    have P := Lib.hid P3
    replace ok := Lib.hid ok
    clear P3
    go_wp2
    go_loopw [14] (fun i wr => ∃ (j : Nat) (s : MS) (FA FM FC : Nat → Prop), j ≤ l.length ∧ i = .int .i64 j ∧ s.Ok ∧ P3 StAt CAt w1 bA bM bC FA FM FC s wr) (fun i _ => l.length - (intOf i).toNat)
    case atStart => exact ⟨0, s, _, _, _, Nat.zero_le _, rfl, ok.out, P.out⟩
    case round =>
      clear P ok
      obtain ⟨j, s, FA, FM, FC, hj, rfl, ok, P⟩ := hrel
      by_cases hlt : j < l.length
      · have hk0 : (0 : Int) ≤ (j : Int) := by omega
        have hk1 : (j : Int) < (l.length : Int) := by omega
        obtain ⟨ad, rfl, q0, q1, q2, q3, q4⟩ := callAt9 (hc.keep (hb1.trans (P.p.below.mono hb1.size))) j hlt
        have hwk := hcw _ (List.getElem_mem hlt)
        generalize l[j] = d at *
        obtain ⟨What, A, B, C, raw⟩ := d
        obtain ⟨g0, g1, g2, g3⟩ := hwk
        dsimp only at q0 q1 q2 q3 q4 g0 g1 g2 g3
        have hx := HoldsC9.new wr ⟨What, A, B, C, raw⟩
        dsimp only at hx
        obtain ⟨x0, x1, x2, x3, x4⟩ := HoldsC9.cells hx
        dsimp only at x0 x1 x2 x3 x4
        have hbV : Below wr.heap.size wr (wr.alloc (.cells #[.int .i64 What, .int .i64 A, .int .i64 B, .int .i64 C, .bool raw] 33)) := by go_grown
        have P' := P.keep H I hbV
        have nA : ¬ FA wr.heap.size := fun e => by have := H.lt P.p.a _ e; omega
        have nM : ¬ FM wr.heap.size := fun e => by have := P.p.m.lt _ e; omega
        have nC : ¬ FC wr.heap.size := fun e => by have := I.lt P.c _ e; omega
        have pk4 := fun V => lawPick What 4 V (by decide) (by decide) g0
        have p1 := Int.emod_nonneg What (show (4 : Int) ≠ 0 by decide)
        have p2 := Int.emod_lt_of_pos What (show (0 : Int) < 4 by decide)
        generalize What % 4 = p at *
        have uA' := ok.toBase.pick_le (n := A) (raw := raw) (le_of_wf g1)
        have uB' := ok.toBase.pick_le (n := B) (raw := raw && decide (B < 0)) (le_of_wf g2)
        have vA' := ok.toBase.pick_ge (n := A) (raw := raw) (ge_of_wf g1)
        have vB' := ok.toBase.pick_ge (n := B) (raw := raw && decide (B < 0)) (ge_of_wf g2)
        have nA' := lawNode P'.p.m ok.toBase A raw g1
        clear P hbV nA nM nC
        generalize s.pick A raw = fa at *
        replace P' := Lib.hid P'
        go_wp2_with fail
        generalize wr.alloc (.cells #[.int .i64 What, .int .i64 A, .int .i64 B, .int .i64 C, .bool raw] 33) = V at *
        generalize hbx : wr.heap.size = bx at *
        refine nA'.mono ?_
        rintro e w6 ⟨rfl, hb6⟩
        clear nA' q0 q1 q2 q3 q4 x0 x1 x2 x3 x4
        have P := P'.out.keep H I hb6
        replace hx := HoldsC9.below hx hb6
        clear hb6 P'
        go_upto_region 11 with (fail)
        have nN := fun (r : Bool) => lawNode P.p.m ok.toBase B r g2
        obtain ⟨y0, y1, y2, y3, y4⟩ := HoldsC9.cells hx
        dsimp only at y0 y1 y2 y3 y4
        go_cut [17] from 52 to 160 (fun s17 wd => s17 = .int .i64 (s.pick B (raw && decide (B < 0))) ∧ Below w6.heap.size w6 wd)
        case first =>
          cases raw
          · have nN1 := nN false
            go_wp2_with fail
            refine nN1.mono ?_
            rintro e wd ⟨rfl, hbd⟩
            go_wp2
            go_meet
            case rel => exact ⟨rfl, hbd⟩
          · have nN1 := nN (decide (B < 0))
            go_wp2_with fail
            refine nN1.mono ?_
            rintro e wd ⟨rfl, hbd⟩
            go_wp2
            go_meet
            case rel => exact ⟨rfl, hbd⟩
        case rest =>
        obtain ⟨rfl, hbd⟩ := hcut
        clear nN y0 y1 y2 y3 y4
        replace P := P.keep H I hbd
        replace hx := HoldsC9.below hx hbd
        clear hbd
        generalize s.pick B (raw && decide (B < 0)) = gb at *
        obtain ⟨y0, y1, y2, y3, y4⟩ := HoldsC9.cells hx
        dsimp only at y0 y1 y2 y3 y4
        go_wp2_with fail
        refine (pk4 _).mono ?_
        rintro e w7 ⟨rfl, rfl⟩
        clear pk4 y0 y1 y2 y3 y4
        rcases (by omega : p = 0 ∨ p = 1 ∨ p = 2 ∨ p = 3) with rfl | rfl | rfl | rfl
        · have HI := O.not P.p.a P.c ok P.apA fa ⟨uA', vA'⟩
          have hsp := ok.ite_spec fa 0 1
          have ok' := hsp.1
          have hE := hsp.2.2.1
          have HM := fun V F (hV : RefSAt V bM F s) => refSIte hV ok fa 0 1 uA' (by decide) (by decide)
          clear hsp
          unfold CallPost at HI
          unfold MkPost at HM
          generalize s.ite fa 0 1 = r at *
          obtain ⟨r0, r1, S⟩ := r
          dsimp only at HI HM ok' hE
          clear hx
          go_wp2_with fail
          refine HI.mono ?_
          rintro e w7 ⟨rfl, FA1, FC1', hA1, hC1, hap, hK1, hWA, hWC⟩
          obtain ⟨Q, apM, lowC⟩ := P.call H I hA1 hK1 hWA hWC
          clear HI P hA1 hK1 hWA hWC
          go_wp2_with fail
          refine (HM _ _ Q.m).mono ?_
          rintro e w8 ⟨rfl, FM1, hM1, hK1, hW1⟩
          have P := P3.model H I Q hC1 hap apM lowC hM1 hK1 hW1
          clear HM Q hC1 hap apM lowC hM1 hK1 hW1
          go_wp2_with fail
          refine (lawCode _ _ hE.1 hE.2).mono ?_
          rintro e w9 ⟨rfl, rfl⟩
          go_wp2_with fail
          refine (lawSame H P.p ok').mono ?_
          rintro e w10 ⟨rfl, hb10⟩
          replace P := P.keep H I hb10
          clear hb10
          go_wp2
          exact ⟨⟨j + 1, S, _, _, _, by omega, by go_num, ok', P⟩, by simp [intOf]; omega⟩
        · have HI := O.and P.p.a P.c ok P.apA fa gb ⟨uA', vA'⟩ ⟨uB', vB'⟩
          have hsp := ok.ite_spec fa gb 0
          have ok' := hsp.1
          have hE := hsp.2.2.1
          have HM := fun V F (hV : RefSAt V bM F s) => refSIte hV ok fa gb 0 uA' uB' (by decide)
          clear hsp
          unfold CallPost at HI
          unfold MkPost at HM
          generalize s.ite fa gb 0 = r at *
          obtain ⟨r0, r1, S⟩ := r
          dsimp only at HI HM ok' hE
          clear hx
          go_wp2_with fail
          refine HI.mono ?_
          rintro e w7 ⟨rfl, FA1, FC1', hA1, hC1, hap, hK1, hWA, hWC⟩
          obtain ⟨Q, apM, lowC⟩ := P.call H I hA1 hK1 hWA hWC
          clear HI P hA1 hK1 hWA hWC
          go_wp2_with fail
          refine (HM _ _ Q.m).mono ?_
          rintro e w8 ⟨rfl, FM1, hM1, hK1, hW1⟩
          have P := P3.model H I Q hC1 hap apM lowC hM1 hK1 hW1
          clear HM Q hC1 hap apM lowC hM1 hK1 hW1
          go_wp2_with fail
          refine (lawCode _ _ hE.1 hE.2).mono ?_
          rintro e w9 ⟨rfl, rfl⟩
          go_wp2_with fail
          refine (lawSame H P.p ok').mono ?_
          rintro e w10 ⟨rfl, hb10⟩
          replace P := P.keep H I hb10
          clear hb10
          go_wp2
          exact ⟨⟨j + 1, S, _, _, _, by omega, by go_num, ok', P⟩, by simp [intOf]; omega⟩
        · have HI := O.or P.p.a P.c ok P.apA fa gb ⟨uA', vA'⟩ ⟨uB', vB'⟩
          have hsp := ok.ite_spec fa 1 gb
          have ok' := hsp.1
          have hE := hsp.2.2.1
          have HM := fun V F (hV : RefSAt V bM F s) => refSIte hV ok fa 1 gb uA' (by decide) uB'
          clear hsp
          unfold CallPost at HI
          unfold MkPost at HM
          generalize s.ite fa 1 gb = r at *
          obtain ⟨r0, r1, S⟩ := r
          dsimp only at HI HM ok' hE
          clear hx
          go_wp2_with fail
          refine HI.mono ?_
          rintro e w7 ⟨rfl, FA1, FC1', hA1, hC1, hap, hK1, hWA, hWC⟩
          obtain ⟨Q, apM, lowC⟩ := P.call H I hA1 hK1 hWA hWC
          clear HI P hA1 hK1 hWA hWC
          go_wp2_with fail
          refine (HM _ _ Q.m).mono ?_
          rintro e w8 ⟨rfl, FM1, hM1, hK1, hW1⟩
          have P := P3.model H I Q hC1 hap apM lowC hM1 hK1 hW1
          clear HM Q hC1 hap apM lowC hM1 hK1 hW1
          go_wp2_with fail
          refine (lawCode _ _ hE.1 hE.2).mono ?_
          rintro e w9 ⟨rfl, rfl⟩
          go_wp2_with fail
          refine (lawSame H P.p ok').mono ?_
          rintro e w10 ⟨rfl, hb10⟩
          replace P := P.keep H I hb10
          clear hb10
          go_wp2
          exact ⟨⟨j + 1, S, _, _, _, by omega, by go_num, ok', P⟩, by simp [intOf]; omega⟩
        · have HI := O.xor P.p.a P.c ok P.apA fa gb ⟨uA', vA'⟩ ⟨uB', vB'⟩
          have hsp := ok.xor_spec fa gb
          have ok' := hsp.1
          have hE := hsp.2.2
          have HM := fun V F (hV : RefSAt V bM F s) => refSXor hV ok fa gb uA' uB'
          clear hsp
          unfold CallPost at HI
          unfold MkPost at HM
          generalize s.xor fa gb = r at *
          obtain ⟨r0, r1, S⟩ := r
          dsimp only at HI HM ok' hE
          clear hx
          go_wp2_with fail
          refine HI.mono ?_
          rintro e w7 ⟨rfl, FA1, FC1', hA1, hC1, hap, hK1, hWA, hWC⟩
          obtain ⟨Q, apM, lowC⟩ := P.call H I hA1 hK1 hWA hWC
          clear HI P hA1 hK1 hWA hWC
          go_wp2_with fail
          refine (HM _ _ Q.m).mono ?_
          rintro e w8 ⟨rfl, FM1, hM1, hK1, hW1⟩
          have P := P3.model H I Q hC1 hap apM lowC hM1 hK1 hW1
          clear HM Q hC1 hap apM lowC hM1 hK1 hW1
          go_wp2_with fail
          refine (lawCode _ _ hE.1 hE.2).mono ?_
          rintro e w9 ⟨rfl, rfl⟩
          go_wp2_with fail
          refine (lawSame H P.p ok').mono ?_
          rintro e w10 ⟨rfl, hb10⟩
          replace P := P.keep H I hb10
          clear hb10
          go_wp2
          exact ⟨⟨j + 1, S, _, _, _, by omega, by go_num, ok', P⟩, by simp [intOf]; omega⟩
      · obtain rfl : j = l.length := by omega
        go_wp2
        go_ret
        exact ⟨rfl, hb1.trans (P.p.below.mono hb1.size)⟩
  · have hl3 : 20 < (l.length : Int) := by omega
    go_wp2
    go_ret
    exact ⟨rfl, hb1.trans (P3.p.below.mono hb1.size)⟩

end Go.Proofs.YtclkckinpjkglaaGreatDoor

/-
  The laws of layer 10 over the landed code.
-/
namespace Go.Proofs.YtclkckinpjkglaaGreatDoor
open Go Go.RowKit

theorem operTells (most : Int) (k : List Fn) (sw : List Int) (l : List C9) (vk vs vc : Value) (w : World) (hL : LowW w) (hk : SliceF w vk k) (_ : k.length ≤ maxLen) (hs : Reads encI w vs sw) (_ : sw.length ≤ maxLen) (hsw : ∀ a ∈ sw, (Lit.int .i64 a).wf = true)
    (hc : Reads encC9 w vc l) (_ : l.length ≤ maxLen) (hcw : ∀ d ∈ l, d.good) :
    Calls Tryz.prog 3 #[.int .i64 most, vk, vs, vc] w fun e w' => e = .returned (.bool true) ∧ Below w.heap.size w w' :=
  operTells' storeC (readC storeC) (iteC storeC) (operC (iteC storeC)) (fun W _ => up10 storeC (iteC storeC) (operC (iteC storeC)) W) most k sw l vk vs vc w hL hk hs hsw hc hcw

end Go.Proofs.YtclkckinpjkglaaGreatDoor

/-
  How a function of eight variables comes in and reads; the table of words as it is laid.
-/
namespace Go.Proofs.YtclkckinpjkglaaGreatDoor
open Go Go.ChangeShapes Go.WideShapes Go.ChangeAt Go.RowKit

/-- The function of four words. -/
def ofWords (a b c d : Nat) : Fn := ofRow fun x => if x < 64 then a.testBit x else if x < 128 then b.testBit (x - 64) else if x < 192 then c.testBit (x - 128) else d.testBit (x - 192)

set_option maxRecDepth 100000 in
theorem wd_of_bits (f : Fn) (i a : Nat) (ha : a < 2 ^ 64) (h : ∀ j, j < 64 → f.getLsbD (64 * i + j) = a.testBit j) : wd f i = a := by
  refine Nat.eq_of_testBit_eq fun j => ?_
  unfold wd
  rw [BitVec.testBit_toNat, BitVec.getLsbD_extractLsb']
  by_cases hj : j < 64
  · rw [h j hj]; simp [hj]
  · have : a.testBit j = false := Nat.testBit_lt_two_pow (Nat.lt_of_lt_of_le ha (Nat.pow_le_pow_right (by decide) (by omega)))
    rw [this]; simp [hj]

set_option maxRecDepth 100000 in
theorem wd_ofWords (a b c d : Nat) (ha : a < 2 ^ 64) (hb : b < 2 ^ 64) (hc : c < 2 ^ 64) (hd : d < 2 ^ 64) :
    wd (ofWords a b c d) 0 = a ∧ wd (ofWords a b c d) 1 = b ∧ wd (ofWords a b c d) 2 = c ∧ wd (ofWords a b c d) 3 = d := by
  refine ⟨wd_of_bits _ _ _ ha fun j hj => ?_, wd_of_bits _ _ _ hb fun j hj => ?_, wd_of_bits _ _ _ hc fun j hj => ?_, wd_of_bits _ _ _ hd fun j hj => ?_⟩
  · rw [ofWords, ofRow_bit _ _ (by omega), if_pos (by omega), show 64 * 0 + j = j by omega]
  · rw [ofWords, ofRow_bit _ _ (by omega), if_neg (by omega), if_pos (by omega), show 64 * 1 + j - 64 = j by omega]
  · rw [ofWords, ofRow_bit _ _ (by omega), if_neg (by omega), if_neg (by omega), if_pos (by omega), show 64 * 2 + j - 128 = j by omega]
  · rw [ofWords, ofRow_bit _ _ (by omega), if_neg (by omega), if_neg (by omega), if_neg (by omega), show 64 * 3 + j - 192 = j by omega]

/-- What it reads as. -/
def datF {H : Type} (f : Fn) : DataW H := .agg [.lit (.int .u64 (wd f 0)), .lit (.int .u64 (wd f 1)), .lit (.int .u64 (wd f 2)), .lit (.int .u64 (wd f 3))]

set_option maxRecDepth 100000 in
theorem Tryz.cellsF : Tryz.prog.cellsOf 54 = 4 := by kernel_rfl
set_option maxRecDepth 100000 in
theorem Tryz.cellsU : Tryz.prog.cellsOf 52 = 1 := by kernel_rfl
set_option maxRecDepth 100000 in
theorem Tryz.own : ownKnob Tryz.prog.godebug = none := by kernel_rfl

set_option maxRecDepth 100000 in
theorem list4 {α : Type} (l : List α) (h : (⟨l⟩ : Array α).size = 4) : ∃ a b c d, l = [a, b, c, d] := by
  match l, h with
  | [a, b, c, d], _ => exact ⟨a, b, c, d, rfl⟩

set_option maxRecDepth 100000 in
theorem wf_u64 {n : Int} (h : (Lit.int .u64 n).wf = true) : ∃ m : Nat, n = (m : Int) ∧ m < 2 ^ 64 := by
  simp [Lit.wf, IntKind.min, IntKind.max, IntKind.signed, IntKind.bits] at h
  exact ⟨n.toNat, by omega, by omega⟩

set_option maxRecDepth 100000 in
theorem wd_wf (f : Fn) (i : Nat) : (Lit.int .u64 (wd f i)).wf = true := by
  have := wd_lt f i
  simp [Lit.wf, IntKind.min, IntKind.max, IntKind.signed, IntKind.bits]
  omega

section
variable {H : Type} {enc : TypeId × Value → H} {w : World} {base : Nat} {spare : Nat → Bool} {held : Bool}

set_option maxRecDepth 100000 in
theorem open_fn {r : Go.Reach} {b0 : Nat} {v : Value} {d : DataW H} {ps : List MemPlace} (hval : Value.okWide Tryz.prog w r b0 54 v) (hd : DataW.Trod enc Tryz.prog w base spare held 54 v d ps) :
    ∃ f : Fn, v = fv f ∧ d = datF f ∧ ps = [] := by
  obtain ⟨cs, rfl, hsz, _⟩ : ∃ cs, v = .agg cs ∧ cs.size = Tryz.prog.cellsOf 54 ∧ Row.okWide Tryz.prog w r b0 54 cs := by
    simpa [Value.okWide, Tryz.underlying54] using hval
  rw [Tryz.cellsF] at hsz
  obtain ⟨l⟩ := cs
  obtain ⟨c0, c1, c2, c3, rfl⟩ := list4 l hsz
  obtain ⟨fuel, hf⟩ := hd
  obtain ⟨y0, y1, y2, y3, m, hx, hy0, hy1, hy2, hy3⟩ := trod_array4 Tryz.underlying54 Tryz.cellsU hf
  obtain ⟨x0, e0, rfl, w0⟩ := DataW.trod_int Tryz.underlying52 hy0
  obtain ⟨x1, e1, rfl, w1⟩ := DataW.trod_int Tryz.underlying52 hy1
  obtain ⟨x2, e2, rfl, w2⟩ := DataW.trod_int Tryz.underlying52 hy2
  obtain ⟨x3, e3, rfl, w3⟩ := DataW.trod_int Tryz.underlying52 hy3
  simp at e0 e1 e2 e3
  subst e0 e1 e2 e3
  simp only [Prod.mk.injEq] at hx
  obtain ⟨rfl, rfl⟩ := hx
  obtain ⟨a, rfl, ha⟩ := wf_u64 w0
  obtain ⟨b, rfl, hb⟩ := wf_u64 w1
  obtain ⟨c, rfl, hc⟩ := wf_u64 w2
  obtain ⟨e, rfl, he⟩ := wf_u64 w3
  obtain ⟨i0, i1, i2, i3⟩ := wd_ofWords a b c e ha hb hc he
  exact ⟨ofWords a b c e, by rw [fv, i0, i1, i2, i3], by rw [datF, i0, i1, i2, i3], rfl⟩

set_option maxRecDepth 100000 in
theorem shut_fn (f : Fn) : DataW.Trod enc Tryz.prog w base spare held 54 (fv f) (datF f) [] :=
  ⟨2, by simp [fv, datF, DataW.trod, Value.cells, Tryz.underlying54, Tryz.underlying52, Tryz.cellsF, Tryz.cellsU, wd_wf, show List.range 4 = [0, 1, 2, 3] from rfl]⟩
end

/-- The table's cells. -/
def lowCells : Array Value := #[.int .u64 12297829382473034410, .int .u64 14757395258967641292, .int .u64 17361641481138401520, .int .u64 18374966859414961920, .int .u64 18446462603027742720, .int .u64 18446744069414584320]

set_option maxRecDepth 100000 in
theorem Tryz.low : Tryz.prog.globalNamed "bower/tab.lowWords" = some 0 := by kernel_rfl
set_option maxRecDepth 100000 in
theorem Tryz.lowType : (Tryz.prog.globals[0]?).map (·.type) = some 145 := by kernel_rfl
set_option maxRecDepth 100000 in
theorem Tryz.cellsLow : Tryz.prog.cellsOf 145 = 6 := by kernel_rfl

set_option maxRecDepth 100000 in
theorem list6 {α : Type} (l : List α) (h : l.length = 6) : ∃ a b c d e f, l = [a, b, c, d, e, f] := by
  match l, h with
  | [a, b, c, d, e, f], _ => exact ⟨a, b, c, d, e, f, rfl⟩

set_option maxRecDepth 100000 in
theorem low_of_laid {W : World} (h : laidMet Tryz.prog [("bower/tab.lowWords", Rows.laid_bower_tab_lowWords)] W) : W.var? Tryz.prog "bower/tab.lowWords" = some lowCells := by
  obtain ⟨ps, ⟨g, t, cs, fuel, p, q, hg, ht, hvar, hd, _, _⟩, _⟩ := h
  obtain rfl := Option.some.inj (Tryz.low.symm.trans hg)
  obtain rfl := Option.some.inj (Tryz.lowType.symm.trans ht)
  rw [hvar]
  congr 1
  obtain ⟨l⟩ := cs
  cases fuel with
  | zero => simp [DataW.trod] at hd
  | succ fuel =>
    simp only [DataW.trod, Tryz.underlying145, Tryz.cellsLow, Tryz.cellsU] at hd
    split at hd
    · rename_i hl
      obtain ⟨c0, c1, c2, c3, c4, c5, rfl⟩ := list6 l (by simpa using hl)
      have e : List.range 6 = [0, 1, 2, 3, 4, 5] := rfl
      rw [e] at hd
      simp only [Option.map_eq_some_iff, List.mapM_cons, List.mapM_nil, Option.bind_eq_bind, Option.bind_eq_some_iff, Option.pure_def, Option.some.injEq] at hd
      obtain ⟨xs, ⟨y0, h0, _, ⟨y1, h1, _, ⟨y2, h2, _, ⟨y3, h3, _, ⟨y4, h4, _, ⟨y5, h5, _, rfl, rfl⟩, rfl⟩, rfl⟩, rfl⟩, rfl⟩, rfl⟩, hx⟩ := hd
      obtain ⟨n0, e0, rfl, _⟩ := DataW.trod_int Tryz.underlying52 h0
      obtain ⟨n1, e1, rfl, _⟩ := DataW.trod_int Tryz.underlying52 h1
      obtain ⟨n2, e2, rfl, _⟩ := DataW.trod_int Tryz.underlying52 h2
      obtain ⟨n3, e3, rfl, _⟩ := DataW.trod_int Tryz.underlying52 h3
      obtain ⟨n4, e4, rfl, _⟩ := DataW.trod_int Tryz.underlying52 h4
      obtain ⟨n5, e5, rfl, _⟩ := DataW.trod_int Tryz.underlying52 h5
      simp at e0 e1 e2 e3 e4 e5
      subst e0 e1 e2 e3 e4 e5
      simp [Rows.laid_bower_tab_lowWords] at hx
      obtain ⟨⟨rfl, rfl, rfl, rfl, rfl, rfl⟩, _⟩ := hx
      rfl
    · cases hd

set_option maxRecDepth 100000 in
theorem lowW_of_laid {W : World} (h : laidMet Tryz.prog [("bower/tab.lowWords", Rows.laid_bower_tab_lowWords)] W) : LowW W := by
  intro i hi
  rw [World.var?_cell Tryz.low (low_of_laid h) i]
  rcases (by omega : i = 0 ∨ i = 1 ∨ i = 2 ∨ i = 3 ∨ i = 4 ∨ i = 5) with rfl | rfl | rfl | rfl | rfl | rfl <;> rfl

/-- A world in which the table is laid. -/
noncomputable def laidWorld (os : Os) : World :=
  { World.holding Tryz.prog os ⟨#[], #[], []⟩ with heap := (World.holding Tryz.prog os ⟨#[], #[], []⟩).heap.modify 0 fun
      | .cells _ t frozen => .cells lowCells t frozen
      | o => o }

set_option maxRecDepth 100000 in
theorem laidWorld_row (os : Os) (args : Array Value) : ((laidWorld os).forCall (fun _ _ => 0) ⟨#[], args, []⟩).memory.heap[0]? = some (.cells lowCells 145 (0, 0)) := by kernel_rfl

set_option maxRecDepth 100000 in
theorem laidWorld_met (os : Os) (args : Array Value) : laidMet Tryz.prog [("bower/tab.lowWords", Rows.laid_bower_tab_lowWords)] ((laidWorld os).forCall (fun _ _ => 0) ⟨#[], args, []⟩).memory :=
  ⟨_, ⟨0, 145, lowCells, 8, [], [], by kernel_rfl, by kernel_rfl, by kernel_rfl, by kernel_rfl, rfl, rfl⟩, by decide, fun b off h => by
    have h' : MemPlace.cell b off ∈ [MemPlace.cell 0 0, .cell 0 1, .cell 0 2, .cell 0 3, .cell 0 4, .cell 0 5] := h
    have hb : b = 0 := by
      simp at h'
      omega
    subst hb
    refine ⟨⟨_, _, laidWorld_row os args⟩, fun u v hc => ?_⟩
    simp only [World.cell?, laidWorld_row os args] at hc
    simp at h'
    rcases h' with rfl | rfl | rfl | rfl | rfl | rfl <;> simp [lowCells] at hc⟩

end Go.Proofs.YtclkckinpjkglaaGreatDoor
