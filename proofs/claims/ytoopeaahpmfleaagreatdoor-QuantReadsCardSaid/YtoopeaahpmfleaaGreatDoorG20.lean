/-
  Texts of this proof, one behind the other: Up9, Built9, RefI, IteT, OperT, QuantT, QuantM, QuantS.
-/
import Derived.Test.YtoopeaahpmfleaaGreatDoorG19
import Derived.Test.YtoopeaahpmfleaaGreatDoorG17
import Derived.Test.YtoopeaahpmfleaaGreatDoorG18
import Derived.Test.YtoopeaahpmfleaaGreatDoorG13
import Derived.Test.YtoopeaahpmfleaaGreatDoorG14
import Derived.OwnWalk
import Derived.Test.YtoopeaahpmfleaaGreatDoorG16
import Derived.Deep.CutRange
/-
  The documents' examples of layers 9 to 11, over contracts.
-/
namespace Go.Proofs.YtoopeaahpmfleaaGreatDoor
open Go Go.RowKit
attribute [local go_sem] run_eql_fv run_neq_fv run_guard_fv



set_option maxRecDepth 100000 in
set_option maxHeartbeats 8000000 in
theorem up11 {StAt CAt : World → Nat → (Nat → Prop) → MS → Prop} (H : StoreC StAt) (I : IteC StAt CAt) (O : OperC StAt CAt) (Q : QuantC StAt CAt) (w : World) : Calls Tryz.prog 5 #[] w fun e w' => e = .returned (.bool true) ∧ Below w.heap.size w w' := by
  go_enter Tryz.func5, Tryz.ntmps5
  go_wp2_with fail
  refine (H.new 9 w (by decide) (by decide)).mono ?_
  rintro e w1 ⟨b, rfl, ⟨F, hA, hF⟩, hb⟩
  rw [show (9 : Int).toNat = 9 from rfl] at hA
  go_wp2_with fail
  refine (I.new _).mono ?_
  rintro e w2 ⟨c, rfl, ⟨G, hC, hG⟩, hb2⟩
  have P := P1.start H hA hF hb (hC _ (MS.none_ok 9 (by decide))) hG hb2
  clear hA hF hb hC hG hb2
  have M := H.make P.a (MS.none_ok 9 (by decide)) 0 0 1 (by decide) (by decide)
  rw [up11_x] at M
  dsimp only at M
  rw [errV0] at M
  go_wp2_with fail
  refine M.mono ?_
  rintro e w3 ⟨rfl, FF, hA2, hK, hW⟩
  have P2 := P.store I (MS.none_ok 9 (by decide)) s11a_ok (by have := ((MS.none_ok 9 (by decide))).mk_grows 0 0 1; rwa [up11_x] at this) hA2 hK hW
  clear M P hA2 hK hW
  have M := H.make P2.a s11a_ok 1 0 1 (by decide) (by decide)
  rw [up11_y] at M
  dsimp only at M
  rw [errV0] at M
  go_wp2_with fail
  refine M.mono ?_
  rintro e w4 ⟨rfl, FF, hA2, hK, hW⟩
  have P3 := P2.store I s11a_ok s11b_ok (by have := (s11a_ok).mk_grows 1 0 1; rwa [up11_y] at this) hA2 hK hW
  clear M P2 hA2 hK hW
  have M := O.and P3.a P3.k s11b_ok P3.ap 2 3 (by unfold I64; decide) (by unfold I64; decide)
  rw [up11_and] at M
  go_wp2_with fail
  refine M.mono ?_
  rintro e w5 hp
  obtain ⟨rfl, F5, G5, P4⟩ := P3.callPost hp
  clear M hp P3
  dsimp only at P4
  rw [errV0]
  dsimp only
  have M := Q.ex P4.a P4.k s11c_ok P4.ap 4 0 (by unfold I64; decide) (by unfold I64; decide)
  rw [up11_ex] at M
  go_wp2_with fail
  refine M.mono ?_
  rintro e w6 hp
  obtain ⟨rfl, F6, G6, P5⟩ := P4.callPost hp
  clear M hp P4
  dsimp only at P5
  rw [errV0]
  dsimp only
  have M := Q.restrict P5.a s11c_ok 4 8 true (by unfold I64; decide) (by unfold I64; decide)
  rw [up11_bad] at M
  dsimp only at M
  go_wp2_with fail
  refine M.mono ?_
  rintro e w7 ⟨rfl, FF, hA2, hK, hW⟩
  have hbE := P5.below.trans (hK.below P5.below.size P5.lowF)
  clear M P5 hA2 hK hW
  have hC1 := fun V => lawCode 1 V (by decide) (by decide)
  go_wp2_with fail
  refine (hC1 _).mono ?_
  rintro e w8 ⟨rfl, rfl⟩
  go_wp2
  go_ret
  exact ⟨by simp, hbE⟩

end Go.Proofs.YtoopeaahpmfleaaGreatDoor

/-
  Both stores, in which functions were built, and levels changed places.
-/
namespace Go.Proofs.YtoopeaahpmfleaaGreatDoor
open Go Go.RowKit

set_option maxRecDepth 100000 in
set_option maxHeartbeats 8000000 in
theorem lawBuilt {StAt : World → Nat → (Nat → Prop) → MS → Prop} (H : StoreC StAt) (R : ReadC StAt) (most : Int) (k : List Fn) (sw : List Int) (vk vs : Value) (w : World) (hL : LowW w) (hk : SliceF w vk k) (hs : Reads encI w vs sw) (hsw : ∀ a ∈ sw, (Lit.int .i64 a).wf = true) :
    Calls Tryz.prog 6 #[.int .i64 most, vk, vs] w fun e w' => (e = .returned (.tuple #[.pointer none, .pointer none, .int .i64 0]) ∧ Below w.heap.size w w') ∨
      ∃ bA bM FA FM s, e = .returned (.tuple #[.pointer (some ⟨bA, 0, none⟩), .pointer (some ⟨bM, 0, none⟩), .int .i64 1]) ∧ s.Ok ∧ P2 StAt w bA bM FA FM s s w' := by
  obtain ⟨ak, ck, rfl⟩ := hk.form
  obtain ⟨as', cs, rfl⟩ := hs.form
  go_enter Tryz.func6, Tryz.ntmps6
  by_cases hmost : 0 ≤ most ∧ most ≤ 20000
  · obtain ⟨h0, h1⟩ := hmost
    go_wp2_with fail
    refine (lawBegin H most _ h0 h1).mono ?_
    rintro e w2 ⟨bA, bM, FA, FM, rfl, P⟩
    have ok := MS.none_ok most.toNat (by omega)
    generalize MS.none most.toNat = s at *
    by_cases hk6 : k.length ≤ 6
    · have hk3 : ¬ 6 < (k.length : Int) := by omega
      by_cases hs30 : sw.length ≤ 30
      · have hs3 : ¬ 30 < (sw.length : Int) := by omega
        replace P := Lib.hid P
        replace ok := Lib.hid ok
        go_wp2
        go_loopw [11] (fun i wr => ∃ (j : Nat) (s : MS) (FA FM : Nat → Prop), j ≤ k.length ∧ i = .int .i64 j ∧ s.Ok ∧ P2 StAt w bA bM FA FM s s wr) (fun i _ => k.length - (intOf i).toNat)
        case atStart => exact ⟨0, s, _, _, Nat.zero_le _, rfl, ok.out, P.out⟩
        case round =>
          clear P ok
          obtain ⟨j, s, FA, FM, hj, rfl, ok, P⟩ := hrel
          by_cases hlt : j < k.length
          · have hk0 : (0 : Int) ≤ (j : Int) := by omega
            have hk1 : (j : Int) < (k.length : Int) := by omega
            have hbw := P.below
            have hLr := hL.keep hbw
            have hlow : ∀ q, FA q → 0 < q := fun q hq => by have := P.lowA q hq; have := hL.pos; omega
            have hkc : ∀ V, Below w.heap.size w V → SliceF V (.slice ak k.length ck) k := fun V hV => hk.keep hV (Nat.le_refl _)
            obtain ⟨ad, rfl, c0, c1, c2, c3⟩ := (hkc _ hbw).fnAt j hlt
            have hB := R.build hLr hlow P.a ok k[j]
            have hM := fun V F (hV : RefSAt V bM F s) => refSBuild 8 s k[j] V F hV ok (supN_8 _)
            have hE := MS.bld_err s k[j] ok
            have okB := (MS.bld_spec 8 s k[j] ok (supN_8 _)).1
            unfold MkPost at hM
            have hkc2 : ∀ V, Below w.heap.size w V → V.cell? (ad.add (j * 4)) = some (.int .u64 (wd k[j] 0)) ∧ V.cell? ⟨(ad.add (j * 4)).block, (ad.add (j * 4)).off + 1, none⟩ = some (.int .u64 (wd k[j] 1)) ∧ V.cell? ⟨(ad.add (j * 4)).block, (ad.add (j * 4)).off + 2, none⟩ = some (.int .u64 (wd k[j] 2)) ∧ V.cell? ⟨(ad.add (j * 4)).block, (ad.add (j * 4)).off + 3, none⟩ = some (.int .u64 (wd k[j] 3)) := fun V hV => by
              obtain ⟨ad2, e, h⟩ := (hkc V hV).fnAt j hlt
              cases e
              exact h
            generalize k[j] = f at *
            generalize MS.bld 8 s f = r at *
            obtain ⟨r0, r1, S⟩ := r
            dsimp only at hB hM hE okB
            simp only [fv] at hB hM
            clear hkc hLr hlow
            go_wp2_with fail
            refine hB.mono ?_
            rintro e w4 ⟨rfl, FA1, hA1, hK1, hW1⟩
            have P1 := P.code H hA1 hK1 hW1
            obtain ⟨c0', c1', c2', c3'⟩ := hkc2 _ P1.below
            clear hB c0 c1 c2 c3 hA1 hK1 hW1 hkc2
            go_wp2_with fail
            refine (hM _ _ P1.m).mono ?_
            rintro e w5 ⟨rfl, FM1, hM1, hK1, hW1⟩
            have P2' := P1.ref H hM1 hK1 hW1
            clear hM c0' c1' c2' c3' hM1 hK1 hW1 P1 P
            go_wp2_with fail
            refine (lawCode _ _ hE.1 hE.2).mono ?_
            rintro e wx ⟨rfl, rfl⟩
            go_wp2
            exact ⟨⟨j + 1, S, FA1, FM1, by omega, by go_num, okB, P2'⟩, by simp [intOf]; omega⟩
          · obtain rfl : j = k.length := by omega
            replace P := Lib.hid P
            replace ok := Lib.hid ok
            go_wp2
            clear hlt hj
            go_loopw [16] (fun i wr => ∃ (j : Nat) (s : MS) (FA FM : Nat → Prop), j ≤ sw.length ∧ i = .int .i64 j ∧ s.Ok ∧ P2 StAt w bA bM FA FM s s wr) (fun i _ => sw.length - (intOf i).toNat)
            case atStart => exact ⟨0, s, _, _, Nat.zero_le _, rfl, ok.out, P.out⟩
            case round =>
              clear P ok
              obtain ⟨j, s, FA, FM, hj, rfl, ok, P⟩ := hrel
              by_cases hlt : j < sw.length
              · have hk0 : (0 : Int) ≤ (j : Int) := by omega
                have hk1 : (j : Int) < (sw.length : Int) := by omega
                obtain ⟨ad, rfl, c0⟩ := (hs.keep P.below).intAt j hlt
                have wA := hsw _ (List.getElem_mem hlt)
                generalize sw[j] = A at *
                have pk7 := fun V => lawPick A 7 V (by decide) (by decide) wA
                go_wp2_with fail
                refine (pk7 _).mono ?_
                rintro e w3 ⟨rfl, rfl⟩
                clear pk7 c0
                generalize A % 7 = l at *
                have hE := s.swap_err l
                have ok' := ok.swapped l
                have hM := fun V F (hV : RefSAt V bM F s) => refSSwap hV ok l
                have hS := H.swap P.a ok l
                generalize s.swap l = r at *
                obtain ⟨E, S⟩ := r
                dsimp only at hE ok' hM hS
                go_wp2_with fail
                refine hS.mono ?_
                rintro e w4 ⟨rfl, FA1, hA1, hK1, hW1⟩
                have P1 := P.code H hA1 hK1 hW1
                clear hS hA1 hK1 hW1 P
                go_wp2_with fail
                refine (lawCode _ _ hE.1 hE.2).mono ?_
                rintro e wx ⟨rfl, rfl⟩
                go_wp2_with fail
                refine (hM _ _ P1.m).mono ?_
                rintro e w5 ⟨rfl, FM1, hM1, hK1, hW1⟩
                have P2' := P1.ref H hM1 hK1 hW1
                clear hM hM1 hK1 hW1 P1
                go_wp2
                exact ⟨⟨j + 1, S, FA1, FM1, by omega, by go_num, ok', P2'⟩, by simp [intOf]; omega⟩
              · obtain rfl : j = sw.length := by omega
                clear hlt hj
                go_wp2_with fail
                refine (lawSame H P ok).mono ?_
                rintro e w6 ⟨rfl, hb6⟩
                have P3 := P.keep H hb6
                clear P hb6
                go_wp2
                go_ret3
                exact .inr ⟨bA, bM, FA, FM, s, rfl, ok, P3⟩
      · have hs3 : 30 < (sw.length : Int) := by omega
        go_wp2
        go_ret3
        exact .inl ⟨rfl, P.below⟩
    · have hk3 : 6 < (k.length : Int) := by omega
      go_wp2
      go_ret3
      exact .inl ⟨rfl, P.below⟩
  · have hm : most < 0 ∨ 20000 < most := by omega
    go_wp2_with fail
    refine (lawBegin_no H most _ hm).mono ?_
    rintro e w2 ⟨rfl, hb2⟩
    go_wp2
    go_ret3
    exact .inl ⟨rfl, hb2⟩

end Go.Proofs.YtoopeaahpmfleaaGreatDoor

/-
  The document's Ite, Xor, Restrict, Compose, Exists, Forall walked.
-/
namespace Go.Proofs.YtoopeaahpmfleaaGreatDoor
open Go Go.RowKit

theorem MkPost.mono {w W : World} {b : Nat} {F G : Nat → Prop} {r : Int × Int × MS} {e : Ending} {w' : World} (h : MkPost W b G r e w') (hK : Keeps F w W) (hW : Within w F G) : MkPost w b F r e w' := by
  obtain ⟨he, F', hR, hK', hW'⟩ := h
  exact ⟨he, F', hR, hK.trans hK' hW, hW.trans hW' hK.size⟩

set_option maxRecDepth 100000 in
theorem refSThere {w : World} {b : Nat} {F : Nat → Prop} {s : MS} (h : RefSAt w b F s) (ok : s.Base) (n : Int) (hn : n ≤ 9223372036854775807) :
    Calls Tryz.prog 37 #[.pointer (some ⟨b, 0, none⟩), .int .i64 n] w fun e w' => e = .returned (.bool (s.there n)) ∧ w = w' := by
  have H := refSHas h ok n hn
  unfold MS.there
  go_enter Tryz.func37, Tryz.ntmps37
  by_cases h0 : n = 0
  · subst h0
    go_wp2
    go_ret
    exact ⟨rfl, rfl⟩
  · have b0 : (n == 0) = false := by rw [beq_eq_false_iff_ne]; exact h0
    by_cases h1 : n = 1
    · subst h1
      go_wp2
      go_ret
      exact ⟨rfl, rfl⟩
    · have b1 : (n == 1) = false := by rw [beq_eq_false_iff_ne]; exact h1
      rw [b0, b1, Bool.false_or, Bool.false_or]
      clear h0 h1
      generalize s.has n = x at *
      go_wp2_with fail
      refine H.mono ?_
      rintro e w1 ⟨rfl, rfl⟩
      clear H
      go_wp2
      go_ret
      exact ⟨rfl, rfl⟩

set_option maxRecDepth 100000 in
set_option maxHeartbeats 4000000 in
theorem refSIte {w : World} {b : Nat} {F : Nat → Prop} {s : MS} (h : RefSAt w b F s) (ok : s.Ok) (f g k : Int) (hf : f ≤ 9223372036854775807) (hg : g ≤ 9223372036854775807) (hk : k ≤ 9223372036854775807) :
    Calls Tryz.prog 41 #[.pointer (some ⟨b, 0, none⟩), .int .i64 f, .int .i64 g, .int .i64 k] w (MkPost w b F (s.ite f g k)) := by
  have TF := refSThere h ok.toBase f hf
  have TG := refSThere h ok.toBase g hg
  have TK := refSThere h ok.toBase k hk
  generalize hr : s.ite f g k = r
  unfold MS.ite at hr
  unfold MkPost
  go_enter Tryz.func41, Tryz.ntmps41
  cases t1 : s.there f
  · rw [if_neg (by simp [t1])] at hr
    subst hr
    rw [t1] at TF
    clear TG TK
    go_wp2_with fail
    refine TF.mono ?_
    rintro e w1 ⟨rfl, rfl⟩
    clear TF
    go_wp2
    go_ret2
    exact ⟨rfl, F, h, Keeps.refl _ _, Within.refl _ _⟩
  rw [t1] at TF
  cases t2 : s.there g
  · rw [if_neg (by simp [t2])] at hr
    subst hr
    rw [t2] at TG
    clear TK
    go_wp2_with fail
    refine TF.mono ?_
    rintro e w1 ⟨rfl, rfl⟩
    clear TF
    go_wp2_with fail
    refine TG.mono ?_
    rintro e w1 ⟨rfl, rfl⟩
    clear TG
    go_wp2
    go_ret2
    exact ⟨rfl, F, h, Keeps.refl _ _, Within.refl _ _⟩
  rw [t2] at TG
  cases t3 : s.there k
  · rw [if_neg (by simp [t3])] at hr
    subst hr
    rw [t3] at TK
    go_wp2_with fail
    refine TF.mono ?_
    rintro e w1 ⟨rfl, rfl⟩
    clear TF
    go_wp2_with fail
    refine TG.mono ?_
    rintro e w1 ⟨rfl, rfl⟩
    clear TG
    go_wp2_with fail
    refine TK.mono ?_
    rintro e w1 ⟨rfl, rfl⟩
    clear TK
    go_wp2
    go_ret2
    exact ⟨rfl, F, h, Keeps.refl _ _, Within.refl _ _⟩
  rw [t3] at TK
  rw [if_pos ⟨t1, t2, t3⟩] at hr
  have A1 := refSTable ok 8 f w h (ok.dep_le _) hf
  have A2 := fun W (hb : Below w.heap.size w W) => refSTable ok 8 g W (h.below hb) (ok.dep_le _) hg
  have A3 := fun W (hb : Below w.heap.size w W) => refSTable ok 8 k W (h.below hb) (ok.dep_le _) hk
  have A5 := fun W (hb : Below w.heap.size w W) => refSBuild 8 s (iteF (s.tab f) (s.tab g) (s.tab k)) W F (h.below hb) ok (supN_8 _)
  rw [hr] at A5
  have A4 := fun W => refIte (s.tab f) (s.tab g) (s.tab k) W
  unfold MkPost at A5
  rw [show (s.tab f &&& s.tab g ||| ~~~s.tab f &&& s.tab k) = iteF (s.tab f) (s.tab g) (s.tab k) from rfl] at A4
  clear h hr t1 t2 t3
  generalize iteF (s.tab f) (s.tab g) (s.tab k) = x at *
  generalize s.tab f = x1 at *
  generalize s.tab g = x2 at *
  generalize s.tab k = x3 at *
  go_wp2_with fail
  refine TF.mono ?_
  rintro e w1 ⟨rfl, rfl⟩
  clear TF
  go_wp2_with fail
  refine TG.mono ?_
  rintro e w1 ⟨rfl, rfl⟩
  clear TG
  go_wp2_with fail
  refine TK.mono ?_
  rintro e w1 ⟨rfl, rfl⟩
  clear TK
  go_wp2_with fail
  refine A1.mono ?_
  rintro e w1 ⟨rfl, hb1⟩
  clear A1
  go_wp2_with fail
  refine (A2 _ hb1).mono ?_
  rintro e w2 ⟨rfl, hb2⟩
  replace hb1 := hb1.trans (hb2.mono hb1.size)
  clear A2 hb2
  go_wp2_with fail
  refine (A3 _ hb1).mono ?_
  rintro e w2 ⟨rfl, hb2⟩
  replace hb1 := hb1.trans (hb2.mono hb1.size)
  clear A3 hb2
  go_wp2_with fail
  refine (A4 _).mono ?_
  rintro e w2 ⟨rfl, hb2⟩
  replace hb1 := hb1.trans (hb2.mono hb1.size)
  clear A4 hb2
  go_wp2_with fail
  refine (A5 _ hb1).mono ?_
  rintro e w3 ⟨rfl, F', hR, hK, hW⟩
  clear A5
  go_wp2
  go_ret2
  exact ⟨rfl, F', hR, (Keeps.of_below hb1 F).and hK, fun q hq => (hW q hq).imp id (fun h => Nat.le_trans hb1.size h)⟩


set_option maxRecDepth 100000 in
set_option maxHeartbeats 4000000 in
theorem refSRestrict {w : World} {b : Nat} {F : Nat → Prop} {s : MS} (h : RefSAt w b F s) (ok : s.Ok) (f v : Int) (z : Bool) (hf : f ≤ 9223372036854775807) :
    Calls Tryz.prog 11 #[.pointer (some ⟨b, 0, none⟩), .int .i64 f, .int .i64 v, .bool z] w (MkPost w b F (s.restr f v z)) := by
  have TF := refSThere h ok.toBase f hf
  generalize hr : s.restr f v z = r
  unfold MS.restr at hr
  unfold MkPost
  go_enter Tryz.func11, Tryz.ntmps11
  cases t1 : s.there f
  · rw [if_neg (by simp [t1])] at hr
    subst hr
    rw [t1] at TF
    go_wp2_with fail
    refine TF.mono ?_
    rintro e w1 ⟨rfl, rfl⟩
    clear TF
    go_wp2
    go_ret2
    exact ⟨rfl, F, h, Keeps.refl _ _, Within.refl _ _⟩
  rw [t1] at TF
  by_cases h0 : 0 ≤ v
  · by_cases h7 : v ≤ 7
    · rw [if_pos ⟨t1, h0, h7⟩] at hr
      have A1 := refSTable ok 8 f w h (ok.dep_le _) hf
      have A4 := fun W => refCof (s.tab f) v z W
      have A5 := fun W (hb : Below w.heap.size w W) => refSBuild 8 s (cofAny (s.tab f) v z) W F (h.below hb) ok (supN_8 _)
      rw [hr] at A5
      unfold MkPost at A5
      clear h hr t1
      generalize cofAny (s.tab f) v z = x at *
      generalize s.tab f = x1 at *
      go_wp2_with fail
      refine TF.mono ?_
      rintro e w1 ⟨rfl, rfl⟩
      clear TF
      go_wp2_with fail
      refine A1.mono ?_
      rintro e w1 ⟨rfl, hb1⟩
      clear A1
      go_wp2_with fail
      refine (A4 _).mono ?_
      rintro e w2 ⟨rfl, hb2⟩
      replace hb1 := hb1.trans (hb2.mono hb1.size)
      clear A4 hb2
      go_wp2_with fail
      refine (A5 _ hb1).mono ?_
      rintro e w3 ⟨rfl, F', hR, hK, hW⟩
      clear A5
      go_wp2
      go_ret2
      exact ⟨rfl, F', hR, (Keeps.of_below hb1 F).and hK, fun q hq => (hW q hq).imp id (fun h => Nat.le_trans hb1.size h)⟩
    · rw [if_neg (by simp [h7])] at hr
      subst hr
      have h8 : 7 < v := by omega
      go_wp2_with fail
      refine TF.mono ?_
      rintro e w1 ⟨rfl, rfl⟩
      clear TF
      go_wp2
      go_ret2
      exact ⟨rfl, F, h, Keeps.refl _ _, Within.refl _ _⟩
  · rw [if_neg (by simp [h0])] at hr
    subst hr
    go_wp2_with fail
    refine TF.mono ?_
    rintro e w1 ⟨rfl, rfl⟩
    clear TF
    go_wp2
    go_ret2
    exact ⟨rfl, F, h, Keeps.refl _ _, Within.refl _ _⟩

set_option maxRecDepth 100000 in
set_option maxHeartbeats 8000000 in
theorem refSThree {w : World} {b : Nat} {F : Nat → Prop} {s : MS} (h : RefSAt w b F s) (ok : s.Ok) (what f v g : Int) (hf : f ≤ 9223372036854775807) (hg : g ≤ 9223372036854775807) (hw : what = 0 ∨ what = 1 ∨ what = 2) :
    Calls Tryz.prog 13 #[.pointer (some ⟨b, 0, none⟩), .int .i64 what, .int .i64 f, .int .i64 v, .int .i64 g] w (MkPost w b F (s.three what f v g)) := by
  have TG := refSThere h ok.toBase g hg
  generalize hr : s.three what f v g = r
  unfold MS.three at hr
  by_cases hbad : what = 0 ∧ s.there g = false
  · rw [if_pos hbad] at hr
    subst hr
    obtain ⟨rfl, tg⟩ := hbad
    rw [tg] at TG
    unfold MkPost
    go_enter Tryz.func13, Tryz.ntmps13
    go_wp2_with fail
    refine TG.mono ?_
    rintro e w1 ⟨rfl, rfl⟩
    clear TG
    go_wp2
    go_ret2
    exact ⟨rfl, F, h, Keeps.refl _ _, Within.refl _ _⟩
  rw [if_neg hbad] at hr
  dsimp only at hr
  have TG2 : what = 0 → Calls Tryz.prog 37 #[.pointer (some ⟨b, 0, none⟩), .int .i64 g] w fun e w' => e = .returned (.bool true) ∧ w = w' := fun e => by
    have : s.there g = true := by
      cases hg2 : s.there g
      · exact absurd ⟨e, hg2⟩ hbad
      · rfl
    rwa [this] at TG
  have A1 := refSRestrict h ok f v false hf
  obtain ⟨ok1, _, _, th1⟩ := ok.restr_spec f v false
  unfold MkPost at A1
  generalize s.restr f v false = x1 at *
  obtain ⟨a0, a1, s1⟩ := x1
  dsimp only at hr A1 ok1 th1
  clear TG hbad
  have P0 : ∀ (Q : Prop), (∀ (W : World), W = w → Q) → Q := fun Q h => h w rfl
  by_cases ha : a1 = 0
  · subst ha
    rw [if_neg (by simp)] at hr
    have A2 := fun W F1 (h1 : RefSAt W b F1 s1) => refSRestrict h1 ok1 f v true hf
    obtain ⟨ok2, hE2, _, th2⟩ := ok1.restr_spec f v true
    unfold MkPost at A2
    have hth1 := (th1 rfl).1
    generalize s1.restr f v true = x2 at *
    obtain ⟨c0, c1, s2⟩ := x2
    dsimp only at hr A2 ok2 th2 hE2
    by_cases hc : c1 = 0
    · subst hc
      rw [if_neg (by simp)] at hr
      have hc0 := (ok2.toBase.there_i64 (th2 rfl).1).1
      have ha0 := (ok2.toBase.there_i64 (hE2.there hth1)).1
      clear th1 th2 hth1 hE2 P0
      rcases hw with rfl | rfl | rfl
      · rw [if_pos rfl] at hr
        have A3 := fun W F1 (h1 : RefSAt W b F1 s2) => refSIte h1 ok2 g c0 a0 hg hc0 ha0
        rw [hr] at A3
        unfold MkPost at A3 ⊢
        replace TG2 := TG2 rfl
        clear h hr
        go_enter Tryz.func13, Tryz.ntmps13
        go_wp2_with fail
        refine TG2.mono ?_
        rintro e w1 ⟨rfl, rfl⟩
        clear TG2
        go_wp2_with fail
        refine A1.mono ?_
        rintro e w1 ⟨rfl, F1, hR1, hK1, hW1⟩
        clear A1
        go_wp2_with fail
        refine (A2 _ _ hR1).mono ?_
        rintro e w2 ⟨rfl, F2, hR2, hK2, hW2⟩
        clear A2 hR1
        go_wp2_with fail
        refine (A3 _ _ hR2).mono ?_
        rintro e w3 ⟨rfl, F3, hR3, hK3, hW3⟩
        clear A3 hR2
        go_wp2
        go_ret2
        exact ⟨rfl, F3, hR3, (hK1.trans hK2 hW1).trans hK3 (hW1.trans hW2 hK1.size), (hW1.trans hW2 hK1.size).trans hW3 (hK1.trans hK2 hW1).size⟩
      · rw [if_neg (by decide), if_pos rfl] at hr
        have A3 := fun W F1 (h1 : RefSAt W b F1 s2) => refSIte h1 ok2 a0 1 c0 ha0 (by decide) hc0
        rw [hr] at A3
        unfold MkPost at A3 ⊢
        clear h hr TG2
        go_enter Tryz.func13, Tryz.ntmps13
        go_wp2_with fail
        refine A1.mono ?_
        rintro e w1 ⟨rfl, F1, hR1, hK1, hW1⟩
        clear A1
        go_wp2_with fail
        refine (A2 _ _ hR1).mono ?_
        rintro e w2 ⟨rfl, F2, hR2, hK2, hW2⟩
        clear A2 hR1
        go_wp2_with fail
        refine (A3 _ _ hR2).mono ?_
        rintro e w3 ⟨rfl, F3, hR3, hK3, hW3⟩
        clear A3 hR2
        go_wp2
        go_ret2
        exact ⟨rfl, F3, hR3, (hK1.trans hK2 hW1).trans hK3 (hW1.trans hW2 hK1.size), (hW1.trans hW2 hK1.size).trans hW3 (hK1.trans hK2 hW1).size⟩
      · rw [if_neg (by decide), if_neg (by decide)] at hr
        have A3 := fun W F1 (h1 : RefSAt W b F1 s2) => refSIte h1 ok2 a0 c0 0 ha0 hc0 (by decide)
        rw [hr] at A3
        unfold MkPost at A3 ⊢
        clear h hr TG2
        go_enter Tryz.func13, Tryz.ntmps13
        go_wp2_with fail
        refine A1.mono ?_
        rintro e w1 ⟨rfl, F1, hR1, hK1, hW1⟩
        clear A1
        go_wp2_with fail
        refine (A2 _ _ hR1).mono ?_
        rintro e w2 ⟨rfl, F2, hR2, hK2, hW2⟩
        clear A2 hR1
        go_wp2_with fail
        refine (A3 _ _ hR2).mono ?_
        rintro e w3 ⟨rfl, F3, hR3, hK3, hW3⟩
        clear A3 hR2
        go_wp2
        go_ret2
        exact ⟨rfl, F3, hR3, (hK1.trans hK2 hW1).trans hK3 (hW1.trans hW2 hK1.size), (hW1.trans hW2 hK1.size).trans hW3 (hK1.trans hK2 hW1).size⟩
    · rw [if_pos hc] at hr
      subst hr
      have hb : (c1 == 0) = false := by rw [beq_eq_false_iff_ne]; exact hc
      unfold MkPost
      clear h th1 th2 hth1 hE2 P0 hc
      rcases hw with rfl | hw
      · replace TG2 := TG2 rfl
        go_enter Tryz.func13, Tryz.ntmps13
        go_wp2_with fail
        refine TG2.mono ?_
        rintro e w1 ⟨rfl, rfl⟩
        clear TG2
        go_wp2_with fail
        refine A1.mono ?_
        rintro e w1 ⟨rfl, F1, hR1, hK1, hW1⟩
        clear A1
        go_wp2_with fail
        refine (A2 _ _ hR1).mono ?_
        rintro e w2 ⟨rfl, F2, hR2, hK2, hW2⟩
        clear A2 hR1
        go_wp2
        go_ret2
        exact ⟨rfl, F2, hR2, hK1.trans hK2 hW1, hW1.trans hW2 hK1.size⟩
      · have hwb : (what == 0) = false := by rw [beq_eq_false_iff_ne]; omega
        clear TG2 hw
        go_enter Tryz.func13, Tryz.ntmps13
        go_wp2_with fail
        refine A1.mono ?_
        rintro e w1 ⟨rfl, F1, hR1, hK1, hW1⟩
        clear A1
        go_wp2_with fail
        refine (A2 _ _ hR1).mono ?_
        rintro e w2 ⟨rfl, F2, hR2, hK2, hW2⟩
        clear A2 hR1
        go_wp2
        go_ret2
        exact ⟨rfl, F2, hR2, hK1.trans hK2 hW1, hW1.trans hW2 hK1.size⟩
  · rw [if_pos ha] at hr
    subst hr
    have hb : (a1 == 0) = false := by rw [beq_eq_false_iff_ne]; exact ha
    unfold MkPost
    clear h th1 P0 ha
    rcases hw with rfl | hw
    · replace TG2 := TG2 rfl
      go_enter Tryz.func13, Tryz.ntmps13
      go_wp2_with fail
      refine TG2.mono ?_
      rintro e w1 ⟨rfl, rfl⟩
      clear TG2
      go_wp2_with fail
      refine A1.mono ?_
      rintro e w1 ⟨rfl, F1, hR1, hK1, hW1⟩
      clear A1
      go_wp2
      go_ret2
      exact ⟨rfl, F1, hR1, hK1, hW1⟩
    · have hwb : (what == 0) = false := by rw [beq_eq_false_iff_ne]; omega
      clear TG2 hw
      go_enter Tryz.func13, Tryz.ntmps13
      go_wp2_with fail
      refine A1.mono ?_
      rintro e w1 ⟨rfl, F1, hR1, hK1, hW1⟩
      clear A1
      go_wp2
      go_ret2
      exact ⟨rfl, F1, hR1, hK1, hW1⟩

end Go.Proofs.YtoopeaahpmfleaaGreatDoor

/-
  IteTells over contracts.
-/
namespace Go.Proofs.YtoopeaahpmfleaaGreatDoor
open Go Go.RowKit

/-- A call of layer 9. -/
structure C9 where
  what : Int
  f : Int
  g : Int
  h : Int
  raw : Bool
def C9.good (d : C9) : Prop := (Lit.int .i64 d.what).wf = true ∧ (Lit.int .i64 d.f).wf = true ∧ (Lit.int .i64 d.g).wf = true ∧ (Lit.int .i64 d.h).wf = true



end Go.Proofs.YtoopeaahpmfleaaGreatDoor

/-
  OperTells over contracts.
-/
namespace Go.Proofs.YtoopeaahpmfleaaGreatDoor
open Go Go.RowKit


end Go.Proofs.YtoopeaahpmfleaaGreatDoor

/-
  QuantTells over contracts.
-/
namespace Go.Proofs.YtoopeaahpmfleaaGreatDoor
open Go Go.RowKit

/-- A call of layer 11. -/
structure C11 where
  what : Int
  f : Int
  v : Int
  g : Int
  b : Bool
  raw : Bool
def C11.good (d : C11) : Prop := (Lit.int .i64 d.what).wf = true ∧ (Lit.int .i64 d.f).wf = true ∧ (Lit.int .i64 d.v).wf = true ∧ (Lit.int .i64 d.g).wf = true

/-- Its cells. -/
def encC11 : Enc Tryz.prog C11 where
  slice := 24
  elem := 33
  size := 6
  bytes := 40
  cells d := [.int .i64 d.what, .int .i64 d.f, .int .i64 d.v, .int .i64 d.g, .bool d.b, .bool d.raw]
  zero := .agg #[.int .i64 0, .int .i64 0, .int .i64 0, .int .i64 0, .bool false, .bool false]
  und := Tryz.underlying24
  info := info_of _ _ _ _ _ (by kernel_rfl)
  zsize := rfl
  pos := by decide
  few := by decide
  len _ := rfl
  one d u h := by
    simp only [List.mem_cons, List.not_mem_nil, or_false] at h
    rcases h with rfl | rfl | rfl | rfl | rfl | rfl <;> rfl

theorem callAt11 {w : World} {a : Option Addr} {cap : Nat} {l : List C11} (h : Reads encC11 w (.slice a l.length cap) l) (i : Nat) (hi : i < l.length) : ∃ ad, a = some ad ∧ w.cell? (ad.add (i * 6)) = some (.int .i64 l[i].what) ∧
    w.cell? ⟨(ad.add (i * 6)).block, (ad.add (i * 6)).off + 1, none⟩ = some (.int .i64 l[i].f) ∧ w.cell? ⟨(ad.add (i * 6)).block, (ad.add (i * 6)).off + 2, none⟩ = some (.int .i64 l[i].v) ∧
    w.cell? ⟨(ad.add (i * 6)).block, (ad.add (i * 6)).off + 3, none⟩ = some (.int .i64 l[i].g) ∧ w.cell? ⟨(ad.add (i * 6)).block, (ad.add (i * 6)).off + 4, none⟩ = some (.bool l[i].b) ∧ w.cell? ⟨(ad.add (i * 6)).block, (ad.add (i * 6)).off + 5, none⟩ = some (.bool l[i].raw) := by
  obtain ⟨ad, rfl, H⟩ := h.at i hi
  have h0 := H 0 (by decide)
  have h1 := H 1 (by decide)
  have h2 := H 2 (by decide)
  have h3 := H 3 (by decide)
  have h4 := H 4 (by decide)
  have h5 := H 5 (by decide)
  simp only [encC11] at h1 h2 h3 h4 h5
  rw [← Addr.add_add, Addr.add, if_neg (by omega)] at h1 h2 h3 h4 h5
  exact ⟨ad, rfl, by simpa [encC11] using h0, by simpa using h1, by simpa using h2, by simpa using h3, by simpa using h4, by simpa using h5⟩

/-- A variable that holds a call. -/
def HoldsC11 (w : World) (b : Nat) (d : C11) : Prop := w.heap[b]? = some (.cells #[.int .i64 d.what, .int .i64 d.f, .int .i64 d.v, .int .i64 d.g, .bool d.b, .bool d.raw] 33 (0, 0))
theorem HoldsC11.cells {w : World} {b : Nat} {d : C11} (h : HoldsC11 w b d) : w.cell? ⟨b, 0, none⟩ = some (.int .i64 d.what) ∧ w.cell? ⟨b, 1, none⟩ = some (.int .i64 d.f) ∧ w.cell? ⟨b, 2, none⟩ = some (.int .i64 d.v) ∧ w.cell? ⟨b, 3, none⟩ = some (.int .i64 d.g) ∧ w.cell? ⟨b, 4, none⟩ = some (.bool d.b) ∧ w.cell? ⟨b, 5, none⟩ = some (.bool d.raw) :=
  ⟨by rw [cell_of_row _ _ _ _ _ _ h]; rfl, by rw [cell_of_row _ _ _ _ _ _ h]; rfl, by rw [cell_of_row _ _ _ _ _ _ h]; rfl, by rw [cell_of_row _ _ _ _ _ _ h]; rfl, by rw [cell_of_row _ _ _ _ _ _ h]; rfl, by rw [cell_of_row _ _ _ _ _ _ h]; rfl⟩
theorem HoldsC11.lt {w : World} {b : Nat} {d : C11} (h : HoldsC11 w b d) : b < w.heap.size := row_lt h
theorem HoldsC11.keep {w w' : World} {b : Nat} {d : C11} {F : Nat → Prop} (h : HoldsC11 w b d) (hb : Keeps F w w') (hF : ¬ F b) : HoldsC11 w' b d := (hb.block b h.lt hF).trans h
theorem HoldsC11.below {w w' : World} {b : Nat} {d : C11} (h : HoldsC11 w b d) (hb : Below w.heap.size w w') : HoldsC11 w' b d := (hb.block b h.lt).trans h
theorem HoldsC11.new (w : World) (d : C11) : HoldsC11 (w.alloc (.cells #[.int .i64 d.what, .int .i64 d.f, .int .i64 d.v, .int .i64 d.g, .bool d.b, .bool d.raw] 33)) w.heap.size d := heap_alloc_new _ _

set_option maxRecDepth 100000 in
set_option maxHeartbeats 8000000 in
theorem quantTells' {StAt CAt : World → Nat → (Nat → Prop) → MS → Prop} (H : StoreC StAt) (R : ReadC StAt) (I : IteC StAt CAt) (O : QuantC StAt CAt) (hUp : ∀ W, LowW W → Calls Tryz.prog 5 #[] W fun e w' => e = .returned (.bool true) ∧ Below W.heap.size W w')
    (most : Int) (k : List Fn) (sw : List Int) (l : List C11) (vk vs vc : Value) (w : World) (hL : LowW w) (hk : SliceF w vk k) (hs : Reads encI w vs sw) (hsw : ∀ a ∈ sw, (Lit.int .i64 a).wf = true) (hc : Reads encC11 w vc l) (hcw : ∀ d ∈ l, d.good) :
    Calls Tryz.prog 3 #[.int .i64 most, vk, vs, vc] w fun e w' => e = .returned (.bool true) ∧ Below w.heap.size w w' := by
  obtain ⟨ac, cc, rfl⟩ := hc.form
  go_enter Tryz.func3, Tryz.ntmps3
  go_wp2_with fail
  refine (hUp _ hL).mono ?_
  rintro e w1 ⟨rfl, hb1⟩
  have HB := lawBuilt H R most k sw vk vs w1 (hL.keep hb1) (hk.keep hb1 (Nat.le_refl _)) (hs.keep hb1) hsw
  go_wp2_with fail
  refine HB.mono ?_
  clear HB hk hs hsw hL
  rintro e w2 (⟨rfl, hb2⟩ | ⟨bA, bM, FA, FM, s, rfl, ok, P⟩)
  · go_wp2_with fail
    refine (I.new _).mono ?_
    rintro e w3 ⟨c, rfl, _, hb3⟩
    have hb := (hb1.trans (hb2.mono hb1.size)).trans (hb3.mono (hb1.trans (hb2.mono hb1.size)).size)
    clear hb1 hb2 hb3
    go_wp2
    go_ret
    exact ⟨rfl, hb⟩
  go_wp2_with fail
  refine (I.new _).mono ?_
  rintro e w3 ⟨bC, rfl, ⟨FC, hC, hFC⟩, hb3⟩
  have P3 : P3 StAt CAt w1 bA bM bC FA FM FC s w3 := ⟨P.keep H hb3, hC s ok, fun k h1 h2 => by have := H.lt P.a k h1; have := hFC k h2; omega, fun k h1 h2 => by have := P.m.lt k h1; have := hFC k h2; omega, fun k h1 => Nat.le_trans P.below.size (hFC k h1)⟩
  clear P hC hFC hb3
  by_cases hl20 : l.length ≤ 20
  · have hl3 : ¬ 20 < (l.length : Int) := by omega
    have P := Lib.hid P3
    replace ok := Lib.hid ok
    clear P3
    go_wp2
    go_loopw [14] (fun i wr => ∃ (j : Nat) (s : MS) (FA FM FC : Nat → Prop), j ≤ l.length ∧ i = .int .i64 j ∧ s.Ok ∧ P3 StAt CAt w1 bA bM bC FA FM FC s wr) (fun i _ => l.length - (intOf i).toNat)
    case atStart => exact ⟨0, s, _, _, _, Nat.zero_le _, rfl, ok.out, P.out⟩
    case round =>
      clear P ok
      obtain ⟨j, s, FA, FM, FC, hj, rfl, ok, P⟩ := hrel
      by_cases hlt : j < l.length
      · have hk0 : (0 : Int) ≤ (j : Int) := by omega
        have hk1 : (j : Int) < (l.length : Int) := by omega
        obtain ⟨ad, rfl, q0, q1, q2, q3, q4, q5⟩ := callAt11 (hc.keep (hb1.trans (P.p.below.mono hb1.size))) j hlt
        have hwk := hcw _ (List.getElem_mem hlt)
        generalize l[j] = d at *
        obtain ⟨What, A, V', B, bb, raw⟩ := d
        obtain ⟨g0, g1, g3, g2⟩ := hwk
        dsimp only at q0 q1 q2 q3 q4 q5 g0 g1 g2 g3
        have hx := HoldsC11.new wr ⟨What, A, V', B, bb, raw⟩
        dsimp only at hx
        obtain ⟨x0, x1, x2, x3, x4, x5⟩ := HoldsC11.cells hx
        dsimp only at x0 x1 x2 x3 x4 x5
        have hbV : Below wr.heap.size wr (wr.alloc (.cells #[.int .i64 What, .int .i64 A, .int .i64 V', .int .i64 B, .bool bb, .bool raw] 33)) := by go_grown
        have P' := P.keep H I hbV
        have nA : ¬ FA wr.heap.size := fun e => by have := H.lt P.p.a _ e; omega
        have nM : ¬ FM wr.heap.size := fun e => by have := P.p.m.lt _ e; omega
        have nC : ¬ FC wr.heap.size := fun e => by have := I.lt P.c _ e; omega
        have pk4 := fun V => lawPick What 4 V (by decide) (by decide) g0
        have p1 := Int.emod_nonneg What (show (4 : Int) ≠ 0 by decide)
        have p2 := Int.emod_lt_of_pos What (show (0 : Int) < 4 by decide)
        generalize What % 4 = p at *
        have uA' := ok.toBase.pick_le (n := A) (raw := raw) (le_of_wf g1)
        have uB' := ok.toBase.pick_le (n := B) (raw := raw && decide (B < 0)) (le_of_wf g2)
        have vA' := ok.toBase.pick_ge (n := A) (raw := raw) (ge_of_wf g1)
        have vB' := ok.toBase.pick_ge (n := B) (raw := raw && decide (B < 0)) (ge_of_wf g2)
        have nA' := lawNode P'.p.m ok.toBase A raw g1
        clear P hbV nM
        generalize s.pick A raw = fa at *
        replace P' := Lib.hid P'
        go_wp2_with fail
        generalize wr.alloc (.cells #[.int .i64 What, .int .i64 A, .int .i64 V', .int .i64 B, .bool bb, .bool raw] 33) = V at *
        generalize hbx : wr.heap.size = bx at *
        refine nA'.mono ?_
        rintro e w6 ⟨rfl, hb6⟩
        clear nA' q0 q1 q2 q3 q4 q5 x0 x1 x2 x3 x4 x5
        have P := P'.out.keep H I hb6
        replace hx := HoldsC11.below hx hb6
        clear hb6 P'
        go_upto_region 11 with (fail)
        have nN := fun (r : Bool) => lawNode P.p.m ok.toBase B r g2
        obtain ⟨y0, y1, y2, y3, y4, y5⟩ := HoldsC11.cells hx
        dsimp only at y0 y1 y2 y3 y4 y5
        go_cut [17] from 52 to 175 (fun s17 wd => s17 = .int .i64 (s.pick B (raw && decide (B < 0))) ∧ Below w6.heap.size w6 wd)
        case first =>
          cases raw
          · have nN1 := nN false
            go_wp2_with fail
            refine nN1.mono ?_
            rintro e wd ⟨rfl, hbd⟩
            go_wp2
            go_meet
            case rel => exact ⟨rfl, hbd⟩
          · have nN1 := nN (decide (B < 0))
            go_wp2_with fail
            refine nN1.mono ?_
            rintro e wd ⟨rfl, hbd⟩
            go_wp2
            go_meet
            case rel => exact ⟨rfl, hbd⟩
        case rest =>
        obtain ⟨rfl, hbd⟩ := hcut
        clear nN y0 y1 y2 y3 y4 y5
        replace P := P.keep H I hbd
        replace hx := HoldsC11.below hx hbd
        clear hbd
        generalize s.pick B (raw && decide (B < 0)) = gb at *
        obtain ⟨y0, y1, y2, y3, y4, y5⟩ := HoldsC11.cells hx
        dsimp only at y0 y1 y2 y3 y4 y5
        go_wp2_with fail
        refine (pk4 _).mono ?_
        rintro e w7 ⟨rfl, rfl⟩
        clear pk4 y0 y1 y3 y5
        have wv : I64 V' := ⟨le_of_wf g3, ge_of_wf g3⟩
        rcases (by omega : p = 0 ∨ p = 1 ∨ p = 2 ∨ p = 3) with rfl | rfl | rfl | rfl
        · have HI := O.restrict P.p.a ok fa V' bb ⟨uA', vA'⟩ wv
          obtain ⟨ok', hX, hE, _⟩ := ok.restr_spec fa V' bb
          have hgr := MS.Grows.of_ext hX ok ok'
          have HM := fun V F (hV : RefSAt V bM F s) => refSRestrict hV ok fa V' bb uA'
          unfold MkPost at HM
          clear hX
          generalize s.restr fa V' bb = r at *
          obtain ⟨r0, r1, S⟩ := r
          dsimp only at HI HM ok' hE hgr
          go_wp2_with fail
          refine HI.mono ?_
          rintro e w7 ⟨rfl, FA1, hA1, hK1, hW1⟩
          obtain ⟨Q, hC1, hap⟩ := P.stores H I ok ok' hgr hA1 hK1 hW1
          have apM := P.apM
          have lowC := P.lowC
          obtain ⟨_, _, z2, _, z4, _⟩ := HoldsC11.cells (HoldsC11.keep hx hK1 nA)
          dsimp only at z2 z4
          clear HI P hA1 hK1 hW1 y2 y4
          go_wp2_with fail
          refine (HM _ _ Q.m).mono ?_
          rintro e w8 ⟨rfl, FM1, hM1, hK1, hW1⟩
          have P := P3.model H I Q hC1 hap apM lowC hM1 hK1 hW1
          clear HM Q hC1 hap apM lowC hM1 hK1 hW1 z2 z4
          go_wp2_with fail
          refine (lawCode _ _ hE.1 hE.2).mono ?_
          rintro e w9 ⟨rfl, rfl⟩
          go_wp2_with fail
          refine (lawSame H P.p ok').mono ?_
          rintro e w10 ⟨rfl, hb10⟩
          replace P := P.keep H I hb10
          clear hb10
          go_wp2
          exact ⟨⟨j + 1, S, _, _, _, by omega, by go_num, ok', P⟩, by simp [intOf]; omega⟩
        · have HI := O.compose P.p.a P.c ok P.apA fa V' gb ⟨uA', vA'⟩ wv ⟨uB', vB'⟩
          obtain ⟨ok', _, hE⟩ := ok.three_spec 0 fa V' gb
          have HM := fun V F (hV : RefSAt V bM F s) => refSThree hV ok 0 fa V' gb uA' uB' (by decide)
          unfold CallPost at HI
          unfold MkPost at HM
          generalize s.three 0 fa V' gb = r at *
          obtain ⟨r0, r1, S⟩ := r
          dsimp only at HI HM ok' hE
          go_wp2_with fail
          refine HI.mono ?_
          rintro e w7 ⟨rfl, FA1, FC1', hA1, hC1, hap, hK1, hWA, hWC⟩
          obtain ⟨Q, apM, lowC⟩ := P.call H I hA1 hK1 hWA hWC
          obtain ⟨_, _, z2, _, z4, _⟩ := HoldsC11.cells (HoldsC11.keep hx hK1 (fun e => e.elim nA nC))
          dsimp only at z2 z4
          clear HI P hA1 hK1 hWA hWC y2 y4
          go_wp2_with fail
          refine (HM _ _ Q.m).mono ?_
          rintro e w8 ⟨rfl, FM1, hM1, hK1, hW1⟩
          have P := P3.model H I Q hC1 hap apM lowC hM1 hK1 hW1
          clear HM Q hC1 hap apM lowC hM1 hK1 hW1 z2 z4
          go_wp2_with fail
          refine (lawCode _ _ hE.1 hE.2).mono ?_
          rintro e w9 ⟨rfl, rfl⟩
          go_wp2_with fail
          refine (lawSame H P.p ok').mono ?_
          rintro e w10 ⟨rfl, hb10⟩
          replace P := P.keep H I hb10
          clear hb10
          go_wp2
          exact ⟨⟨j + 1, S, _, _, _, by omega, by go_num, ok', P⟩, by simp [intOf]; omega⟩
        · have HI := O.ex P.p.a P.c ok P.apA fa V' ⟨uA', vA'⟩ wv
          obtain ⟨ok', _, hE⟩ := ok.three_spec 1 fa V' 0
          have HM := fun V F (hV : RefSAt V bM F s) => refSThree hV ok 1 fa V' 0 uA' (by decide) (by decide)
          unfold CallPost at HI
          unfold MkPost at HM
          generalize s.three 1 fa V' 0 = r at *
          obtain ⟨r0, r1, S⟩ := r
          dsimp only at HI HM ok' hE
          go_wp2_with fail
          refine HI.mono ?_
          rintro e w7 ⟨rfl, FA1, FC1', hA1, hC1, hap, hK1, hWA, hWC⟩
          obtain ⟨Q, apM, lowC⟩ := P.call H I hA1 hK1 hWA hWC
          obtain ⟨_, _, z2, _, z4, _⟩ := HoldsC11.cells (HoldsC11.keep hx hK1 (fun e => e.elim nA nC))
          dsimp only at z2 z4
          clear HI P hA1 hK1 hWA hWC y2 y4
          go_wp2_with fail
          refine (HM _ _ Q.m).mono ?_
          rintro e w8 ⟨rfl, FM1, hM1, hK1, hW1⟩
          have P := P3.model H I Q hC1 hap apM lowC hM1 hK1 hW1
          clear HM Q hC1 hap apM lowC hM1 hK1 hW1 z2 z4
          go_wp2_with fail
          refine (lawCode _ _ hE.1 hE.2).mono ?_
          rintro e w9 ⟨rfl, rfl⟩
          go_wp2_with fail
          refine (lawSame H P.p ok').mono ?_
          rintro e w10 ⟨rfl, hb10⟩
          replace P := P.keep H I hb10
          clear hb10
          go_wp2
          exact ⟨⟨j + 1, S, _, _, _, by omega, by go_num, ok', P⟩, by simp [intOf]; omega⟩
        · have HI := O.fa P.p.a P.c ok P.apA fa V' ⟨uA', vA'⟩ wv
          obtain ⟨ok', _, hE⟩ := ok.three_spec 2 fa V' 0
          have HM := fun V F (hV : RefSAt V bM F s) => refSThree hV ok 2 fa V' 0 uA' (by decide) (by decide)
          unfold CallPost at HI
          unfold MkPost at HM
          generalize s.three 2 fa V' 0 = r at *
          obtain ⟨r0, r1, S⟩ := r
          dsimp only at HI HM ok' hE
          go_wp2_with fail
          refine HI.mono ?_
          rintro e w7 ⟨rfl, FA1, FC1', hA1, hC1, hap, hK1, hWA, hWC⟩
          obtain ⟨Q, apM, lowC⟩ := P.call H I hA1 hK1 hWA hWC
          obtain ⟨_, _, z2, _, z4, _⟩ := HoldsC11.cells (HoldsC11.keep hx hK1 (fun e => e.elim nA nC))
          dsimp only at z2 z4
          clear HI P hA1 hK1 hWA hWC y2 y4
          go_wp2_with fail
          refine (HM _ _ Q.m).mono ?_
          rintro e w8 ⟨rfl, FM1, hM1, hK1, hW1⟩
          have P := P3.model H I Q hC1 hap apM lowC hM1 hK1 hW1
          clear HM Q hC1 hap apM lowC hM1 hK1 hW1 z2 z4
          go_wp2_with fail
          refine (lawCode _ _ hE.1 hE.2).mono ?_
          rintro e w9 ⟨rfl, rfl⟩
          go_wp2_with fail
          refine (lawSame H P.p ok').mono ?_
          rintro e w10 ⟨rfl, hb10⟩
          replace P := P.keep H I hb10
          clear hb10
          go_wp2
          exact ⟨⟨j + 1, S, _, _, _, by omega, by go_num, ok', P⟩, by simp [intOf]; omega⟩
      · obtain rfl : j = l.length := by omega
        go_wp2
        go_ret
        exact ⟨rfl, hb1.trans (P.p.below.mono hb1.size)⟩
  · have hl3 : 20 < (l.length : Int) := by omega
    go_wp2
    go_ret
    exact ⟨rfl, hb1.trans (P3.p.below.mono hb1.size)⟩

end Go.Proofs.YtoopeaahpmfleaaGreatDoor

/-
  Mathematics of layer 11's own law. Nothing of the program is read here.
-/
namespace Go.Proofs.YtoopeaahpmfleaaGreatDoor

section
variable {s : MS} {L : List Fn} {o : Nat → Int} {most : Nat}

theorem MS.Fits.restrAt (h : s.Fits L o most) {n v : Int} {f : Fn} (hn : s.At n f) (v0 : 0 ≤ v) (v7 : v ≤ 7) (b : Bool) (hs : 77 * (L.length + 1) ≤ most) :
    ∃ m t, s.restr n v b = (m, 0, t) ∧ t.Fits (cofAny f v b :: L) o most ∧ MS.Ext s t ∧ t.At m (cofAny f v b) := by
  obtain ⟨m, t, e, q⟩ := h.bldAt (cofAny f v b) hs
  exact ⟨m, t, by unfold MS.restr; rw [if_pos ⟨hn.1, v0, v7⟩, hn.2]; exact e, q⟩
/-- Compose, Exists, Forall: what they are of. -/
def threeF (what : Int) (f : Fn) (v : Int) (g : Fn) : Fn := if what = 0 then iteF g (cofAny f v true) (cofAny f v false) else if what = 1 then iteF (cofAny f v false) (BitVec.allOnes 256) (cofAny f v true) else iteF (cofAny f v false) (cofAny f v true) 0#256
theorem MS.Fits.threeAt (h : s.Fits L o most) (what : Int) {n v m : Int} {f g : Fn} (hn : s.At n f) (hm : s.At m g) (v0 : 0 ≤ v) (v7 : v ≤ 7) (hs : 77 * (L.length + 3) ≤ most) :
    ∃ k t, s.three what n v m = (k, 0, t) ∧ t.Fits (threeF what f v g :: cofAny f v true :: cofAny f v false :: L) o most ∧ MS.Ext s t ∧ t.At k (threeF what f v g) := by
  obtain ⟨a, t1, e1, X1, E1, A1⟩ := h.restrAt hn v0 v7 false (by omega)
  obtain ⟨b, t2, e2, X2, E2, A2⟩ := X1.restrAt (hn.ext E1 h.ok X1.ok) v0 v7 true (by simp only [List.length_cons]; omega)
  have B1 := A1.ext E2 X1.ok X2.ok
  have C := (hm.ext E1 h.ok X1.ok).ext E2 X1.ok X2.ok
  have E := E1.trans E2
  have w : ¬ (what = 0 ∧ s.there m = false) := fun h => by rw [hm.1] at h; cases h.2
  unfold MS.three threeF
  rw [if_neg w]
  dsimp only
  rw [e1]
  dsimp only
  rw [if_neg (by simp), e2]
  dsimp only
  rw [if_neg (by simp)]
  split
  · obtain ⟨k, t, e, X3, E3, A3⟩ := X2.iteAt C A2 B1 (by simp only [List.length_cons]; omega) _ rfl
    exact ⟨k, t, e, X3, E.trans E3, A3⟩
  · split
    · obtain ⟨k, t, e, X3, E3, A3⟩ := X2.iteAt B1 t2.at1 A2 (by simp only [List.length_cons]; omega) _ rfl
      exact ⟨k, t, e, X3, E.trans E3, A3⟩
    · obtain ⟨k, t, e, X3, E3, A3⟩ := X2.iteAt B1 A2 t2.at0 (by simp only [List.length_cons]; omega) _ rfl
      exact ⟨k, t, e, X3, E.trans E3, A3⟩

/-- What is reached from functions that don't depend on a variable is no node of it. -/
theorem MS.Ok.rch_dep (h : s.Ok) {v : Int} {roots : List Int} (hr : ∀ r ∈ roots, depAny (s.tab r) v = false) {n : Int} (hn : s.Rch roots n) : depAny (s.tab n) v = false := by
  induction hn with
  | root hm _ => exact hr _ hm
  | lo hp _ ih =>
    have := h.cof_node hp.has false
    rw [if_neg (by simp)] at this
    rw [← this]
    exact dep_cofAny _ _ _ _ ih
  | hi hp _ ih =>
    have := h.cof_node hp.has true
    rw [if_pos rfl] at this
    rw [← this]
    exact dep_cofAny _ _ _ _ ih
theorem MS.Ok.reach_var (h : s.Ok) {v : Int} {roots : List Int} (hr : ∀ r ∈ roots, depAny (s.tab r) v = false) : ∀ n ∈ s.reach roots, s.has n = true ∧ (s.nd n).var ≠ v := by
  intro n hn
  unfold MS.reach at hn
  have := (List.mem_filter.1 hn).2
  have hR : s.Rch roots n := by classical exact of_decide_eq_true this
  refine ⟨hR.has, fun e => ?_⟩
  have d := h.dep_var hR.has
  rw [e, h.rch_dep hr hR] at d
  cases d
theorem dep_or {f g : Fn} {v : Int} (hf : ∀ b, cofAny f v b = f) (hg : ∀ b, cofAny g v b = g) : depAny (f ||| g) v = false := cof_indep' fun b => by
  have h1 := hf b
  have h2 := hg b
  unfold cofAny at *
  split
  · rename_i hv
    rw [if_pos hv] at h1 h2
    refine fn_ext fun k hk => ?_
    rw [cofF_bit _ _ _ _ hk, BitVec.getLsbD_or, BitVec.getLsbD_or, ← cofF_bit f _ _ _ hk, ← cofF_bit g _ _ _ hk, h1, h2]
  · rfl
theorem dep_and {f g : Fn} {v : Int} (hf : ∀ b, cofAny f v b = f) (hg : ∀ b, cofAny g v b = g) : depAny (f &&& g) v = false := cof_indep' fun b => by
  have h1 := hf b
  have h2 := hg b
  unfold cofAny at *
  split
  · rename_i hv
    rw [if_pos hv] at h1 h2
    refine fn_ext fun k hk => ?_
    rw [cofF_bit _ _ _ _ hk, BitVec.getLsbD_and, BitVec.getLsbD_and, ← cofF_bit f _ _ _ hk, ← cofF_bit g _ _ _ hk, h1, h2]
  · rfl
theorem threeF_0 (f : Fn) (v : Int) (g : Fn) : threeF 0 f v g = compF f v g := rfl
theorem threeF_1 (f : Fn) (v : Int) (g : Fn) : threeF 1 f v g = cofAny f v false ||| cofAny f v true := iteF_or _ _
theorem threeF_2 (f : Fn) (v : Int) (g : Fn) : threeF 2 f v g = cofAny f v false &&& cofAny f v true := iteF_and _ _
theorem comp_own (f : Fn) {v : Int} (v0 : 0 ≤ v) (v7 : v ≤ 7) : compF f v (varAny v) = f := by
  obtain ⟨m, rfl⟩ := Int.eq_ofNat_of_zero_le v0
  have hm : m < 8 := by omega
  unfold compF cofAny
  rw [if_pos (by omega), varAny_nat hm]
  refine fn_ext fun k hk => ?_
  rw [Int.toNat_natCast]
  simp only [BitVec.getLsbD_or, BitVec.getLsbD_and, BitVec.getLsbD_not, hk, decide_true, Bool.true_and, var_bit m k hk, cofF_bit _ _ _ _ hk, if_pos (show (0 : Int) ≤ (m : Int) ∧ (m : Int) < 8 by omega)]
  have e := rowF_self k m hk hm
  cases h : k.testBit m <;> rw [h] at e <;> simp [e]
end

end Go.Proofs.YtoopeaahpmfleaaGreatDoor

/-
  QuantReads over the contracts.
-/
namespace Go.Proofs.YtoopeaahpmfleaaGreatDoor
open Go Go.RowKit
attribute [local go_sem] run_eql_fv run_eql_fv1 run_neq_fv run_guard_fv run_guard_fv1 run_eql_fv2 run_guard_fv2 run_equal_fv2


set_option maxRecDepth 100000 in
set_option maxHeartbeats 16000000 in
theorem quantReads' {StAt CAt : World → Nat → (Nat → Prop) → MS → Prop} (H : StoreC StAt) (R : ReadC StAt) (I : IteC StAt CAt) (Q : QuantC StAt CAt) (hUp : ∀ W, LowW W → Calls Tryz.prog 5 #[] W fun e w' => e = .returned (.bool true) ∧ Below W.heap.size W w')
    (f g : Fn) (v : Int) (b : Bool) (swaps : List Int) (vs : Value) (w : World) (hL : LowW w) (_hvw : (Lit.int .i64 v).wf = true) (hv : Reads encI w vs swaps) (hwf : ∀ n ∈ swaps, (Lit.int .i64 n).wf = true) :
    Calls Tryz.prog 4 #[fv f, fv g, .int .i64 v, .bool b, vs] w fun e w' => e = .returned (.bool true) ∧ Below w.heap.size w w' := by
  obtain ⟨a, cap, rfl⟩ := hv.form
  simp only [fv]
  go_enter Tryz.func4, Tryz.ntmps4
  go_wp2_with fail
  have h0 : Holds ((w.alloc (.cells #[.int .u64 (wd f 0), .int .u64 (wd f 1), .int .u64 (wd f 2), .int .u64 (wd f 3)] 50)).alloc (.cells #[.int .u64 (wd g 0), .int .u64 (wd g 1), .int .u64 (wd g 2), .int .u64 (wd g 3)] 50)) w.heap.size f := (Holds.new _ _ _).alloc _
  have h1 : Holds ((w.alloc (.cells #[.int .u64 (wd f 0), .int .u64 (wd f 1), .int .u64 (wd f 2), .int .u64 (wd f 3)] 50)).alloc (.cells #[.int .u64 (wd g 0), .int .u64 (wd g 1), .int .u64 (wd g 2), .int .u64 (wd g 3)] 50)) (w.heap.size + 1) g := Holds.new _ _ _
  have hb : Below w.heap.size w ((w.alloc (.cells #[.int .u64 (wd f 0), .int .u64 (wd f 1), .int .u64 (wd f 2), .int .u64 (wd f 3)] 50)).alloc (.cells #[.int .u64 (wd g 0), .int .u64 (wd g 1), .int .u64 (wd g 2), .int .u64 (wd g 3)] 50)) := by go_grown
  generalize ((w.alloc (.cells #[.int .u64 (wd f 0), .int .u64 (wd f 1), .int .u64 (wd f 2), .int .u64 (wd f 3)] 50)).alloc (.cells #[.int .u64 (wd g 0), .int .u64 (wd g 1), .int .u64 (wd g 2), .int .u64 (wd g 3)] 50)) = W0 at *
  refine (hUp _ (hL.keep hb)).mono ?_
  rintro e W ⟨rfl, hb1⟩
  replace h0 := h0.keep hb1 h0.lt
  replace h1 := h1.keep hb1 h1.lt
  replace hb := hb.trans (hb1.mono hb.size)
  replace hL := hL.keep hb
  replace hv := hv.keep hb
  clear hb1 hUp
  go_wp2_with fail
  refine (H.new 2000 W (by decide) (by decide)).mono ?_
  rintro e W1 ⟨bA, rfl, ⟨F, hA, hF⟩, hb1⟩
  rw [show MS.none (2000 : Int).toNat = MS.empty 2000 plainO from rfl] at hA
  go_wp2_with fail
  refine (I.new _).mono ?_
  rintro e W2 ⟨c, rfl, ⟨G, hC, hG⟩, hb2⟩
  have P := P1.start H hA hF hb1 (hC _ (MS.empty_ok 2000 (by decide) plainO_may)) hG hb2
  clear hA hF hb1 hC hG hb2
  have hbE := hb.trans (P.below.mono hb.size)
  by_cases hlen : 40 < (swaps.length : Int)
  · clear P
    go_wp2
    go_ret
    exact ⟨rfl, hbE⟩
  by_cases v0 : v < 0
  · clear P
    go_wp2
    go_ret
    exact ⟨rfl, hbE⟩
  by_cases v7 : 7 < v
  · clear P
    go_wp2
    go_ret
    exact ⟨rfl, hbE⟩
  clear hbE
  replace hv := Lib.hid hv
  replace P := Lib.hid P
  go_wp2
  go_loopw [14] (fun i wr => ∃ (j : Nat) (o : Nat → Int) (F : Nat → Prop), j ≤ swaps.length ∧ i = .int .i64 j ∧ mayO o = true ∧ P1 StAt CAt W bA c F G (MS.empty 2000 o) wr) (fun i _ => swaps.length - (intOf i).toNat)
  case atStart => exact ⟨0, plainO, _, Nat.zero_le _, rfl, plainO_may, P.out⟩
  case round =>
    clear P
    obtain ⟨j, o, F, hj, rfl, hmay, P⟩ := hrel
    by_cases hlt : j < swaps.length
    · obtain ⟨ad, rfl, hc⟩ := (hv.out.keep P.below).intAt j hlt
      have hwk := hwf _ (List.getElem_mem hlt)
      have hk0 : (0 : Int) ≤ (j : Int) := by omega
      have hk1 : (j : Int) < (swaps.length : Int) := by omega
      generalize swaps[j] = m at *
      have HP := fun U => lawPick m 7 U (by decide) (by decide) hwk
      have m0 := Int.emod_nonneg m (show (7 : Int) ≠ 0 by decide)
      have m1 := Int.emod_lt_of_pos m (show (0 : Int) < 7 by decide)
      generalize m % 7 = l at *
      have ok := MS.empty_ok 2000 (by decide) hmay
      have HS := H.swap P.a ok l
      have hgr := MS.Grows.of_swap ok l
      rw [MS.empty_swap 2000 o m0 (by omega)] at HS hgr
      dsimp only at HS hgr
      rw [errV0] at HS
      have hmay' : mayO (swapO o l) = true := by rw [swapO_may]; exact hmay
      have ok' := MS.empty_ok 2000 (by decide) hmay'
      replace P := Lib.hid P
      go_wp2_with fail
      refine (HP _).mono ?_
      rintro e w7 ⟨rfl, rfl⟩
      go_wp2_with fail
      refine HS.mono ?_
      rintro e w8 ⟨rfl, F6, hA2, hK, hW⟩
      have P6 := Lib.hid (P.out.store I ok ok' hgr hA2 hK hW)
      clear HS HP P hA2 hK hW hc ok ok' hgr
      go_wp2
      exact ⟨⟨j + 1, swapO o l, F6, by omega, by go_num, hmay', P6.out⟩, by simp [intOf]; omega⟩
    · obtain rfl : j = swaps.length := by omega
      clear hv hwf hlt hj
      have X := MS.Fits.empty (show 2000 ≤ 20000 by decide) hmay
      have iv : I64 v := ⟨by omega, by omega⟩
      replace v0 : 0 ≤ v := by omega
      replace v7 : v ≤ 7 := by omega
      generalize MS.empty 2000 o = s at *
      obtain ⟨na, s1, hr, X2, E, Aa⟩ := X.bldAt f (by simp)
      have BA := R.build (hL.keep P.below) (fun k hk => Nat.lt_of_lt_of_le hL.pos (P.lowF k hk)) P.a X.ok f
      rw [hr] at BA
      dsimp only at BA
      simp only [fv, errV0] at BA
      obtain ⟨c0, c1, c2, c3⟩ := (h0.keep P.below h0.lt).cells
      go_wp2_with fail
      refine BA.mono ?_
      rintro e V1 ⟨rfl, F2, hA2, hK, hW⟩
      have P2 := P.store I X.ok X2.ok (MS.Grows.of_ext E X.ok X2.ok) hA2 hK hW
      clear BA P hA2 hK hW hr
      have P := P2
      clear P2
      clear c0 c1 c2 c3
      clear X E
      have X := X2
      clear X2
      obtain ⟨nb, s2, hr, X2, E, Ab⟩ := X.bldAt g (by simp)
      have BA := R.build (hL.keep P.below) (fun k hk => Nat.lt_of_lt_of_le hL.pos (P.lowF k hk)) P.a X.ok g
      rw [hr] at BA
      dsimp only at BA
      simp only [fv, errV0] at BA
      obtain ⟨c0, c1, c2, c3⟩ := (h1.keep P.below h1.lt).cells
      go_wp2_with fail
      refine BA.mono ?_
      rintro e V2 ⟨rfl, F2, hA2, hK, hW⟩
      have P2 := P.store I X.ok X2.ok (MS.Grows.of_ext E X.ok X2.ok) hA2 hK hW
      clear BA P hA2 hK hW hr
      have P := P2
      clear P2
      clear c0 c1 c2 c3
      replace Aa := Aa.ext E X.ok X2.ok
      clear X E
      have X := X2
      clear X2
      have RV := fun U => refVar v U
      simp only [fv] at RV
      go_wp2_with fail
      refine (RV _).mono ?_
      rintro e u1 ⟨rfl, hbv⟩
      replace P := P.keep H I hbv
      clear RV hbv
      obtain ⟨nz, s3, hr, X2, E, Az⟩ := X.bldAt (varAny v) (by simp)
      have BA := R.build (hL.keep P.below) (fun k hk => Nat.lt_of_lt_of_le hL.pos (P.lowF k hk)) P.a X.ok (varAny v)
      rw [hr] at BA
      dsimp only at BA
      simp only [fv, errV0] at BA
      go_wp2_with fail
      refine BA.mono ?_
      rintro e V3 ⟨rfl, F2, hA2, hK, hW⟩
      have P2 := P.store I X.ok X2.ok (MS.Grows.of_ext E X.ok X2.ok) hA2 hK hW
      clear BA P hA2 hK hW hr
      have P := P2
      clear P2
      replace Aa := Aa.ext E X.ok X2.ok
      replace Ab := Ab.ext E X.ok X2.ok
      clear X E
      have X := X2
      clear X2
      obtain ⟨nr, s4, hr, X2, E, Ar⟩ := X.restrAt Aa v0 v7 b (by simp)
      have BA := Q.restrict P.a X.ok na v b (Aa.i64 X.ok) iv
      rw [hr] at BA
      dsimp only at BA
      simp only [errV0] at BA
      go_wp2_with fail
      refine BA.mono ?_
      rintro e V4 ⟨rfl, F2, hA2, hK, hW⟩
      have P2 := P.store I X.ok X2.ok (MS.Grows.of_ext E X.ok X2.ok) hA2 hK hW
      clear BA P hA2 hK hW hr
      have P := P2
      clear P2
      replace Aa := Aa.ext E X.ok X2.ok
      replace Ab := Ab.ext E X.ok X2.ok
      replace Az := Az.ext E X.ok X2.ok
      clear X E
      have X := X2
      clear X2
      obtain ⟨nc, s5, hr, X2, E, Ac⟩ := X.threeAt 0 Aa Ab v0 v7 (by simp)
      have M := Q.compose P.a P.k X.ok P.ap na v nb (Aa.i64 X.ok) iv (Ab.i64 X.ok)
      rw [hr] at M
      go_wp2_with fail
      refine M.mono ?_
      rintro e V5 hp
      obtain ⟨rfl, F2, G2, P2⟩ := P.callPost hp
      clear M hp P hr
      have P := P2
      clear P2
      dsimp only at P
      simp only [errV0]
      replace Aa := Aa.ext E X.ok X2.ok
      replace Ab := Ab.ext E X.ok X2.ok
      replace Az := Az.ext E X.ok X2.ok
      replace Ar := Ar.ext E X.ok X2.ok
      clear X E
      have X := X2
      clear X2
      obtain ⟨no, s6, hr, X2, E, Ao⟩ := X.threeAt 0 Aa Az v0 v7 (by simp)
      have M := Q.compose P.a P.k X.ok P.ap na v nz (Aa.i64 X.ok) iv (Az.i64 X.ok)
      rw [hr] at M
      go_wp2_with fail
      refine M.mono ?_
      rintro e V6 hp
      obtain ⟨rfl, F2, G2, P2⟩ := P.callPost hp
      clear M hp P hr
      have P := P2
      clear P2
      dsimp only at P
      simp only [errV0]
      replace Aa := Aa.ext E X.ok X2.ok
      replace Ab := Ab.ext E X.ok X2.ok
      replace Az := Az.ext E X.ok X2.ok
      replace Ar := Ar.ext E X.ok X2.ok
      replace Ac := Ac.ext E X.ok X2.ok
      clear X E
      have X := X2
      clear X2
      obtain ⟨ne, s7, hr, X2, E, Ae⟩ := X.threeAt 1 Aa (MS.at0 _) v0 v7 (by simp)
      have M := Q.ex P.a P.k X.ok P.ap na v (Aa.i64 X.ok) iv
      rw [hr] at M
      go_wp2_with fail
      refine M.mono ?_
      rintro e V7 hp
      obtain ⟨rfl, F2, G2, P2⟩ := P.callPost hp
      clear M hp P hr
      have P := P2
      clear P2
      dsimp only at P
      simp only [errV0]
      replace Aa := Aa.ext E X.ok X2.ok
      replace Ab := Ab.ext E X.ok X2.ok
      replace Az := Az.ext E X.ok X2.ok
      replace Ar := Ar.ext E X.ok X2.ok
      replace Ac := Ac.ext E X.ok X2.ok
      replace Ao := Ao.ext E X.ok X2.ok
      clear X E
      have X := X2
      clear X2
      obtain ⟨nf, s8, hr, X2, E, Af⟩ := X.threeAt 2 Aa (MS.at0 _) v0 v7 (by simp)
      have M := Q.fa P.a P.k X.ok P.ap na v (Aa.i64 X.ok) iv
      rw [hr] at M
      go_wp2_with fail
      refine M.mono ?_
      rintro e V8 hp
      obtain ⟨rfl, F2, G2, P2⟩ := P.callPost hp
      clear M hp P hr
      have P := P2
      clear P2
      dsimp only at P
      simp only [errV0]
      replace Aa := Aa.ext E X.ok X2.ok
      replace Ab := Ab.ext E X.ok X2.ok
      replace Az := Az.ext E X.ok X2.ok
      replace Ar := Ar.ext E X.ok X2.ok
      replace Ac := Ac.ext E X.ok X2.ok
      replace Ao := Ao.ext E X.ok X2.ok
      replace Ae := Ae.ext E X.ok X2.ok
      clear X E
      have X := X2
      clear X2
      rw [threeF_0] at Ac Ao
      rw [comp_own f v0 v7] at Ao
      rw [threeF_1] at Ae
      rw [threeF_2] at Af
      obtain rfl : na = no := X.ok.tab_inj Aa.1 Ao.1 (Aa.2.trans Ao.2.symm)
      clear Ao Az Ab
      have q1 := beq_self_eq_true na
      have ci : ∀ z y, cofAny (cofAny f v z) v y = cofAny f v z := fun z y => cof_indep (dep_cof f v z)
      have hroots : ∀ r ∈ [nr, ne, nf], depAny (s8.tab r) v = false := by
        intro r hr
        simp only [List.mem_cons, List.not_mem_nil, or_false] at hr
        rcases hr with rfl | rfl | rfl
        · rw [Ar.2]; exact dep_cof f v b
        · rw [Ae.2]; exact dep_or (ci false) (ci true)
        · rw [Af.2]; exact dep_and (ci false) (ci true)
      have hreach := X.ok.reach_var hroots
      have hro : ∀ r ∈ [nr, ne, nf], r ≤ 9223372036854775807 ∧ -9223372036854775808 ≤ r := by
        intro r hr
        simp only [List.mem_cons, List.not_mem_nil, or_false] at hr
        rcases hr with rfl | rfl | rfl
        · exact Ar.i64 X.ok
        · exact Ae.i64 X.ok
        · exact Af.i64 X.ok
      clear hroots ci
      replace P := Lib.hid P
      go_wp2_with fail

      have hO : Owns encI (V8.alloc (.cells #[.int .i64 nr, .int .i64 ne, .int .i64 nf] 3)) (.slice (some ⟨V8.heap.size, 0, none⟩) 3 3) [nr, ne, nf] := World.ownsRow_lit V8 #[.int .i64 nr, .int .i64 ne, .int .i64 nf] 3 (Nat.zero_le _) (by unfold maxLen; omega) rfl
      have hb9 : Below V8.heap.size V8 (V8.alloc (.cells #[.int .i64 nr, .int .i64 ne, .int .i64 nf] 3)) := by go_grown
      have P9 := P.out.keep H I hb9
      generalize V8.alloc (.cells #[.int .i64 nr, .int .i64 ne, .int .i64 nf] 3) = V9 at *
      refine (R.reach P9.a X.ok _ _ hO.reads (by simp) hro).mono ?_
      rintro e V10 ⟨v', rfl, RR⟩
      have P10 := P9.keep H I RR.below
      have own := RR.own
      have hlr : (s8.reach [nr, ne, nf]).length ≤ 20000 := Nat.le_trans (List.length_filter_le _ _) (Nat.le_trans (numsTo_filter_length s8.has s8.N.length) X.ok.toBase.few)
      clear RR hO hb9 P9 P hro
      generalize s8.reach [nr, ne, nf] = lr at *
      obtain ⟨a2, c2, rfl⟩ := own.reads.form
      replace P10 := Lib.hid P10
      replace own := Lib.hid own
      go_wp2
      go_loopw [32] (fun i wr => ∃ j : Nat, j ≤ lr.length ∧ i = .int .i64 j ∧ Below V10.heap.size V10 wr) (fun i _ => lr.length - (intOf i).toNat)
      case atStart => exact ⟨0, Nat.zero_le _, rfl, Below.refl _ _⟩
      case round =>
        obtain ⟨j, hj, rfl, hbr⟩ := hrel
        have Pr := P10.out.keep H I hbr
        by_cases hlt : j < lr.length
        · obtain ⟨ad, rfl, hc⟩ := (own.out.reads.keep hbr).intAt j hlt
          have hk0 : (0 : Int) ≤ (j : Int) := by omega
          have hk1 : (j : Int) < (lr.length : Int) := by omega
          obtain ⟨hn, hvar⟩ := hreach _ (List.getElem_mem hlt)
          generalize lr[j] = m at *
          have HN := H.node Pr.a X.ok m (by have := X.ok.toBase.has_le hn; omega)
          have e1 : nodeV s8 m = .tuple #[nv (s8.nd m), .bool true] := by unfold nodeV; rw [hn]; rfl
          rw [e1] at HN
          unfold nv at HN
          clear e1 Pr
          have q2 : ((s8.nd m).var == v) = false := by rw [beq_eq_false_iff_ne]; exact hvar
          generalize s8.nd m = x at *
          obtain ⟨xv, xl, xh⟩ := x
          dsimp only at HN q2 hvar
          clear hvar
          go_wp2_with fail
          refine HN.mono ?_
          rintro e U ⟨rfl, hbU⟩
          have hr := heap_alloc_new U (.cells #[.int .i64 xv, .int .i64 xl, .int .i64 xh] 57)
          have x0 : (U.alloc (.cells #[.int .i64 xv, .int .i64 xl, .int .i64 xh] 57)).cell? ⟨U.heap.size, 0, none⟩ = some (.int .i64 xv) := by rw [cell_of_row _ _ _ _ _ _ hr]; rfl
          have hbV : Below V10.heap.size V10 (U.alloc (.cells #[.int .i64 xv, .int .i64 xl, .int .i64 xh] 57)) := (hbr.trans (hbU.mono hbr.size)).alloc (Nat.le_trans hbr.size hbU.size) _
          clear HN hr hbU hc
          go_wp2
          exact ⟨⟨j + 1, by omega, by go_num, hbV⟩, by simp [intOf]; omega⟩
        · obtain rfl : j = lr.length := by omega
          clear own hreach hlt hj
          have D1 := fun u : Sub wr => R.table (hL.keep (Pr.below.trans (u.2.mono Pr.below.size))) (H.sub Pr.a u) X.ok nr (Ar.i64 X.ok)
          have D2 := fun u : Sub wr => R.table (hL.keep (Pr.below.trans (u.2.mono Pr.below.size))) (H.sub Pr.a u) X.ok nc (Ac.i64 X.ok)
          have D3 := fun u : Sub wr => R.table (hL.keep (Pr.below.trans (u.2.mono Pr.below.size))) (H.sub Pr.a u) X.ok ne (Ae.i64 X.ok)
          have D4 := fun u : Sub wr => R.table (hL.keep (Pr.below.trans (u.2.mono Pr.below.size))) (H.sub Pr.a u) X.ok nf (Af.i64 X.ok)
          rw [Ar.2] at D1
          rw [Ac.2] at D2
          rw [Ae.2] at D3
          rw [Af.2] at D4
          have E1 := fun u : Sub wr => refCof f v b u.1
          have E2 := fun u : Sub wr => refCompose f v g u.1
          have E3 := fun u : Sub wr => refExists f v u.1
          have E4 := fun u : Sub wr => refForall f v u.1
          have q6 := beq_self_eq_true (cofAny f v b)
          have q7 := beq_self_eq_true (compF f v g)
          have q8 := beq_self_eq_true (cofAny f v false ||| cofAny f v true)
          have q9 := beq_self_eq_true (cofAny f v false &&& cofAny f v true)
          generalize (cofAny f v false ||| cofAny f v true) = x1 at *
          generalize (cofAny f v false &&& cofAny f v true) = x2 at *
          generalize compF f v g = x3 at *
          generalize cofAny f v b = x4 at *
          simp only [fv] at E1 E2 E3 E4
          have y0 := fun u : Sub wr => ((h0.keep Pr.below h0.lt).sub u).cells.1
          have y1 := fun u : Sub wr => ((h0.keep Pr.below h0.lt).sub u).cells.2.1
          have y2 := fun u : Sub wr => ((h0.keep Pr.below h0.lt).sub u).cells.2.2.1
          have y3 := fun u : Sub wr => ((h0.keep Pr.below h0.lt).sub u).cells.2.2.2
          have z0 := fun u : Sub wr => ((h1.keep Pr.below h1.lt).sub u).cells.1
          have z1 := fun u : Sub wr => ((h1.keep Pr.below h1.lt).sub u).cells.2.1
          have z2 := fun u : Sub wr => ((h1.keep Pr.below h1.lt).sub u).cells.2.2.1
          have z3 := fun u : Sub wr => ((h1.keep Pr.below h1.lt).sub u).cells.2.2.2
          have hbX := hb.trans (Pr.below.mono hb.size)
          clear P10 Pr X Aa Ar Ac Ae Af h0 h1 hb
          go_wp2_with fail
          refine wp_region_quiet_all (C := fun w' => ∃ u : Sub wr, w' = u.1) (by kernel_rfl) (by kernel_rfl) (InSub.drew wr) ?_
          iterate 4 (go_big_quiet_step (fail))
          go_big_quiet_step (exact sub_below (D1 _))
          iterate 3 (go_big_quiet_step (fail))
          go_big_quiet_step (exact sub_below (E1 _))
          iterate 5 (go_big_quiet_step (fail))
          go_big_quiet_step (exact sub_below (D2 _))
          iterate 3 (go_big_quiet_step (fail))
          go_big_quiet_step (exact sub_below (E2 _))
          iterate 5 (go_big_quiet_step (fail))
          go_big_quiet_step (exact sub_below (D3 _))
          iterate 2 (go_big_quiet_step (fail))
          go_big_quiet_step (exact sub_below (E3 _))
          iterate 5 (go_big_quiet_step (fail))
          go_big_quiet_step (exact sub_below (D4 _))
          iterate 2 (go_big_quiet_step (fail))
          go_big_quiet_step (exact sub_below (E4 _))
          iterate 3 (go_big_quiet_step (fail))
          refine wpQuiet_nil ?_
          clear D1 D2 D3 D4 E1 E2 E3 E4 y0 y1 y2 y3 z0 z1 z2 z3
          intro w' hw'
          obtain ⟨u, rfl⟩ := hw'
          replace hbX := hbX.trans (u.2.mono hbX.size)
          generalize u.1 = X4 at *
          go_wp2
          go_ret
          exact ⟨by simp, hbX⟩

end Go.Proofs.YtoopeaahpmfleaaGreatDoor
