/-
  Texts of this proof, one behind the other: ReadB, ReachM, BackM, IMap, FMap.
-/
import Derived.Test.YtipocmbplcdmjaaDoorG15
import Derived.Test.YtipocmbplcdmjaaDoorG2
import Derived.Test.YtipocmbplcdmjaaDoorG13
import Derived.Maps.Own
import Derived.Maps.OwnOps
import Derived.Maps.Views
import Derived.WalkKit
import Derived.DeepKeys4
/-
  Walks of package read over the store's contracts: top, constant, Build.
-/
namespace Go.Proofs.YtipocmbplcdmjaaDoor
open Go Go.RowKit

theorem idx_ov (o : Nat → Int) (n : Nat) (hn : n < 8) (w : World) : (Instr.index 37 (.agg #[.int .i64 (o 0), .int .i64 (o 1), .int .i64 (o 2), .int .i64 (o 3), .int .i64 (o 4), .int .i64 (o 5), .int .i64 (o 6), .int .i64 (o 7)]) (.int .i64 (n : Int))).run Tryd.prog w = .ok (.int .i64 (o n)) w := by
  have h1 : (0 : Int) ≤ (n : Int) ∧ (n : Int) < 8 := ⟨by omega, by omega⟩
  rcases (by omega : n = 0 ∨ n = 1 ∨ n = 2 ∨ n = 3 ∨ n = 4 ∨ n = 5 ∨ n = 6 ∨ n = 7) with rfl | rfl | rfl | rfl | rfl | rfl | rfl | rfl <;> simp [Instr.index, run_underlying Tryd.underlying37, asIntOf, go_sem]

set_option maxRecDepth 100000 in
set_option maxHeartbeats 1000000 in
theorem readTop (f : Fn) (o : Nat → Int) (w : World) (hl : LowW w) :
    Calls Tryd.prog 25 #[fv f, ov o] w fun e w' => e = .returned (.tuple #[.int .i64 (if 0 ≤ topF f o then topF f o else 0), .bool (decide (0 ≤ topF f o))]) ∧ Below w.heap.size w w' := by
  have Hl := Lib.hid hl
  have HD := fun (v : Int) (W : World) (hb : Below w.heap.size w W) => cofDepends f v W (hl.keep hb)
  replace HD := Lib.hid HD
  clear hl
  generalize hr1 : (if 0 ≤ topF f o then topF f o else 0) = r1
  generalize hr2 : decide (0 ≤ topF f o) = r2
  replace hr1 := Lib.hid hr1
  replace hr2 := Lib.hid hr2
  simp only [fv, ov]
  go_enter Tryd.func25, Tryd.ntmps25
  go_wp2
  go_loopw [9] (fun i wr => ∃ n : Nat, n ≤ 8 ∧ i = .int .i64 n ∧ Hid (topF f o = topFrom f o (8 - n) n) ∧ Holds wr w.heap.size f ∧ Below w.heap.size w wr) (fun i _ => 8 - (intOf i).toNat)
  case atStart => exact ⟨0, Nat.zero_le _, rfl, rfl, (Holds.new _ _ _).alloc _, by go_grown⟩
  case round =>
    obtain ⟨n, hn, rfl, ht, h0, hb⟩ := hrel
    by_cases hlt : n < 8
    · have Hs : Hid (topF f o = if depAny f (o n) then o n else topFrom f o (8 - (n + 1)) (n + 1)) := by
        have := ht.out
        rw [show 8 - n = (8 - (n + 1)) + 1 by omega] at this
        exact this
      clear ht
      have hn0 : (0 : Int) ≤ (n : Int) := by omega
      have hn8 : (n : Int) < 8 := by omega
      obtain ⟨c0, c1, c2, c3⟩ := h0.cells
      have hix := idx_ov o n hlt wr
      have hd := HD.out (o n) wr hb
      simp only [fv] at hd
      go_wp2_with fail
      refine hd.mono ?_
      rintro e w1 ⟨rfl, hb1⟩
      replace h0 := h0.keep hb1 h0.lt
      replace hb := hb.trans (hb1.mono hb.size)
      clear hd hix c0 c1 c2 c3 hb1
      cases hdp : depAny f (o n)
      · rw [hdp] at Hs
        go_wp2
        exact ⟨⟨n + 1, by omega, by go_num, Hs.out, h0, hb⟩, by simp [intOf]; omega⟩
      · rw [hdp] at Hs
        have h00 := (depAny_range hdp).1
        have e1 : topF f o = o n := Hs.out
        have hres : r1 = o n ∧ r2 = true := by rw [← hr1.out, ← hr2.out, e1, if_pos h00, decide_eq_true h00]; exact ⟨rfl, rfl⟩
        replace hres := Lib.hid hres
        clear Hs HD e1 h00 hr1 hr2
        go_wp2
        go_ret2
        exact ⟨by rw [hres.out.1, hres.out.2]; rfl, hb⟩
    · obtain rfl : n = 8 := by omega
      have e1 : topF f o = -1 := ht.out
      have hres : r1 = 0 ∧ r2 = false := by rw [← hr1.out, ← hr2.out, e1]; exact ⟨rfl, rfl⟩
      replace hres := Lib.hid hres
      clear ht e1 HD hr1 hr2
      go_wp2
      go_ret2
      exact ⟨by rw [hres.out.1, hres.out.2]; rfl, hb⟩

set_option maxRecDepth 100000 in
theorem readConstant (f : Fn) (w : World) :
    Calls Tryd.prog 26 #[fv f] w fun e w' => e = .returned (.int .i64 (constN f)) ∧ Below w.heap.size w w' := by
  have HA := fun W => tabAt f 0 W
  have hc : constN f = if atF f 0 then 1 else 0 := rfl
  generalize constN f = c at *
  generalize atF f 0 = z at *
  simp only [fv] at *
  have hb : Below w.heap.size w (w.alloc (.cells #[.int .u64 (wd f 0), .int .u64 (wd f 1), .int .u64 (wd f 2), .int .u64 (wd f 3)] 35)) := by go_grown
  have hF := Holds.new w f w.heap.size rfl
  cases z
  · simp only [Bool.false_eq_true, if_false] at hc
    subst hc
    go_enter Tryd.func26, Tryd.ntmps26
    go_wp2_with fail
    generalize w.alloc (.cells #[.int .u64 (wd f 0), .int .u64 (wd f 1), .int .u64 (wd f 2), .int .u64 (wd f 3)] 35) = W at *
    refine (HA _).mono ?_
    rintro e w3 ⟨rfl, hb3⟩
    go_wp2
    go_ret
    exact ⟨rfl, hb.trans (hb3.mono hb.size)⟩
  · simp only [if_true] at hc
    subst hc
    go_enter Tryd.func26, Tryd.ntmps26
    go_wp2_with fail
    generalize w.alloc (.cells #[.int .u64 (wd f 0), .int .u64 (wd f 1), .int .u64 (wd f 2), .int .u64 (wd f 3)] 35) = W at *
    refine (HA _).mono ?_
    rintro e w3 ⟨rfl, hb3⟩
    go_wp2
    go_ret
    exact ⟨rfl, hb.trans (hb3.mono hb.size)⟩

theorem LowW.keepK {w w' : World} {F : Nat → Prop} (h : LowW w) (K : Keeps F w w') (hF : ¬ F 0) : LowW w' := fun i hi => by
  have := K.block 0 h.pos hF
  have h1 := h i hi
  unfold World.cell? at *
  rw [this]
  exact h1

theorem MS.Ok.in64 {s : MS} (ok : s.Ok) {n : Int} (h : s.there n = true) : n ≤ 9223372036854775807 ∧ -9223372036854775808 ≤ n := by
  rcases MS.there_cases h with ⟨h, _⟩ | h
  · omega
  · have := ok.toBase.has_le h; omega

/-- What Build comes to: a number, an error, and the store. -/
def BldPost (StAt : World → Nat → (Nat → Prop) → MS → Prop) (w : World) (b : Nat) (F : Nat → Prop) (r : Int × Int × MS) (e : Ending) (w' : World) : Prop := e = .returned (.tuple #[.int .i64 r.1, errV r.2.1]) ∧ ∃ F', StAt w' b F' r.2.2 ∧ Keeps F w w' ∧ Within w F F'

set_option maxRecDepth 100000 in
set_option maxHeartbeats 2000000 in
theorem readBuild_const {StAt : World → Nat → (Nat → Prop) → MS → Prop} (H : StoreC StAt) {w : World} {b : Nat} {F : Nat → Prop} {s : MS} (hL : LowW w) (h : StAt w b F s) (ok : s.Ok) (f : Fn) (ht : topF f s.o < 0) :
    Calls Tryd.prog 8 #[.pointer (some ⟨b, 0, none⟩), fv f] w (BldPost StAt w b F (constN f, 0, s)) := by
  have HO := fun W (hb : Below w.heap.size w W) => H.order (H.below h hb) ok
  have HT := fun W (hb : Below w.heap.size w W) => readTop f s.o W (hL.keep hb)
  simp only [if_neg (show ¬ 0 ≤ topF f s.o by omega), decide_eq_false (show ¬ 0 ≤ topF f s.o by omega)] at HT
  have HA := fun W => readConstant f W
  have hend : ∀ w', Below w.heap.size w w' → ∃ F', StAt w' b F' s ∧ Keeps F w w' ∧ Within w F F' := fun w' hb => ⟨F, H.below h hb, Keeps.of_below hb _, Within.refl _ _⟩
  unfold BldPost errV
  simp only [if_true]
  generalize constN f = z at *
  clear h ht hL ok
  simp only [fv, ov] at *
  go_enter Tryd.func8, Tryd.ntmps8
  go_wp2
  have hF := Holds.new w f w.heap.size rfl
  have hb := (Below.refl w.heap.size w).alloc (Nat.le_refl _) (.cells #[.int .u64 (wd f 0), .int .u64 (wd f 1), .int .u64 (wd f 2), .int .u64 (wd f 3)] 35)
  generalize w.alloc (.cells #[.int .u64 (wd f 0), .int .u64 (wd f 1), .int .u64 (wd f 2), .int .u64 (wd f 3)] 35) = W at *
  have c0 := fun u : Sub W => (hF.sub u).cells.1
  have c1 := fun u : Sub W => (hF.sub u).cells.2.1
  have c2 := fun u : Sub W => (hF.sub u).cells.2.2.1
  have c3 := fun u : Sub W => (hF.sub u).cells.2.2.2
  have JO := fun u : Sub W => HO _ (hb.trans (u.2.mono hb.size))
  have JT := fun u : Sub W => HT _ (hb.trans (u.2.mono hb.size))
  refine wp_region_quiet_all (C := fun w' => ∃ u : Sub W, w' = u.1) (by kernel_rfl) (by kernel_rfl) (InSub.drew W) ?_
  iterate 2 (go_big_quiet_step (fail))
  go_big_quiet_step (exact subBelow (JO _))
  go_big_quiet_step (exact subBelow (JT _))
  iterate 5 (go_big_quiet_step (fail))
  refine wpQuiet_nil ?_
  clear c0 c1 c2 c3 JO JT HO HT
  intro w' hw'
  obtain ⟨u, rfl⟩ := hw'
  replace hF := hF.keep u.2 hF.lt
  replace hb := hb.trans (u.2.mono hb.size)
  generalize u.1 = W2 at *
  obtain ⟨c0, c1, c2, c3⟩ := hF.cells
  go_wp2_with fail
  refine (HA _).mono ?_
  rintro e w3 ⟨rfl, hb3⟩
  have hb4 := hb.trans (hb3.mono hb.size)
  clear HA c0 c1 c2 c3
  go_wp2
  go_ret2
  exact ⟨rfl, hend _ hb4⟩

set_option maxRecDepth 100000 in
set_option maxHeartbeats 4000000 in
theorem readBuild {StAt : World → Nat → (Nat → Prop) → MS → Prop} (H : StoreC StAt) {b : Nat} : ∀ (k : Nat) (s : MS) (f : Fn) (w : World) (F : Nat → Prop), LowW w → (∀ k, F k → 0 < k) → StAt w b F s → s.Ok → supN f ≤ k →
    Calls Tryd.prog 8 #[.pointer (some ⟨b, 0, none⟩), fv f] w (BldPost StAt w b F (MS.bld k s f)) := by
  intro k
  induction k with
  | zero =>
    intro s f w F hL _ h ok hk
    refine readBuild_const H hL h ok f ?_
    have := (top_neg (f := f) (full_of ok.order)).2 (supN_zero (f := f) (by omega))
    omega
  | succ k ih =>
    intro s f w F hL hlow h ok hk
    unfold MS.bld
    by_cases ht : topF f s.o < 0
    · rw [if_pos ht]
      exact readBuild_const H hL h ok f ht
    · rw [if_neg ht]
      have ht0 : 0 ≤ topF f s.o := by omega
      have k0 := supN_cof f s.o false ht0
      have k1 := supN_cof f s.o true ht0
      have ra := MS.bld_spec k s (cofAny f (topF f s.o) false) ok (by omega)
      have IA := fun W (hb : Below w.heap.size w W) => ih s (cofAny f (topF f s.o) false) W F (hL.keep hb) hlow (H.below h hb) ok (by omega)
      have rb := fun hA => MS.bld_spec k (MS.bld k s (cofAny f (topF f s.o) false)).2.2 (cofAny f (topF f s.o) true) hA (by omega)
      have IB := fun W F' hlW hl hW hA => ih (MS.bld k s (cofAny f (topF f s.o) false)).2.2 (cofAny f (topF f s.o) true) W F' hlW hl hW hA (by omega)
      have HO := fun W (hb : Below w.heap.size w W) => H.order (H.below h hb) ok
      have HT := fun W (hb : Below w.heap.size w W) => readTop f s.o W (hL.keep hb)
      simp only [if_pos ht0, decide_eq_true ht0] at HT
      have HC0 := fun W (hb : Below w.heap.size w W) => cofCof f (topF f s.o) false W (hL.keep hb)
      have HC1 := fun W (hlW : LowW W) => cofCof f (topF f s.o) true W hlW
      dsimp only
      generalize hA : MS.bld k s (cofAny f (topF f s.o) false) = A at *
      generalize hB : MS.bld k A.2.2 (cofAny f (topF f s.o) true) = B at *
      have hFlt := H.lt h
      have hp := hL.pos
      generalize topF f s.o = v at *
      generalize cofAny f v false = f0 at *
      generalize cofAny f v true = f1 at *
      clear ih hA hB k0 k1 hk
      obtain ⟨A0, A1, sA⟩ := A
      obtain ⟨B0, B1, sB⟩ := B
      dsimp only at *
      generalize hr : (if A1 ≠ 0 then ((0, A1, sA) : Int × Int × MS) else if B1 ≠ 0 then (0, B1, sB) else sB.mk v A0 B0 []) = r
      simp only [fv, ov] at *
      obtain ⟨okA, _, _, resA, _⟩ := ra
      unfold BldPost at *
      dsimp only at IA IB
      replace hL := Lib.hid hL
      go_enter Tryd.func8, Tryd.ntmps8
      go_wp2
      have hF := Holds.new w f w.heap.size rfl
      have hb := (Below.refl w.heap.size w).alloc (Nat.le_refl _) (.cells #[.int .u64 (wd f 0), .int .u64 (wd f 1), .int .u64 (wd f 2), .int .u64 (wd f 3)] 35)
      generalize w.alloc (.cells #[.int .u64 (wd f 0), .int .u64 (wd f 1), .int .u64 (wd f 2), .int .u64 (wd f 3)] 35) = W at *
      have c0 := fun u : Sub W => (hF.sub u).cells.1
      have c1 := fun u : Sub W => (hF.sub u).cells.2.1
      have c2 := fun u : Sub W => (hF.sub u).cells.2.2.1
      have c3 := fun u : Sub W => (hF.sub u).cells.2.2.2
      have JO := fun u : Sub W => HO _ (hb.trans (u.2.mono hb.size))
      have JT := fun u : Sub W => HT _ (hb.trans (u.2.mono hb.size))
      refine wp_region_quiet_all (C := fun w' => ∃ u : Sub W, w' = u.1) (by kernel_rfl) (by kernel_rfl) (InSub.drew W) ?_
      iterate 2 (go_big_quiet_step (fail))
      go_big_quiet_step (exact subBelow (JO _))
      go_big_quiet_step (exact subBelow (JT _))
      iterate 5 (go_big_quiet_step (fail))
      refine wpQuiet_nil ?_
      clear c0 c1 c2 c3 JO JT HO HT
      intro w' hw'
      obtain ⟨u, rfl⟩ := hw'
      replace hF := hF.keep u.2 hF.lt
      replace hb := hb.trans (u.2.mono hb.size)
      generalize u.1 = W2 at *
      obtain ⟨c0, c1, c2, c3⟩ := hF.cells
      go_wp2_with fail
      refine (HC0 _ hb).mono ?_
      rintro e w3 ⟨rfl, hb3⟩
      replace hF := hF.keep hb3 hF.lt
      replace hb := hb.trans (hb3.mono hb.size)
      clear HC0 c0 c1 c2 c3 hb3
      go_wp2_with fail
      refine (IA _ hb).mono ?_
      rintro e w4 ⟨rfl, FA4, hA4, hK4, hW4⟩
      have hBn : ¬ F w.heap.size := fun e => by have := hFlt _ e; omega
      have hF4 : Holds w4 w.heap.size f := by
        have := hK4.block w.heap.size hF.lt hBn
        unfold Holds at *
        rw [this]; exact hF
      have HK := (Keeps.of_below hb F).trans hK4 (Within.refl _ _)
      have HW := (Within.refl w F).trans hW4 hb.size
      have hL4 := hL.out.keepK HK (fun e => by have := hlow _ e; omega)
      have hlow4 : ∀ k, FA4 k → 0 < k := fun k hk => (HW k hk).elim (hlow k) (fun h => by omega)
      clear IA hK4 hW4 hF hb hL hlow
      by_cases hA1 : A1 = 0
      · subst hA1
        rw [if_neg (by decide)] at hr
        obtain ⟨thA, _⟩ := resA rfl
        obtain ⟨c0, c1, c2, c3⟩ := hF4.cells
        rw [errV0]
        go_wp2_with fail
        refine (HC1 _ hL4).mono ?_
        rintro e w5 ⟨rfl, hb5⟩
        clear HC1 c0 c1 c2 c3
        obtain ⟨okB, extB, _, resB, _⟩ := rb okA
        go_wp2_with fail
        refine (IB _ _ (hL4.keep hb5) hlow4 (H.below hA4 hb5) okA).mono ?_
        rintro e w6 ⟨rfl, FB6, hB6, hK6, hW6⟩
        replace HK := HK.trans ((Keeps.of_below hb5 FA4).trans hK6 (Within.refl _ _)) HW
        replace HW := HW.trans ((Within.refl w4 FA4).trans hW6 hb5.size) (by have := hF4.lt; omega)
        clear IB hK6 hb5
        by_cases hB1 : B1 = 0
        · subst hB1
          rw [if_neg (by decide)] at hr
          obtain ⟨thB, _⟩ := resB rfl
          have HM := H.make hB6 okB v A0 B0 (okB.in64 (extB.there thA)) (okB.in64 thB)
          rw [hr] at HM
          rw [errV0]
          go_wp2_with fail
          refine HM.mono ?_
          rintro e w7 ⟨rfl, F7, hM7, hK7, hW7⟩
          go_wp2
          go_ret2
          exact ⟨rfl, F7, hM7, HK.trans hK7 HW, HW.trans hW7 HK.size⟩
        · rw [if_pos hB1] at hr
          subst hr
          simp only [errV, if_neg hB1]
          go_wp2
          go_ret2
          exact ⟨by first | rfl | (simp only [errV, if_neg hB1]; rfl), FB6, hB6, HK, HW⟩
      · rw [if_pos hA1] at hr
        subst hr
        simp only [errV, if_neg hA1]
        clear IB rb
        go_wp2
        go_ret2
        exact ⟨by first | rfl | (simp only [errV, if_neg hA1]; rfl), FA4, hA4, HK, HW⟩

end Go.Proofs.YtipocmbplcdmjaaDoor

/-
  Mathematics of layer 8: what is reached. Nothing of the program is read here.
-/
namespace Go.Proofs.YtipocmbplcdmjaaDoor

section
variable {s : MS} {roots work : List Int} {seen : List Bool} {i : Nat}
end

end Go.Proofs.YtipocmbplcdmjaaDoor

/-
  Mathematics of layer 8's own law: functions built in a store of none. Nothing of the program is read here.
-/
namespace Go.Proofs.YtipocmbplcdmjaaDoor
open Go Go.RowKit

/-- A store of none, in any order. -/
def MS.empty (most : Nat) (o : Nat → Int) : MS := ⟨⟨most, 0, [], []⟩, [], o⟩
theorem MS.empty_ok (most : Nat) (h : most ≤ 20000) {o : Nat → Int} (ho : mayO o = true) : (MS.empty most o).Ok := MS.Ok.new most h o ho
theorem MS.empty_has (most : Nat) (o : Nat → Int) (n : Int) : (MS.empty most o).has n = false := by simp [MS.has, MS.empty]
theorem MS.empty_swap (most : Nat) (o : Nat → Int) {l : Int} (h0 : 0 ≤ l) (h6 : l ≤ 6) : (MS.empty most o).swap l = (0, MS.empty most (swapO o l)) := by
  unfold MS.swap
  rw [if_neg (by omega)]
  have hc : ∀ x y, (MS.empty most o).changes x y = [] := fun x y => rfl
  simp only [hc]
  have hr : ¬ (MS.empty most o).room < 2 * (([] : List Int).length : Int) := by
    simp [MS.room, MS.empty]
  rw [if_neg hr]
  rfl

section
variable {s : MS}

theorem supN_8 (f : Fn) : supN f ≤ 8 := supN_le f

end
theorem reach_one {L : List Fn} {o : Nat → Int} {g : Fn} (h : Reach L o g) : ∃ f ∈ L, Reach [f] o g := by
  induction h with
  | base hf => exact ⟨_, hf, .base (by simp)⟩
  | step b _ hs ht ih =>
    obtain ⟨f, hf, hr⟩ := ih
    exact ⟨f, hf, .step b hr hs ht⟩

end Go.Proofs.YtipocmbplcdmjaaDoor

/-
  A map of the call's own whose elements are numbers, as a function from its keys; nothing of the program is read here.
-/
namespace Go.Proofs.YtipocmbplcdmjaaDoor
open Go Go.RowKit Go.Maps

/-- How values of α stand as keys of type K. -/
structure KeyEnc (P : Program) (K : TypeId) (α : Type) where
  val : α → Value
  lit : α → Lit
  key : ∀ a, keyOf P K (val a) = some (lit a)
  inj : ∀ a b, val a = val b → a = b
  law : Keyed P K

section
variable {P : Program} {K e : TypeId} {α : Type} {E : KeyEnc P K α}

theorem KeyEnc.lit_inj (E : KeyEnc P K α) {a b : α} (h : E.lit a = E.lit b) : a = b := by
  have ha := E.key a
  have hb := E.key b
  rw [h] at ha
  exact E.inj a b (E.law.inj ha hb)

/-- Block b is a map of at most n entries; at key a it has m a, and 0 where there is none. -/
def IMap (E : KeyEnc P K α) (e : TypeId) (w : World) (b n : Nat) (m : α → Int) : Prop :=
  ∃ D : DataW Unit, w.ownsMap P K (plainElem P e) b n D ∧ IsMap D ∧ ∀ a, D.atKey (E.lit a) (.lit (.int .i64 0)) = .lit (.int .i64 (m a))

theorem IMap.made (E : KeyEnc P K α) (e : TypeId) (w : World) : IMap E e (w.alloc (.map #[] 0)) w.heap.size 0 (fun _ => 0) :=
  ⟨.map [], World.ownsMap_made _ _ _ _, isMap_empty, fun _ => rfl⟩

theorem IMap.block {w w' : World} {b n : Nat} {m : α → Int} (h : IMap E e w b n m) (hb : w'.heap[b]? = w.heap[b]?) : IMap E e w' b n m := by
  obtain ⟨D, ⟨es, clock, h1, h2, h3, h4⟩, hm, ha⟩ := h
  exact ⟨D, ⟨es, clock, hb.trans h1, h2, h3, h4⟩, hm, ha⟩

theorem IMap.lt {w : World} {b n : Nat} {m : α → Int} (h : IMap E e w b n m) : b < w.heap.size := by
  obtain ⟨D, ho, _⟩ := h; exact ho.lt

theorem IMap.keep {w w' : World} {b n B : Nat} {m : α → Int} (h : IMap E e w b n m) (hb : Below B w w') (hB : b < B) : IMap E e w' b n m := h.block (hb.block b hB)
theorem IMap.alloc {w : World} {b n : Nat} {m : α → Int} (h : IMap E e w b n m) (o : Obj) : IMap E e (w.alloc o) b n m := h.block (heap_alloc_old _ _ h.lt)
theorem IMap.grown {w w' : World} {b n : Nat} {m : α → Int} {row : Option Nat} (h : IMap E e w b n m) (hg : w.grownBy w' row) (hne : some b ≠ row) : IMap E e w' b n m := by
  obtain ⟨D, ho, hm, ha⟩ := h; exact ⟨D, ho.kept hg hne, hm, ha⟩

theorem IMap.le {w : World} {b n : Nat} {m : α → Int} (h : IMap E e w b n m) : IMap E e w b (n + 1) m := by
  obtain ⟨D, ho, hm, ha⟩ := h; exact ⟨D, ho.mono (Nat.le_succ _), hm, ha⟩

/-- m[a], read. -/
theorem IMap.look {w : World} {b n : Nat} {m : α → Int} {t : TypeId} (h : IMap E e w b n m) (ht : P.underlying t = some (.map K e)) (he : P.underlying e = some (.int .i64)) (hz : (zeroValue e).run P w = .ok (.int .i64 0) w) (a : α) :
    (Instr.lookup t (.map (some b)) (E.val a) false).run P w = .ok (.int .i64 (m a)) w := by
  obtain ⟨D, ho, _, ha⟩ := h
  obtain ⟨c, hr, hc, _⟩ := ho.lookup_int E.law ht he hz (E.key a)
  rw [ha a] at hc
  injection hc with hc
  injection hc with _ hc
  rw [hr, hc]

/-- m[a] = x, stored. -/
theorem IMap.put [DecidableEq α] {ops : Array Oper} {rest : List Oper} {o : Oper} {A : Act} {Q : Exit → Act → World → Prop} {w : World} {b n : Nat} {m : α → Int} {t : TypeId}
    (h : IMap E e w b n m) (ht : P.underlying t = some (.map K e)) (he : P.underlying e = some (.int .i64)) (hn : n < maxLen) (hg : o.guard = none) (x y v : Operand) (hop : o.op = Op.mapUpdate t x y v)
    (a : α) (c : Int) (hc : (Lit.int .i64 c).wf = true) (hx : A.eval x = .map (some b)) (hy : A.eval y = E.val a) (hv : A.eval v = .int .i64 c)
    (hK : ∀ w', IMap E e w' b (n + 1) (fun z => if z = a then c else m z) → w.grownBy w' (some b) → wpList P ops Q rest (A.put o.dst undef) w') : wpList P ops Q (o :: rest) A w := by
  obtain ⟨D, ho, hm, ha⟩ := h
  refine wpList_mapUpdate_own w hg x y v t hop K e E.law ht _ b n D hx ho hn _ _ _ hy hv (E.key a) _ [] (plainElem_int he hc) ?_
  intro w' ho' hgr
  refine hK w' ⟨_, ho', hm.put _ _, fun z => ?_⟩ hgr
  by_cases hz : z = a
  · subst hz
    rw [atKey_put_same hm (E.law.key (E.key z))]
    dsimp only
    rw [if_pos rfl]
  · rw [atKey_put_other (fun h => hz (E.lit_inj h)), ha z]
    dsimp only
    rw [if_neg hz]
end

end Go.Proofs.YtipocmbplcdmjaaDoor

/-
  Maps whose keys are functions of eight variables; slices of such functions.
-/
namespace Go.Proofs.YtipocmbplcdmjaaDoor
open Go Go.RowKit Go.Maps

theorem Tryd.laidOut : laidOutB Tryd.prog = true := by kernel_rfl
theorem Tryd.rowF : 35 < Tryd.prog.types.size := of_decide_eq_true (by kernel_rfl)
theorem Tryd.keyF : Keyed Tryd.prog 35 :=
  Keyed.of_law (deep_law_laid Tryd.laidOut (m := 4) (by decide) Tryd.rowF (by kernel_rfl) (by kernel_rfl))
theorem Tryd.keyTypeF : Tryd.prog.keyType 35 = true := by kernel_rfl
theorem Tryd.cellsOfF : Tryd.prog.cellsOf 35 = 4 := by kernel_rfl
theorem Tryd.cellsOfU : Tryd.prog.cellsOf 33 = 1 := by kernel_rfl

theorem wf_wd (f : Fn) (i : Nat) : (Lit.int .u64 (wd f i)).wf = true := by
  have := wd_lt f i
  simp [Lit.wf, IntKind.min, IntKind.max, IntKind.signed, IntKind.bits]
  omega

theorem key_fv (f : Fn) : ∃ l, keyOf Tryd.prog 35 (fv f) = some l := by
  obtain ⟨d, hd⟩ : ∃ d, Tryd.prog.types.size + 1 = d + 1 + 1 := ⟨Tryd.prog.types.size - 1, by have := Tryd.rowF; omega⟩
  unfold keyOf
  rw [Tryd.underlying35]
  have hf : (fv f).formed Tryd.prog 35 = true := by
    unfold fv Value.formed
    simp only [Tryd.underlying35, Tryd.cellsOfF]
    rfl
  simp only [Tryd.keyTypeF, hf, Bool.and_self, if_true]
  rw [hd]
  unfold fv
  simp [Program.keyLits, Value.cells, Tryd.underlying35, Tryd.underlying33, Tryd.cellsOfF, Tryd.cellsOfU, wf_wd, show List.range 4 = [0, 1, 2, 3] from rfl]

/-- Functions as keys. -/
noncomputable def encF : KeyEnc Tryd.prog 35 Fn where
  val := fv
  lit f := (key_fv f).choose
  key f := (key_fv f).choose_spec
  inj _ _ h := fv_inj h
  law := Tryd.keyF

theorem zeroI (w : World) : (zeroValue 3).run Tryd.prog w = .ok (.int .i64 0) w := by kernel_rfl

/-- The cells of a list of functions. -/
def cellsL : List Fn → List Value
  | [] => []
  | f :: l => .int .u64 (wd f 0) :: .int .u64 (wd f 1) :: .int .u64 (wd f 2) :: .int .u64 (wd f 3) :: cellsL l

theorem cellsL_length (l : List Fn) : (cellsL l).length = l.length * 4 := by
  induction l with
  | nil => rfl
  | cons f l ih => simp only [cellsL, List.length_cons, ih]; omega

theorem cellsL_append (l k : List Fn) : cellsL (l ++ k) = cellsL l ++ cellsL k := by
  induction l with
  | nil => rfl
  | cons f l ih => simp [cellsL, ih]

theorem cellsL_one (l : List Fn) : ∀ u ∈ cellsL l, u.oneCell' = true := by
  induction l with
  | nil => intro u h; cases h
  | cons f l ih =>
    intro u h
    simp only [cellsL, List.mem_cons] at h
    rcases h with rfl | rfl | rfl | rfl | h
    · rfl
    · rfl
    · rfl
    · rfl
    · exact ih u h

theorem cellsL_get (l : List Fn) : ∀ (i : Nat) (h : i < l.length) (j : Nat), j < 4 → (cellsL l)[i * 4 + j]? = some (.int .u64 (wd l[i] j)) := by
  induction l with
  | nil => intro i h; cases h
  | cons f l ih =>
    intro i h j hj
    cases i with
    | zero => rcases (by omega : j = 0 ∨ j = 1 ∨ j = 2 ∨ j = 3) with rfl | rfl | rfl | rfl <;> rfl
    | succ i =>
      have := ih i (by simpa using h) j hj
      rw [show (i + 1) * 4 + j = (i * 4 + j) + 4 by omega]
      simpa [cellsL] using this

/-- A slice of the call's own that holds these functions. -/
def OwnsF (w : World) (base : Nat) (v : Value) (l : List Fn) : Prop := w.ownsRow base 35 4 v l.length (cellsL l)

end Go.Proofs.YtipocmbplcdmjaaDoor
