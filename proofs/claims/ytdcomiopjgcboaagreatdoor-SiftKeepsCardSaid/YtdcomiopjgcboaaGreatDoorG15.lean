/-
  Texts of this proof, one behind the other: Ref4, FMap, RefTop, RefB, RefR, BackM, FSlice, ReadC, SweepM.
-/
import Derived.Test.YtdcomiopjgcboaaGreatDoorG14
import Derived.Test.YtdcomiopjgcboaaGreatDoorG10
import Derived.Test.YtdcomiopjgcboaaGreatDoorG13
import Derived.DeepKeys4
import Derived.Test.YtdcomiopjgcboaaGreatDoorG11
import Derived.Test.YtdcomiopjgcboaaGreatDoorG5
import Derived.Test.YtdcomiopjgcboaaGreatDoorG7
import Derived.Test.YtdcomiopjgcboaaGreatDoorG12
import Derived.Maps.AppendAt
import Derived.Laws.AppendOwnNone
import Derived.Test.YtdcomiopjgcboaaGreatDoorG8
/-
  Walks of the document's Support, Exists, Forall, Compose.
-/
namespace Go.Proofs.YtdcomiopjgcboaaGreatDoor
open Go Go.RowKit

set_option maxRecDepth 100000 in
set_option maxHeartbeats 1000000 in
theorem refSupport (f : Fn) (w : World) :
    Calls Tryz.prog 93 #[fv f] w fun e w' => e = .returned (.int .i64 (supF f)) ∧ Below w.heap.size w w' := by
  simp only [fv]
  go_enter Tryz.func93, Tryz.ntmps93
  go_wp2
  go_loopw [3, 4] (fun s i wr => ∃ j : Nat, j ≤ 8 ∧ i = .int .i64 ((j : Int) - 1) ∧ s = .int .i64 (supFrom f (8 - j) j) ∧ Holds wr w.heap.size f ∧ Below w.heap.size w wr) (fun _ i _ => (intOf i + 1).toNat)
  case atStart => exact ⟨8, Nat.le_refl _, rfl, rfl, Holds.new _ _ _, by go_grown⟩
  case round =>
    obtain ⟨j, hj, rfl, rfl, h0, hb⟩ := hrel
    by_cases hlt : 1 ≤ j
    · obtain ⟨i, rfl⟩ : ∃ i, j = i + 1 := ⟨j - 1, by omega⟩
      have Hs := Lib.hid (show supFrom f (8 - i) i = 2 * supFrom f (8 - (i + 1)) (i + 1) + (if depF f i then 1 else 0) by
        rw [show 8 - i = (8 - (i + 1)) + 1 by omega]; rfl)
      have hs : supFrom f (8 - (i + 1)) (i + 1) < 256 := Nat.lt_of_lt_of_le (supFrom_lt f _ _) (Nat.pow_le_pow_right (n := 2) (j := 8) (by decide) (by omega))
      have hi : i < 8 := by omega
      have ei : ((i + 1 : Nat) : Int) - 1 = (i : Int) := by omega
      rw [ei]
      clear ei
      generalize supFrom f (8 - (i + 1)) (i + 1) = y at *
      obtain ⟨c0, c1, c2, c3⟩ := h0.cells
      go_wp2_with fail
      clear c0 c1 c2 c3
      refine (refDepends f i _).mono ?_
      rw [depAny, if_pos (by omega), Int.toNat_natCast]
      rintro e w1 ⟨rfl, hb1⟩
      have k0 := h0.keep hb1 h0.lt
      have kb := hb.trans (hb1.mono hb.size)
      clear h0 hb hb1
      cases hd : depF f i
      · rw [hd] at Hs
        go_wp2
        exact ⟨⟨i, by omega, by go_num, by rw [Hs.out]; rfl, k0, kb⟩, by simp [intOf]⟩
      · rw [hd] at Hs
        go_wp2
        exact ⟨⟨i, by omega, by go_num, by rw [Hs.out]; rfl, k0, kb⟩, by simp [intOf]⟩
    · obtain rfl : j = 0 := by omega
      go_wp2
      go_ret
      exact ⟨rfl, hb⟩





end Go.Proofs.YtdcomiopjgcboaaGreatDoor

/-
  Maps whose keys are functions of eight variables; slices of such functions.
-/
namespace Go.Proofs.YtdcomiopjgcboaaGreatDoor
open Go Go.RowKit Go.Maps

theorem Tryz.laidOut : laidOutB Tryz.prog = true := by kernel_rfl
theorem Tryz.rowF : 46 < Tryz.prog.types.size := of_decide_eq_true (by kernel_rfl)
theorem Tryz.keyF : Keyed Tryz.prog 46 :=
  Keyed.of_law (deep_law_laid Tryz.laidOut (m := 4) (by decide) Tryz.rowF (by kernel_rfl) (by kernel_rfl))
theorem Tryz.keyTypeF : Tryz.prog.keyType 46 = true := by kernel_rfl
theorem Tryz.cellsOfF : Tryz.prog.cellsOf 46 = 4 := by kernel_rfl
theorem Tryz.cellsOfU : Tryz.prog.cellsOf 44 = 1 := by kernel_rfl

theorem wf_wd (f : Fn) (i : Nat) : (Lit.int .u64 (wd f i)).wf = true := by
  have := wd_lt f i
  simp [Lit.wf, IntKind.min, IntKind.max, IntKind.signed, IntKind.bits]
  omega

theorem key_fv (f : Fn) : ∃ l, keyOf Tryz.prog 46 (fv f) = some l := by
  obtain ⟨d, hd⟩ : ∃ d, Tryz.prog.types.size + 1 = d + 1 + 1 := ⟨Tryz.prog.types.size - 1, by have := Tryz.rowF; omega⟩
  unfold keyOf
  rw [Tryz.underlying46]
  have hf : (fv f).formed Tryz.prog 46 = true := by
    unfold fv Value.formed
    simp only [Tryz.underlying46, Tryz.cellsOfF]
    rfl
  simp only [Tryz.keyTypeF, hf, Bool.and_self, if_true]
  rw [hd]
  unfold fv
  simp [Program.keyLits, Value.cells, Tryz.underlying46, Tryz.underlying44, Tryz.cellsOfF, Tryz.cellsOfU, wf_wd, show List.range 4 = [0, 1, 2, 3] from rfl]

/-- Functions as keys. -/
noncomputable def encF : KeyEnc Tryz.prog 46 Fn where
  val := fv
  lit f := (key_fv f).choose
  key f := (key_fv f).choose_spec
  inj _ _ h := fv_inj h
  law := Tryz.keyF

theorem zeroI (w : World) : (zeroValue 3).run Tryz.prog w = .ok (.int .i64 0) w := by kernel_rfl

/-- The cells of a list of functions. -/
def cellsL : List Fn → List Value
  | [] => []
  | f :: l => .int .u64 (wd f 0) :: .int .u64 (wd f 1) :: .int .u64 (wd f 2) :: .int .u64 (wd f 3) :: cellsL l

theorem cellsL_length (l : List Fn) : (cellsL l).length = l.length * 4 := by
  induction l with
  | nil => rfl
  | cons f l ih => simp only [cellsL, List.length_cons, ih]; omega

theorem cellsL_append (l k : List Fn) : cellsL (l ++ k) = cellsL l ++ cellsL k := by
  induction l with
  | nil => rfl
  | cons f l ih => simp [cellsL, ih]

theorem cellsL_one (l : List Fn) : ∀ u ∈ cellsL l, u.oneCell' = true := by
  induction l with
  | nil => intro u h; cases h
  | cons f l ih =>
    intro u h
    simp only [cellsL, List.mem_cons] at h
    rcases h with rfl | rfl | rfl | rfl | h
    · rfl
    · rfl
    · rfl
    · rfl
    · exact ih u h

theorem cellsL_get (l : List Fn) : ∀ (i : Nat) (h : i < l.length) (j : Nat), j < 4 → (cellsL l)[i * 4 + j]? = some (.int .u64 (wd l[i] j)) := by
  induction l with
  | nil => intro i h; cases h
  | cons f l ih =>
    intro i h j hj
    cases i with
    | zero => rcases (by omega : j = 0 ∨ j = 1 ∨ j = 2 ∨ j = 3) with rfl | rfl | rfl | rfl <;> rfl
    | succ i =>
      have := ih i (by simpa using h) j hj
      rw [show (i + 1) * 4 + j = (i * 4 + j) + 4 by omega]
      simpa [cellsL] using this

/-- A slice of the call's own that holds these functions. -/
def OwnsF (w : World) (base : Nat) (v : Value) (l : List Fn) : Prop := w.ownsRow base 46 4 v l.length (cellsL l)

end Go.Proofs.YtdcomiopjgcboaaGreatDoor

/-
  Walks of the document's Top and Plain.
-/
namespace Go.Proofs.YtdcomiopjgcboaaGreatDoor
open Go Go.RowKit

set_option maxRecDepth 100000 in
set_option maxHeartbeats 1000000 in
theorem refTop (f : Fn) (o : Nat → Int) (w : World) :
    Calls Tryz.prog 65 #[fv f, ov o] w fun e w' => e = .returned (.int .i64 (topF f o)) ∧ Below w.heap.size w w' := by
  simp only [fv, ov]
  go_enter Tryz.func65, Tryz.ntmps65
  go_wp2
  go_loopw [5] (fun i wr => ∃ n : Nat, n ≤ 8 ∧ i = .int .i64 n ∧ Hid (topF f o = topFrom f o (8 - n) n) ∧ Holds wr w.heap.size f ∧ HoldsO wr (w.heap.size + 1) o ∧ Below w.heap.size w wr) (fun i _ => 8 - (intOf i).toNat)
  case atStart => exact ⟨0, Nat.zero_le _, rfl, rfl, (Holds.new _ _ _).alloc _, HoldsO.new _ _ _, by go_grown⟩
  case round =>
    obtain ⟨n, hn, rfl, ht, h0, h1, hb⟩ := hrel
    by_cases hlt : n < 8
    · have Hs : Hid (topF f o = if depAny f (o n) then o n else topFrom f o (8 - (n + 1)) (n + 1)) := by
        have := ht.out
        rw [show 8 - n = (8 - (n + 1)) + 1 by omega] at this
        exact this
      clear ht
      have hn0 : (0 : Int) ≤ (n : Int) := by omega
      have hn8 : (n : Int) < 8 := by omega
      have c0 : ∀ u : Sub wr, u.1.cell? ⟨w.heap.size, 0, none⟩ = some (.int .u64 (wd f 0)) := fun u => (h0.sub u).cells.1
      have c1 : ∀ u : Sub wr, u.1.cell? ⟨w.heap.size, 1, none⟩ = some (.int .u64 (wd f 1)) := fun u => (h0.sub u).cells.2.1
      have c2 : ∀ u : Sub wr, u.1.cell? ⟨w.heap.size, 2, none⟩ = some (.int .u64 (wd f 2)) := fun u => (h0.sub u).cells.2.2.1
      have c3 : ∀ u : Sub wr, u.1.cell? ⟨w.heap.size, 3, none⟩ = some (.int .u64 (wd f 3)) := fun u => (h0.sub u).cells.2.2.2
      have d0 : ∀ u : Sub wr, u.1.cell? ⟨w.heap.size + 1, n, none⟩ = some (.int .i64 (o n)) := fun u => (h1.sub u).cell n hlt
      go_wp2
      refine wp_region_quiet_all (C := fun w' => ∃ u : Sub wr, w' = u.1) (by kernel_rfl) (by kernel_rfl) (InSub.drew wr) ?_
      iterate 4 (go_big_quiet_step (fail))
      go_big_quiet_step (exact sub_below (refDepends f (o n) _))
      refine wpQuiet_nil ?_
      clear c0 c1 c2 c3 d0
      intro w' hw'
      obtain ⟨u, rfl⟩ := hw'
      have k0 := h0.sub u
      have k1 := h1.sub u
      have kb := hb.trans (u.2.mono hb.size)
      clear h0 h1 hb
      generalize u.1 = w1 at *
      have hc := k1.cell n hlt
      cases hd : depAny f (o n)
      · rw [hd] at Hs
        go_wp2
        exact ⟨⟨n + 1, by omega, by go_num, Hs.out, k0, k1, kb⟩, by simp [intOf]; omega⟩
      · rw [hd] at Hs
        go_wp2
        go_ret
        exact ⟨ret_int Hs.out.symm, kb⟩
    · obtain rfl : n = 8 := by omega
      go_wp2
      go_ret
      exact ⟨ret_int ht.out.symm, hb⟩

end Go.Proofs.YtdcomiopjgcboaaGreatDoor

/-
  The document's store: Table, Build.
-/
namespace Go.Proofs.YtdcomiopjgcboaaGreatDoor
open Go Go.RowKit

theorem MS.tab_const' {s : MS} {n : Int} (h : s.has n = false) : s.tab n = ofRow fun _ => (n == 1) := fn_ext fun k hk => by
  rw [MS.tab_bit _ _ hk, MS.val_const _ h, ofRow_bit _ _ hk]


theorem MS.Base.there_le {s : MS} (ok : s.Base) {n : Int} (h : s.there n = true) : n ≤ 9223372036854775807 := by
  rcases MS.there_cases h with ⟨h, _⟩ | h
  · omega
  · have := ok.has_le h; omega

set_option maxRecDepth 100000 in
set_option maxHeartbeats 2000000 in
theorem refSBuild_const {w : World} {b : Nat} {F : Nat → Prop} {s : MS} (h : RefSAt w b F s) (f : Fn) (ht : topF f s.o < 0) :
    Calls Tryz.prog 27 #[.pointer (some ⟨b, 0, none⟩), fv f] w (MkPost w b F (constN f, 0, s)) := by
  have HT := fun W => refTop f s.o W
  have HA := fun W => refAt f 0 W
  have hend : ∀ w', Below w.heap.size w w' → ∃ F', RefSAt w' b F' s ∧ Keeps F w w' ∧ Within w F F' := fun w' hb => ⟨F, h.below hb, Keeps.of_below hb _, Within.refl _ _⟩
  unfold constN MkPost
  generalize topF f s.o = v at *
  generalize atF f 0 = z at *
  obtain ⟨bA, FA, vN, rfl, hR⟩ := h
  simp only [fv, ov] at *
  go_enter Tryz.func27, Tryz.ntmps27
  go_wp2
  have hF := Holds.new w f w.heap.size rfl
  have hb := (Below.refl w.heap.size w).alloc (Nat.le_refl _) (.cells #[.int .u64 (wd f 0), .int .u64 (wd f 1), .int .u64 (wd f 2), .int .u64 (wd f 3)] 46)
  generalize w.alloc (.cells #[.int .u64 (wd f 0), .int .u64 (wd f 1), .int .u64 (wd f 2), .int .u64 (wd f 3)] 46) = W at *
  have hRW := hR.below hb
  have o0 := fun u : Sub W => (hRW.sub u).order.1
  have o1 := fun u : Sub W => (hRW.sub u).order.2.1
  have o2 := fun u : Sub W => (hRW.sub u).order.2.2.1
  have o3 := fun u : Sub W => (hRW.sub u).order.2.2.2.1
  have o4 := fun u : Sub W => (hRW.sub u).order.2.2.2.2.1
  have o5 := fun u : Sub W => (hRW.sub u).order.2.2.2.2.2.1
  have o6 := fun u : Sub W => (hRW.sub u).order.2.2.2.2.2.2.1
  have o7 := fun u : Sub W => (hRW.sub u).order.2.2.2.2.2.2.2
  have c0 := fun u : Sub W => (hF.sub u).cells.1
  have c1 := fun u : Sub W => (hF.sub u).cells.2.1
  have c2 := fun u : Sub W => (hF.sub u).cells.2.2.1
  have c3 := fun u : Sub W => (hF.sub u).cells.2.2.2
  refine wp_region_quiet_all (C := fun w' => ∃ u : Sub W, w' = u.1) (by kernel_rfl) (by kernel_rfl) (InSub.drew W) ?_
  iterate 5 (go_big_quiet_step (fail))
  go_big_quiet_step (exact subBelow (HT _))
  go_big_quiet_step (fail)
  refine wpQuiet_nil ?_
  clear o0 o1 o2 o3 o4 o5 o6 o7 c0 c1 c2 c3 hRW HT
  intro w' hw'
  obtain ⟨u, rfl⟩ := hw'
  replace hF := hF.keep u.2 hF.lt
  replace hb := hb.trans (u.2.mono hb.size)
  generalize u.1 = W2 at *
  obtain ⟨c0, c1, c2, c3⟩ := hF.cells
  go_wp2_with fail
  refine (HA _).mono ?_
  rintro e w3 ⟨rfl, hb3⟩
  have hb4 := hb.trans (hb3.mono hb.size)
  clear HA c0 c1 c2 c3
  cases z
  · go_wp2
    go_ret2
    exact ⟨rfl, hend _ hb4⟩
  · go_wp2
    go_ret2
    exact ⟨rfl, hend _ hb4⟩

set_option maxRecDepth 100000 in
set_option maxHeartbeats 4000000 in
theorem refSBuild {b : Nat} : ∀ (k : Nat) (s : MS) (f : Fn) (w : World) (F : Nat → Prop), RefSAt w b F s → s.Ok → supN f ≤ k →
    Calls Tryz.prog 27 #[.pointer (some ⟨b, 0, none⟩), fv f] w (MkPost w b F (MS.bld k s f)) := by
  intro k
  induction k with
  | zero =>
    intro s f w F h ok hk
    refine refSBuild_const h f ?_
    have := (top_neg (f := f) (full_of ok.order)).2 (supN_zero (f := f) (by omega))
    omega
  | succ k ih =>
    intro s f w F h ok hk
    unfold MS.bld
    by_cases ht : topF f s.o < 0
    · rw [if_pos ht]
      exact refSBuild_const h f ht
    · rw [if_neg ht]
      have ht0 : 0 ≤ topF f s.o := by omega
      have k0 := supN_cof f s.o false ht0
      have k1 := supN_cof f s.o true ht0
      have ra := MS.bld_spec k s (cofAny f (topF f s.o) false) ok (by omega)
      have IA := fun W (hb : Below w.heap.size w W) => ih s (cofAny f (topF f s.o) false) W F (h.below hb) ok (by omega)
      have rb := fun hA => MS.bld_spec k (MS.bld k s (cofAny f (topF f s.o) false)).2.2 (cofAny f (topF f s.o) true) hA (by omega)
      have IB := fun W F' hW hA => ih (MS.bld k s (cofAny f (topF f s.o) false)).2.2 (cofAny f (topF f s.o) true) W F' hW hA (by omega)
      have HT := fun W => refTop f s.o W
      have HC0 := fun W => refCof f (topF f s.o) false W
      have HC1 := fun W => refCof f (topF f s.o) true W
      dsimp only
      generalize hA : MS.bld k s (cofAny f (topF f s.o) false) = A at *
      generalize hB : MS.bld k A.2.2 (cofAny f (topF f s.o) true) = B at *
      have hFlt := h.lt
      obtain ⟨bA, FA, vN, rfl, hR⟩ := h
      generalize topF f s.o = v at *
      generalize cofAny f v false = f0 at *
      generalize cofAny f v true = f1 at *
      clear ih hA hB k0 k1 hk
      obtain ⟨A0, A1, sA⟩ := A
      obtain ⟨B0, B1, sB⟩ := B
      dsimp only at *
      generalize hr : (if A1 ≠ 0 then ((0, A1, sA) : Int × Int × MS) else if B1 ≠ 0 then (0, B1, sB) else sB.mk v A0 B0 []) = r
      simp only [fv, ov] at *
      obtain ⟨okA, _, _, resA, _⟩ := ra
      unfold MkPost at *
      dsimp only at IA IB
      go_enter Tryz.func27, Tryz.ntmps27
      go_wp2
      have hF := Holds.new w f w.heap.size rfl
      have hb := (Below.refl w.heap.size w).alloc (Nat.le_refl _) (.cells #[.int .u64 (wd f 0), .int .u64 (wd f 1), .int .u64 (wd f 2), .int .u64 (wd f 3)] 46)
      generalize w.alloc (.cells #[.int .u64 (wd f 0), .int .u64 (wd f 1), .int .u64 (wd f 2), .int .u64 (wd f 3)] 46) = W at *
      have hRW := hR.below hb
      have o0 := fun u : Sub W => (hRW.sub u).order.1
      have o1 := fun u : Sub W => (hRW.sub u).order.2.1
      have o2 := fun u : Sub W => (hRW.sub u).order.2.2.1
      have o3 := fun u : Sub W => (hRW.sub u).order.2.2.2.1
      have o4 := fun u : Sub W => (hRW.sub u).order.2.2.2.2.1
      have o5 := fun u : Sub W => (hRW.sub u).order.2.2.2.2.2.1
      have o6 := fun u : Sub W => (hRW.sub u).order.2.2.2.2.2.2.1
      have o7 := fun u : Sub W => (hRW.sub u).order.2.2.2.2.2.2.2
      have c0 := fun u : Sub W => (hF.sub u).cells.1
      have c1 := fun u : Sub W => (hF.sub u).cells.2.1
      have c2 := fun u : Sub W => (hF.sub u).cells.2.2.1
      have c3 := fun u : Sub W => (hF.sub u).cells.2.2.2
      refine wp_region_quiet_all (C := fun w' => ∃ u : Sub W, w' = u.1) (by kernel_rfl) (by kernel_rfl) (InSub.drew W) ?_
      iterate 5 (go_big_quiet_step (fail))
      go_big_quiet_step (exact subBelow (HT _))
      go_big_quiet_step (fail)
      refine wpQuiet_nil ?_
      clear o0 o1 o2 o3 o4 o5 o6 o7 c0 c1 c2 c3 hRW HT
      intro w' hw'
      obtain ⟨u, rfl⟩ := hw'
      replace hF := hF.keep u.2 hF.lt
      replace hb := hb.trans (u.2.mono hb.size)
      generalize u.1 = W2 at *
      obtain ⟨c0, c1, c2, c3⟩ := hF.cells
      go_wp2_with fail
      refine (HC0 _).mono ?_
      rintro e w3 ⟨rfl, hb3⟩
      replace hF := hF.keep hb3 hF.lt
      replace hb := hb.trans (hb3.mono hb.size)
      clear HC0 c0 c1 c2 c3 hb3
      go_wp2_with fail
      refine (IA _ hb).mono ?_
      rintro e w4 ⟨rfl, FA4, hA4, hK4, hW4⟩
      have hBn : ¬ footS b FA vN w.heap.size := fun e => by have := hFlt _ e; omega
      have hF4 : Holds w4 w.heap.size f := by
        have := hK4.block w.heap.size hF.lt hBn
        unfold Holds at *
        rw [this]; exact hF
      have HK := (Keeps.of_below hb (footS b FA vN)).trans hK4 (Within.refl _ _)
      have HW := (Within.refl w (footS b FA vN)).trans hW4 hb.size
      have hsz4 := hF.lt
      clear IA hK4 hF hb hR
      by_cases hA1 : A1 = 0
      · subst hA1
        rw [if_neg (by decide)] at hr
        obtain ⟨thA, _⟩ := resA rfl
        obtain ⟨c0, c1, c2, c3⟩ := hF4.cells
        go_wp2_with fail
        refine (HC1 _).mono ?_
        rintro e w5 ⟨rfl, hb5⟩
        clear HC1 c0 c1 c2 c3
        obtain ⟨okB, extB, _, resB, _⟩ := rb okA
        go_wp2_with fail
        refine (IB _ _ (hA4.below hb5) okA).mono ?_
        rintro e w6 ⟨rfl, FB6, hB6, hK6, hW6⟩
        replace HK := HK.trans ((Keeps.of_below hb5 FA4).trans hK6 (Within.refl _ _)) HW
        replace HW := HW.trans ((Within.refl w4 FA4).trans hW6 hb5.size) (by have := hA4.lt; exact (show w.heap.size ≤ w4.heap.size from by have := hF4.lt; omega))
        clear IB hK6 hb5
        by_cases hB1 : B1 = 0
        · subst hB1
          rw [if_neg (by decide)] at hr
          obtain ⟨thB, _⟩ := resB rfl
          have HM := refSMk hB6 okB.toBase v A0 B0 (okB.toBase.there_le (extB.there thA)) (okB.toBase.there_le thB)
          rw [hr] at HM
          unfold MkPost at HM
          go_wp2_with fail
          refine HM.mono ?_
          rintro e w7 ⟨rfl, F7, hM7, hK7, hW7⟩
          go_wp2
          go_ret2
          exact ⟨rfl, F7, hM7, HK.trans hK7 HW, HW.trans hW7 HK.size⟩
        · have hBb : (B1 == 0) = false := by rw [beq_eq_false_iff_ne]; exact hB1
          rw [if_pos hB1] at hr
          subst hr
          go_wp2
          go_ret2
          exact ⟨rfl, FB6, hB6, HK, HW⟩
      · have hAb : (A1 == 0) = false := by rw [beq_eq_false_iff_ne]; exact hA1
        rw [if_pos hA1] at hr
        subst hr
        clear IB rb
        go_wp2
        go_ret2
        exact ⟨rfl, FA4, hA4, HK, HW⟩

end Go.Proofs.YtdcomiopjgcboaaGreatDoor

/-
  The document's store: Reach. Nodes of bowerlaw00.
-/
namespace Go.Proofs.YtdcomiopjgcboaaGreatDoor
open Go Go.RowKit

theorem Owns.free' {P : Program} {α : Type} {E : Enc P α} {w : World} {v : Value} {l : List α} (h : Owns E w v l) {g : Nat} (hg : v.ownBlock = Option.some g) (j : Nat) : w.frozen? ⟨g, j, none⟩ = false := by
  obtain ⟨a, c, rfl, _, _, _, H⟩ := h.form
  cases a with
  | none => cases hg
  | some ad =>
    obtain ⟨g', rfl, _, hf, _⟩ := H ad rfl
    cases hg
    exact hf j
/-- A flag read, by its length told otherwise. -/
theorem flagCell {w : World} {g n c : Nat} {l : List Bool} (h : Owns encB w (.slice (some ⟨g, 0, none⟩) n c) l) (i : Nat) (hi : i < l.length) : w.cell? ⟨g, i, none⟩ = some (.bool (l.getD i false)) := by
  obtain ⟨a, c', hv, _, _, _, H⟩ := h.form
  injection hv with ha _ hc
  obtain ⟨g', e, _, _, hcell⟩ := H ⟨g, 0, none⟩ ha.symm
  cases e
  have := hcell i hi 0 (by decide)
  rw [List.getD, List.getElem?_eq_getElem hi]
  simpa [encB] using this
theorem flagSet {w : World} {g n c : Nat} {l : List Bool} (h : Owns encB w (.slice (some ⟨g, 0, none⟩) n c) l) (hn : n = l.length) {i : Nat} (hi : i < l.length) (x : Bool) : Owns encB (w.setCell ⟨g, i, none⟩ (.bool x)) (.slice (some ⟨g, 0, none⟩) n c) (l.set i x) := by
  subst hn
  exact h.put rfl rfl hi

set_option maxRecDepth 100000 in
set_option maxHeartbeats 4000000 in
theorem refSReach {w : World} {b : Nat} {F : Nat → Prop} {s : MS} (h : RefSAt w b F s) (ok : s.Ok) (roots : List Int) (v : Value) (hv : Reads encI w v roots) (hrl : roots.length ≤ 100000) (hwf : ∀ r ∈ roots, r ≤ 9223372036854775807) :
    Calls Tryz.prog 74 #[.pointer (some ⟨b, 0, none⟩), v] w fun e w' => ∃ v', e = .returned v' ∧ WRel w (s.reach roots) v' w' := by
  have hfew := ok.toBase.few
  obtain ⟨bA, FA, vN, rfl, hR⟩ := h
  have cl := hR.cells.2
  obtain ⟨aN, cN, rfl⟩ := hR.form
  have hHN := fun W (hb : Below w.heap.size w W) (n : Int) (hn : n ≤ 9223372036854775807) => refSNode (w := W) ⟨bA, FA, .slice aN s.N.length cN, rfl, hR.below hb⟩ ok.toBase n hn
  have hm : (Instr.makeSlice 116 (.int .i64 ((s.N.length : Int) + 2)) (.int .i64 ((s.N.length : Int) + 2))).run Tryz.prog w = .ok (.slice (some ⟨w.heap.size, 0, none⟩) (s.N.length + 2) (s.N.length + 2)) (w.alloc (.cells (madeCells encB.zero.cells ((s.N.length + 2) * encB.size)) encB.elem)) := run_made encB (s.N.length + 2) (by omega) w
  have hOS := owns_made encB false rfl (s.N.length + 2) (by omega) w
  have hbS : Below w.heap.size w (w.alloc (.cells (madeCells encB.zero.cells ((s.N.length + 2) * encB.size)) encB.elem)) := by go_grown
  have hSl : (w.alloc (.cells (madeCells encB.zero.cells ((s.N.length + 2) * encB.size)) encB.elem)).heap.size = w.heap.size + 1 := by simp
  have hlN : cN = cN := rfl
  clear hR hlN
  generalize w.alloc (.cells (madeCells encB.zero.cells ((s.N.length + 2) * encB.size)) encB.elem) = W1 at *
  have hO0 : Owns encI (W1.alloc (.cells #[] 3)) (.slice (some ⟨W1.heap.size, 0, none⟩) 0 0) [] := World.ownsRow_lit W1 #[] 0 (Nat.zero_le _) (by unfold maxLen; omega) rfl
  have hb1 : Below w.heap.size w (W1.alloc (.cells #[] 3)) := hbS.alloc hbS.size _
  have hOS1 := hOS.alloc (.cells #[] 3)
  have hr1 := hv.keep hb1
  have hln0 : ([] : List Int).length + roots.length ≤ 1000000 := by simp; omega
  rw [hSl] at hO0
  clear hbS hOS
  go_enter Tryz.func74, Tryz.ntmps74
  go_wp2_with (at_builtin; refine appendI rfl (.tmp 19) (.tmp 20) rfl (.slice (some ⟨w.heap.size + 1, 0, none⟩) 0 0) v [] roots rfl hO0 rfl hr1 hln0 ?_; intro vw w2 hown hgr hat)
  rw [List.nil_append] at hown
  have hown0 : (Value.slice (some ⟨w.heap.size + 1, 0, none⟩) 0 0).ownBlock = some (w.heap.size + 1) := rfl
  rw [hown0] at hgr hat
  have hat' : ∀ g, vw.ownBlock = some g → w.heap.size + 1 ≤ g := fun g hg => by
    rcases hat with hat | hat <;> rw [hat] at hg <;> injection hg with hg
    · omega
    · simp at hg; omega
  have hOS2 := hOS1.block (w' := w2) fun g hg => hgr.block g (hOS1.lt g hg) (fun e => by
    have hg' : some w.heap.size = some g := hg
    injection hg' with hg'
    injection e with e
    omega)
  have hb2 := hb1.grown hgr (by simp; omega) (fun g hg => by injection hg with hg; omega)
  have hS2 := hOS2.lt w.heap.size rfl
  clear hO0 hb1 hOS1 hr1 hln0 hgr hat hm hSl hown0
  have hwk0 : ∀ m ∈ roots, m ≤ 9223372036854775807 := hwf
  replace hown := Lib.hid hown
  replace hOS2 := Lib.hid hOS2
  replace hwk0 := Lib.hid hwk0
  replace hat' := Lib.hid hat'
  have hI0 := RInv.start s roots
  go_wp2
  go_loopw [6, 7] (fun vo i wr => ∃ (k : Nat) (seen : List Bool) (work : List Int), RInv s roots seen work k ∧ k ≤ work.length ∧ i = .int .i64 k ∧ Owns encB wr (.slice (some ⟨w.heap.size, 0, none⟩) (s.N.length + 2) (s.N.length + 2)) seen ∧ Owns encI wr vo work ∧ (∀ g, vo.ownBlock = some g → w.heap.size + 1 ≤ g) ∧ Below w.heap.size w wr ∧ Hid (∀ m ∈ work, m ≤ 9223372036854775807)) (fun _ i _ => roots.length + 2 * (s.N.length + 2) - (intOf i).toNat)
  case atStart => exact ⟨0, _, roots, hI0, Nat.zero_le _, rfl, hOS2.out, hown.out, hat'.out, hb2, hwk0⟩
  case round =>
    clear hI0 hown hOS2 hat' hb2 hwk0 hS2
    obtain ⟨k, seen, work, I, hk, rfl, hOS, hOW, hnew, hb, hwk⟩ := hrel
    obtain ⟨aW, cW, eW, _⟩ := hOW.form
    subst eW
    have hbd := I.bound
    have hSl := I.len
    by_cases hlt : k < work.length
    · obtain ⟨gW, rfl⟩ : ∃ gW, aW = some ⟨gW, 0, none⟩ := by
        obtain ⟨g, c, e, _⟩ := hOW.some (by omega)
        injection e with e _ _
        exact ⟨g, e⟩
      have hgW := hnew gW rfl
      have hc := hOW.intAt k hlt
      have hnle := hwk.out _ (List.getElem_mem hlt)
      have hold := I.old hlt
      have hnewI := I.new ok.toBase hlt
      have hk0 : (0 : Int) ≤ (k : Int) := by omega
      have hk1 : (k : Int) < (work.length : Int) := by omega
      generalize hn : work[k] = n at *
      have HN := hHN wr hb n hnle
      unfold nodeV nv at HN
      cases hh : s.has n
      · simp only [hh, Bool.false_eq_true, if_false] at HN
        have hnext := Lib.hid (hold (fun e => by rw [hh] at e; cases e))
        clear hold hnewI hh hn
        go_wp2_with fail
        refine HN.mono ?_
        rintro e w3 ⟨rfl, hb3⟩
        have hb4 := hb3.alloc hb3.size (.cells #[.int .i64 0, .int .i64 0, .int .i64 0] 78)
        have hOS4 := hOS.block (w' := w3.alloc (.cells #[.int .i64 0, .int .i64 0, .int .i64 0] 78)) fun g hg => hb4.block g (hOS.lt g hg)
        have hOW4 := hOW.block (w' := w3.alloc (.cells #[.int .i64 0, .int .i64 0, .int .i64 0] 78)) fun g hg => hb4.block g (hOW.lt g hg)
        replace hOS4 := Lib.hid hOS4
        replace hOW4 := Lib.hid hOW4
        clear HN hc hOS hOW
        go_wp2
        exact ⟨⟨k + 1, seen, work, hnext.out, by omega, by go_num, hOS4.out, hOW4.out, hnew, hb.trans (hb4.mono hb.size), hwk⟩, by simp [intOf]; omega⟩
      · simp only [hh, if_true] at HN
        have hle := ok.toBase.has_le hh
        obtain ⟨r1, r2, _⟩ := ok.toBase.range hh
        have hnl : n.toNat < seen.length := by rw [hSl]; omega
        have hn0 : (0 : Int) ≤ n := by omega
        have hn1 : n < (s.N.length : Int) + 2 := by omega
        have blo := ok.toBase.behind_le (ok.lo n hh)
        have bhi := ok.toBase.behind_le (ok.hi n hh)
        generalize hx : s.nd n = x at *
        obtain ⟨x0, x1, x2⟩ := x
        dsimp only at HN blo bhi hnewI
        cases hs : seen.getD n.toNat false
        · have hnext := Lib.hid (hnewI hh hs)
          clear hold hnewI
          go_wp2_with fail
          refine HN.mono ?_
          rintro e w3 ⟨rfl, hb3⟩
          have hb4 := hb3.alloc hb3.size (.cells #[.int .i64 x0, .int .i64 x1, .int .i64 x2] 78)
          have hOS4 := hOS.block (w' := w3.alloc (.cells #[.int .i64 x0, .int .i64 x1, .int .i64 x2] 78)) fun g hg => hb4.block g (hOS.lt g hg)
          have hOW4 := hOW.block (w' := w3.alloc (.cells #[.int .i64 x0, .int .i64 x1, .int .i64 x2] 78)) fun g hg => hb4.block g (hOW.lt g hg)
          have hX := HoldsN.new w3 ⟨x0, x1, x2⟩
          have hXb : w.heap.size < w3.heap.size := by have := hOS.lt w.heap.size rfl; have := hb3.size; omega
          have hWw := hOW.lt gW rfl
          have hsz3 := hb3.size
          have q1 := flagCell hOS4 n.toNat hnl
          rw [hs] at q1
          have q2 := hOW4.intAt k hlt
          rw [hn] at q2
          obtain ⟨z0, z1, z2⟩ := hX.cells
          have y1 := hOS4.free' rfl n.toNat
          dsimp only at z0 z1 z2
          -- marked
          have hOS5 := flagSet hOS4 (by rw [hSl]) hnl true
          have hOW5 := hOW4.block (w' := (w3.alloc (.cells #[.int .i64 x0, .int .i64 x1, .int .i64 x2] 78)).setCell ⟨w.heap.size, n.toNat, none⟩ (.bool true)) fun g hg => Below.heap_setCell _ _ _ _ (fun e => by have hg' : some gW = some g := hg; injection hg' with hg'; have e' : g = w.heap.size := e; omega)
          have hX5 : HoldsN ((w3.alloc (.cells #[.int .i64 x0, .int .i64 x1, .int .i64 x2] 78)).setCell ⟨w.heap.size, n.toNat, none⟩ (.bool true)) w3.heap.size ⟨x0, x1, x2⟩ := by
            unfold HoldsN
            rw [Below.heap_setCell _ _ _ _ (fun e => by have e' : w3.heap.size = w.heap.size := e; omega)]
            exact hX
          have hb5 : Below w.heap.size w ((w3.alloc (.cells #[.int .i64 x0, .int .i64 x1, .int .i64 x2] 78)).setCell ⟨w.heap.size, n.toNat, none⟩ (.bool true)) := (hb.trans (hb4.mono hb.size)).setCell (Nat.le_refl _) _
          rw [World.setCell_alloc_past _ _ _ _ hXb] at hOS5 hOW5 hX5 hb5
          obtain ⟨e0, e1, e2⟩ := hX5.cells
          have q2' := hOW5.intAt k hlt
          rw [hn] at q2'
          dsimp only at e0 e1 e2
          replace hOS5 := Lib.hid hOS5
          replace hOW5 := Lib.hid hOW5
          replace hb5 := Lib.hid hb5
          clear HN hc hOS hOW hOS4 hOW4 hX hX5
          have hln : work.length + [x1, x2].length ≤ 1000000 := by simp; omega
          have hs5 : ((w3.setCell ⟨w.heap.size, n.toNat, none⟩ (.bool true)).alloc (.cells #[.int .i64 x0, .int .i64 x1, .int .i64 x2] 78)).heap.size = w3.heap.size + 1 := by simp [World.setCell]
          have hL : Owns encI (((w3.setCell ⟨w.heap.size, n.toNat, none⟩ (.bool true)).alloc (.cells #[.int .i64 x0, .int .i64 x1, .int .i64 x2] 78)).alloc (.cells #[.int .i64 x1, .int .i64 x2] 3)) (.slice (some ⟨((w3.setCell ⟨w.heap.size, n.toNat, none⟩ (.bool true)).alloc (.cells #[.int .i64 x0, .int .i64 x1, .int .i64 x2] 78)).heap.size, 0, none⟩) 2 2) [x1, x2] := World.ownsRow_lit _ #[.int .i64 x1, .int .i64 x2] 2 (Nat.zero_le _) (by unfold maxLen; omega) rfl
          rw [hs5] at hL
          have hsrc := hL.reads
          have hA := hOW5.out.alloc (.cells #[.int .i64 x1, .int .i64 x2] 3)
          have hOS6 := hOS5.out.alloc (.cells #[.int .i64 x1, .int .i64 x2] 3)
          have hb6 := hb5.out.alloc hb5.out.size (.cells #[.int .i64 x1, .int .i64 x2] 3)
          replace hOS6 := Lib.hid hOS6
          replace hb6 := Lib.hid hb6
          go_wp2_with (at_builtin; refine appendI rfl (.tmp 54) (.tmp 59) rfl (.slice (some ⟨gW, 0, none⟩) work.length cW) (.slice (some ⟨w3.heap.size + 1, 0, none⟩) 2 2) work [x1, x2] rfl hA rfl hsrc hln ?_; intro v' w7 hown hgr hat)
          have hown0 : (Value.slice (some ⟨gW, 0, none⟩) work.length cW).ownBlock = some gW := rfl
          rw [hown0] at hgr hat
          have hnew7 : ∀ g, v'.ownBlock = some g → w.heap.size + 1 ≤ g := fun g hg => by
            rcases hat with hat | hat <;> rw [hat] at hg <;> injection hg with hg
            · omega
            · simp [World.setCell] at hg; omega
          have hOS7 := hOS6.out.block (w' := w7) fun g hg => hgr.block g (hOS6.out.lt g hg) (fun e => by
            have hg' : some w.heap.size = some g := hg
            injection hg' with hg'
            injection e with e
            omega)
          have hb7 := hb6.out.grown hgr (by simp [World.setCell]; omega) (fun g hg => by injection hg with hg; omega)
          exact ⟨⟨k + 1, _, _, hnext.out, by simp; omega, by go_num, hOS7, hown, hnew7, hb7, Lib.hid (fun m hm => by
            rcases List.mem_append.1 hm with hm | hm
            · exact hwk.out m hm
            · simp only [List.mem_cons, List.not_mem_nil, or_false] at hm
              rcases hm with rfl | rfl <;> omega)⟩, by simp [intOf]; omega⟩
        · have hnext := Lib.hid (hold (fun _ => hs))
          clear hold hnewI
          go_wp2_with fail
          refine HN.mono ?_
          rintro e w3 ⟨rfl, hb3⟩
          have hb4 := hb3.alloc hb3.size (.cells #[.int .i64 x0, .int .i64 x1, .int .i64 x2] 78)
          have hOS4 := hOS.block (w' := w3.alloc (.cells #[.int .i64 x0, .int .i64 x1, .int .i64 x2] 78)) fun g hg => hb4.block g (hOS.lt g hg)
          have hOW4 := hOW.block (w' := w3.alloc (.cells #[.int .i64 x0, .int .i64 x1, .int .i64 x2] 78)) fun g hg => hb4.block g (hOW.lt g hg)
          have q1 := flagCell hOS4 n.toNat hnl
          rw [hs] at q1
          have q2 := hOW4.intAt k hlt
          rw [hn] at q2
          replace hOS4 := Lib.hid hOS4
          replace hOW4 := Lib.hid hOW4
          clear HN hc hOS hOW
          go_wp2
          exact ⟨⟨k + 1, seen, work, hnext.out, by omega, by go_num, hOS4.out, hOW4.out, hnew, hb.trans (hb4.mono hb.size), hwk⟩, by simp [intOf]; omega⟩
    · have hge : work.length ≤ k := by omega
      have hres := I.reach hge
      have hsz := hOS.lt w.heap.size rfl
      have hgetk : ∀ j : Nat, j < s.N.length → ∀ V, Below wr.heap.size wr V → V.cell? ⟨w.heap.size, j + 2, none⟩ = some (.bool (seen.getD ((j : Int) + 2).toNat false)) := fun j hj V hV => by
        have := flagCell (hOS.block (w' := V) fun g hg => hV.block g (hOS.lt g hg)) (j + 2) (by omega)
        rw [show ((j : Int) + 2).toNat = j + 2 by omega]
        exact this
      clear hwk hnew hOW hHN cl hlt hbd
      obtain ⟨V1, hV1⟩ : ∃ V1, V1 = wr := ⟨_, rfl⟩
      subst hV1
      have hdk : decide (k < work.length) = false := decide_eq_false (by omega)
      go_wp2
      try simp only [hdk]
      clear hge hdk
      go_loopw [10, 11] (fun vo i wz => ∃ j : Nat, j ≤ s.N.length ∧ i = .int .i64 ((j : Int) + 2) ∧ WRel V1 ((numsTo j).filter (fun n => seen.getD n.toNat false)) vo wz) (fun _ i _ => s.N.length + 2 - (intOf i).toNat)
      case atStart => exact ⟨0, Nat.zero_le _, rfl, Owns.nil _ _, (fun g h => by cases h), Below.refl _ _⟩
      case round =>
        obtain ⟨j, hj, rfl, R⟩ := hrel
        obtain ⟨aR, cR, eR, _⟩ := R.own.form
        subst eR
        by_cases hlt : j < s.N.length
        · have hstep := numsTo_filter (fun n => seen.getD n.toNat false) j
          have hl := numsTo_filter_length (fun n => seen.getD n.toNat false) j
          have hji : (j : Int) < (s.N.length : Int) := by omega
          have q := hgetk j hlt _ R.below
          clear hgetk hres
          cases hh : seen.getD ((j : Int) + 2).toNat false
          · rw [hh] at hstep q
            simp only [Bool.false_eq_true, if_false, List.append_nil] at hstep
            have HS := Lib.hid hstep
            clear hstep hh
            go_wp2
            exact ⟨⟨j + 1, by omega, by go_num, by rw [HS.out]; exact R⟩, by simp [intOf]; omega⟩
          · rw [hh] at hstep q
            simp only [if_true] at hstep
            have HS := Lib.hid hstep
            clear hstep hh
            have hA := R.own.alloc (.cells #[.int .i64 ((j : Int) + 2)] 3)
            have hsrc := oneI wr ((j : Int) + 2) wr.heap.size rfl
            have hln : ((numsTo j).filter (fun n => seen.getD n.toNat false)).length + [(j : Int) + 2].length ≤ 1000000 := by simp at hl ⊢; omega
            go_wp2_with (at_builtin; refine appendI rfl (.tmp 71) (.tmp 73) rfl (.slice aR ((numsTo j).filter (fun n => seen.getD n.toNat false)).length cR) (.slice (some ⟨wr.heap.size, 0, none⟩) 1 1) ((numsTo j).filter (fun n => seen.getD n.toNat false)) [(j : Int) + 2] rfl hA rfl hsrc hln ?_; intro v' w2 hown hgr hat)
            have hNN : ∀ g, v'.ownBlock = some g → V1.heap.size ≤ g := fun g hg => by
              rcases hat with hat | hat
              · exact R.new g (hat ▸ hg)
              · rw [hat] at hg; injection hg with hg; have := R.below.size; simp at hg; omega
            have hBB := (R.below.alloc R.below.size (.cells #[.int .i64 ((j : Int) + 2)] 3)).grown hgr (by have := R.below.size; simp; omega) R.new
            exact ⟨⟨j + 1, by omega, by go_num, by rw [HS.out]; exact hown, hNN, hBB⟩, by simp [intOf]; omega⟩
        · obtain rfl : j = s.N.length := by omega
          clear hgetk
          go_wp2
          go_ret
          refine ⟨_, rfl, ?_⟩
          have hres' : (numsTo s.N.length).filter (fun n => seen.getD n.toNat false) = s.reach roots := hres
          have hO := R.own
          have hN := R.new
          have hB := R.below
          show WRel w (s.reach roots) (.slice aR ((numsTo s.N.length).filter (fun n => seen.getD n.toNat false)).length cR) _
          rw [← hres']
          exact ⟨hO, fun g hg => Nat.le_trans hb.size (hN g hg), hb.trans (hB.mono hb.size)⟩

end Go.Proofs.YtdcomiopjgcboaaGreatDoor

/-
  Mathematics of layer 8's own law: functions built in a store of none. Nothing of the program is read here.
-/
namespace Go.Proofs.YtdcomiopjgcboaaGreatDoor
open Go Go.RowKit

/-- A store of none, in any order. -/
def MS.empty (most : Nat) (o : Nat → Int) : MS := ⟨⟨most, 0, [], []⟩, [], o⟩
theorem MS.empty_ok (most : Nat) (h : most ≤ 20000) {o : Nat → Int} (ho : mayO o = true) : (MS.empty most o).Ok := MS.Ok.new most h o ho
theorem MS.empty_has (most : Nat) (o : Nat → Int) (n : Int) : (MS.empty most o).has n = false := by simp [MS.has, MS.empty]
theorem MS.empty_swap (most : Nat) (o : Nat → Int) {l : Int} (h0 : 0 ≤ l) (h6 : l ≤ 6) : (MS.empty most o).swap l = (0, MS.empty most (swapO o l)) := by
  unfold MS.swap
  rw [if_neg (by omega)]
  have hc : ∀ x y, (MS.empty most o).changes x y = [] := fun x y => rfl
  simp only [hc]
  have hr : ¬ (MS.empty most o).room < 2 * (([] : List Int).length : Int) := by
    simp [MS.room, MS.empty]
  rw [if_neg hr]
  rfl

section
variable {s : MS}
/-- What is reached of a node, as numbers. -/
theorem MS.Ok.reach_rch (h : s.Ok) {n : Int} (hn : s.there n = true) {g : Fn} (hg : Reach [s.tab n] s.o g) : ∃ m, s.there m = true ∧ s.tab m = g ∧ (s.has m = true → s.Rch [n] m) := by
  induction hg with
  | base hf => exact ⟨n, hn, by simpa using (List.mem_singleton.1 hf).symm, fun hh => .root (by simp) hh⟩
  | step b _ hs ht ih =>
    obtain ⟨m, hm, e, hr⟩ := ih
    rcases MS.there_cases hm with ⟨_, hh⟩ | hh
    · exfalso
      rw [MS.tab_const hh] at e
      apply hs
      rw [← e]
      split
      · exact sup_const.1
      · exact sup_const.2
    · have hT := h.top_node hh
      rw [e] at hT
      have hC := h.cof_node hh b
      rw [e, ← hT] at hC
      cases b
      · exact ⟨_, MS.behind_there (h.lo m hh), by simpa using hC.symm, fun hq => .lo (hr hh) hq⟩
      · exact ⟨_, MS.behind_there (h.hi m hh), by simpa using hC.symm, fun hq => .hi (hr hh) hq⟩
theorem MS.Ok.reach_all (h : s.Ok) {n : Int} (hn : s.there n = true) (h1 : ∀ m, s.has m = true → IsNode [s.tab n] s.o (s.tab m)) : s.reach [n] = s.all := by
  unfold MS.reach
  refine List.filter_eq_self.2 fun m hm => ?_
  have hh := h.toBase.mem_all.1 hm
  obtain ⟨m', t', e', r'⟩ := h.reach_rch hn (h1 m hh).1
  have : m' = m := h.tab_inj t' (by simp [MS.there, hh]) e'
  subst this
  have hp := r' hh
  simp [hp]

theorem supN_8 (f : Fn) : supN f ≤ 8 := supN_le f
/-- A function built in a store of none. -/
theorem MS.bld_empty {most : Nat} (hm : most ≤ 20000) {o : Nat → Int} (ho : mayO o = true) (f : Fn) (hs : sizeF [f] o ≤ most) :
    (MS.bld 8 (MS.empty most o) f).2.1 = 0 ∧ (MS.bld 8 (MS.empty most o) f).2.2.Ok ∧ (MS.bld 8 (MS.empty most o) f).2.2.o = o ∧ (MS.bld 8 (MS.empty most o) f).2.2.ar.most = most ∧
      (MS.bld 8 (MS.empty most o) f).2.2.there (MS.bld 8 (MS.empty most o) f).1 = true ∧ (MS.bld 8 (MS.empty most o) f).2.2.tab (MS.bld 8 (MS.empty most o) f).1 = f ∧
      (∀ n, (MS.bld 8 (MS.empty most o) f).2.2.has n = true → IsNode [f] o ((MS.bld 8 (MS.empty most o) f).2.2.tab n)) ∧
      (MS.bld 8 (MS.empty most o) f).2.2.all.length = sizeF [f] o := by
  have ok := MS.empty_ok most hm ho
  obtain ⟨h1, h2, h3, h4, h5⟩ := MS.bld_spec 8 (MS.empty most o) f ok (supN_8 f)
  have h0 := MS.bld_room 8 (MS.empty most o) f [f] ok (supN_8 f) (fun n hn => by rw [MS.empty_has] at hn; cases hn) (Reach.base (by simp)) hs
  have hno : ∀ n, (MS.bld 8 (MS.empty most o) f).2.2.has n = true → IsNode [f] o ((MS.bld 8 (MS.empty most o) f).2.2.tab n) := fun n hn => by
    rcases h5 n hn with h | h
    · rw [MS.empty_has] at h; cases h
    · exact h
  obtain ⟨t, e⟩ := h4 h0
  refine ⟨h0, h1, h2.o, h2.most, t, e, hno, ?_⟩
  have ho2 : (MS.bld 8 (MS.empty most o) f).2.2.o = o := h2.o
  have := h1.size_is (L := [f]) (fun n hn => by rw [ho2]; exact hno n hn) (fun g hg => by
    rw [ho2] at hg
    obtain ⟨m, tm, em⟩ := h1.reach_there t (g := g) (by rw [e, ho2]; exact hg.1)
    rcases MS.there_cases tm with ⟨_, hh⟩ | hh
    · exfalso
      rw [MS.tab_const hh] at em
      apply hg.2
      rw [← em]
      split
      · exact sup_const.1
      · exact sup_const.2
    · exact ⟨m, hh, em⟩)
  rw [ho2] at this
  exact this.symm

theorem sup_has (_h : s.Ok) {n : Int} (hn : s.there n = true) (hs : supF (s.tab n) ≠ 0) : s.has n = true := by
  rcases MS.there_cases hn with ⟨_, hh⟩ | hh
  · exfalso
    rw [MS.tab_const hh] at hs
    apply hs
    split
    · exact sup_const.1
    · exact sup_const.2
  · exact hh

/-- Two functions, one behind the other. -/
theorem MS.bld_two {most : Nat} (_hm : most ≤ 20000) {o : Nat → Int} (_ho : mayO o = true) (f g : Fn) (hs : sizeF [f, g] o ≤ most) (s1 : MS) (a : Int) (_hA : MS.bld 8 (MS.empty most o) f = (a, 0, s1)) (ok : s1.Ok) (ho1 : s1.o = o) (hm1 : s1.ar.most = most)
    (ta : s1.there a = true) (ea : s1.tab a = f) (hn : ∀ n, s1.has n = true → IsNode [f] o (s1.tab n)) :
    (MS.bld 8 s1 g).2.1 = 0 ∧ (MS.bld 8 s1 g).2.2.Ok ∧ (MS.bld 8 s1 g).2.2.o = o ∧ (MS.bld 8 s1 g).2.2.there (MS.bld 8 s1 g).1 = true ∧ (MS.bld 8 s1 g).2.2.tab (MS.bld 8 s1 g).1 = g ∧
      (MS.bld 8 s1 g).2.2.there a = true ∧ (MS.bld 8 s1 g).2.2.tab a = f ∧ (a = (MS.bld 8 s1 g).1 ↔ f = g) ∧ (MS.bld 8 s1 g).2.2.all.length = sizeF [f, g] o := by
  have mono : ∀ k, IsNode [f] o k → IsNode [f, g] o k := fun k hk => ⟨hk.1.mono (fun x hx => by simp only [List.mem_singleton] at hx; simp [hx]), hk.2⟩
  have mono2 : ∀ k, IsNode [g] o k → IsNode [f, g] o k := fun k hk => ⟨hk.1.mono (fun x hx => by simp only [List.mem_singleton] at hx; simp [hx]), hk.2⟩
  obtain ⟨h1, h2, h3, h4, h5⟩ := MS.bld_spec 8 s1 g ok (supN_8 g)
  have h0 := MS.bld_room 8 s1 g [f, g] ok (supN_8 g) (fun n h => by rw [ho1]; exact mono _ (hn n h)) (Reach.base (by simp)) (by rw [ho1, hm1]; exact hs)
  obtain ⟨t, e⟩ := h4 h0
  have ho2 : (MS.bld 8 s1 g).2.2.o = o := h2.o.trans ho1
  have ta2 := h2.there ta
  have ea2 : (MS.bld 8 s1 g).2.2.tab a = f := (h2.tab ok h1 ta).trans ea
  have hno : ∀ n, (MS.bld 8 s1 g).2.2.has n = true → IsNode [f, g] o ((MS.bld 8 s1 g).2.2.tab n) := fun n h => by
    rcases h5 n h with h | h
    · rw [h2.tab ok h1 (by simp [MS.there, h])]; exact mono _ (hn n h)
    · rw [ho1] at h; exact mono2 _ h
  refine ⟨h0, h1, ho2, t, e, ta2, ea2, ⟨fun q => ?_, fun q => ?_⟩, ?_⟩
  · rw [← q, ea2] at e; exact e
  · exact h1.tab_inj ta2 t (ea2.trans (q.trans e.symm))
  · have := h1.size_is (L := [f, g]) (fun n h => by rw [ho2]; exact hno n h) (fun k hk => by
      rw [ho2] at hk
      have hk1 : Reach [f] o k ∨ Reach [g] o k := Reach.append (l := [f]) (k := [g]) hk.1
      rcases hk1 with hk1 | hk1
      · obtain ⟨m, tm, em⟩ := h1.reach_there ta2 (g := k) (by rw [ea2, ho2]; exact hk1)
        exact ⟨m, sup_has h1 tm (by rw [em]; exact hk.2), em⟩
      · obtain ⟨m, tm, em⟩ := h1.reach_there t (g := k) (by rw [e, ho2]; exact hk1)
        exact ⟨m, sup_has h1 tm (by rw [em]; exact hk.2), em⟩)
    rw [ho2] at this
    exact this.symm
theorem size_154 (f g : Fn) {o : Nat → Int} (ho : mayO o = true) : sizeF [f, g] o ≤ 154 := by
  have h := size_add [f] [g] o
  have h1 := size_77 f o (full_of ho)
  have h2 := size_77 g o (full_of ho)
  have e : ([f] ++ [g] : List Fn) = [f, g] := rfl
  rw [e] at h
  omega
end
theorem reach_one {L : List Fn} {o : Nat → Int} {g : Fn} (h : Reach L o g) : ∃ f ∈ L, Reach [f] o g := by
  induction h with
  | base hf => exact ⟨_, hf, .base (by simp)⟩
  | step b _ hs ht ih =>
    obtain ⟨f, hf, hr⟩ := ih
    exact ⟨f, hf, .step b hr hs ht⟩

end Go.Proofs.YtdcomiopjgcboaaGreatDoor

/-
  Slices of functions of eight variables: read, appended to.
-/
namespace Go.Proofs.YtdcomiopjgcboaaGreatDoor
open Go Go.RowKit Go.Maps

/-- A slice that reads as these functions. -/
def SliceF (w : World) (v : Value) (l : List Fn) : Prop :=
  (v = .slice none 0 0 ∧ l = []) ∨ ∃ ad cap, v = .slice (some ad) l.length cap ∧ ∀ j u, (cellsL l)[j]? = some u → w.cell? (ad.add j) = some u

theorem SliceF.keep {w w' : World} {v : Value} {l : List Fn} {B : Nat} (h : SliceF w v l) (hb : Below B w w') (hB : w.heap.size ≤ B) : SliceF w' v l := by
  rcases h with h | ⟨ad, cap, rfl, hc⟩
  · exact .inl h
  · refine .inr ⟨ad, cap, rfl, fun j u hj => ?_⟩
    have h1 := hc j u hj
    rw [hb.cell (p := ad.add j) (Nat.lt_of_lt_of_le (block_lt_of_cell h1) hB)]
    exact h1

theorem OwnsF.slice {w : World} {base : Nat} {v : Value} {l : List Fn} (h : OwnsF w base v l) : SliceF w v l := by
  obtain ⟨h1, ⟨rfl, h2⟩ | ⟨g, cap, cur, rfl, hr⟩⟩ := h
  · exact .inl ⟨rfl, List.length_eq_zero_iff.1 h2⟩
  · have h := World.ownsRow.cells (w := w) (base := base) (e := 46) (size := 4) (v := .slice (some ⟨g, 0, none⟩) l.length cap) (n := l.length) (xs := cellsL l) ⟨h1, .inr ⟨g, cap, cur, rfl, hr⟩⟩ (g := g) rfl
    exact .inr ⟨⟨g, 0, none⟩, cap, rfl, h⟩

theorem OwnsF.nil (w : World) (base : Nat) : OwnsF w base (.slice none 0 0) [] := ⟨rfl, .inl ⟨rfl, rfl⟩⟩

theorem OwnsF.block {w w' : World} {base : Nat} {v : Value} {l : List Fn} (h : OwnsF w base v l) (hb : ∀ g, v.ownBlock = some g → w'.heap[g]? = w.heap[g]?) : OwnsF w' base v l := by
  obtain ⟨h1, h2 | ⟨g, cap, cur, rfl, h3, h4, h5⟩⟩ := h
  · exact ⟨h1, .inl h2⟩
  · exact ⟨h1, .inr ⟨g, cap, cur, rfl, h3, (hb g rfl).trans h4, h5⟩⟩

theorem OwnsF.lt {w : World} {base : Nat} {v : Value} {l : List Fn} (h : OwnsF w base v l) (g : Nat) (hg : v.ownBlock = some g) : base ≤ g ∧ g < w.heap.size := World.ownsRow.lt h g hg
theorem OwnsF.keep {w w' : World} {base B : Nat} {v : Value} {l : List Fn} (h : OwnsF w base v l) (hb : Below B w w') (hB : w.heap.size ≤ B) : OwnsF w' base v l :=
  h.block fun g hg => hb.block g (Nat.lt_of_lt_of_le (h.lt g hg).2 hB)
theorem OwnsF.alloc {w : World} {base : Nat} {v : Value} {l : List Fn} (h : OwnsF w base v l) (o : Obj) : OwnsF (w.alloc o) base v l :=
  h.block fun g hg => heap_alloc_old _ _ (h.lt g hg).2
theorem OwnsF.grown {w w' : World} {base : Nat} {v : Value} {l : List Fn} {row : Option Nat} (h : OwnsF w base v l) (hg : w.grownBy w' row) (hne : ∀ g, v.ownBlock = some g → row ≠ some g) : OwnsF w' base v l :=
  h.block fun g hb => hg.block g (h.lt g hb).2 (fun e => hne g hb e.symm)

theorem infoF : ∃ i, Tryz.prog.info? 46 = some i ∧ i.zero = some (.agg #[.int .u64 0, .int .u64 0, .int .u64 0, .int .u64 0]) ∧ i.size = 4 ∧ i.bytes = 32 := by
  have h : (Tryz.prog.info? 46).map (fun i => (i.zero, i.size, i.bytes)) = some (some (.agg #[.int .u64 0, .int .u64 0, .int .u64 0, .int .u64 0]), 4, 32) := by kernel_rfl
  obtain ⟨i, hi, h0, h1, h2⟩ := info_parts h
  exact ⟨i, hi, h0, h1, h2⟩

/-- append(x, y...) of two slices of functions, the first the call's own. -/
theorem appendF {ops : Array Oper} {rest : List Oper} {o : Oper} {a : Act} {w : World} {Q : Exit → Act → World → Prop} (hgd : o.guard = none) (s x : Operand)
    (ho : o.op = .call { callee := .builtin .append, args := #[s, x], argTypes := #[22, 22] })
    (base : Nat) (v y : Value) (l k : List Fn) (hs : a.eval s = v) (hown : OwnsF w base v l) (hx : a.eval x = y) (hsrc : SliceF w y k)
    (hn : l.length + k.length ≤ 1000000) (hbase : base ≤ w.heap.size)
    (h : ∀ v' w', OwnsF w' base v' (l ++ k) → w.grownBy w' v.ownBlock → (v'.ownBlock = v.ownBlock ∨ v'.ownBlock = some w.heap.size) → wpList Tryz.prog ops Q rest (a.put o.dst v') w') : wpList Tryz.prog ops Q (o :: rest) a w := by
  obtain ⟨i, hi, hz, hsz, hby⟩ := infoF
  rcases hsrc with ⟨rfl, rfl⟩ | ⟨ad, cap, rfl, hc⟩
  · refine wpList_append_own_none hgd s x _ ho base 46 i 4 Tryz.underlying22 hi v l.length (cellsL l) hs hown hx ?_
    refine h v w (by rw [List.append_nil]; exact hown) ⟨rfl, rfl, rfl, Nat.le_refl _, fun _ _ _ => rfl⟩ (.inl rfl)
  · refine wpList_append_own_at w hgd s x _ ho base 46 i _ 4 32 Tryz.underlying22 hi hz hsz hby rfl (by decide) v l.length (cellsL l) hs hown ad k.length cap (cellsL k) hx (cellsL_length k) hc (cellsL_one k) (by unfold maxLen; omega) (by omega) hbase ?_
    intro v' w' h1 h2 _ h4
    exact h v' w' (by unfold OwnsF; rw [List.length_append, cellsL_append]; exact h1) h2 h4

end Go.Proofs.YtdcomiopjgcboaaGreatDoor

/-
  What is asked of the code's package read, whatever it is. ReadBuilds.
-/
namespace Go.Proofs.YtdcomiopjgcboaaGreatDoor
open Go Go.RowKit

/-- Each call of package read. -/
structure ReadC (StAt : World → Nat → (Nat → Prop) → MS → Prop) : Prop where ofAll ::
  table : ∀ {w b F s}, LowW w → StAt w b F s → s.Ok → ∀ n : Int, (n ≤ 9223372036854775807 ∧ -9223372036854775808 ≤ n) → Calls Tryz.prog 24 #[.pointer (some ⟨b, 0, none⟩), .int .i64 n] w fun e w' => e = .returned (fv (s.tab n)) ∧ Below w.heap.size w w'
  reach : ∀ {w b F s}, StAt w b F s → s.Ok → ∀ (roots : List Int) (v : Value), Reads encI w v roots → roots.length ≤ 100000 → (∀ r ∈ roots, r ≤ 9223372036854775807 ∧ -9223372036854775808 ≤ r) → Calls Tryz.prog 90 #[.pointer (some ⟨b, 0, none⟩), v] w fun e w' => ∃ v', e = .returned v' ∧ WRel w (s.reach roots) v' w'
  build : ∀ {w b F s}, LowW w → (∀ k, F k → 0 < k) → StAt w b F s → s.Ok → ∀ f : Fn, Calls Tryz.prog 17 #[.pointer (some ⟨b, 0, none⟩), fv f] w fun e w' => e = .returned (.tuple #[.int .i64 (MS.bld 8 s f).1, errV (MS.bld 8 s f).2.1]) ∧ ∃ F', StAt w' b F' (MS.bld 8 s f).2.2 ∧ Keeps F w w' ∧ Within w F F'

theorem SliceF.form {w : World} {v : Value} {l : List Fn} (h : SliceF w v l) : ∃ a c, v = .slice a l.length c := by
  rcases h with ⟨rfl, rfl⟩ | ⟨ad, cap, rfl, _⟩
  · exact ⟨none, 0, rfl⟩
  · exact ⟨_, _, rfl⟩
theorem SliceF.fnAt {w : World} {a : Option Addr} {cap : Nat} {l : List Fn} (h : SliceF w (.slice a l.length cap) l) (i : Nat) (hi : i < l.length) : ∃ ad, a = some ad ∧ w.cell? (ad.add (i * 4)) = some (.int .u64 (wd l[i] 0)) ∧
    w.cell? ⟨(ad.add (i * 4)).block, (ad.add (i * 4)).off + 1, none⟩ = some (.int .u64 (wd l[i] 1)) ∧ w.cell? ⟨(ad.add (i * 4)).block, (ad.add (i * 4)).off + 2, none⟩ = some (.int .u64 (wd l[i] 2)) ∧
    w.cell? ⟨(ad.add (i * 4)).block, (ad.add (i * 4)).off + 3, none⟩ = some (.int .u64 (wd l[i] 3)) := by
  rcases h with ⟨_, rfl⟩ | ⟨ad, cap', hv, hc⟩
  · cases hi
  · injection hv with h1 h2 h3
    subst h1
    have key : ∀ j, j < 4 → (cellsL l)[i * 4 + j]? = some (.int .u64 (wd l[i] j)) := fun j hj => cellsL_get l i hi j hj
    have e : ∀ j, 0 < j → ad.add (i * 4 + j) = ⟨(ad.add (i * 4)).block, (ad.add (i * 4)).off + j, none⟩ := fun j hj => by
      rw [← Addr.add_add]
      unfold Addr.add
      by_cases h1 : i * 4 = 0 <;> simp [h1, Nat.ne_of_gt hj]
    refine ⟨ad, rfl, hc _ _ (key 0 (by decide)), ?_, ?_, ?_⟩
    · rw [← e 1 (by decide)]; exact hc _ _ (key 1 (by decide))
    · rw [← e 2 (by decide)]; exact hc _ _ (key 2 (by decide))
    · rw [← e 3 (by decide)]; exact hc _ _ (key 3 (by decide))
theorem MS.bld_err (s : MS) (f : Fn) (ok : s.Ok) : 0 ≤ (MS.bld 8 s f).2.1 ∧ (MS.bld 8 s f).2.1 ≤ 8 := by
  rcases (MS.bld_spec 8 s f ok (supN_8 f)).2.2.1 with h | h <;> rw [h] <;> decide


end Go.Proofs.YtdcomiopjgcboaaGreatDoor

/-
  Mathematics of layer 12: what nobody needs is freed, level by level. Nothing of the program is read here.
-/
namespace Go.Proofs.YtdcomiopjgcboaaGreatDoor

/-- One number looked at: how many were freed, the state. -/
def MS.sw1 (K : List Int) (v : Int) (r : Int × MS) (n : Int) : Int × MS := if (r.2.nd n).var = v ∧ n ∉ K then (r.1 + 1, (r.2.free n).2) else r
/-- A level. -/
def MS.swLevel (K : List Int) (r : Int × MS) (l : Nat) : Int × MS := r.2.all.foldl (MS.sw1 K (r.2.o l)) r
/-- The first levels. -/
def MS.swTo (K : List Int) (r : Int × MS) (l : Nat) : Int × MS := (List.range l).foldl (MS.swLevel K) r
theorem MS.sweep_ex (s : MS) (roots : List Int) : ∃ r : Int × MS, r = MS.swTo (s.reach roots) (0, s) 8 := ⟨_, rfl⟩
/-- Sweep: how many were freed, the state. (Chosen, so that nobody reckons it.) -/
noncomputable def MS.sweep (s : MS) (roots : List Int) : Int × MS := (s.sweep_ex roots).choose
theorem MS.sweep_eq (s : MS) (roots : List Int) : s.sweep roots = MS.swTo (s.reach roots) (0, s) 8 := (s.sweep_ex roots).choose_spec

theorem MS.swTo_succ (K : List Int) (r : Int × MS) (l : Nat) : MS.swTo K r (l + 1) = MS.swLevel K (MS.swTo K r l) l := by
  unfold MS.swTo; rw [List.range_succ, List.foldl_append]; rfl

theorem MS.give_has {s : MS} (n m : Int) (hn : n - 2 ∈ s.ar.T) : MS.has { s with ar := s.ar.give (n - 2) } m = true ↔ s.has m = true ∧ m ≠ n := by
  have hg := (AS.give_yes hn).2
  simp only [MS.has, Bool.and_eq_true, decide_eq_true_eq, hg, List.mem_filter, bne_iff_ne]
  constructor
  · rintro ⟨a, b, c⟩; exact ⟨⟨a, b⟩, by omega⟩
  · rintro ⟨⟨a, b⟩, c⟩; exact ⟨a, b, by omega⟩

/-- What is free of parts above is freed. -/
theorem MS.Base.free_yes {s : MS} (h : s.Base) {n : Int} (hn : s.has n = true) (hlow : ∀ m, s.has m = true → (s.nd m).lo ≠ n ∧ (s.nd m).hi ≠ n) :
    (s.free n).1 = 0 ∧ (∀ m, (s.free n).2.has m = true ↔ s.has m = true ∧ m ≠ n) ∧ (s.free n).2.N = s.N ∧ (s.free n).2.o = s.o ∧ (s.free n).2.ar.most = s.ar.most ∧ (s.free n).2.all.length + 1 = s.all.length := by
  obtain ⟨r1, r2, r3⟩ := h.range hn
  have hl : s.isLow n = false := by
    unfold MS.isLow
    rw [List.any_eq_false]
    intro m _ hc
    simp only [Bool.and_eq_true, Bool.or_eq_true, decide_eq_true_eq] at hc
    obtain ⟨hc, hm⟩ := hc
    have := hlow m hm
    rcases hc with hc | hc
    · exact this.1 hc
    · exact this.2 hc
  have e : s.free n = (s.ar.giveE (n - 2), { s with ar := s.ar.give (n - 2) }) := by
    unfold MS.free
    rw [if_neg (by rw [hn, hl]; simp)]
  rw [e]
  have hh := fun m => MS.give_has (s := s) n m r3
  have hg := (AS.give_yes r3).2
  have hb : MS.Base { s with ar := s.ar.give (n - 2) } := ⟨h.ar.give _, by show s.N.length = (s.ar.give (n - 2)).next; rw [hg]; exact h.len⟩
  refine ⟨(AS.give_yes r3).1, hh, rfl, rfl, by rw [hg], ?_⟩
  have hp : (n :: MS.all { s with ar := s.ar.give (n - 2) }).Perm s.all := by
    refine (List.perm_ext_iff_of_nodup (List.nodup_cons.2 ⟨fun hc => ((hh n).1 (hb.mem_all.1 hc)).2 rfl, MS.all_nodup _⟩) s.all_nodup).2 fun m => ?_
    rw [List.mem_cons, hb.mem_all, h.mem_all, hh]
    constructor
    · rintro (rfl | ⟨hm, _⟩)
      · exact hn
      · exact hm
    · intro hm
      by_cases e : m = n
      · exact .inl e
      · exact .inr ⟨hm, e⟩
  have := hp.length_eq
  rw [List.length_cons] at this
  exact this

/-- As far as a level: what is so of what was looked at. -/
structure SwI (s : MS) (K : List Int) (r : Int × MS) : Prop where
  ok : r.2.Ok
  N : r.2.N = s.N
  o : r.2.o = s.o
  most : r.2.ar.most = s.ar.most
  has : ∀ n, r.2.has n = true → s.has n = true
  kept : ∀ n, s.has n = true → n ∈ K → r.2.has n = true
  cnt : r.1 + (r.2.all.length : Int) = s.all.length

section
variable {s : MS} {K : List Int} {r : Int × MS}
theorem SwI.nd (h : SwI s K r) (n : Int) : r.2.nd n = s.nd n := by unfold MS.nd; rw [h.N]

/-- Levels ahead have kept nodes only. -/
def SwDone (s : MS) (K : List Int) (r : Int × MS) (l : Nat) : Prop := ∀ n, r.2.has n = true → levO s.o (s.nd n).var < (l : Int) → n ∈ K

/-- K has its parts. -/
def SwClosed (s : MS) (K : List Int) : Prop := ∀ m ∈ K, (s.has (s.nd m).lo = true → (s.nd m).lo ∈ K) ∧ (s.has (s.nd m).hi = true → (s.nd m).hi ∈ K)

theorem SwI.free (h : SwI s K r) (hc : SwClosed s K) {l : Nat} (hd : SwDone s K r l) (hl : l < 8) {n : Int} (hn : r.2.has n = true) (hv : (r.2.nd n).var = r.2.o l) (hk : n ∉ K) :
    (r.2.free n).1 = 0 ∧ (∀ m, (r.2.free n).2.has m = true ↔ r.2.has m = true ∧ m ≠ n) ∧ (r.2.free n).2.N = r.2.N ∧ (r.2.free n).2.o = r.2.o ∧ (r.2.free n).2.ar.most = r.2.ar.most ∧ (r.2.free n).2.all.length + 1 = r.2.all.length := by
  refine h.ok.toBase.free_yes hn fun m hm => ?_
  have hlev : levO s.o (s.nd n).var = (l : Int) := by
    have := levO_at (v := (r.2.nd n).var) h.ok.order hl hv.symm
    rwa [h.o, h.nd] at this
  have key : ∀ x, x = n → r.2.behind x (r.2.nd m).var = true → m ∈ K := fun x e hb => by
    subst e
    rcases MS.behind_cases hb with hx | ⟨_, hx⟩
    · have : r.2.has x = false := by rcases hx with rfl | rfl <;> rfl
      rw [this] at hn; cases hn
    · rw [h.o, h.nd, h.nd, hlev] at hx
      exact hd m hm hx
  have hsn := h.has n hn
  constructor
  · intro e
    have hmK := key _ e (h.ok.lo m hm)
    rw [h.nd] at e
    exact hk (e ▸ (hc m hmK).1 (by rw [e]; exact hsn))
  · intro e
    have hmK := key _ e (h.ok.hi m hm)
    rw [h.nd] at e
    exact hk (e ▸ (hc m hmK).2 (by rw [e]; exact hsn))

/-- One step. -/
theorem SwI.step (h : SwI s K r) (hc : SwClosed s K) {l : Nat} (hd : SwDone s K r l) (hl : l < 8) {n : Int} (hn : r.2.has n = true) :
    SwI s K (MS.sw1 K (r.2.o l) r n) ∧ SwDone s K (MS.sw1 K (r.2.o l) r n) l ∧ (∀ m, (MS.sw1 K (r.2.o l) r n).2.has m = true → r.2.has m = true) ∧
      (∀ m, r.2.has m = true → m ≠ n → (MS.sw1 K (r.2.o l) r n).2.has m = true) ∧ ((MS.sw1 K (r.2.o l) r n).2.has n = true → (s.nd n).var = s.o l → n ∈ K) := by
  unfold MS.sw1
  by_cases hv : (r.2.nd n).var = r.2.o l ∧ n ∉ K
  · rw [if_pos hv]
    obtain ⟨f0, f1, f2, f3, f4, f5⟩ := h.free hc hd hl hn hv.1 hv.2
    refine ⟨⟨h.ok.freed n, f2.trans h.N, f3.trans h.o, f4.trans h.most, fun m hm => h.has m ((f1 m).1 hm).1, fun m hm hk => (f1 m).2 ⟨h.kept m hm hk, fun e => hv.2 (e ▸ hk)⟩, ?_⟩, fun m hm hlt => hd m ((f1 m).1 hm).1 hlt, fun m hm => ((f1 m).1 hm).1, fun m hm hne => (f1 m).2 ⟨hm, hne⟩, fun hm => absurd rfl ((f1 n).1 hm).2⟩
    have := h.cnt
    show r.1 + 1 + ((r.2.free n).2.all.length : Int) = _
    omega
  · rw [if_neg hv]
    refine ⟨h, hd, fun m hm => hm, fun m hm _ => hm, fun _ hvar => ?_⟩
    rw [← h.nd, ← h.o] at hvar
    exact Classical.byContradiction fun hk => hv ⟨hvar, hk⟩

/-- Within a level: of a list that is there, each once. -/
theorem SwI.level (hc : SwClosed s K) {l : Nat} (hl : l < 8) : ∀ (L : List Int) (r : Int × MS), SwI s K r → SwDone s K r l → L.Nodup → (∀ n ∈ L, r.2.has n = true) →
    SwI s K (L.foldl (MS.sw1 K (s.o l)) r) ∧ SwDone s K (L.foldl (MS.sw1 K (s.o l)) r) l ∧ (∀ m, (L.foldl (MS.sw1 K (s.o l)) r).2.has m = true → r.2.has m = true) ∧
      (∀ m, r.2.has m = true → m ∉ L → (L.foldl (MS.sw1 K (s.o l)) r).2.has m = true) ∧ (∀ n ∈ L, (L.foldl (MS.sw1 K (s.o l)) r).2.has n = true → (s.nd n).var = s.o l → n ∈ K)
  | [], r, h, hd, _, _ => ⟨h, hd, fun _ h => h, fun _ h _ => h, fun _ h => (by cases h)⟩
  | n :: L, r, h, hd, hN, hH => by
    obtain ⟨n1, n2⟩ := List.nodup_cons.1 hN
    obtain ⟨s1, s2, s3, s4, s5⟩ := h.step hc hd hl (hH n List.mem_cons_self)
    rw [h.o] at s1 s2 s3 s4 s5
    rw [List.foldl_cons]
    obtain ⟨t1, t2, t3, t4, t5⟩ := SwI.level hc hl L _ s1 s2 n2 (fun m hm => s4 m (hH m (List.mem_cons_of_mem _ hm)) (fun e => n1 (e ▸ hm)))
    refine ⟨t1, t2, fun m hm => s3 m (t3 m hm), fun m hm hne => t4 m (s4 m hm (fun e => hne (e ▸ List.mem_cons_self))) (fun e => hne (List.mem_cons_of_mem _ e)), fun m hm hh hv => ?_⟩
    rcases List.mem_cons.1 hm with rfl | hm
    · exact s5 (t3 _ hh) hv
    · exact t5 m hm hh hv

theorem SwI.next (h : SwI s K r) (hc : SwClosed s K) {l : Nat} (hl : l < 8) (hd : SwDone s K r l) : SwI s K (MS.swLevel K r l) ∧ SwDone s K (MS.swLevel K r l) (l + 1) := by
  unfold MS.swLevel
  rw [h.o]
  obtain ⟨t1, t2, t3, t4, t5⟩ := SwI.level hc hl r.2.all r h hd r.2.all_nodup (fun n hn => h.ok.toBase.mem_all.1 hn)
  refine ⟨t1, fun n hn hlt => ?_⟩
  by_cases hlt' : levO s.o (s.nd n).var < (l : Int)
  · exact t2 n hn hlt'
  · have e : levO s.o (s.nd n).var = (l : Int) := by omega
    have hr := t3 n hn
    refine t5 n (h.ok.toBase.mem_all.2 hr) hn ?_
    rcases levO_cases s.o (s.nd n).var with ⟨e1, _⟩ | ⟨j, e1, _, e2, _⟩
    · omega
    · rw [← e2]; congr 1; omega

theorem SwI.start (h : s.Ok) (K : List Int) : SwI s K (0, s) := ⟨h, rfl, rfl, rfl, fun _ h => h, fun _ h _ => h, by simp⟩
theorem SwI.upto (h : s.Ok) (hc : SwClosed s K) : ∀ l, l ≤ 8 → SwI s K (MS.swTo K (0, s) l) ∧ SwDone s K (MS.swTo K (0, s) l) l
  | 0, _ => ⟨SwI.start h K, fun n hn hl => by have := (h.lev hn).1; omega⟩
  | l + 1, hl => by
    obtain ⟨a, b⟩ := SwI.upto h hc l (by omega)
    rw [MS.swTo_succ]
    exact a.next hc (by omega) b
end

theorem MS.Ok.reach_closed {s : MS} (h : s.Ok) (roots : List Int) : SwClosed s (s.reach roots) := fun m hm => by
  have hr := (h.toBase.reach_iff).1 hm
  exact ⟨fun hh => h.toBase.reach_iff.2 (.lo hr hh), fun hh => h.toBase.reach_iff.2 (.hi hr hh)⟩

/-- What Sweep comes to. -/
structure Swept (s : MS) (roots : List Int) (t : MS) : Prop where
  ok : t.Ok
  N : t.N = s.N
  o : t.o = s.o
  most : t.ar.most = s.ar.most
  has : ∀ n, t.has n = true ↔ s.Rch roots n
  all : t.all = s.reach roots

open Classical in
theorem MS.Ok.swept {s : MS} (h : s.Ok) (roots : List Int) : Swept s roots (s.sweep roots).2 ∧ (s.sweep roots).1 + ((s.reach roots).length : Int) = s.all.length := by
  obtain ⟨a, b⟩ := SwI.upto h (h.reach_closed roots) 8 (Nat.le_refl _)
  rw [MS.sweep_eq]
  generalize MS.swTo (s.reach roots) (0, s) 8 = r at *
  have hh : ∀ n, r.2.has n = true ↔ s.Rch roots n := fun n => by
    constructor
    · intro hn
      have h1 := a.has n hn
      have := b n hn (by have := (h.lev h1).2; omega)
      exact h.toBase.reach_iff.1 this
    · intro hr
      exact a.kept n hr.has (h.toBase.reach_iff.2 hr)
  have hall : r.2.all = s.reach roots := by
    unfold MS.reach MS.all
    rw [List.filter_filter, a.N]
    refine List.filter_congr fun n _ => ?_
    have := hh n
    by_cases hr : s.Rch roots n
    · rw [this.2 hr, decide_eq_true hr, hr.has]; rfl
    · rw [decide_eq_false hr, Bool.false_and]
      cases e : r.2.has n
      · rfl
      · exact absurd (this.1 e) hr
  refine ⟨⟨a.ok, a.N, a.o, a.most, hh, hall⟩, ?_⟩
  rw [← hall]; exact a.cnt

theorem Swept.nd {s t : MS} {roots : List Int} (h : Swept s roots t) (n : Int) : t.nd n = s.nd n := by unfold MS.nd; rw [h.N]
/-- What is reached is as it was. -/
theorem Swept.val {s t : MS} {roots : List Int} (h : Swept s roots t) (ok : s.Ok) (b : Int → Bool) : ∀ k n, s.dep n ≤ k → (s.has n = true → s.Rch roots n) → t.val b n = s.val b n := by
  intro k
  induction k with
  | zero =>
    intro n hd _
    have hn : s.has n = false := by
      cases hh : s.has n
      · rfl
      · have := ok.dep_pos hh; omega
    have ht : t.has n = false := by
      cases hh : t.has n
      · rfl
      · have := ((h.has n).1 hh).has; rw [hn] at this; cases this
    rw [MS.val_const _ hn, MS.val_const _ ht]
  | succ k ih =>
    intro n hd hr
    cases hn : s.has n
    · have ht : t.has n = false := by
        cases hh : t.has n
        · rfl
        · have := ((h.has n).1 hh).has; rw [hn] at this; cases this
      rw [MS.val_const _ hn, MS.val_const _ ht]
    · have hR := hr hn
      have ht := (h.has n).2 hR
      have d1 := ok.dep_behind hn (ok.lo n hn)
      have d2 := ok.dep_behind hn (ok.hi n hn)
      rw [ok.val_node b hn, h.ok.val_node b ht, h.nd]
      split
      · exact ih _ (by omega) (fun hh => .hi hR hh)
      · exact ih _ (by omega) (fun hh => .lo hR hh)
theorem Swept.tab {s t : MS} {roots : List Int} (h : Swept s roots t) (ok : s.Ok) {n : Int} (hr : s.has n = true → s.Rch roots n) : t.tab n = s.tab n := fn_ext fun k hk => by
  rw [MS.tab_bit _ _ hk, MS.tab_bit _ _ hk]
  exact h.val ok _ _ n (Nat.le_refl _) hr

end Go.Proofs.YtdcomiopjgcboaaGreatDoor
