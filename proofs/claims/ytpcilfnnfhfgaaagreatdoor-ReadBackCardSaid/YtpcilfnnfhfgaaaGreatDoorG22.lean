/-
  Texts of this proof, one behind the other: Ref4, FMap, RefTop, RefB, RefR.
-/
import Derived.Test.YtpcilfnnfhfgaaaGreatDoorG21
import Derived.Test.YtpcilfnnfhfgaaaGreatDoorG19
import Derived.Test.YtpcilfnnfhfgaaaGreatDoorG18
import Derived.DeepKeys4
import Derived.Test.YtpcilfnnfhfgaaaGreatDoorG14
import Derived.Test.YtpcilfnnfhfgaaaGreatDoorG7
import Derived.Test.YtpcilfnnfhfgaaaGreatDoorG9
import Derived.Test.YtpcilfnnfhfgaaaGreatDoorG16
import Derived.Test.YtpcilfnnfhfgaaaGreatDoorG17
/-
  Walks of the document's Support, Exists, Forall, Compose.
-/
namespace Go.Proofs.YtpcilfnnfhfgaaaGreatDoor
open Go Go.RowKit

set_option maxRecDepth 100000 in
set_option maxHeartbeats 1000000 in
theorem refSupport (f : Fn) (w : World) :
    Calls Tryz.prog 17 #[fv f] w fun e w' => e = .returned (.int .i64 (supF f)) ∧ Below w.heap.size w w' := by
  simp only [fv]
  go_enter Tryz.func17, Tryz.ntmps17
  go_wp2
  go_loopw [3, 4] (fun s i wr => ∃ j : Nat, j ≤ 8 ∧ i = .int .i64 ((j : Int) - 1) ∧ s = .int .i64 (supFrom f (8 - j) j) ∧ Holds wr w.heap.size f ∧ Below w.heap.size w wr) (fun _ i _ => (intOf i + 1).toNat)
  case atStart => exact ⟨8, Nat.le_refl _, rfl, rfl, Holds.new _ _ _, by go_grown⟩
  case round =>
    obtain ⟨j, hj, rfl, rfl, h0, hb⟩ := hrel
    by_cases hlt : 1 ≤ j
    · obtain ⟨i, rfl⟩ : ∃ i, j = i + 1 := ⟨j - 1, by omega⟩
      have Hs := Lib.hid (show supFrom f (8 - i) i = 2 * supFrom f (8 - (i + 1)) (i + 1) + (if depF f i then 1 else 0) by
        rw [show 8 - i = (8 - (i + 1)) + 1 by omega]; rfl)
      have hs : supFrom f (8 - (i + 1)) (i + 1) < 256 := Nat.lt_of_lt_of_le (supFrom_lt f _ _) (Nat.pow_le_pow_right (n := 2) (j := 8) (by decide) (by omega))
      have hi : i < 8 := by omega
      have ei : ((i + 1 : Nat) : Int) - 1 = (i : Int) := by omega
      rw [ei]
      clear ei
      generalize supFrom f (8 - (i + 1)) (i + 1) = y at *
      obtain ⟨c0, c1, c2, c3⟩ := h0.cells
      go_wp2_with fail
      clear c0 c1 c2 c3
      refine (refDepends f i _).mono ?_
      rw [depAny, if_pos (by omega), Int.toNat_natCast]
      rintro e w1 ⟨rfl, hb1⟩
      have k0 := h0.keep hb1 h0.lt
      have kb := hb.trans (hb1.mono hb.size)
      clear h0 hb hb1
      cases hd : depF f i
      · rw [hd] at Hs
        go_wp2
        exact ⟨⟨i, by omega, by go_num, by rw [Hs.out]; rfl, k0, kb⟩, by simp [intOf]⟩
      · rw [hd] at Hs
        go_wp2
        exact ⟨⟨i, by omega, by go_num, by rw [Hs.out]; rfl, k0, kb⟩, by simp [intOf]⟩
    · obtain rfl : j = 0 := by omega
      go_wp2
      go_ret
      exact ⟨rfl, hb⟩





end Go.Proofs.YtpcilfnnfhfgaaaGreatDoor

/-
  Maps whose keys are functions of eight variables; slices of such functions.
-/
namespace Go.Proofs.YtpcilfnnfhfgaaaGreatDoor
open Go Go.RowKit Go.Maps

theorem Tryz.laidOut : laidOutB Tryz.prog = true := by kernel_rfl
theorem Tryz.rowF : 35 < Tryz.prog.types.size := of_decide_eq_true (by kernel_rfl)
theorem Tryz.keyF : Keyed Tryz.prog 35 :=
  Keyed.of_law (deep_law_laid Tryz.laidOut (m := 4) (by decide) Tryz.rowF (by kernel_rfl) (by kernel_rfl))
theorem Tryz.keyTypeF : Tryz.prog.keyType 35 = true := by kernel_rfl
theorem Tryz.cellsOfF : Tryz.prog.cellsOf 35 = 4 := by kernel_rfl
theorem Tryz.cellsOfU : Tryz.prog.cellsOf 33 = 1 := by kernel_rfl

theorem wf_wd (f : Fn) (i : Nat) : (Lit.int .u64 (wd f i)).wf = true := by
  have := wd_lt f i
  simp [Lit.wf, IntKind.min, IntKind.max, IntKind.signed, IntKind.bits]
  omega

theorem key_fv (f : Fn) : ∃ l, keyOf Tryz.prog 35 (fv f) = some l := by
  obtain ⟨d, hd⟩ : ∃ d, Tryz.prog.types.size + 1 = d + 1 + 1 := ⟨Tryz.prog.types.size - 1, by have := Tryz.rowF; omega⟩
  unfold keyOf
  rw [Tryz.underlying35]
  have hf : (fv f).formed Tryz.prog 35 = true := by
    unfold fv Value.formed
    simp only [Tryz.underlying35, Tryz.cellsOfF]
    rfl
  simp only [Tryz.keyTypeF, hf, Bool.and_self, if_true]
  rw [hd]
  unfold fv
  simp [Program.keyLits, Value.cells, Tryz.underlying35, Tryz.underlying33, Tryz.cellsOfF, Tryz.cellsOfU, wf_wd, show List.range 4 = [0, 1, 2, 3] from rfl]

/-- Functions as keys. -/
noncomputable def encF : KeyEnc Tryz.prog 35 Fn where
  val := fv
  lit f := (key_fv f).choose
  key f := (key_fv f).choose_spec
  inj _ _ h := fv_inj h
  law := Tryz.keyF

theorem zeroI (w : World) : (zeroValue 3).run Tryz.prog w = .ok (.int .i64 0) w := by kernel_rfl

/-- The cells of a list of functions. -/
def cellsL : List Fn → List Value
  | [] => []
  | f :: l => .int .u64 (wd f 0) :: .int .u64 (wd f 1) :: .int .u64 (wd f 2) :: .int .u64 (wd f 3) :: cellsL l

theorem cellsL_length (l : List Fn) : (cellsL l).length = l.length * 4 := by
  induction l with
  | nil => rfl
  | cons f l ih => simp only [cellsL, List.length_cons, ih]; omega

theorem cellsL_append (l k : List Fn) : cellsL (l ++ k) = cellsL l ++ cellsL k := by
  induction l with
  | nil => rfl
  | cons f l ih => simp [cellsL, ih]

theorem cellsL_one (l : List Fn) : ∀ u ∈ cellsL l, u.oneCell' = true := by
  induction l with
  | nil => intro u h; cases h
  | cons f l ih =>
    intro u h
    simp only [cellsL, List.mem_cons] at h
    rcases h with rfl | rfl | rfl | rfl | h
    · rfl
    · rfl
    · rfl
    · rfl
    · exact ih u h

theorem cellsL_get (l : List Fn) : ∀ (i : Nat) (h : i < l.length) (j : Nat), j < 4 → (cellsL l)[i * 4 + j]? = some (.int .u64 (wd l[i] j)) := by
  induction l with
  | nil => intro i h; cases h
  | cons f l ih =>
    intro i h j hj
    cases i with
    | zero => rcases (by omega : j = 0 ∨ j = 1 ∨ j = 2 ∨ j = 3) with rfl | rfl | rfl | rfl <;> rfl
    | succ i =>
      have := ih i (by simpa using h) j hj
      rw [show (i + 1) * 4 + j = (i * 4 + j) + 4 by omega]
      simpa [cellsL] using this

/-- A slice of the call's own that holds these functions. -/
def OwnsF (w : World) (base : Nat) (v : Value) (l : List Fn) : Prop := w.ownsRow base 35 4 v l.length (cellsL l)

end Go.Proofs.YtpcilfnnfhfgaaaGreatDoor

/-
  Walks of the document's Top and Plain.
-/
namespace Go.Proofs.YtpcilfnnfhfgaaaGreatDoor
open Go Go.RowKit

set_option maxRecDepth 100000 in
set_option maxHeartbeats 1000000 in
theorem refTop (f : Fn) (o : Nat → Int) (w : World) :
    Calls Tryz.prog 58 #[fv f, ov o] w fun e w' => e = .returned (.int .i64 (topF f o)) ∧ Below w.heap.size w w' := by
  simp only [fv, ov]
  go_enter Tryz.func58, Tryz.ntmps58
  go_wp2
  go_loopw [5] (fun i wr => ∃ n : Nat, n ≤ 8 ∧ i = .int .i64 n ∧ Hid (topF f o = topFrom f o (8 - n) n) ∧ Holds wr w.heap.size f ∧ HoldsO wr (w.heap.size + 1) o ∧ Below w.heap.size w wr) (fun i _ => 8 - (intOf i).toNat)
  case atStart => exact ⟨0, Nat.zero_le _, rfl, rfl, (Holds.new _ _ _).alloc _, HoldsO.new _ _ _, by go_grown⟩
  case round =>
    obtain ⟨n, hn, rfl, ht, h0, h1, hb⟩ := hrel
    by_cases hlt : n < 8
    · have Hs : Hid (topF f o = if depAny f (o n) then o n else topFrom f o (8 - (n + 1)) (n + 1)) := by
        have := ht.out
        rw [show 8 - n = (8 - (n + 1)) + 1 by omega] at this
        exact this
      clear ht
      have hn0 : (0 : Int) ≤ (n : Int) := by omega
      have hn8 : (n : Int) < 8 := by omega
      have c0 : ∀ u : Sub wr, u.1.cell? ⟨w.heap.size, 0, none⟩ = some (.int .u64 (wd f 0)) := fun u => (h0.sub u).cells.1
      have c1 : ∀ u : Sub wr, u.1.cell? ⟨w.heap.size, 1, none⟩ = some (.int .u64 (wd f 1)) := fun u => (h0.sub u).cells.2.1
      have c2 : ∀ u : Sub wr, u.1.cell? ⟨w.heap.size, 2, none⟩ = some (.int .u64 (wd f 2)) := fun u => (h0.sub u).cells.2.2.1
      have c3 : ∀ u : Sub wr, u.1.cell? ⟨w.heap.size, 3, none⟩ = some (.int .u64 (wd f 3)) := fun u => (h0.sub u).cells.2.2.2
      have d0 : ∀ u : Sub wr, u.1.cell? ⟨w.heap.size + 1, n, none⟩ = some (.int .i64 (o n)) := fun u => (h1.sub u).cell n hlt
      go_wp2
      refine wp_region_quiet_all (C := fun w' => ∃ u : Sub wr, w' = u.1) (by kernel_rfl) (by kernel_rfl) (InSub.drew wr) ?_
      iterate 4 (go_big_quiet_step (fail))
      go_big_quiet_step (exact sub_below (refDepends f (o n) _))
      refine wpQuiet_nil ?_
      clear c0 c1 c2 c3 d0
      intro w' hw'
      obtain ⟨u, rfl⟩ := hw'
      have k0 := h0.sub u
      have k1 := h1.sub u
      have kb := hb.trans (u.2.mono hb.size)
      clear h0 h1 hb
      generalize u.1 = w1 at *
      have hc := k1.cell n hlt
      cases hd : depAny f (o n)
      · rw [hd] at Hs
        go_wp2
        exact ⟨⟨n + 1, by omega, by go_num, Hs.out, k0, k1, kb⟩, by simp [intOf]; omega⟩
      · rw [hd] at Hs
        go_wp2
        go_ret
        exact ⟨ret_int Hs.out.symm, kb⟩
    · obtain rfl : n = 8 := by omega
      go_wp2
      go_ret
      exact ⟨ret_int ht.out.symm, hb⟩

end Go.Proofs.YtpcilfnnfhfgaaaGreatDoor

/-
  The document's store: Table, Build.
-/
namespace Go.Proofs.YtpcilfnnfhfgaaaGreatDoor
open Go Go.RowKit

theorem MS.tab_const' {s : MS} {n : Int} (h : s.has n = false) : s.tab n = ofRow fun _ => (n == 1) := fn_ext fun k hk => by
  rw [MS.tab_bit _ _ hk, MS.val_const _ h, ofRow_bit _ _ hk]

set_option maxRecDepth 100000 in
set_option maxHeartbeats 2000000 in
theorem refSTable_const {w : World} {b : Nat} {F : Nat → Prop} {s : MS} (h : RefSAt w b F s) (ok : s.Base) (n : Int) (hn : n ≤ 9223372036854775807) (hh : s.has n = false) :
    Calls Tryz.prog 10 #[.pointer (some ⟨b, 0, none⟩), .int .i64 n] w fun e w' => e = .returned (fv (s.tab n)) ∧ Below w.heap.size w w' := by
  have HN := fun W (hb : Below w.heap.size w W) => refSNode (h.below hb) ok n hn
  simp only [nodeV, hh, Bool.false_eq_true, if_false, nv] at HN
  rw [MS.tab_const' hh]
  have HC := fun W => refConst (n == 1) W
  generalize (ofRow fun _ => (n == 1)) = R at *
  simp only [fv] at HC
  clear h hh
  go_enter Tryz.func10, Tryz.ntmps10
  go_wp2_with fail
  have hR := Holds.new0 w w.heap.size rfl
  have hb := (Below.refl w.heap.size w).alloc (Nat.le_refl _) (.cells #[.int .u64 0, .int .u64 0, .int .u64 0, .int .u64 0] 35)
  generalize w.alloc (.cells #[.int .u64 0, .int .u64 0, .int .u64 0, .int .u64 0] 35) = W at *
  refine (HN _ hb).mono ?_
  rintro e w1 ⟨rfl, hb1⟩
  have hb2 := hb.trans (hb1.mono hb.size)
  replace hR := hR.keep hb1 (by have := hR.lt; exact this)
  replace hR := hR.alloc (.cells #[.int .i64 0, .int .i64 0, .int .i64 0] 69)
  replace hb2 := hb2.alloc hb2.size (.cells #[.int .i64 0, .int .i64 0, .int .i64 0] 69)
  clear HN hb hb1
  go_wp2_with fail
  generalize w1.alloc (.cells #[.int .i64 0, .int .i64 0, .int .i64 0] 69) = W2 at *
  refine (HC _).mono ?_
  rintro e w2 ⟨rfl, hb3⟩
  replace hR := hR.keep hb3 hR.lt
  replace hb2 := hb2.trans (hb3.mono hb2.size)
  obtain ⟨c0, c1, c2, c3⟩ := hR.cells
  obtain ⟨z0, z1, z2, z3⟩ := hR.free
  have hR4 := Lib.hid (hR.set4 R)
  clear hR HC hb3
  go_wp2
  exact bodyPost_ret (ret_holds Tryz.results10 rfl hR4.out) rfl ⟨rfl, below_set4 hb2 (Nat.le_refl _)⟩

set_option maxRecDepth 100000 in
set_option maxHeartbeats 2000000 in
theorem refSTable {b : Nat} {F : Nat → Prop} {s : MS} (ok : s.Ok) : ∀ (k : Nat) (n : Int) (w : World), RefSAt w b F s → s.dep n ≤ k → n ≤ 9223372036854775807 →
    Calls Tryz.prog 10 #[.pointer (some ⟨b, 0, none⟩), .int .i64 n] w fun e w' => e = .returned (fv (s.tab n)) ∧ Below w.heap.size w w' := by
  intro k
  induction k with
  | zero =>
    intro n w h hd hn
    have hh : s.has n = false := by
      cases hh : s.has n
      · rfl
      · have := ok.dep_pos hh; omega
    exact refSTable_const h ok.toBase n hn hh
  | succ k ih =>
    intro n w h hd hn
    cases hh : s.has n
    · exact refSTable_const h ok.toBase n hn hh
    · have HN := fun W (hb : Below w.heap.size w W) => refSNode (h.below hb) ok.toBase n hn
      simp only [nodeV, hh, if_true, nv] at HN
      have d1 := ok.dep_behind hh (ok.lo n hh)
      have d2 := ok.dep_behind hh (ok.hi n hh)
      have b1 := ok.toBase.behind_le (ok.lo n hh)
      have b2 := ok.toBase.behind_le (ok.hi n hh)
      have I1 := fun W (hb : Below w.heap.size w W) => ih (s.nd n).lo W (h.below hb) (by omega) (by omega)
      have I2 := fun W (hb : Below w.heap.size w W) => ih (s.nd n).hi W (h.below hb) (by omega) (by omega)
      have hT := ok.tab_node hh
      rw [hT]
      have HV := fun W => refVar (s.nd n).var W
      have HI := fun W => refIte (varAny (s.nd n).var) (s.tab (s.nd n).hi) (s.tab (s.nd n).lo) W
      clear hT d1 d2 b1 b2 ih hd
      generalize s.nd n = x at *
      obtain ⟨x0, x1, x2⟩ := x
      dsimp only at *
      generalize (varAny x0 &&& s.tab x2 ||| ~~~varAny x0 &&& s.tab x1) = R at *
      generalize s.tab x1 = f1 at *
      generalize s.tab x2 = f2 at *
      generalize varAny x0 = f0 at *
      simp only [fv] at I1 I2 HV HI
      go_enter Tryz.func10, Tryz.ntmps10
      go_wp2_with fail
      have hR := Holds.new0 w w.heap.size rfl
      have hb := (Below.refl w.heap.size w).alloc (Nat.le_refl _) (.cells #[.int .u64 0, .int .u64 0, .int .u64 0, .int .u64 0] 35)
      generalize w.alloc (.cells #[.int .u64 0, .int .u64 0, .int .u64 0, .int .u64 0] 35) = W at *
      refine (HN _ hb).mono ?_
      rintro e w1 ⟨rfl, hb1⟩
      have hb2 := hb.trans (hb1.mono hb.size)
      replace hR := hR.keep hb1 (by have := hR.lt; exact this)
      have hRl := hR.lt
      have hX := HoldsN.new w1 ⟨x0, x1, x2⟩
      replace hR := hR.alloc (.cells #[.int .i64 x0, .int .i64 x1, .int .i64 x2] 69)
      replace hb2 := hb2.alloc hb2.size (.cells #[.int .i64 x0, .int .i64 x1, .int .i64 x2] 69)
      dsimp only at hX
      clear HN hb hb1
      go_wp2
      generalize w1.alloc (.cells #[.int .i64 x0, .int .i64 x1, .int .i64 x2] 69) = W2 at *
      generalize w1.heap.size = bX at *
      have e0 := fun u : Sub W2 => (hX.sub u).cells.1
      have e1 := fun u : Sub W2 => (hX.sub u).cells.2.1
      have e2 := fun u : Sub W2 => (hX.sub u).cells.2.2
      dsimp only at e0 e1 e2
      have J1 := fun u : Sub W2 => I1 _ (hb2.trans (u.2.mono hb2.size))
      have J2 := fun u : Sub W2 => I2 _ (hb2.trans (u.2.mono hb2.size))
      refine wp_region_quiet_tail (C := fun w' => ∃ u : Sub W2, w' = u.1) 12 (by kernel_rfl) (by kernel_rfl) (InSub.drew W2) ?_
      simp only [List.take_succ_cons, List.take_zero]
      iterate 2 (go_big_quiet_step (fail))
      go_big_quiet_step (exact subBelow (HV _))
      iterate 3 (go_big_quiet_step (fail))
      go_big_quiet_step (exact subBelow (J2 _))
      iterate 3 (go_big_quiet_step (fail))
      go_big_quiet_step (exact subBelow (J1 _))
      go_big_quiet_step (exact subBelow (HI _))
      refine wpQuiet_nil ?_
      clear e0 e1 e2 J1 J2 HV HI I1 I2
      intro w' hw'
      obtain ⟨u, rfl⟩ := hw'
      replace hR := hR.keep u.2 hR.lt
      replace hb2 := hb2.trans (u.2.mono hb2.size)
      generalize u.1 = W3 at *
      obtain ⟨c0, c1, c2, c3⟩ := hR.cells
      obtain ⟨z0, z1, z2, z3⟩ := hR.free
      have hR4 := Lib.hid (hR.set4 R)
      clear hR hX
      simp only [List.drop_succ_cons, List.drop_zero]
      go_wp2
      exact bodyPost_ret (ret_holds Tryz.results10 rfl hR4.out) rfl ⟨rfl, below_set4 hb2 (Nat.le_refl _)⟩

theorem MS.Base.there_le {s : MS} (ok : s.Base) {n : Int} (h : s.there n = true) : n ≤ 9223372036854775807 := by
  rcases MS.there_cases h with ⟨h, _⟩ | h
  · omega
  · have := ok.has_le h; omega

set_option maxRecDepth 100000 in
set_option maxHeartbeats 2000000 in
theorem refSBuild_const {w : World} {b : Nat} {F : Nat → Prop} {s : MS} (h : RefSAt w b F s) (f : Fn) (ht : topF f s.o < 0) :
    Calls Tryz.prog 23 #[.pointer (some ⟨b, 0, none⟩), fv f] w (MkPost w b F (constN f, 0, s)) := by
  have HT := fun W => refTop f s.o W
  have HA := fun W => refAt f 0 W
  have hend : ∀ w', Below w.heap.size w w' → ∃ F', RefSAt w' b F' s ∧ Keeps F w w' ∧ Within w F F' := fun w' hb => ⟨F, h.below hb, Keeps.of_below hb _, Within.refl _ _⟩
  unfold constN MkPost
  generalize topF f s.o = v at *
  generalize atF f 0 = z at *
  obtain ⟨bA, FA, vN, rfl, hR⟩ := h
  simp only [fv, ov] at *
  go_enter Tryz.func23, Tryz.ntmps23
  go_wp2
  have hF := Holds.new w f w.heap.size rfl
  have hb := (Below.refl w.heap.size w).alloc (Nat.le_refl _) (.cells #[.int .u64 (wd f 0), .int .u64 (wd f 1), .int .u64 (wd f 2), .int .u64 (wd f 3)] 35)
  generalize w.alloc (.cells #[.int .u64 (wd f 0), .int .u64 (wd f 1), .int .u64 (wd f 2), .int .u64 (wd f 3)] 35) = W at *
  have hRW := hR.below hb
  have o0 := fun u : Sub W => (hRW.sub u).order.1
  have o1 := fun u : Sub W => (hRW.sub u).order.2.1
  have o2 := fun u : Sub W => (hRW.sub u).order.2.2.1
  have o3 := fun u : Sub W => (hRW.sub u).order.2.2.2.1
  have o4 := fun u : Sub W => (hRW.sub u).order.2.2.2.2.1
  have o5 := fun u : Sub W => (hRW.sub u).order.2.2.2.2.2.1
  have o6 := fun u : Sub W => (hRW.sub u).order.2.2.2.2.2.2.1
  have o7 := fun u : Sub W => (hRW.sub u).order.2.2.2.2.2.2.2
  have c0 := fun u : Sub W => (hF.sub u).cells.1
  have c1 := fun u : Sub W => (hF.sub u).cells.2.1
  have c2 := fun u : Sub W => (hF.sub u).cells.2.2.1
  have c3 := fun u : Sub W => (hF.sub u).cells.2.2.2
  refine wp_region_quiet_all (C := fun w' => ∃ u : Sub W, w' = u.1) (by kernel_rfl) (by kernel_rfl) (InSub.drew W) ?_
  iterate 5 (go_big_quiet_step (fail))
  go_big_quiet_step (exact subBelow (HT _))
  go_big_quiet_step (fail)
  refine wpQuiet_nil ?_
  clear o0 o1 o2 o3 o4 o5 o6 o7 c0 c1 c2 c3 hRW HT
  intro w' hw'
  obtain ⟨u, rfl⟩ := hw'
  replace hF := hF.keep u.2 hF.lt
  replace hb := hb.trans (u.2.mono hb.size)
  generalize u.1 = W2 at *
  obtain ⟨c0, c1, c2, c3⟩ := hF.cells
  go_wp2_with fail
  refine (HA _).mono ?_
  rintro e w3 ⟨rfl, hb3⟩
  have hb4 := hb.trans (hb3.mono hb.size)
  clear HA c0 c1 c2 c3
  cases z
  · go_wp2
    go_ret2
    exact ⟨rfl, hend _ hb4⟩
  · go_wp2
    go_ret2
    exact ⟨rfl, hend _ hb4⟩

set_option maxRecDepth 100000 in
set_option maxHeartbeats 4000000 in
theorem refSBuild {b : Nat} : ∀ (k : Nat) (s : MS) (f : Fn) (w : World) (F : Nat → Prop), RefSAt w b F s → s.Ok → supN f ≤ k →
    Calls Tryz.prog 23 #[.pointer (some ⟨b, 0, none⟩), fv f] w (MkPost w b F (MS.bld k s f)) := by
  intro k
  induction k with
  | zero =>
    intro s f w F h ok hk
    refine refSBuild_const h f ?_
    have := (top_neg (f := f) (full_of ok.order)).2 (supN_zero (f := f) (by omega))
    omega
  | succ k ih =>
    intro s f w F h ok hk
    unfold MS.bld
    by_cases ht : topF f s.o < 0
    · rw [if_pos ht]
      exact refSBuild_const h f ht
    · rw [if_neg ht]
      have ht0 : 0 ≤ topF f s.o := by omega
      have k0 := supN_cof f s.o false ht0
      have k1 := supN_cof f s.o true ht0
      have ra := MS.bld_spec k s (cofAny f (topF f s.o) false) ok (by omega)
      have IA := fun W (hb : Below w.heap.size w W) => ih s (cofAny f (topF f s.o) false) W F (h.below hb) ok (by omega)
      have rb := fun hA => MS.bld_spec k (MS.bld k s (cofAny f (topF f s.o) false)).2.2 (cofAny f (topF f s.o) true) hA (by omega)
      have IB := fun W F' hW hA => ih (MS.bld k s (cofAny f (topF f s.o) false)).2.2 (cofAny f (topF f s.o) true) W F' hW hA (by omega)
      have HT := fun W => refTop f s.o W
      have HC0 := fun W => refCof f (topF f s.o) false W
      have HC1 := fun W => refCof f (topF f s.o) true W
      dsimp only
      generalize hA : MS.bld k s (cofAny f (topF f s.o) false) = A at *
      generalize hB : MS.bld k A.2.2 (cofAny f (topF f s.o) true) = B at *
      have hFlt := h.lt
      obtain ⟨bA, FA, vN, rfl, hR⟩ := h
      generalize topF f s.o = v at *
      generalize cofAny f v false = f0 at *
      generalize cofAny f v true = f1 at *
      clear ih hA hB k0 k1 hk
      obtain ⟨A0, A1, sA⟩ := A
      obtain ⟨B0, B1, sB⟩ := B
      dsimp only at *
      generalize hr : (if A1 ≠ 0 then ((0, A1, sA) : Int × Int × MS) else if B1 ≠ 0 then (0, B1, sB) else sB.mk v A0 B0 []) = r
      simp only [fv, ov] at *
      obtain ⟨okA, _, _, resA, _⟩ := ra
      unfold MkPost at *
      dsimp only at IA IB
      go_enter Tryz.func23, Tryz.ntmps23
      go_wp2
      have hF := Holds.new w f w.heap.size rfl
      have hb := (Below.refl w.heap.size w).alloc (Nat.le_refl _) (.cells #[.int .u64 (wd f 0), .int .u64 (wd f 1), .int .u64 (wd f 2), .int .u64 (wd f 3)] 35)
      generalize w.alloc (.cells #[.int .u64 (wd f 0), .int .u64 (wd f 1), .int .u64 (wd f 2), .int .u64 (wd f 3)] 35) = W at *
      have hRW := hR.below hb
      have o0 := fun u : Sub W => (hRW.sub u).order.1
      have o1 := fun u : Sub W => (hRW.sub u).order.2.1
      have o2 := fun u : Sub W => (hRW.sub u).order.2.2.1
      have o3 := fun u : Sub W => (hRW.sub u).order.2.2.2.1
      have o4 := fun u : Sub W => (hRW.sub u).order.2.2.2.2.1
      have o5 := fun u : Sub W => (hRW.sub u).order.2.2.2.2.2.1
      have o6 := fun u : Sub W => (hRW.sub u).order.2.2.2.2.2.2.1
      have o7 := fun u : Sub W => (hRW.sub u).order.2.2.2.2.2.2.2
      have c0 := fun u : Sub W => (hF.sub u).cells.1
      have c1 := fun u : Sub W => (hF.sub u).cells.2.1
      have c2 := fun u : Sub W => (hF.sub u).cells.2.2.1
      have c3 := fun u : Sub W => (hF.sub u).cells.2.2.2
      refine wp_region_quiet_all (C := fun w' => ∃ u : Sub W, w' = u.1) (by kernel_rfl) (by kernel_rfl) (InSub.drew W) ?_
      iterate 5 (go_big_quiet_step (fail))
      go_big_quiet_step (exact subBelow (HT _))
      go_big_quiet_step (fail)
      refine wpQuiet_nil ?_
      clear o0 o1 o2 o3 o4 o5 o6 o7 c0 c1 c2 c3 hRW HT
      intro w' hw'
      obtain ⟨u, rfl⟩ := hw'
      replace hF := hF.keep u.2 hF.lt
      replace hb := hb.trans (u.2.mono hb.size)
      generalize u.1 = W2 at *
      obtain ⟨c0, c1, c2, c3⟩ := hF.cells
      go_wp2_with fail
      refine (HC0 _).mono ?_
      rintro e w3 ⟨rfl, hb3⟩
      replace hF := hF.keep hb3 hF.lt
      replace hb := hb.trans (hb3.mono hb.size)
      clear HC0 c0 c1 c2 c3 hb3
      go_wp2_with fail
      refine (IA _ hb).mono ?_
      rintro e w4 ⟨rfl, FA4, hA4, hK4, hW4⟩
      have hBn : ¬ footS b FA vN w.heap.size := fun e => by have := hFlt _ e; omega
      have hF4 : Holds w4 w.heap.size f := by
        have := hK4.block w.heap.size hF.lt hBn
        unfold Holds at *
        rw [this]; exact hF
      have HK := (Keeps.of_below hb (footS b FA vN)).trans hK4 (Within.refl _ _)
      have HW := (Within.refl w (footS b FA vN)).trans hW4 hb.size
      have hsz4 := hF.lt
      clear IA hK4 hF hb hR
      by_cases hA1 : A1 = 0
      · subst hA1
        rw [if_neg (by decide)] at hr
        obtain ⟨thA, _⟩ := resA rfl
        obtain ⟨c0, c1, c2, c3⟩ := hF4.cells
        go_wp2_with fail
        refine (HC1 _).mono ?_
        rintro e w5 ⟨rfl, hb5⟩
        clear HC1 c0 c1 c2 c3
        obtain ⟨okB, extB, _, resB, _⟩ := rb okA
        go_wp2_with fail
        refine (IB _ _ (hA4.below hb5) okA).mono ?_
        rintro e w6 ⟨rfl, FB6, hB6, hK6, hW6⟩
        replace HK := HK.trans ((Keeps.of_below hb5 FA4).trans hK6 (Within.refl _ _)) HW
        replace HW := HW.trans ((Within.refl w4 FA4).trans hW6 hb5.size) (by have := hA4.lt; exact (show w.heap.size ≤ w4.heap.size from by have := hF4.lt; omega))
        clear IB hK6 hb5
        by_cases hB1 : B1 = 0
        · subst hB1
          rw [if_neg (by decide)] at hr
          obtain ⟨thB, _⟩ := resB rfl
          have HM := refSMk hB6 okB.toBase v A0 B0 (okB.toBase.there_le (extB.there thA)) (okB.toBase.there_le thB)
          rw [hr] at HM
          unfold MkPost at HM
          go_wp2_with fail
          refine HM.mono ?_
          rintro e w7 ⟨rfl, F7, hM7, hK7, hW7⟩
          go_wp2
          go_ret2
          exact ⟨rfl, F7, hM7, HK.trans hK7 HW, HW.trans hW7 HK.size⟩
        · have hBb : (B1 == 0) = false := by rw [beq_eq_false_iff_ne]; exact hB1
          rw [if_pos hB1] at hr
          subst hr
          go_wp2
          go_ret2
          exact ⟨rfl, FB6, hB6, HK, HW⟩
      · have hAb : (A1 == 0) = false := by rw [beq_eq_false_iff_ne]; exact hA1
        rw [if_pos hA1] at hr
        subst hr
        clear IB rb
        go_wp2
        go_ret2
        exact ⟨rfl, FA4, hA4, HK, HW⟩

end Go.Proofs.YtpcilfnnfhfgaaaGreatDoor

/-
  The document's store: Reach. Nodes of bowerlaw00.
-/
namespace Go.Proofs.YtpcilfnnfhfgaaaGreatDoor
open Go Go.RowKit

theorem Owns.free' {P : Program} {α : Type} {E : Enc P α} {w : World} {v : Value} {l : List α} (h : Owns E w v l) {g : Nat} (hg : v.ownBlock = Option.some g) (j : Nat) : w.frozen? ⟨g, j, none⟩ = false := by
  obtain ⟨a, c, rfl, _, _, _, H⟩ := h.form
  cases a with
  | none => cases hg
  | some ad =>
    obtain ⟨g', rfl, _, hf, _⟩ := H ad rfl
    cases hg
    exact hf j
/-- A flag read, by its length told otherwise. -/
theorem flagCell {w : World} {g n c : Nat} {l : List Bool} (h : Owns encB w (.slice (some ⟨g, 0, none⟩) n c) l) (i : Nat) (hi : i < l.length) : w.cell? ⟨g, i, none⟩ = some (.bool (l.getD i false)) := by
  obtain ⟨a, c', hv, _, _, _, H⟩ := h.form
  injection hv with ha _ hc
  obtain ⟨g', e, _, _, hcell⟩ := H ⟨g, 0, none⟩ ha.symm
  cases e
  have := hcell i hi 0 (by decide)
  rw [List.getD, List.getElem?_eq_getElem hi]
  simpa [encB] using this
theorem flagSet {w : World} {g n c : Nat} {l : List Bool} (h : Owns encB w (.slice (some ⟨g, 0, none⟩) n c) l) (hn : n = l.length) {i : Nat} (hi : i < l.length) (x : Bool) : Owns encB (w.setCell ⟨g, i, none⟩ (.bool x)) (.slice (some ⟨g, 0, none⟩) n c) (l.set i x) := by
  subst hn
  exact h.put rfl rfl hi

set_option maxRecDepth 100000 in
set_option maxHeartbeats 4000000 in
theorem refSReach {w : World} {b : Nat} {F : Nat → Prop} {s : MS} (h : RefSAt w b F s) (ok : s.Ok) (roots : List Int) (v : Value) (hv : Reads encI w v roots) (hrl : roots.length ≤ 100000) (hwf : ∀ r ∈ roots, r ≤ 9223372036854775807) :
    Calls Tryz.prog 21 #[.pointer (some ⟨b, 0, none⟩), v] w fun e w' => ∃ v', e = .returned v' ∧ WRel w (s.reach roots) v' w' := by
  have hfew := ok.toBase.few
  obtain ⟨bA, FA, vN, rfl, hR⟩ := h
  have cl := hR.cells.2
  obtain ⟨aN, cN, rfl⟩ := hR.form
  have hHN := fun W (hb : Below w.heap.size w W) (n : Int) (hn : n ≤ 9223372036854775807) => refSNode (w := W) ⟨bA, FA, .slice aN s.N.length cN, rfl, hR.below hb⟩ ok.toBase n hn
  have hm : (Instr.makeSlice 84 (.int .i64 ((s.N.length : Int) + 2)) (.int .i64 ((s.N.length : Int) + 2))).run Tryz.prog w = .ok (.slice (some ⟨w.heap.size, 0, none⟩) (s.N.length + 2) (s.N.length + 2)) (w.alloc (.cells (madeCells encB.zero.cells ((s.N.length + 2) * encB.size)) encB.elem)) := run_made encB (s.N.length + 2) (by omega) w
  have hOS := owns_made encB false rfl (s.N.length + 2) (by omega) w
  have hbS : Below w.heap.size w (w.alloc (.cells (madeCells encB.zero.cells ((s.N.length + 2) * encB.size)) encB.elem)) := by go_grown
  have hSl : (w.alloc (.cells (madeCells encB.zero.cells ((s.N.length + 2) * encB.size)) encB.elem)).heap.size = w.heap.size + 1 := by simp
  have hlN : cN = cN := rfl
  clear hR hlN
  generalize w.alloc (.cells (madeCells encB.zero.cells ((s.N.length + 2) * encB.size)) encB.elem) = W1 at *
  have hO0 : Owns encI (W1.alloc (.cells #[] 3)) (.slice (some ⟨W1.heap.size, 0, none⟩) 0 0) [] := World.ownsRow_lit W1 #[] 0 (Nat.zero_le _) (by unfold maxLen; omega) rfl
  have hb1 : Below w.heap.size w (W1.alloc (.cells #[] 3)) := hbS.alloc hbS.size _
  have hOS1 := hOS.alloc (.cells #[] 3)
  have hr1 := hv.keep hb1
  have hln0 : ([] : List Int).length + roots.length ≤ 1000000 := by simp; omega
  rw [hSl] at hO0
  clear hbS hOS
  go_enter Tryz.func21, Tryz.ntmps21
  go_wp2_with (at_builtin; refine appendI rfl (.tmp 19) (.tmp 20) rfl (.slice (some ⟨w.heap.size + 1, 0, none⟩) 0 0) v [] roots rfl hO0 rfl hr1 hln0 ?_; intro vw w2 hown hgr hat)
  rw [List.nil_append] at hown
  have hown0 : (Value.slice (some ⟨w.heap.size + 1, 0, none⟩) 0 0).ownBlock = some (w.heap.size + 1) := rfl
  rw [hown0] at hgr hat
  have hat' : ∀ g, vw.ownBlock = some g → w.heap.size + 1 ≤ g := fun g hg => by
    rcases hat with hat | hat <;> rw [hat] at hg <;> injection hg with hg
    · omega
    · simp at hg; omega
  have hOS2 := hOS1.block (w' := w2) fun g hg => hgr.block g (hOS1.lt g hg) (fun e => by
    have hg' : some w.heap.size = some g := hg
    injection hg' with hg'
    injection e with e
    omega)
  have hb2 := hb1.grown hgr (by simp; omega) (fun g hg => by injection hg with hg; omega)
  have hS2 := hOS2.lt w.heap.size rfl
  clear hO0 hb1 hOS1 hr1 hln0 hgr hat hm hSl hown0
  have hwk0 : ∀ m ∈ roots, m ≤ 9223372036854775807 := hwf
  replace hown := Lib.hid hown
  replace hOS2 := Lib.hid hOS2
  replace hwk0 := Lib.hid hwk0
  replace hat' := Lib.hid hat'
  have hI0 := RInv.start s roots
  go_wp2
  go_loopw [6, 7] (fun vo i wr => ∃ (k : Nat) (seen : List Bool) (work : List Int), RInv s roots seen work k ∧ k ≤ work.length ∧ i = .int .i64 k ∧ Owns encB wr (.slice (some ⟨w.heap.size, 0, none⟩) (s.N.length + 2) (s.N.length + 2)) seen ∧ Owns encI wr vo work ∧ (∀ g, vo.ownBlock = some g → w.heap.size + 1 ≤ g) ∧ Below w.heap.size w wr ∧ Hid (∀ m ∈ work, m ≤ 9223372036854775807)) (fun _ i _ => roots.length + 2 * (s.N.length + 2) - (intOf i).toNat)
  case atStart => exact ⟨0, _, roots, hI0, Nat.zero_le _, rfl, hOS2.out, hown.out, hat'.out, hb2, hwk0⟩
  case round =>
    clear hI0 hown hOS2 hat' hb2 hwk0 hS2
    obtain ⟨k, seen, work, I, hk, rfl, hOS, hOW, hnew, hb, hwk⟩ := hrel
    obtain ⟨aW, cW, eW, _⟩ := hOW.form
    subst eW
    have hbd := I.bound
    have hSl := I.len
    by_cases hlt : k < work.length
    · obtain ⟨gW, rfl⟩ : ∃ gW, aW = some ⟨gW, 0, none⟩ := by
        obtain ⟨g, c, e, _⟩ := hOW.some (by omega)
        injection e with e _ _
        exact ⟨g, e⟩
      have hgW := hnew gW rfl
      have hc := hOW.intAt k hlt
      have hnle := hwk.out _ (List.getElem_mem hlt)
      have hold := I.old hlt
      have hnewI := I.new ok.toBase hlt
      have hk0 : (0 : Int) ≤ (k : Int) := by omega
      have hk1 : (k : Int) < (work.length : Int) := by omega
      generalize hn : work[k] = n at *
      have HN := hHN wr hb n hnle
      unfold nodeV nv at HN
      cases hh : s.has n
      · simp only [hh, Bool.false_eq_true, if_false] at HN
        have hnext := Lib.hid (hold (fun e => by rw [hh] at e; cases e))
        clear hold hnewI hh hn
        go_wp2_with fail
        refine HN.mono ?_
        rintro e w3 ⟨rfl, hb3⟩
        have hb4 := hb3.alloc hb3.size (.cells #[.int .i64 0, .int .i64 0, .int .i64 0] 69)
        have hOS4 := hOS.block (w' := w3.alloc (.cells #[.int .i64 0, .int .i64 0, .int .i64 0] 69)) fun g hg => hb4.block g (hOS.lt g hg)
        have hOW4 := hOW.block (w' := w3.alloc (.cells #[.int .i64 0, .int .i64 0, .int .i64 0] 69)) fun g hg => hb4.block g (hOW.lt g hg)
        replace hOS4 := Lib.hid hOS4
        replace hOW4 := Lib.hid hOW4
        clear HN hc hOS hOW
        go_wp2
        exact ⟨⟨k + 1, seen, work, hnext.out, by omega, by go_num, hOS4.out, hOW4.out, hnew, hb.trans (hb4.mono hb.size), hwk⟩, by simp [intOf]; omega⟩
      · simp only [hh, if_true] at HN
        have hle := ok.toBase.has_le hh
        obtain ⟨r1, r2, _⟩ := ok.toBase.range hh
        have hnl : n.toNat < seen.length := by rw [hSl]; omega
        have hn0 : (0 : Int) ≤ n := by omega
        have hn1 : n < (s.N.length : Int) + 2 := by omega
        have blo := ok.toBase.behind_le (ok.lo n hh)
        have bhi := ok.toBase.behind_le (ok.hi n hh)
        generalize hx : s.nd n = x at *
        obtain ⟨x0, x1, x2⟩ := x
        dsimp only at HN blo bhi hnewI
        cases hs : seen.getD n.toNat false
        · have hnext := Lib.hid (hnewI hh hs)
          clear hold hnewI
          go_wp2_with fail
          refine HN.mono ?_
          rintro e w3 ⟨rfl, hb3⟩
          have hb4 := hb3.alloc hb3.size (.cells #[.int .i64 x0, .int .i64 x1, .int .i64 x2] 69)
          have hOS4 := hOS.block (w' := w3.alloc (.cells #[.int .i64 x0, .int .i64 x1, .int .i64 x2] 69)) fun g hg => hb4.block g (hOS.lt g hg)
          have hOW4 := hOW.block (w' := w3.alloc (.cells #[.int .i64 x0, .int .i64 x1, .int .i64 x2] 69)) fun g hg => hb4.block g (hOW.lt g hg)
          have hX := HoldsN.new w3 ⟨x0, x1, x2⟩
          have hXb : w.heap.size < w3.heap.size := by have := hOS.lt w.heap.size rfl; have := hb3.size; omega
          have hWw := hOW.lt gW rfl
          have hsz3 := hb3.size
          have q1 := flagCell hOS4 n.toNat hnl
          rw [hs] at q1
          have q2 := hOW4.intAt k hlt
          rw [hn] at q2
          obtain ⟨z0, z1, z2⟩ := hX.cells
          have y1 := hOS4.free' rfl n.toNat
          dsimp only at z0 z1 z2
          -- marked
          have hOS5 := flagSet hOS4 (by rw [hSl]) hnl true
          have hOW5 := hOW4.block (w' := (w3.alloc (.cells #[.int .i64 x0, .int .i64 x1, .int .i64 x2] 69)).setCell ⟨w.heap.size, n.toNat, none⟩ (.bool true)) fun g hg => Below.heap_setCell _ _ _ _ (fun e => by have hg' : some gW = some g := hg; injection hg' with hg'; have e' : g = w.heap.size := e; omega)
          have hX5 : HoldsN ((w3.alloc (.cells #[.int .i64 x0, .int .i64 x1, .int .i64 x2] 69)).setCell ⟨w.heap.size, n.toNat, none⟩ (.bool true)) w3.heap.size ⟨x0, x1, x2⟩ := by
            unfold HoldsN
            rw [Below.heap_setCell _ _ _ _ (fun e => by have e' : w3.heap.size = w.heap.size := e; omega)]
            exact hX
          have hb5 : Below w.heap.size w ((w3.alloc (.cells #[.int .i64 x0, .int .i64 x1, .int .i64 x2] 69)).setCell ⟨w.heap.size, n.toNat, none⟩ (.bool true)) := (hb.trans (hb4.mono hb.size)).setCell (Nat.le_refl _) _
          rw [World.setCell_alloc_past _ _ _ _ hXb] at hOS5 hOW5 hX5 hb5
          obtain ⟨e0, e1, e2⟩ := hX5.cells
          have q2' := hOW5.intAt k hlt
          rw [hn] at q2'
          dsimp only at e0 e1 e2
          replace hOS5 := Lib.hid hOS5
          replace hOW5 := Lib.hid hOW5
          replace hb5 := Lib.hid hb5
          clear HN hc hOS hOW hOS4 hOW4 hX hX5
          have hln : work.length + [x1, x2].length ≤ 1000000 := by simp; omega
          have hs5 : ((w3.setCell ⟨w.heap.size, n.toNat, none⟩ (.bool true)).alloc (.cells #[.int .i64 x0, .int .i64 x1, .int .i64 x2] 69)).heap.size = w3.heap.size + 1 := by simp [World.setCell]
          have hL : Owns encI (((w3.setCell ⟨w.heap.size, n.toNat, none⟩ (.bool true)).alloc (.cells #[.int .i64 x0, .int .i64 x1, .int .i64 x2] 69)).alloc (.cells #[.int .i64 x1, .int .i64 x2] 3)) (.slice (some ⟨((w3.setCell ⟨w.heap.size, n.toNat, none⟩ (.bool true)).alloc (.cells #[.int .i64 x0, .int .i64 x1, .int .i64 x2] 69)).heap.size, 0, none⟩) 2 2) [x1, x2] := World.ownsRow_lit _ #[.int .i64 x1, .int .i64 x2] 2 (Nat.zero_le _) (by unfold maxLen; omega) rfl
          rw [hs5] at hL
          have hsrc := hL.reads
          have hA := hOW5.out.alloc (.cells #[.int .i64 x1, .int .i64 x2] 3)
          have hOS6 := hOS5.out.alloc (.cells #[.int .i64 x1, .int .i64 x2] 3)
          have hb6 := hb5.out.alloc hb5.out.size (.cells #[.int .i64 x1, .int .i64 x2] 3)
          replace hOS6 := Lib.hid hOS6
          replace hb6 := Lib.hid hb6
          go_wp2_with (at_builtin; refine appendI rfl (.tmp 54) (.tmp 59) rfl (.slice (some ⟨gW, 0, none⟩) work.length cW) (.slice (some ⟨w3.heap.size + 1, 0, none⟩) 2 2) work [x1, x2] rfl hA rfl hsrc hln ?_; intro v' w7 hown hgr hat)
          have hown0 : (Value.slice (some ⟨gW, 0, none⟩) work.length cW).ownBlock = some gW := rfl
          rw [hown0] at hgr hat
          have hnew7 : ∀ g, v'.ownBlock = some g → w.heap.size + 1 ≤ g := fun g hg => by
            rcases hat with hat | hat <;> rw [hat] at hg <;> injection hg with hg
            · omega
            · simp [World.setCell] at hg; omega
          have hOS7 := hOS6.out.block (w' := w7) fun g hg => hgr.block g (hOS6.out.lt g hg) (fun e => by
            have hg' : some w.heap.size = some g := hg
            injection hg' with hg'
            injection e with e
            omega)
          have hb7 := hb6.out.grown hgr (by simp [World.setCell]; omega) (fun g hg => by injection hg with hg; omega)
          exact ⟨⟨k + 1, _, _, hnext.out, by simp; omega, by go_num, hOS7, hown, hnew7, hb7, Lib.hid (fun m hm => by
            rcases List.mem_append.1 hm with hm | hm
            · exact hwk.out m hm
            · simp only [List.mem_cons, List.not_mem_nil, or_false] at hm
              rcases hm with rfl | rfl <;> omega)⟩, by simp [intOf]; omega⟩
        · have hnext := Lib.hid (hold (fun _ => hs))
          clear hold hnewI
          go_wp2_with fail
          refine HN.mono ?_
          rintro e w3 ⟨rfl, hb3⟩
          have hb4 := hb3.alloc hb3.size (.cells #[.int .i64 x0, .int .i64 x1, .int .i64 x2] 69)
          have hOS4 := hOS.block (w' := w3.alloc (.cells #[.int .i64 x0, .int .i64 x1, .int .i64 x2] 69)) fun g hg => hb4.block g (hOS.lt g hg)
          have hOW4 := hOW.block (w' := w3.alloc (.cells #[.int .i64 x0, .int .i64 x1, .int .i64 x2] 69)) fun g hg => hb4.block g (hOW.lt g hg)
          have q1 := flagCell hOS4 n.toNat hnl
          rw [hs] at q1
          have q2 := hOW4.intAt k hlt
          rw [hn] at q2
          replace hOS4 := Lib.hid hOS4
          replace hOW4 := Lib.hid hOW4
          clear HN hc hOS hOW
          go_wp2
          exact ⟨⟨k + 1, seen, work, hnext.out, by omega, by go_num, hOS4.out, hOW4.out, hnew, hb.trans (hb4.mono hb.size), hwk⟩, by simp [intOf]; omega⟩
    · have hge : work.length ≤ k := by omega
      have hres := I.reach hge
      have hsz := hOS.lt w.heap.size rfl
      have hgetk : ∀ j : Nat, j < s.N.length → ∀ V, Below wr.heap.size wr V → V.cell? ⟨w.heap.size, j + 2, none⟩ = some (.bool (seen.getD ((j : Int) + 2).toNat false)) := fun j hj V hV => by
        have := flagCell (hOS.block (w' := V) fun g hg => hV.block g (hOS.lt g hg)) (j + 2) (by omega)
        rw [show ((j : Int) + 2).toNat = j + 2 by omega]
        exact this
      clear hwk hnew hOW hHN cl hlt hbd
      obtain ⟨V1, hV1⟩ : ∃ V1, V1 = wr := ⟨_, rfl⟩
      subst hV1
      have hdk : decide (k < work.length) = false := decide_eq_false (by omega)
      go_wp2
      try simp only [hdk]
      clear hge hdk
      go_loopw [10, 11] (fun vo i wz => ∃ j : Nat, j ≤ s.N.length ∧ i = .int .i64 ((j : Int) + 2) ∧ WRel V1 ((numsTo j).filter (fun n => seen.getD n.toNat false)) vo wz) (fun _ i _ => s.N.length + 2 - (intOf i).toNat)
      case atStart => exact ⟨0, Nat.zero_le _, rfl, Owns.nil _ _, (fun g h => by cases h), Below.refl _ _⟩
      case round =>
        obtain ⟨j, hj, rfl, R⟩ := hrel
        obtain ⟨aR, cR, eR, _⟩ := R.own.form
        subst eR
        by_cases hlt : j < s.N.length
        · have hstep := numsTo_filter (fun n => seen.getD n.toNat false) j
          have hl := numsTo_filter_length (fun n => seen.getD n.toNat false) j
          have hji : (j : Int) < (s.N.length : Int) := by omega
          have q := hgetk j hlt _ R.below
          clear hgetk hres
          cases hh : seen.getD ((j : Int) + 2).toNat false
          · rw [hh] at hstep q
            simp only [Bool.false_eq_true, if_false, List.append_nil] at hstep
            have HS := Lib.hid hstep
            clear hstep hh
            go_wp2
            exact ⟨⟨j + 1, by omega, by go_num, by rw [HS.out]; exact R⟩, by simp [intOf]; omega⟩
          · rw [hh] at hstep q
            simp only [if_true] at hstep
            have HS := Lib.hid hstep
            clear hstep hh
            have hA := R.own.alloc (.cells #[.int .i64 ((j : Int) + 2)] 3)
            have hsrc := oneI wr ((j : Int) + 2) wr.heap.size rfl
            have hln : ((numsTo j).filter (fun n => seen.getD n.toNat false)).length + [(j : Int) + 2].length ≤ 1000000 := by simp at hl ⊢; omega
            go_wp2_with (at_builtin; refine appendI rfl (.tmp 71) (.tmp 73) rfl (.slice aR ((numsTo j).filter (fun n => seen.getD n.toNat false)).length cR) (.slice (some ⟨wr.heap.size, 0, none⟩) 1 1) ((numsTo j).filter (fun n => seen.getD n.toNat false)) [(j : Int) + 2] rfl hA rfl hsrc hln ?_; intro v' w2 hown hgr hat)
            have hNN : ∀ g, v'.ownBlock = some g → V1.heap.size ≤ g := fun g hg => by
              rcases hat with hat | hat
              · exact R.new g (hat ▸ hg)
              · rw [hat] at hg; injection hg with hg; have := R.below.size; simp at hg; omega
            have hBB := (R.below.alloc R.below.size (.cells #[.int .i64 ((j : Int) + 2)] 3)).grown hgr (by have := R.below.size; simp; omega) R.new
            exact ⟨⟨j + 1, by omega, by go_num, by rw [HS.out]; exact hown, hNN, hBB⟩, by simp [intOf]; omega⟩
        · obtain rfl : j = s.N.length := by omega
          clear hgetk
          go_wp2
          go_ret
          refine ⟨_, rfl, ?_⟩
          have hres' : (numsTo s.N.length).filter (fun n => seen.getD n.toNat false) = s.reach roots := hres
          have hO := R.own
          have hN := R.new
          have hB := R.below
          show WRel w (s.reach roots) (.slice aR ((numsTo s.N.length).filter (fun n => seen.getD n.toNat false)).length cR) _
          rw [← hres']
          exact ⟨hO, fun g hg => Nat.le_trans hb.size (hN g hg), hb.trans (hB.mono hb.size)⟩

end Go.Proofs.YtpcilfnnfhfgaaaGreatDoor
