/-
  Texts of this proof, one behind the other: RefSize, SweepK, Ones.
-/
import Derived.Test.YtmbonbicokbihaaGreatDoorG17
import Derived.Test.YtmbonbicokbihaaGreatDoorG12
import Derived.Test.YtmbonbicokbihaaGreatDoorG15
import Derived.Test.YtmbonbicokbihaaGreatDoorG14
import Derived.Test.YtmbonbicokbihaaGreatDoorG16
import Derived.Deep.CutRange
import Derived.OwnWalk
import Derived.Test.YtmbonbicokbihaaGreatDoorG11
/-
  Walk of the document's Size and Plain.
-/
namespace Go.Proofs.YtmbonbicokbihaaGreatDoor
open Go Go.RowKit Go.Maps

theorem OwnsF.form {w : World} {base : Nat} {v : Value} {l : List Fn} (h : OwnsF w base v l) : ∃ a cap, v = .slice a l.length cap := by
  obtain ⟨h1, ⟨rfl, h2⟩ | ⟨g, cap, cur, rfl, hr⟩⟩ := h
  · exact ⟨none, 0, by rw [h2]⟩
  · exact ⟨_, _, rfl⟩

set_option maxRecDepth 100000 in
set_option maxHeartbeats 400000 in
theorem refSize (l : List Fn) (o : Nat → Int) (v : Value) (w : World) (hv : SliceF w v l) (hl : l.length ≤ 40) :
    Calls Tryz.prog 12 #[v, ov o] w fun e w' => e = .returned (.int .i64 (sizeF l o)) ∧ Below w.heap.size w w' := by
  have hb0 : Below w.heap.size w (w.alloc (.cells #[.int .i64 (o 0), .int .i64 (o 1), .int .i64 (o 2), .int .i64 (o 3), .int .i64 (o 4), .int .i64 (o 5), .int .i64 (o 6), .int .i64 (o 7)] 41)) := by go_grown
  have hv0 := hv.keep hb0 (Nat.le_refl _)
  simp only [ov]
  go_enter Tryz.func12, Tryz.ntmps12
  go_wp2_with fail
  refine (refNodes l o v _ hv0 hl).mono ?_
  rintro e w1 ⟨v1, out, rfl, h1, h2, hb1⟩
  have Hz := Lib.hid (sizeF_eq h2)
  obtain ⟨a, cap, rfl⟩ := h1.form
  clear h2
  go_wp2
  go_ret
  exact ⟨ret_int (by rw [Hz.out]), hb0.trans (hb1.mono hb0.size)⟩

end Go.Proofs.YtmbonbicokbihaaGreatDoor

/-
  SweepKeeps over contracts.
-/
namespace Go.Proofs.YtmbonbicokbihaaGreatDoor
open Go Go.RowKit
attribute [local go_sem] run_eql_fv run_eql_fv1 run_neq_fv run_neq_fv1 run_guard_fv run_guard_fv1 run_eql_fv2 run_guard_fv2 run_equal_fv2

/-- The code's store, and three lists beside it. -/
structure P12 (StAt : World → Nat → (Nat → Prop) → MS → Prop) (w0 : World) (b : Nat) (F : Nat → Prop) (s : MS) (va vr vk : Value) (la lr : List Int) (lk : List Fn) (W : World) : Prop where
  a : StAt W b F s
  lowF : ∀ q, F q → w0.heap.size ≤ q
  ma : Mine encI w0 F va la W
  mr : Mine encI w0 F vr lr W
  mf : Mine encFn w0 F vk lk W
  ar : ∀ g, va.ownBlock = some g → vr.ownBlock ≠ some g
  ak : ∀ g, va.ownBlock = some g → vk.ownBlock ≠ some g
  rk : ∀ g, vr.ownBlock = some g → vk.ownBlock ≠ some g
  below : Below w0.heap.size w0 W

section
variable {StAt : World → Nat → (Nat → Prop) → MS → Prop} {w0 W W' : World} {b : Nat} {F F' : Nat → Prop} {s t : MS} {va vr vk v' : Value} {la lr l' : List Int} {lk k' : List Fn}
theorem P12.keep (H : StoreC StAt) (h : P12 StAt w0 b F s va vr vk la lr lk W) (hb : Below W.heap.size W W') : P12 StAt w0 b F s va vr vk la lr lk W' :=
  ⟨H.below h.a hb, h.lowF, h.ma.below hb, h.mr.below hb, h.mf.below hb, h.ar, h.ak, h.rk, h.below.trans (hb.mono h.below.size)⟩
theorem P12.store (h : P12 StAt w0 b F s va vr vk la lr lk W) (hA : StAt W' b F' t) (hK : Keeps F W W') (hW : Within W F F') : P12 StAt w0 b F' t va vr vk la lr lk W' :=
  ⟨hA, fun q hq => (hW q hq).elim (h.lowF q) (fun h3 => Nat.le_trans h.below.size h3), h.ma.store hK hW, h.mr.store hK hW, h.mf.store hK hW, h.ar, h.ak, h.rk, h.below.trans (hK.below h.below.size h.lowF)⟩
theorem P12.pushA (H : StoreC StAt) (h : P12 StAt w0 b F s va vr vk la lr lk W) (hown : Owns encI W' v' l') (hg : W.grownBy W' va.ownBlock) (hat : v'.ownBlock = va.ownBlock ∨ v'.ownBlock = some W.heap.size) :
    P12 StAt w0 b F s v' vr vk l' lr lk W' :=
by
  refine ⟨H.keep h.a (Keeps.of_grown (F := fun q => va.ownBlock = some q) hg fun _ e => e) (fun q h1 h2 => h.ma.out q h2 h1), h.lowF, h.ma.push h.below.size (H.lt h.a) hown hat, h.mr.grown hg fun g hg e => h.ar g e hg, h.mf.grown hg fun g hg e => h.ak g e hg, fun g hg e => ?_, fun g hg e => ?_, h.rk, h.below.grown hg h.below.size fun g hg => h.ma.low g hg⟩
  · rcases hat with x | x
    · exact h.ar g (x ▸ hg) e
    · rw [x] at hg; cases hg; have := h.mr.own.lt _ e; omega
  · rcases hat with x | x
    · exact h.ak g (x ▸ hg) e
    · rw [x] at hg; cases hg; have := h.mf.own.lt _ e; omega
theorem P12.pushR (H : StoreC StAt) (h : P12 StAt w0 b F s va vr vk la lr lk W) (hown : Owns encI W' v' l') (hg : W.grownBy W' vr.ownBlock) (hat : v'.ownBlock = vr.ownBlock ∨ v'.ownBlock = some W.heap.size) :
    P12 StAt w0 b F s va v' vk la l' lk W' :=
by
  refine ⟨H.keep h.a (Keeps.of_grown (F := fun q => vr.ownBlock = some q) hg fun _ e => e) (fun q h1 h2 => h.mr.out q h2 h1), h.lowF, h.ma.grown hg fun g hg e => h.ar g hg e, h.mr.push h.below.size (H.lt h.a) hown hat, h.mf.grown hg fun g hg e => h.rk g e hg, fun g hg e => ?_, h.ak, fun g hg e => ?_, h.below.grown hg h.below.size fun g hg => h.mr.low g hg⟩
  · rcases hat with x | x
    · exact h.ar g hg (x ▸ e)
    · rw [x] at e; cases e; have := h.ma.own.lt _ hg; omega
  · rcases hat with x | x
    · exact h.rk g (x ▸ hg) e
    · rw [x] at hg; cases hg; have := h.mf.own.lt _ e; omega
theorem P12.pushK (H : StoreC StAt) (h : P12 StAt w0 b F s va vr vk la lr lk W) (hown : Owns encFn W' v' k') (hg : W.grownBy W' vk.ownBlock) (hat : v'.ownBlock = vk.ownBlock ∨ v'.ownBlock = some W.heap.size) :
    P12 StAt w0 b F s va vr v' la lr k' W' :=
by
  refine ⟨H.keep h.a (Keeps.of_grown (F := fun q => vk.ownBlock = some q) hg fun _ e => e) (fun q h1 h2 => h.mf.out q h2 h1), h.lowF, h.ma.grown hg fun g hg e => h.ak g hg e, h.mr.grown hg fun g hg e => h.rk g hg e, h.mf.push h.below.size (H.lt h.a) hown hat, h.ar, fun g hg e => ?_, fun g hg e => ?_, h.below.grown hg h.below.size fun g hg => h.mf.low g hg⟩
  · rcases hat with x | x
    · exact h.ak g hg (x ▸ e)
    · rw [x] at e; cases e; have := h.ma.own.lt _ hg; omega
  · rcases hat with x | x
    · exact h.rk g hg (x ▸ e)
    · rw [x] at e; cases e; have := h.mr.own.lt _ hg; omega
theorem P12.start (_H : StoreC StAt) (hA : StAt W b F s) (hF : ∀ q, F q → w0.heap.size ≤ q) (hb : Below w0.heap.size w0 W) : P12 StAt w0 b F s (.slice none 0 0) (.slice none 0 0) (.slice none 0 0) [] [] [] W :=
  ⟨hA, hF, Mine.nil _ _ _ _, Mine.nil _ _ _ _, Mine.nil _ _ _ _, (fun g h => by cases h), (fun g h => by cases h), (fun g h => by cases h), hb⟩
end

/-- What is known of roots: each is there, and is its function. -/
def Are (s : MS) (lr : List Int) (lk : List Fn) : Prop := (∀ r ∈ lr, s.there r = true) ∧ lr.map s.tab = lk
theorem Are.nil (s : MS) : Are s [] [] := ⟨(fun r h => by cases h), rfl⟩
theorem Are.grows {s t : MS} {lr : List Int} {lk : List Fn} (h : Are s lr lk) (g : MS.Grows s t) : Are t lr lk :=
  ⟨fun r hr => g.there r (h.1 r hr), by rw [← h.2]; exact List.map_congr_left fun r hr => g.tab (h.1 r hr)⟩
theorem Are.snoc {s : MS} {lr : List Int} {lk : List Fn} (h : Are s lr lk) {n : Int} {f : Fn} (hn : s.there n = true) (e : s.tab n = f) : Are s (lr ++ [n]) (lk ++ [f]) :=
  ⟨fun r hr => (List.mem_append.1 hr).elim (h.1 r) (fun h => by rw [List.mem_singleton.1 h]; exact hn), by rw [List.map_append, h.2]; simp [e]⟩

theorem Are.swept {s t : MS} {lr : List Int} {lk : List Fn} (h : Are s lr lk) (ok : s.Ok) (hs : Swept s lr t) : Are t lr lk :=
  ⟨fun r hr => hs.there hr (h.1 r hr), by rw [← h.2]; exact List.map_congr_left fun r hr => hs.tab ok fun hh => .root hr hh⟩
theorem Are.size {s t : MS} {lr : List Int} {lk : List Fn} (h : Are s lr lk) (ok : s.Ok) (hs : Swept s lr t) : sizeF lk t.o = t.all.length := by
  rw [hs.o, ← h.2]; exact hs.size ok h.1
/-- Swept again nothing is freed. -/
theorem Are.again {s t : MS} {lr : List Int} {lk : List Fn} (h : Are s lr lk) (ok : s.Ok) (hs : Swept s lr t) : (t.sweep lr).1 = 0 := by
  obtain ⟨h1, h2⟩ := hs.ok.swept lr
  have e1 := h.size ok hs
  have e2 := (h.swept ok hs).size hs.ok h1
  rw [h1.o, e1] at e2
  have := h1.all
  rw [this] at e2
  omega
theorem Are.le {s : MS} {lr : List Int} {lk : List Fn} (h : Are s lr lk) : lk.length = lr.length := by rw [← h.2, List.length_map]
theorem Are.at {s : MS} {lr : List Int} {lk : List Fn} (h : Are s lr lk) (i : Nat) (hi : i < lr.length) (hk : i < lk.length) : lk[i] = s.tab lr[i] := by
  have := h.2
  subst this
  simp
theorem Mine.fnAt {w0 W : World} {F : Nat → Prop} {v : Value} {l : List Fn} (h : Mine encFn w0 F v l W) (i : Nat) (hi : i < l.length) : ∃ g c, v = .slice (some ⟨g, 0, none⟩) l.length c ∧ W.cell? ⟨g, i * 4, none⟩ = some (.int .u64 (wd l[i] 0)) ∧ W.cell? ⟨g, i * 4 + 1, none⟩ = some (.int .u64 (wd l[i] 1)) ∧
    W.cell? ⟨g, i * 4 + 2, none⟩ = some (.int .u64 (wd l[i] 2)) ∧ W.cell? ⟨g, i * 4 + 3, none⟩ = some (.int .u64 (wd l[i] 3)) := by
  obtain ⟨g, c, rfl, _, _⟩ := h.own.some (by omega)
  obtain ⟨ad, e, q⟩ := h.own.reads.at i hi
  cases e
  have q0 := q 0 (by decide)
  have q1 := q 1 (by decide)
  have q2 := q 2 (by decide)
  have q3 := q 3 (by decide)
  simp only [encFn] at q0 q1 q2 q3
  refine ⟨g, c, rfl, ?_, ?_, ?_, ?_⟩
  · have e : (⟨g, 0, none⟩ : Addr).add (i * 4 + 0) = ⟨g, i * 4, none⟩ := by simp [Addr.add]; omega
    rw [e] at q0; simpa using q0
  · have e : (⟨g, 0, none⟩ : Addr).add (i * 4 + 1) = ⟨g, i * 4 + 1, none⟩ := by simp [Addr.add]
    rw [e] at q1; simpa using q1
  · have e : (⟨g, 0, none⟩ : Addr).add (i * 4 + 2) = ⟨g, i * 4 + 2, none⟩ := by simp [Addr.add]
    rw [e] at q2; simpa using q2
  · have e : (⟨g, 0, none⟩ : Addr).add (i * 4 + 3) = ⟨g, i * 4 + 3, none⟩ := by simp [Addr.add]
    rw [e] at q3; simpa using q3
theorem Mine.intAt {w0 W : World} {F : Nat → Prop} {v : Value} {l : List Int} (h : Mine encI w0 F v l W) (i : Nat) (hi : i < l.length) : ∃ g c, v = .slice (some ⟨g, 0, none⟩) l.length c ∧ W.cell? ⟨g, i, none⟩ = some (.int .i64 l[i]) := by
  obtain ⟨g, c, rfl, _, _⟩ := h.own.some (by omega)
  exact ⟨g, c, rfl, h.own.intAt i hi⟩

set_option maxRecDepth 100000 in
set_option maxHeartbeats 8000000 in
theorem sweepKeeps' {StAt : World → Nat → (Nat → Prop) → MS → Prop} (H : StoreC StAt) (R : ReadC StAt) (C : SweepC StAt) (hUp : ∀ W, LowW W → Calls Tryz.prog 4 #[] W fun e w' => e = .returned (.bool true) ∧ Below W.heap.size W w')
    (l : List Fn) (keep : List Bool) (swaps : List Int) (vl vb vs : Value) (w : World) (hL : LowW w) (hl : SliceF w vl l) (hb0 : Reads encB w vb keep) (hs : Reads encI w vs swaps) (hwf : ∀ n ∈ swaps, (Lit.int .i64 n).wf = true) :
    Calls Tryz.prog 3 #[vl, vb, vs] w fun e w' => e = .returned (.bool true) ∧ Below w.heap.size w w' := by
  obtain ⟨al, cl, rfl⟩ := hl.form
  obtain ⟨ab, cb, rfl⟩ := hb0.form
  obtain ⟨aw, cw, rfl⟩ := hs.form
  go_enter Tryz.func3, Tryz.ntmps3
  go_wp2_with fail
  refine (hUp _ hL).mono ?_
  rintro e w1 ⟨rfl, hb1⟩
  replace hL := hL.keep hb1
  replace hl := hl.keep hb1 (Nat.le_refl _)
  replace hb0 := hb0.keep hb1
  replace hs := hs.keep hb1
  clear hUp
  go_wp2_with fail
  refine (H.new 2000 w1 (by decide) (by decide)).mono ?_
  rintro e w2 ⟨b, rfl, ⟨F, hA, hF⟩, hb2⟩
  rw [show (2000 : Int).toNat = 2000 from rfl] at hA
  have X := MS.Fits.none 2000 (by decide)
  have P := P12.start H hA hF hb2
  clear hA hF hb2
  generalize MS.none 2000 = s at *
  by_cases hn8 : l.length ≤ 8
  · have hl3 : ¬ 8 < (l.length : Int) := by omega
    by_cases hn20 : swaps.length ≤ 20
    · have hl4 : ¬ 20 < (swaps.length : Int) := by omega
      replace P := Lib.hid P
      replace X := Lib.hid X
      replace hL := Lib.hid hL
      replace hl := Lib.hid hl
      replace hb0 := Lib.hid hb0
      replace hs := Lib.hid hs
      go_wp2
      go_loopw [9, 10, 11, 12] (fun va vr vk i wr => ∃ (j : Nat) (s : MS) (F : Nat → Prop) (la lr : List Int) (lk fs : List Fn), j ≤ l.length ∧ i = .int .i64 j ∧ s.Fits fs plainO 2000 ∧ fs.length = j ∧ P12 StAt w1 b F s va vr vk la lr lk wr ∧ Are s lr lk ∧ la.length = j ∧ lr.length ≤ j) (fun _ _ _ i _ => l.length - (intOf i).toNat)
      case atStart => exact ⟨0, s, F, [], [], [], [], Nat.zero_le _, rfl, X.out, rfl, P.out, Are.nil s, rfl, Nat.le_refl _⟩
      case round =>
        clear P X
        obtain ⟨j, s, F, la, lr, lk, fs, hj, rfl, X, hfs, P, hA, hla, hlr⟩ := hrel
        by_cases hlt : j < l.length
        · have hj0 : (0 : Int) ≤ (j : Int) := by omega
          have hj1 : (j : Int) < (l.length : Int) := by omega
          obtain ⟨ad, rfl, c0, c1, c2, c3⟩ := (hl.out.keep P.below (Nat.le_refl _)).fnAt j hlt
          have hlc : ∀ W, Below w1.heap.size w1 W → W.cell? (ad.add (j * 4)) = some (.int .u64 (wd l[j] 0)) ∧ W.cell? ⟨(ad.add (j * 4)).block, (ad.add (j * 4)).off + 1, none⟩ = some (.int .u64 (wd l[j] 1)) ∧
              W.cell? ⟨(ad.add (j * 4)).block, (ad.add (j * 4)).off + 2, none⟩ = some (.int .u64 (wd l[j] 2)) ∧ W.cell? ⟨(ad.add (j * 4)).block, (ad.add (j * 4)).off + 3, none⟩ = some (.int .u64 (wd l[j] 3)) := fun W hW => by
            obtain ⟨ad', e', h2⟩ := (hl.out.keep hW (Nat.le_refl _)).fnAt j hlt
            cases e'; exact h2
          have hbk : j < keep.length → ∃ ad, ab = some ad ∧ ∀ W, Below w1.heap.size w1 W → W.cell? (ad.add j) = some (.bool (keep.getD j false)) := fun hk => by
            obtain ⟨ad, e, _⟩ := hb0.out.at j hk
            refine ⟨ad, e, fun W hW => ?_⟩
            obtain ⟨ad', e', h2⟩ := (hb0.out.keep hW).at j hk
            rw [e] at e'; cases e'
            have := h2 0 (by decide)
            rw [List.getD, List.getElem?_eq_getElem hk, Option.getD_some]
            simpa [encB] using this
          generalize l[j] = f at *
          obtain ⟨n, s1, hr, X1, E1, tn, en⟩ := X.bld f (by omega)
          have BA := R.build (hL.out.keep P.below) (fun k hk => Nat.lt_of_lt_of_le hL.out.pos (P.lowF k hk)) P.a X.ok f
          rw [hr] at BA
          dsimp only at BA
          simp only [fv, errV0] at BA
          have hA1 := hA.grows (MS.Grows.of_ext E1 X.ok X1.ok)
          have hA2 := hA1.snoc tn en
          replace P := Lib.hid P
          replace hA1 := Lib.hid hA1
          replace hA2 := Lib.hid hA2
          replace X1 := Lib.hid X1
          clear X hA hr E1 tn en
          go_wp2_with fail
          refine BA.mono ?_
          rintro e w3 ⟨rfl, F2, hSt, hK, hW⟩
          replace P := P.out.store hSt hK hW
          clear BA hSt hK hW c0 c1 c2 c3
          have hln : la.length + [n].length ≤ 1000000 := by simp; omega
          have hsrc := oneI w3 n w3.heap.size rfl
          have P1 := P.keep H ((Below.refl w3.heap.size w3).alloc (Nat.le_refl _) (.cells #[.int .i64 n] 3))
          have hown := P1.ma.own
          replace P1 := Lib.hid P1
          clear P
          by_cases hk : j < keep.length
          · replace hbk := hbk hk
            obtain ⟨ak, rfl, hbk⟩ := hbk
            have hk1 : (j : Int) < (keep.length : Int) := by omega
            cases hkv : keep.getD j false
            · rw [hkv] at hbk
              go_wp2_with (at_builtin; refine appendI rfl (.tmp 57) (.tmp 59) rfl _ _ la [n] rfl hown rfl hsrc hln ?_; intro v1 w4 hown1 hgr hat; have P2 := Lib.hid (P1.out.pushA H hown1 hgr hat); have hbc := hbk _ P2.out.below; clear hown1 hgr hat hbk)
              exact ⟨⟨j + 1, s1, F2, la ++ [n], lr, lk, f :: fs, by omega, by go_num, X1.out, by simp [hfs], P2.out, hA1.out, by simp [hla], by omega⟩, by simp [intOf]; omega⟩
            · rw [hkv] at hbk
              have hln2 : lr.length + [n].length ≤ 1000000 := by simp; omega
              have hlk : lk.length = lr.length := by rw [← hA1.out.2, List.length_map]
              have hln3 : lk.length + [f].length ≤ 1000000 := by simp; omega
              go_wp2_with (first
                | (at_builtin; refine appendI rfl (.tmp 57) (.tmp 59) rfl _ _ la [n] rfl hown rfl hsrc hln ?_; intro v1 w4 hown1 hgr hat; have P2 := Lib.hid (P1.out.pushA H hown1 hgr hat); have hbc := hbk _ P2.out.below; have P3 := Lib.hid (P2.out.keep H ((Below.refl w4.heap.size w4).alloc (Nat.le_refl _) (.cells #[.int .i64 n] 3))); have hownR := P3.out.mr.own; have hsrcR := oneI w4 n w4.heap.size rfl; clear hown1 hgr hat hbk hown hsrc P2)
                | (at_builtin; refine appendI rfl (.tmp 71) (.tmp 73) rfl _ _ lr [n] rfl hownR rfl hsrcR hln2 ?_; intro v2 w5 hown2 hgr hat; have P4 := Lib.hid (P3.out.pushR H hown2 hgr hat); obtain ⟨y0, y1, y2, y3⟩ := hlc _ P4.out.below; have P5 := Lib.hid (P4.out.keep H ((Below.refl w5.heap.size w5).alloc (Nat.le_refl _) (.cells #[.int .u64 (wd f 0), .int .u64 (wd f 1), .int .u64 (wd f 2), .int .u64 (wd f 3)] 34))); have hownK := P5.out.mf.own; have hsrcK := oneFn w5 f w5.heap.size rfl; clear hown2 hgr hat hownR hsrcR P4 P3)
                | (at_builtin; refine appendFn rfl (.tmp 75) (.tmp 80) rfl _ _ lk [f] rfl hownK rfl hsrcK hln3 ?_; intro v3 w6 hown3 hgr hat; have P6 := Lib.hid (P5.out.pushK H hown3 hgr hat); clear hown3 hgr hat hownK hsrcK P5))
              exact ⟨⟨j + 1, s1, F2, la ++ [n], lr ++ [n], lk ++ [f], f :: fs, by omega, by go_num, X1.out, by simp [hfs], P6.out, hA2.out, by simp [hla], by simp; omega⟩, by simp [intOf]; omega⟩
          · have hk1 : ¬ (j : Int) < (keep.length : Int) := by omega
            clear hbk
            go_wp2_with (at_builtin; refine appendI rfl (.tmp 57) (.tmp 59) rfl _ _ la [n] rfl hown rfl hsrc hln ?_; intro v1 w4 hown1 hgr hat; have P2 := Lib.hid (P1.out.pushA H hown1 hgr hat); clear hown1 hgr hat)
            exact ⟨⟨j + 1, s1, F2, la ++ [n], lr, lk, f :: fs, by omega, by go_num, X1.out, by simp [hfs], P2.out, hA1.out, by simp [hla], by omega⟩, by simp [intOf]; omega⟩
        · obtain rfl : j = l.length := by omega
          have hso := X.ok
          clear X hlt hj
          have hlk := hA.le
          obtain ⟨ga, ca, rfl⟩ : ∃ a c, u9 = .slice a l.length c := by obtain ⟨a, c, e, _⟩ := P.ma.own.form; exact ⟨a, c, by rw [e, hla]⟩
          replace P := Lib.hid P
          replace hA := Lib.hid hA
          replace hso := Lib.hid hso
          go_wp2
          go_loopw [15] (fun i wr => ∃ (k : Nat) (s : MS) (F : Nat → Prop), k ≤ swaps.length ∧ i = .int .i64 k ∧ s.Ok ∧ P12 StAt w1 b F s (.slice ga l.length ca) u10 u11 la lr lk wr ∧ Are s lr lk) (fun i _ => swaps.length - (intOf i).toNat)
          case atStart => exact ⟨0, s, F, Nat.zero_le _, rfl, hso.out, P.out, hA.out⟩
          case round =>
            clear P hso hA
            obtain ⟨k, s, F, hk, rfl, ok, P, hA⟩ := hrel
            by_cases hlt : k < swaps.length
            · obtain ⟨ad, rfl, hc⟩ := (hs.out.keep P.below).intAt k hlt
              have hwk := hwf _ (List.getElem_mem hlt)
              have hk0 : (0 : Int) ≤ (k : Int) := by omega
              have hk1 : (k : Int) < (swaps.length : Int) := by omega
              generalize swaps[k] = m at *
              have HP := fun U => lawPick m 7 U (by decide) (by decide) hwk
              have m0 := Int.emod_nonneg m (show (7 : Int) ≠ 0 by decide)
              have m1 := Int.emod_lt_of_pos m (show (0 : Int) < 7 by decide)
              generalize m % 7 = q at *
              have HS := H.swap P.a ok q
              have ok' := ok.swapped q
              have hA' := hA.grows (MS.Grows.of_swap ok q)
              have hE := s.swap_in m0 (by omega)
              have HC := fun V => lawCode (s.swap q).1 V (s.swap_err q).1 (s.swap_err q).2
              replace P := Lib.hid P
              replace hA' := Lib.hid hA'
              replace ok' := Lib.hid ok'
              replace hE := Lib.hid hE
              clear hA ok
              generalize hq : (s.swap q).1 = z at *
              go_wp2_with fail
              refine (HP _).mono ?_
              rintro e w7 ⟨rfl, rfl⟩
              go_wp2_with fail
              refine HS.mono ?_
              rintro e w8 ⟨rfl, F6, hSt, hK, hW⟩
              have P6 := Lib.hid (P.out.store hSt hK hW)
              clear HS HP P hSt hK hW hc
              go_wp2_with fail
              refine (HC _).mono ?_
              rintro e w9 ⟨rfl, rfl⟩
              rcases hE.out with hE | hE
              · subst hE
                clear HC
                go_wp2
                exact ⟨⟨k + 1, _, F6, by omega, by go_num, ok'.out, P6.out, hA'.out⟩, by simp [intOf]; omega⟩
              · subst hE
                go_wp2_with fail
                refine (HC _).mono ?_
                rintro e w10 ⟨rfl, rfl⟩
                clear HC
                go_wp2
                exact ⟨⟨k + 1, _, F6, by omega, by go_num, ok'.out, P6.out, hA'.out⟩, by simp [intOf]; omega⟩
            · obtain rfl : k = swaps.length := by omega
              clear hlt hk hs hwf
              obtain ⟨hsw, hcnt⟩ := ok.swept lr
              have hsz := hA.size ok hsw
              have hag := hA.again ok hsw
              have hA2 := hA.swept ok hsw
              obtain ⟨hsw2, hcnt2⟩ := hsw.ok.swept lr
              have hA3 := hA2.swept hsw.ok hsw2
              have hsz2 := hA2.size hsw.ok hsw2
              have hrl : lr.length ≤ 100000 := by omega
              have hrw : ∀ r ∈ lr, r ≤ 9223372036854775807 ∧ -9223372036854775808 ≤ r := fun r hr => ok.toBase.there_i64 (hA.1 r hr)
              have hfew : s.all.length ≤ 20000 := Nat.le_trans (numsTo_filter_length s.has s.N.length) ok.toBase.few
              have hre : (s.reach lr).length ≤ s.all.length := by unfold MS.reach; exact List.length_filter_le _ _
              rw [← hsw.all] at hcnt hre
              have HLv := fun V F (hV : StAt V b F s) => H.live hV ok
              have HSw := fun V F (hV : StAt V b F s) hr => C.sweep hV ok lr u10 hr hrl hrw
              have HLv2 := fun V F (hV : StAt V b F (s.sweep lr).2) => H.live hV hsw.ok
              have HOr2 := fun V F (hV : StAt V b F (s.sweep lr).2) => H.order hV hsw.ok
              have HSw2 := fun V F (hV : StAt V b F (s.sweep lr).2) hr => C.sweep hV hsw.ok lr u10 hr hrl hrw
              have HSz := fun V (hV : SliceF V u11 lk) => refSize lk (s.sweep lr).2.o u11 V hV (by omega)
              have ok3 := hsw2.ok
              rw [hag] at HSw2
              rw [hsz] at HSz
              generalize (s.sweep lr).1 = fr at *
              generalize hT : (s.sweep lr).2 = t at *
              generalize hU : (t.sweep lr).2 = u at *
              simp only [ov] at HOr2 HSz
              have hdiff : (s.all.length : Int) - fr = (t.all.length : Int) := by omega
              have hf1 : 0 ≤ fr := by omega
              have hf2 : fr ≤ 20000 := by omega
              have htl : (t.all.length : Int) ≤ 20000 := by omega
              generalize s.all.length = nA at *
              generalize t.all.length = nT at *
              replace P := Lib.hid P
              replace hA3 := Lib.hid hA3
              replace ok3 := Lib.hid ok3
              clear hA ok hsw hcnt hsz hag hA2 hsw2 hcnt2 hsz2 hrw
              go_wp2_with fail
              refine (HLv _ _ P.out.a).mono ?_
              rintro e w7 ⟨rfl, hb7⟩
              replace P := Lib.hid (P.out.keep H hb7)
              clear hb7 HLv
              go_wp2_with fail
              refine (HSw _ _ P.out.a (RootsAt.of_owns P.out.mr.own P.out.mr.out)).mono ?_
              rintro e w8 ⟨rfl, F8, hSt, hK, hW⟩
              replace P := Lib.hid (P.out.store hSt hK hW)
              clear HSw hSt hK hW
              go_wp2_with fail
              refine (HLv2 _ _ P.out.a).mono ?_
              rintro e w9 ⟨rfl, hb9⟩
              replace P := Lib.hid (P.out.keep H hb9)
              clear hb9
              go_wp2_with fail
              refine (HLv2 _ _ P.out.a).mono ?_
              rintro e w10 ⟨rfl, hb9⟩
              replace P := Lib.hid (P.out.keep H hb9)
              clear hb9 HLv2
              go_wp2_with fail
              refine (HOr2 _ _ P.out.a).mono ?_
              rintro e w11 ⟨rfl, hb9⟩
              replace P := Lib.hid (P.out.keep H hb9)
              clear hb9 HOr2
              go_wp2_with fail
              refine (HSz _ P.out.mf.own.reads.sliceF).mono ?_
              rintro e w12 ⟨rfl, hb9⟩
              replace P := Lib.hid (P.out.keep H hb9)
              clear hb9 HSz
              go_wp2_with fail
              refine (HSw2 _ _ P.out.a (RootsAt.of_owns P.out.mr.own P.out.mr.out)).mono ?_
              rintro e w13 ⟨rfl, F13, hSt, hK, hW⟩
              replace P := Lib.hid (P.out.store hSt hK hW)
              clear HSw2 hSt hK hW
              generalize hv9 : (Value.slice ga l.length ca) = v9 at *
              replace hv9 := Lib.hid hv9
              have HT := fun V (hL : LowW V) (hV : StAt V b F13 u) (n : Int) hn => R.table hL hV ok3.out n hn
              have HLv3 := fun V (hV : StAt V b F13 u) => H.live hV ok3.out
              have HSw3 := fun V (hV : StAt V b F13 u) hr => C.sweep hV ok3.out [] (.slice none 0 0) hr (by simp) (fun r h => by cases h)
              have hsn := ok3.out.sweep_none
              have HLv4 := fun V F (hV : StAt V b F (u.sweep []).2) => H.live hV (ok3.out.swept []).1.ok
              rw [hsn.1] at HSw3
              rw [hsn.2] at HLv4
              generalize u.all.length = nU at *
              generalize (u.sweep []).2 = x at *
              clear hsn
              obtain ⟨gr, cr, rfl⟩ : ∃ a c, u10 = .slice a lr.length c := by obtain ⟨a, c, e, _⟩ := P.out.mr.own.form; exact ⟨a, c, e⟩
              obtain ⟨gk, ck, rfl⟩ : ∃ a c, u11 = .slice a lr.length c := by obtain ⟨a, c, e, _⟩ := P.out.mf.own.form; exact ⟨a, c, by rw [e, hlk]⟩
              go_wp2
              clear hdiff hf1 hf2 htl hfew hre
              go_loopw [19] (fun i wr => ∃ k : Nat, k ≤ lr.length ∧ i = .int .i64 k ∧ P12 StAt w1 b F13 u v9 (.slice gr lr.length cr) (.slice gk lr.length ck) la lr lk wr) (fun i _ => lr.length - (intOf i).toNat)
              case atStart => exact ⟨0, Nat.zero_le _, rfl, P.out⟩
              case round =>
                clear P
                obtain ⟨k, hk, rfl, P⟩ := hrel
                by_cases hlt : k < lr.length
                · have hk0 : (0 : Int) ≤ (k : Int) := by omega
                  have hk1 : (k : Int) < (lr.length : Int) := by omega
                  have hlt2 : k < lk.length := by omega
                  obtain ⟨g1, rfl⟩ : ∃ g, gr = some ⟨g, 0, none⟩ := by obtain ⟨g, c, e, _⟩ := P.mr.intAt k hlt; injection e with e; exact ⟨g, e⟩
                  obtain ⟨g2, rfl⟩ : ∃ g, gk = some ⟨g, 0, none⟩ := by obtain ⟨g, c, e, _⟩ := P.mf.fnAt k hlt2; injection e with e; exact ⟨g, e⟩
                  have x0 := fun z : Sub wr => (show z.1.cell? ⟨g1, k, none⟩ = some (.int .i64 lr[k]) by obtain ⟨g', c', e', h'⟩ := (P.keep H z.2).mr.intAt k hlt; cases e'; exact h')
                  have x1 := fun z : Sub wr => (show z.1.cell? ⟨g2, k * 4, none⟩ = some (.int .u64 (wd lk[k] 0)) by obtain ⟨g', c', e', h'⟩ := (P.keep H z.2).mf.fnAt k hlt2; injection e' with e' _ _; cases e'; exact h'.1)
                  have x2 := fun z : Sub wr => (show z.1.cell? ⟨g2, k * 4 + 1, none⟩ = some (.int .u64 (wd lk[k] 1)) by obtain ⟨g', c', e', h'⟩ := (P.keep H z.2).mf.fnAt k hlt2; injection e' with e' _ _; cases e'; exact h'.2.1)
                  have x3 := fun z : Sub wr => (show z.1.cell? ⟨g2, k * 4 + 2, none⟩ = some (.int .u64 (wd lk[k] 2)) by obtain ⟨g', c', e', h'⟩ := (P.keep H z.2).mf.fnAt k hlt2; injection e' with e' _ _; cases e'; exact h'.2.2.1)
                  have x4 := fun z : Sub wr => (show z.1.cell? ⟨g2, k * 4 + 3, none⟩ = some (.int .u64 (wd lk[k] 3)) by obtain ⟨g', c', e', h'⟩ := (P.keep H z.2).mf.fnAt k hlt2; injection e' with e' _ _; cases e'; exact h'.2.2.2)
                  have eT := hA3.out.at k hlt hlt2
                  have hin := ok3.out.toBase.there_i64 (hA3.out.1 _ (List.getElem_mem hlt))
                  have J := fun z : Sub wr => HT z.1 (hL.out.keep (P.below.trans (z.2.mono P.below.size))) (P.keep H z.2).a lr[k] hin
                  rw [← eT] at J
                  generalize lr[k] = n at *
                  generalize lk[k] = f at *
                  replace P := Lib.hid P
                  clear eT hin HT HLv3 HSw3 HLv4 hA3 ok3 hlk hla hlr hn8 hn20
                  go_wp2
                  refine wp_region_quiet_all (C := fun w' => ∃ u : Sub wr, w' = u.1) (by kernel_rfl) (by kernel_rfl) (InSub.drew wr) ?_
                  iterate 5 (go_big_quiet_step (fail))
                  go_big_quiet_step (exact subBelow (J _))
                  iterate 5 (go_big_quiet_step (fail))
                  refine wpQuiet_nil ?_
                  clear x0 x1 x2 x3 x4 J
                  intro w' hw'
                  obtain ⟨z, rfl⟩ := hw'
                  go_wp2
                  exact ⟨⟨k + 1, by omega, by go_num, P.out.keep H z.2⟩, by simp [intOf]; omega⟩
                · obtain rfl : k = lr.length := by omega
                  replace P := Lib.hid P
                  go_wp2_with fail
                  refine (HLv3 _ P.out.a).mono ?_
                  rintro e w14 ⟨rfl, hb9⟩
                  replace P := Lib.hid (P.out.keep H hb9)
                  clear hb9 HLv3
                  go_wp2_with fail
                  refine (HSw3 _ P.out.a (RootsAt.none _ _)).mono ?_
                  rintro e w15 ⟨rfl, F15, hSt, hK, hW⟩
                  replace P := Lib.hid (P.out.store hSt hK hW)
                  clear HSw3 hSt hK hW
                  go_wp2_with fail
                  refine (HLv4 _ _ P.out.a).mono ?_
                  rintro e w16 ⟨rfl, hb9⟩
                  replace P := Lib.hid (P.out.keep H hb9)
                  clear hb9 HLv4
                  obtain rfl := hv9.out
                  go_wp2
                  go_ret
                  exact ⟨rfl, hb1.trans (P.out.below.mono hb1.size)⟩
    · have hl4 : 20 < (swaps.length : Int) := by omega
      go_wp2
      go_ret
      exact ⟨rfl, hb1.trans (P.below.mono hb1.size)⟩
  · have hl3 : 8 < (l.length : Int) := by omega
    go_wp2
    go_ret
    exact ⟨rfl, hb1.trans (P.below.mono hb1.size)⟩

end Go.Proofs.YtmbonbicokbihaaGreatDoor

/-
  Walk of math/bits.OnesCount64: how many bits of a word are set.
-/
namespace Go.Proofs.YtmbonbicokbihaaGreatDoor
open Go Go.RowKit

/-- How many of the bits below k are set. -/
def bitSum (x : Nat) : Nat → Nat
  | 0 => 0
  | k + 1 => bitSum x k + x / 2 ^ k % 2

theorem bitSum_le (x k : Nat) : bitSum x k ≤ k := by
  induction k with
  | zero => simp [bitSum]
  | succ k ih => simp only [bitSum]; omega

theorem bitSum_byte (x k : Nat) : bitSum x (8 + k) = bitSum (x % 256) 8 + bitSum (x / 256) k := by
  induction k with
  | zero =>
    simp only [bitSum]
    omega
  | succ k ih =>
    have e : x / 2 ^ (8 + k) = x / 256 / 2 ^ k := by rw [Nat.pow_add, ← Nat.div_div_eq_div_mul]
    rw [← Nat.add_assoc, show bitSum x (8 + k + 1) = bitSum x (8 + k) + x / 2 ^ (8 + k) % 2 from rfl, ih, e, Nat.add_assoc]
    rfl

theorem and_byte (a b c d : Nat) (hb : b < 256) (hd : d < 256) : (256 * a + b) &&& (256 * c + d) = 256 * (a &&& c) + (b &&& d) := by
  have hbd : b &&& d < 256 := Nat.and_lt_two_pow b (n := 8) hd
  have e : ∀ x y : Nat, y < 256 → ∀ i, (256 * x + y).testBit i = if i < 8 then y.testBit i else x.testBit (i - 8) := fun x y hy i => Nat.testBit_two_pow_mul_add (i := 8) x hy i
  refine Nat.eq_of_testBit_eq fun i => ?_
  rw [Nat.testBit_and, e a b hb, e c d hd, e _ _ hbd]
  split
  · rw [Nat.testBit_and]
  · rw [Nat.testBit_and]

/-- A byte repeated n times. -/
def rep (m : Nat) : Nat → Nat
  | 0 => 0
  | n + 1 => 256 * rep m n + m

/-- The three steps, on n bytes. -/
def st1 (n x : Nat) : Nat := (x / 2 &&& rep 85 n) + (x &&& rep 85 n)
def st2 (n x : Nat) : Nat := (x / 4 &&& rep 51 n) + (x &&& rep 51 n)
def st3 (n x : Nat) : Nat := (x / 16 + x) &&& rep 15 n

/-- The same, of a byte. -/
def by1 (b : Nat) : Nat := (b / 2 &&& 85) + (b &&& 85)
def by2 (b : Nat) : Nat := (b / 4 &&& 51) + (b &&& 51)

theorem st1_step (n A B : Nat) (hB : B < 256) : st1 (n + 1) (256 * A + B) = 256 * st1 n A + by1 B := by
  have H : ∀ r : Fin 2, ∀ b : Fin 256, (128 * (r : Nat) + b / 2) &&& 85 = (b : Nat) / 2 &&& 85 := by decide +kernel
  have h : (128 * (A % 2) + B / 2) &&& 85 = B / 2 &&& 85 := H ⟨A % 2, by omega⟩ ⟨B, hB⟩
  have e : (256 * A + B) / 2 = 256 * (A / 2) + (128 * (A % 2) + B / 2) := by omega
  unfold st1 by1
  rw [rep, e, and_byte _ _ _ _ (by omega) (by decide), and_byte _ _ _ _ hB (by decide), h]
  omega

theorem st2_step (n A B : Nat) (hB : B < 256) : st2 (n + 1) (256 * A + B) = 256 * st2 n A + by2 B := by
  have H : ∀ r : Fin 4, ∀ b : Fin 256, (64 * (r : Nat) + b / 4) &&& 51 = (b : Nat) / 4 &&& 51 := by decide +kernel
  have h : (64 * (A % 4) + B / 4) &&& 51 = B / 4 &&& 51 := H ⟨A % 4, by omega⟩ ⟨B, hB⟩
  have e : (256 * A + B) / 4 = 256 * (A / 4) + (64 * (A % 4) + B / 4) := by omega
  unfold st2 by2
  rw [rep, e, and_byte _ _ _ _ (by omega) (by decide), and_byte _ _ _ _ hB (by decide), h]
  omega

theorem st3_step (n A B : Nat) (hB : B ≤ 68) (hA : A % 16 ≤ 4) : st3 (n + 1) (256 * A + B) = 256 * st3 n A + (B / 16 + B) % 16 := by
  have H : ∀ r : Fin 5, ∀ b : Fin 69, (16 * (r : Nat) + b / 16 + b) &&& 15 = ((b : Nat) / 16 + b) % 16 := by decide +kernel
  have h : (16 * (A % 16) + B / 16 + B) &&& 15 = (B / 16 + B) % 16 := H ⟨A % 16, by omega⟩ ⟨B, by omega⟩
  have e : (256 * A + B) / 16 + (256 * A + B) = 256 * (A / 16 + A) + (16 * (A % 16) + B / 16 + B) := by omega
  unfold st3
  rw [rep, e, and_byte _ _ _ _ (by omega) (by decide), h]

theorem by_all (b : Nat) (hb : b < 256) : by1 b < 256 ∧ by2 (by1 b) ≤ 68 ∧ by2 (by1 b) % 16 ≤ 4 ∧ (by2 (by1 b) / 16 + by2 (by1 b)) % 16 = bitSum b 8 := by
  have H : ∀ b : Fin 256, by1 b < 256 ∧ by2 (by1 b) ≤ 68 ∧ by2 (by1 b) % 16 ≤ 4 ∧ (by2 (by1 b) / 16 + by2 (by1 b)) % 16 = bitSum b 8 := by decide +kernel
  exact H ⟨b, hb⟩

theorem st_low (n x : Nat) : st2 n (st1 n x) % 16 ≤ 4 := by
  cases n with
  | zero => simp [st2, st1, rep]
  | succ n =>
    obtain ⟨h1, _, h3, _⟩ := by_all (x % 256) (by omega)
    have e : st1 (n + 1) x = 256 * st1 n (x / 256) + by1 (x % 256) := by
      have := st1_step n (x / 256) (x % 256) (by omega)
      rwa [show 256 * (x / 256) + x % 256 = x by omega] at this
    rw [e, st2_step _ _ _ h1]
    omega

theorem st_all (n x : Nat) : st3 (n + 1) (st2 (n + 1) (st1 (n + 1) x)) = 256 * st3 n (st2 n (st1 n (x / 256))) + bitSum (x % 256) 8 := by
  obtain ⟨h1, h2, _, h4⟩ := by_all (x % 256) (by omega)
  have e : st1 (n + 1) x = 256 * st1 n (x / 256) + by1 (x % 256) := by
    have := st1_step n (x / 256) (x % 256) (by omega)
    rwa [show 256 * (x / 256) + x % 256 = x by omega] at this
  rw [e, st2_step _ _ _ h1, st3_step _ _ _ h2 (st_low n _), h4]

theorem rep_85 : rep 85 8 = 6148914691236517205 := by decide
theorem rep_51 : rep 51 8 = 3689348814741910323 := by decide
theorem rep_15 : rep 15 8 = 1085102592571150095 := by decide

theorem ones_one (x : Nat) (hx : x < 18446744073709551616) : IntKind.u64.wrap (bits BinOp.and IntKind.u64 ((x : Int) / 2) 6148914691236517205 + bits BinOp.and IntKind.u64 (x : Int) 6148914691236517205) = (st1 8 x : Nat) := by
  rw [show (x : Int) / 2 = ((x / 2 : Nat) : Int) by omega, show (6148914691236517205 : Int) = ((rep 85 8 : Nat) : Int) by rw [rep_85]; rfl,
    bits_and_u64_nat _ _ (by omega) (by rw [rep_85]; omega), bits_and_u64_nat _ _ hx (by rw [rep_85]; omega), IntKind.wrap_u64]
  have h1 : x / 2 &&& rep 85 8 ≤ 6148914691236517205 := by rw [← rep_85]; exact Nat.and_le_right
  have h2 : x &&& rep 85 8 ≤ 6148914691236517205 := by rw [← rep_85]; exact Nat.and_le_right
  unfold st1
  omega

theorem ones_two (x : Nat) (hx : x < 18446744073709551616) : IntKind.u64.wrap (bits BinOp.and IntKind.u64 ((x : Int) / 4) 3689348814741910323 + bits BinOp.and IntKind.u64 (x : Int) 3689348814741910323) = (st2 8 x : Nat) := by
  rw [show (x : Int) / 4 = ((x / 4 : Nat) : Int) by omega, show (3689348814741910323 : Int) = ((rep 51 8 : Nat) : Int) by rw [rep_51]; rfl,
    bits_and_u64_nat _ _ (by omega) (by rw [rep_51]; omega), bits_and_u64_nat _ _ hx (by rw [rep_51]; omega), IntKind.wrap_u64]
  have h1 : x / 4 &&& rep 51 8 ≤ 3689348814741910323 := by rw [← rep_51]; exact Nat.and_le_right
  have h2 : x &&& rep 51 8 ≤ 3689348814741910323 := by rw [← rep_51]; exact Nat.and_le_right
  unfold st2
  omega

theorem ones_three (x : Nat) (hx : x ≤ 7378697629483820646) : bits BinOp.and IntKind.u64 (IntKind.u64.wrap ((x : Int) / 16 + x)) 1085102592571150095 = (st3 8 x : Nat) := by
  rw [show IntKind.u64.wrap ((x : Int) / 16 + x) = ((x / 16 + x : Nat) : Int) by rw [IntKind.wrap_u64]; omega, show (1085102592571150095 : Int) = ((rep 15 8 : Nat) : Int) by rw [rep_15]; rfl,
    bits_and_u64_nat _ _ (by omega) (by rw [rep_15]; omega)]
  rfl

theorem st1_lt (x : Nat) : st1 8 x < 18446744073709551616 := by
  have h1 : x / 2 &&& rep 85 8 ≤ 6148914691236517205 := by rw [← rep_85]; exact Nat.and_le_right
  have h2 : x &&& rep 85 8 ≤ 6148914691236517205 := by rw [← rep_85]; exact Nat.and_le_right
  unfold st1
  omega

theorem st2_le (x : Nat) : st2 8 x ≤ 7378697629483820646 := by
  have h1 : x / 4 &&& rep 51 8 ≤ 3689348814741910323 := by rw [← rep_51]; exact Nat.and_le_right
  have h2 : x &&& rep 51 8 ≤ 3689348814741910323 := by rw [← rep_51]; exact Nat.and_le_right
  unfold st2
  omega

/-- The sum of eight bytes, none above 8. -/
theorem ones_last (z q1 q2 q3 q4 q5 q6 p0 p1 p2 p3 p4 p5 p6 p7 : Nat) (h0 : p0 ≤ 8) (h1 : p1 ≤ 8) (h2 : p2 ≤ 8) (h3 : p3 ≤ 8) (h4 : p4 ≤ 8) (h5 : p5 ≤ 8) (h6 : p6 ≤ 8) (h7 : p7 ≤ 8)
    (k6 : q6 = 256 * p7 + p6) (k5 : q5 = 256 * q6 + p5) (k4 : q4 = 256 * q5 + p4) (k3 : q3 = 256 * q4 + p3) (k2 : q2 = 256 * q3 + p2) (k1 : q1 = 256 * q2 + p1) (k0 : z = 256 * q1 + p0) :
    z + z / 256 = z + q1 ∧ z + q1 + (z + q1) / 65536 = z + q1 + (q2 + q3) ∧ z + q1 + (q2 + q3) + (z + q1 + (q2 + q3)) / 4294967296 = z + q1 + (q2 + q3) + (q4 + q5 + q6 + p7) ∧
      z + q1 + (q2 + q3) + (q4 + q5 + q6 + p7) < 9223372036854775808 ∧ (z + q1 + (q2 + q3) + (q4 + q5 + q6 + p7)) % 128 = p0 + p1 + p2 + p3 + p4 + p5 + p6 + p7 := by
  have b7 : q6 ≤ 2056 := by omega
  have b5 : q5 ≤ 526344 := by omega
  have b4 : q4 ≤ 134744072 := by omega
  have b3 : q3 ≤ 34494482440 := by omega
  have b2 : q2 ≤ 8830587504648 := by omega
  have b1 : q1 ≤ 2260630401189896 := by omega
  have b0 : z ≤ 578721382704613384 := by omega
  refine ⟨by omega, ?_, ?_, by omega, ?_⟩
  · have a1 : z = 65536 * q2 + (256 * p1 + p0) := by omega
    have a2 : q1 = 65536 * q3 + (256 * p2 + p1) := by omega
    clear k6 k5 k4 k3 k2 k1 k0
    omega
  · have a1 : z = 4294967296 * q4 + (16777216 * p3 + 65536 * p2 + 256 * p1 + p0) := by omega
    have a2 : q1 = 4294967296 * q5 + (16777216 * p4 + 65536 * p3 + 256 * p2 + p1) := by omega
    have a3 : q2 = 4294967296 * q6 + (16777216 * p5 + 65536 * p4 + 256 * p3 + p2) := by omega
    have a4 : q3 = 4294967296 * p7 + (16777216 * p6 + 65536 * p5 + 256 * p4 + p3) := by omega
    clear k6 k5 k4 k3 k2 k1 k0 b0 b1 b2 b3 b4 b5 b7
    omega
  · clear b0 b1 b2 b3 b4 b5 b7
    omega

theorem bits_and_127 (x : Nat) (hx : x < 9223372036854775808) : bits BinOp.and IntKind.i64 (wrap64 (x : Int)) 127 = ((x % 128 : Nat) : Int) := by
  have h1 : wrap64 (x : Int) = (x : Int) := by rw [wrap64]; omega
  have h2 : (BitVec.ofInt 64 (x : Int)).toNat = x := by rw [BitVec.ofInt_natCast, BitVec.toNat_ofNat]; exact Nat.mod_eq_of_lt (by omega)
  have h3 : (BitVec.ofInt 64 (127 : Int)).toNat = 127 := by decide
  rw [h1]
  show IntKind.i64.wrap ((BitVec.ofInt 64 (x : Int) &&& BitVec.ofInt 64 (127 : Int)).toNat : Int) = _
  rw [BitVec.toNat_and, h2, h3, show (127 : Nat) = 2 ^ 7 - 1 by decide, Nat.and_two_pow_sub_one_eq_mod, IntKind.wrap_i64]
  omega

theorem bitSum_64 (x : Nat) : bitSum x 64 = bitSum (x % 256) 8 + (bitSum (x / 256 % 256) 8 + (bitSum (x / 256 / 256 % 256) 8 + (bitSum (x / 256 / 256 / 256 % 256) 8 + (bitSum (x / 256 / 256 / 256 / 256 % 256) 8 + (bitSum (x / 256 / 256 / 256 / 256 / 256 % 256) 8 + (bitSum (x / 256 / 256 / 256 / 256 / 256 / 256 % 256) 8 + bitSum (x / 256 / 256 / 256 / 256 / 256 / 256 / 256 % 256) 8)))))) := by
  rw [bitSum_byte x 56, bitSum_byte (x / 256) 48, bitSum_byte (x / 256 / 256) 40, bitSum_byte (x / 256 / 256 / 256) 32, bitSum_byte (x / 256 / 256 / 256 / 256) 24, bitSum_byte (x / 256 / 256 / 256 / 256 / 256) 16, bitSum_byte (x / 256 / 256 / 256 / 256 / 256 / 256) 8, bitSum_byte (x / 256 / 256 / 256 / 256 / 256 / 256 / 256) 0]
  rfl

/-- All of it. -/
theorem ones_end (x : Nat) : ∃ z1 z2 z3 : Nat, IntKind.u64.wrap ((st3 8 (st2 8 (st1 8 x)) : Int) + (st3 8 (st2 8 (st1 8 x)) : Int) / 256) = (z1 : Int) ∧ IntKind.u64.wrap ((z1 : Int) + (z1 : Int) / 65536) = (z2 : Int) ∧
    IntKind.u64.wrap ((z2 : Int) + (z2 : Int) / 4294967296) = (z3 : Int) ∧ z3 < 9223372036854775808 ∧ z3 % 128 = bitSum x 64 := by
  have hz := st_all 7 x
  rw [st_all 6, st_all 5, st_all 4, st_all 3, st_all 2, st_all 1, st_all 0, show ∀ y, st3 0 y = 0 from fun y => Nat.and_zero _] at hz
  rw [bitSum_64]
  have l0 := bitSum_le (x % 256) 8
  have l1 := bitSum_le (x / 256 % 256) 8
  have l2 := bitSum_le (x / 256 / 256 % 256) 8
  have l3 := bitSum_le (x / 256 / 256 / 256 % 256) 8
  have l4 := bitSum_le (x / 256 / 256 / 256 / 256 % 256) 8
  have l5 := bitSum_le (x / 256 / 256 / 256 / 256 / 256 % 256) 8
  have l6 := bitSum_le (x / 256 / 256 / 256 / 256 / 256 / 256 % 256) 8
  have l7 := bitSum_le (x / 256 / 256 / 256 / 256 / 256 / 256 / 256 % 256) 8
  generalize bitSum (x % 256) 8 = p0 at *
  generalize bitSum (x / 256 % 256) 8 = p1 at *
  generalize bitSum (x / 256 / 256 % 256) 8 = p2 at *
  generalize bitSum (x / 256 / 256 / 256 % 256) 8 = p3 at *
  generalize bitSum (x / 256 / 256 / 256 / 256 % 256) 8 = p4 at *
  generalize bitSum (x / 256 / 256 / 256 / 256 / 256 % 256) 8 = p5 at *
  generalize bitSum (x / 256 / 256 / 256 / 256 / 256 / 256 % 256) 8 = p6 at *
  generalize bitSum (x / 256 / 256 / 256 / 256 / 256 / 256 / 256 % 256) 8 = p7 at *
  generalize st3 (7 + 1) (st2 (7 + 1) (st1 (7 + 1) x)) = z at *
  rw [show 256 * 0 + p7 = p7 by omega] at hz
  generalize k6 : 256 * p7 + p6 = q6 at hz
  generalize k5 : 256 * q6 + p5 = q5 at hz
  generalize k4 : 256 * q5 + p4 = q4 at hz
  generalize k3 : 256 * q4 + p3 = q3 at hz
  generalize k2 : 256 * q3 + p2 = q2 at hz
  generalize k1 : 256 * q2 + p1 = q1 at hz
  obtain ⟨e1, e2, e3, e4, e5⟩ := ones_last z q1 q2 q3 q4 q5 q6 p0 p1 p2 p3 p4 p5 p6 p7 l0 l1 l2 l3 l4 l5 l6 l7 k6.symm k5.symm k4.symm k3.symm k2.symm k1.symm hz
  clear k6 k5 k4 k3 k2 k1 hz l0 l1 l2 l3 l4 l5 l6 l7
  refine ⟨z + q1, z + q1 + (q2 + q3), z + q1 + (q2 + q3) + (q4 + q5 + q6 + p7), ?_, ?_, ?_, e4, by rw [e5]; omega⟩
  · clear e2 e3 e5
    rw [IntKind.wrap_u64]
    omega
  · clear e1 e3 e5
    rw [IntKind.wrap_u64]
    omega
  · clear e1 e2 e5
    rw [IntKind.wrap_u64]
    omega


end Go.Proofs.YtmbonbicokbihaaGreatDoor
