/-
  Texts of this proof, one behind the other: RefSize, SweepK, CanonS, SiftK, Open, Open3.
-/
import Derived.Test.YtdcomiopjgcboaaGreatDoorG19
import Derived.Test.YtdcomiopjgcboaaGreatDoorG11
import Derived.Test.YtdcomiopjgcboaaGreatDoorG16
import Derived.Test.YtdcomiopjgcboaaGreatDoorG15
import Derived.Test.YtdcomiopjgcboaaGreatDoorG13
import Derived.Deep.CutRange
import Derived.OwnWalk
import Derived.Test.YtdcomiopjgcboaaGreatDoorG6
import Derived.Test.YtdcomiopjgcboaaGreatDoorG14
import Derived.Test.YtdcomiopjgcboaaGreatDoorG5
import Derived.Test.YtdcomiopjgcboaaGreatDoorRows
import Derived.ProofKit
import Derived.OpenShut
import Derived.LaidLaws
import Derived.ChangeVars
import Derived.Laws.IdiomArrays
import Derived.Stop.Joined
import Derived.Deep.Slices
import Derived.Carry
import Derived.SizedLaws
/-
  Walk of the document's Size and Plain.
-/
namespace Go.Proofs.YtdcomiopjgcboaaGreatDoor
open Go Go.RowKit Go.Maps

theorem OwnsF.form {w : World} {base : Nat} {v : Value} {l : List Fn} (h : OwnsF w base v l) : ∃ a cap, v = .slice a l.length cap := by
  obtain ⟨h1, ⟨rfl, h2⟩ | ⟨g, cap, cur, rfl, hr⟩⟩ := h
  · exact ⟨none, 0, by rw [h2]⟩
  · exact ⟨_, _, rfl⟩

set_option maxRecDepth 100000 in
set_option maxHeartbeats 400000 in
theorem refSize (l : List Fn) (o : Nat → Int) (v : Value) (w : World) (hv : SliceF w v l) (hl : l.length ≤ 40) :
    Calls Tryz.prog 21 #[v, ov o] w fun e w' => e = .returned (.int .i64 (sizeF l o)) ∧ Below w.heap.size w w' := by
  have hb0 : Below w.heap.size w (w.alloc (.cells #[.int .i64 (o 0), .int .i64 (o 1), .int .i64 (o 2), .int .i64 (o 3), .int .i64 (o 4), .int .i64 (o 5), .int .i64 (o 6), .int .i64 (o 7)] 49)) := by go_grown
  have hv0 := hv.keep hb0 (Nat.le_refl _)
  simp only [ov]
  go_enter Tryz.func21, Tryz.ntmps21
  go_wp2_with fail
  refine (refNodes l o v _ hv0 hl).mono ?_
  rintro e w1 ⟨v1, out, rfl, h1, h2, hb1⟩
  have Hz := Lib.hid (sizeF_eq h2)
  obtain ⟨a, cap, rfl⟩ := h1.form
  clear h2
  go_wp2
  go_ret
  exact ⟨ret_int (by rw [Hz.out]), hb0.trans (hb1.mono hb0.size)⟩

end Go.Proofs.YtdcomiopjgcboaaGreatDoor

/-
  SweepKeeps over contracts.
-/
namespace Go.Proofs.YtdcomiopjgcboaaGreatDoor
open Go Go.RowKit
attribute [local go_sem] run_eql_fv run_eql_fv1 run_neq_fv run_neq_fv1 run_guard_fv run_guard_fv1 run_eql_fv2 run_guard_fv2 run_equal_fv2

/-- The code's store, and three lists beside it. -/
structure P12 (StAt : World → Nat → (Nat → Prop) → MS → Prop) (w0 : World) (b : Nat) (F : Nat → Prop) (s : MS) (va vr vk : Value) (la lr : List Int) (lk : List Fn) (W : World) : Prop where
  a : StAt W b F s
  lowF : ∀ q, F q → w0.heap.size ≤ q
  ma : Mine encI w0 F va la W
  mr : Mine encI w0 F vr lr W
  mf : Mine encFn w0 F vk lk W
  ar : ∀ g, va.ownBlock = some g → vr.ownBlock ≠ some g
  ak : ∀ g, va.ownBlock = some g → vk.ownBlock ≠ some g
  rk : ∀ g, vr.ownBlock = some g → vk.ownBlock ≠ some g
  below : Below w0.heap.size w0 W

section
variable {StAt : World → Nat → (Nat → Prop) → MS → Prop} {w0 W W' : World} {b : Nat} {F F' : Nat → Prop} {s t : MS} {va vr vk v' : Value} {la lr l' : List Int} {lk k' : List Fn}
theorem P12.keep (H : StoreC StAt) (h : P12 StAt w0 b F s va vr vk la lr lk W) (hb : Below W.heap.size W W') : P12 StAt w0 b F s va vr vk la lr lk W' :=
  ⟨H.below h.a hb, h.lowF, h.ma.below hb, h.mr.below hb, h.mf.below hb, h.ar, h.ak, h.rk, h.below.trans (hb.mono h.below.size)⟩
theorem P12.store (h : P12 StAt w0 b F s va vr vk la lr lk W) (hA : StAt W' b F' t) (hK : Keeps F W W') (hW : Within W F F') : P12 StAt w0 b F' t va vr vk la lr lk W' :=
  ⟨hA, fun q hq => (hW q hq).elim (h.lowF q) (fun h3 => Nat.le_trans h.below.size h3), h.ma.store hK hW, h.mr.store hK hW, h.mf.store hK hW, h.ar, h.ak, h.rk, h.below.trans (hK.below h.below.size h.lowF)⟩
theorem P12.pushA (H : StoreC StAt) (h : P12 StAt w0 b F s va vr vk la lr lk W) (hown : Owns encI W' v' l') (hg : W.grownBy W' va.ownBlock) (hat : v'.ownBlock = va.ownBlock ∨ v'.ownBlock = some W.heap.size) :
    P12 StAt w0 b F s v' vr vk l' lr lk W' :=
by
  refine ⟨H.keep h.a (Keeps.of_grown (F := fun q => va.ownBlock = some q) hg fun _ e => e) (fun q h1 h2 => h.ma.out q h2 h1), h.lowF, h.ma.push h.below.size (H.lt h.a) hown hat, h.mr.grown hg fun g hg e => h.ar g e hg, h.mf.grown hg fun g hg e => h.ak g e hg, fun g hg e => ?_, fun g hg e => ?_, h.rk, h.below.grown hg h.below.size fun g hg => h.ma.low g hg⟩
  · rcases hat with x | x
    · exact h.ar g (x ▸ hg) e
    · rw [x] at hg; cases hg; have := h.mr.own.lt _ e; omega
  · rcases hat with x | x
    · exact h.ak g (x ▸ hg) e
    · rw [x] at hg; cases hg; have := h.mf.own.lt _ e; omega
theorem P12.pushR (H : StoreC StAt) (h : P12 StAt w0 b F s va vr vk la lr lk W) (hown : Owns encI W' v' l') (hg : W.grownBy W' vr.ownBlock) (hat : v'.ownBlock = vr.ownBlock ∨ v'.ownBlock = some W.heap.size) :
    P12 StAt w0 b F s va v' vk la l' lk W' :=
by
  refine ⟨H.keep h.a (Keeps.of_grown (F := fun q => vr.ownBlock = some q) hg fun _ e => e) (fun q h1 h2 => h.mr.out q h2 h1), h.lowF, h.ma.grown hg fun g hg e => h.ar g hg e, h.mr.push h.below.size (H.lt h.a) hown hat, h.mf.grown hg fun g hg e => h.rk g e hg, fun g hg e => ?_, h.ak, fun g hg e => ?_, h.below.grown hg h.below.size fun g hg => h.mr.low g hg⟩
  · rcases hat with x | x
    · exact h.ar g hg (x ▸ e)
    · rw [x] at e; cases e; have := h.ma.own.lt _ hg; omega
  · rcases hat with x | x
    · exact h.rk g (x ▸ hg) e
    · rw [x] at hg; cases hg; have := h.mf.own.lt _ e; omega
theorem P12.pushK (H : StoreC StAt) (h : P12 StAt w0 b F s va vr vk la lr lk W) (hown : Owns encFn W' v' k') (hg : W.grownBy W' vk.ownBlock) (hat : v'.ownBlock = vk.ownBlock ∨ v'.ownBlock = some W.heap.size) :
    P12 StAt w0 b F s va vr v' la lr k' W' :=
by
  refine ⟨H.keep h.a (Keeps.of_grown (F := fun q => vk.ownBlock = some q) hg fun _ e => e) (fun q h1 h2 => h.mf.out q h2 h1), h.lowF, h.ma.grown hg fun g hg e => h.ak g hg e, h.mr.grown hg fun g hg e => h.rk g hg e, h.mf.push h.below.size (H.lt h.a) hown hat, h.ar, fun g hg e => ?_, fun g hg e => ?_, h.below.grown hg h.below.size fun g hg => h.mf.low g hg⟩
  · rcases hat with x | x
    · exact h.ak g hg (x ▸ e)
    · rw [x] at e; cases e; have := h.ma.own.lt _ hg; omega
  · rcases hat with x | x
    · exact h.rk g hg (x ▸ e)
    · rw [x] at e; cases e; have := h.mr.own.lt _ hg; omega
theorem P12.start (_H : StoreC StAt) (hA : StAt W b F s) (hF : ∀ q, F q → w0.heap.size ≤ q) (hb : Below w0.heap.size w0 W) : P12 StAt w0 b F s (.slice none 0 0) (.slice none 0 0) (.slice none 0 0) [] [] [] W :=
  ⟨hA, hF, Mine.nil _ _ _ _, Mine.nil _ _ _ _, Mine.nil _ _ _ _, (fun g h => by cases h), (fun g h => by cases h), (fun g h => by cases h), hb⟩
end

/-- What is known of roots: each is there, and is its function. -/
def Are (s : MS) (lr : List Int) (lk : List Fn) : Prop := (∀ r ∈ lr, s.there r = true) ∧ lr.map s.tab = lk
theorem Are.nil (s : MS) : Are s [] [] := ⟨(fun r h => by cases h), rfl⟩
theorem Are.grows {s t : MS} {lr : List Int} {lk : List Fn} (h : Are s lr lk) (g : MS.Grows s t) : Are t lr lk :=
  ⟨fun r hr => g.there r (h.1 r hr), by rw [← h.2]; exact List.map_congr_left fun r hr => g.tab (h.1 r hr)⟩
theorem Are.snoc {s : MS} {lr : List Int} {lk : List Fn} (h : Are s lr lk) {n : Int} {f : Fn} (hn : s.there n = true) (e : s.tab n = f) : Are s (lr ++ [n]) (lk ++ [f]) :=
  ⟨fun r hr => (List.mem_append.1 hr).elim (h.1 r) (fun h => by rw [List.mem_singleton.1 h]; exact hn), by rw [List.map_append, h.2]; simp [e]⟩

theorem Are.swept {s t : MS} {lr : List Int} {lk : List Fn} (h : Are s lr lk) (ok : s.Ok) (hs : Swept s lr t) : Are t lr lk :=
  ⟨fun r hr => hs.there hr (h.1 r hr), by rw [← h.2]; exact List.map_congr_left fun r hr => hs.tab ok fun hh => .root hr hh⟩
theorem Are.size {s t : MS} {lr : List Int} {lk : List Fn} (h : Are s lr lk) (ok : s.Ok) (hs : Swept s lr t) : sizeF lk t.o = t.all.length := by
  rw [hs.o, ← h.2]; exact hs.size ok h.1
/-- Swept again nothing is freed. -/
theorem Are.again {s t : MS} {lr : List Int} {lk : List Fn} (h : Are s lr lk) (ok : s.Ok) (hs : Swept s lr t) : (t.sweep lr).1 = 0 := by
  obtain ⟨h1, h2⟩ := hs.ok.swept lr
  have e1 := h.size ok hs
  have e2 := (h.swept ok hs).size hs.ok h1
  rw [h1.o, e1] at e2
  have := h1.all
  rw [this] at e2
  omega
theorem Are.le {s : MS} {lr : List Int} {lk : List Fn} (h : Are s lr lk) : lk.length = lr.length := by rw [← h.2, List.length_map]
theorem Are.at {s : MS} {lr : List Int} {lk : List Fn} (h : Are s lr lk) (i : Nat) (hi : i < lr.length) (hk : i < lk.length) : lk[i] = s.tab lr[i] := by
  have := h.2
  subst this
  simp
theorem Mine.fnAt {w0 W : World} {F : Nat → Prop} {v : Value} {l : List Fn} (h : Mine encFn w0 F v l W) (i : Nat) (hi : i < l.length) : ∃ g c, v = .slice (some ⟨g, 0, none⟩) l.length c ∧ W.cell? ⟨g, i * 4, none⟩ = some (.int .u64 (wd l[i] 0)) ∧ W.cell? ⟨g, i * 4 + 1, none⟩ = some (.int .u64 (wd l[i] 1)) ∧
    W.cell? ⟨g, i * 4 + 2, none⟩ = some (.int .u64 (wd l[i] 2)) ∧ W.cell? ⟨g, i * 4 + 3, none⟩ = some (.int .u64 (wd l[i] 3)) := by
  obtain ⟨g, c, rfl, _, _⟩ := h.own.some (by omega)
  obtain ⟨ad, e, q⟩ := h.own.reads.at i hi
  cases e
  have q0 := q 0 (by decide)
  have q1 := q 1 (by decide)
  have q2 := q 2 (by decide)
  have q3 := q 3 (by decide)
  simp only [encFn] at q0 q1 q2 q3
  refine ⟨g, c, rfl, ?_, ?_, ?_, ?_⟩
  · have e : (⟨g, 0, none⟩ : Addr).add (i * 4 + 0) = ⟨g, i * 4, none⟩ := by simp [Addr.add]; omega
    rw [e] at q0; simpa using q0
  · have e : (⟨g, 0, none⟩ : Addr).add (i * 4 + 1) = ⟨g, i * 4 + 1, none⟩ := by simp [Addr.add]
    rw [e] at q1; simpa using q1
  · have e : (⟨g, 0, none⟩ : Addr).add (i * 4 + 2) = ⟨g, i * 4 + 2, none⟩ := by simp [Addr.add]
    rw [e] at q2; simpa using q2
  · have e : (⟨g, 0, none⟩ : Addr).add (i * 4 + 3) = ⟨g, i * 4 + 3, none⟩ := by simp [Addr.add]
    rw [e] at q3; simpa using q3
theorem Mine.intAt {w0 W : World} {F : Nat → Prop} {v : Value} {l : List Int} (h : Mine encI w0 F v l W) (i : Nat) (hi : i < l.length) : ∃ g c, v = .slice (some ⟨g, 0, none⟩) l.length c ∧ W.cell? ⟨g, i, none⟩ = some (.int .i64 l[i]) := by
  obtain ⟨g, c, rfl, _, _⟩ := h.own.some (by omega)
  exact ⟨g, c, rfl, h.own.intAt i hi⟩


end Go.Proofs.YtdcomiopjgcboaaGreatDoor

/-
  CanonSmall over contracts.
-/
namespace Go.Proofs.YtdcomiopjgcboaaGreatDoor
open Go Go.RowKit
attribute [local go_sem] run_eql_fv run_eql_fv1 run_neq_fv run_neq_fv1 run_guard_fv run_guard_fv1 run_eql_fv2 run_guard_fv2 run_equal_fv2 run_equal_same' run_guard_order

/-- A store and a list beside it. -/
structure PL (StAt : World → Nat → (Nat → Prop) → MS → Prop) (w0 : World) (b : Nat) (F : Nat → Prop) (s : MS) (v : Value) (l : List Int) (W : World) : Prop where
  a : StAt W b F s
  lowF : ∀ q, F q → w0.heap.size ≤ q
  m : Mine encI w0 F v l W
  below : Below w0.heap.size w0 W
section
variable {StAt : World → Nat → (Nat → Prop) → MS → Prop} {w0 W W' : World} {b : Nat} {F F' : Nat → Prop} {s t : MS} {v v' : Value} {l l' : List Int}
theorem PL.keep (H : StoreC StAt) (h : PL StAt w0 b F s v l W) (hb : Below W.heap.size W W') : PL StAt w0 b F s v l W' := ⟨H.below h.a hb, h.lowF, h.m.below hb, h.below.trans (hb.mono h.below.size)⟩
theorem PL.store (h : PL StAt w0 b F s v l W) (hA : StAt W' b F' t) (hK : Keeps F W W') (hW : Within W F F') : PL StAt w0 b F' t v l W' :=
  ⟨hA, fun q hq => (hW q hq).elim (h.lowF q) (fun h3 => Nat.le_trans h.below.size h3), h.m.store hK hW, h.below.trans (hK.below h.below.size h.lowF)⟩
theorem PL.push (H : StoreC StAt) (h : PL StAt w0 b F s v l W) (hown : Owns encI W' v' l') (hg : W.grownBy W' v.ownBlock) (hat : v'.ownBlock = v.ownBlock ∨ v'.ownBlock = some W.heap.size) : PL StAt w0 b F s v' l' W' :=
  ⟨H.keep h.a (Keeps.of_grown (F := fun q => v.ownBlock = some q) hg fun _ e => e) (fun q h1 h2 => h.m.out q h2 h1), h.lowF, h.m.push h.below.size (H.lt h.a) hown hat, h.below.grown hg h.below.size fun g hg => h.m.low g hg⟩
end


end Go.Proofs.YtdcomiopjgcboaaGreatDoor

/-
  SiftKeeps over contracts.
-/
namespace Go.Proofs.YtdcomiopjgcboaaGreatDoor
open Go Go.RowKit
attribute [local go_sem] run_eql_fv run_eql_fv1 run_neq_fv run_neq_fv1 run_guard_fv run_guard_fv1 run_eql_fv2 run_guard_fv2 run_equal_fv2 run_equal_same' run_guard_order

/-- A store, a list and two orders beside it. -/
structure Two (StAt : World → Nat → (Nat → Prop) → MS → Prop) (w0 : World) (b : Nat) (F : Nat → Prop) (s : MS) (v : Value) (l : List Int) (b1 b2 : Nat) (o1 o2 : Nat → Int) (W : World) : Prop where
  p : PL StAt w0 b F s v l W
  o1 : HoldsO W b1 o1
  o2 : HoldsO W b2 o2
theorem Two.keep {StAt : World → Nat → (Nat → Prop) → MS → Prop} {w0 W W' : World} {b b1 b2 : Nat} {F : Nat → Prop} {s : MS} {v : Value} {l : List Int} {o1 o2 : Nat → Int} (H : StoreC StAt) (h : Two StAt w0 b F s v l b1 b2 o1 o2 W) (hb : Below W.heap.size W W') : Two StAt w0 b F s v l b1 b2 o1 o2 W' :=
  ⟨h.p.keep H hb, h.o1.keep hb h.o1.lt, h.o2.keep hb h.o2.lt⟩

set_option maxRecDepth 100000 in
set_option maxHeartbeats 8000000 in
theorem siftKeeps' {StAt : World → Nat → (Nat → Prop) → MS → Prop} (H : StoreC StAt) (R : ReadC StAt) (SC : SweepC StAt) (C : SiftC StAt) (hUp : ∀ W, Calls Tryz.prog 5 #[] W fun e w' => e = .returned (.bool true) ∧ Below W.heap.size W w')
    (l : List Fn) (swaps : List Int) (x grow : Int) (vl vs : Value) (w : World) (hL : LowW w) (hl : SliceF w vl l) (hs : Reads encI w vs swaps) (hwf : ∀ n ∈ swaps, (Lit.int .i64 n).wf = true) :
    Calls Tryz.prog 4 #[vl, vs, .int .i64 x, .int .i64 grow] w fun e w' => e = .returned (.bool true) ∧ Below w.heap.size w w' := by
  obtain ⟨al, cl, rfl⟩ := hl.form
  obtain ⟨aw, cw, rfl⟩ := hs.form
  go_enter Tryz.func4, Tryz.ntmps4
  go_wp2_with fail
  refine (hUp _).mono ?_
  rintro e w1 ⟨rfl, hb1⟩
  replace hL := hL.keep hb1
  replace hl := hl.keep hb1 (Nat.le_refl _)
  replace hs := hs.keep hb1
  clear hUp
  go_wp2_with fail
  refine (H.new 4000 w1 (by decide) (by decide)).mono ?_
  rintro e w2 ⟨b, rfl, ⟨F, hA, hF⟩, hb2⟩
  rw [show (4000 : Int).toNat = 4000 from rfl, show MS.none 4000 = MS.empty 4000 plainO from rfl] at hA
  have P : PL StAt w1 b F (MS.empty 4000 plainO) (.slice none 0 0) [] w2 := ⟨hA, hF, Mine.nil _ _ _ _, hb2⟩
  clear hA hF hb2
  by_cases hn6 : l.length ≤ 5
  · have hl3 : ¬ 5 < (l.length : Int) := by omega
    by_cases hn30 : swaps.length ≤ 20
    · have hl4 : ¬ 20 < (swaps.length : Int) := by omega
      by_cases hbad : x < 0 ∨ 7 < x ∨ grow < 0
      · rcases hbad with h1 | h1 | h1
        · go_wp2
          go_ret
          exact ⟨rfl, hb1.trans (P.below.mono hb1.size)⟩
        · have h2 : ¬ x < 0 := by omega
          go_wp2
          go_ret
          exact ⟨rfl, hb1.trans (P.below.mono hb1.size)⟩
        · by_cases h2 : x < 0
          · go_wp2
            go_ret
            exact ⟨rfl, hb1.trans (P.below.mono hb1.size)⟩
          · by_cases h3 : 7 < x
            · go_wp2
              go_ret
              exact ⟨rfl, hb1.trans (P.below.mono hb1.size)⟩
            · go_wp2
              go_ret
              exact ⟨rfl, hb1.trans (P.below.mono hb1.size)⟩
      have hx1 : ¬ x < 0 := by omega
      have hx2 : ¬ 7 < x := by omega
      have hx3 : ¬ grow < 0 := by omega
      clear hbad
      obtain ⟨X0, rfl⟩ := Int.eq_ofNat_of_zero_le (show 0 ≤ x by omega)
      replace P := Lib.hid P
      replace hL := Lib.hid hL
      replace hl := Lib.hid hl
      replace hs := Lib.hid hs
      go_wp2
      go_loopw [12] (fun i wr => ∃ (k : Nat) (o : Nat → Int) (F : Nat → Prop), k ≤ swaps.length ∧ i = .int .i64 k ∧ mayO o = true ∧ PL StAt w1 b F (MS.empty 4000 o) (.slice none 0 0) [] wr) (fun i _ => swaps.length - (intOf i).toNat)
      case atStart => exact ⟨0, plainO, F, Nat.zero_le _, rfl, plainO_may, P.out⟩
      case round =>
        clear P
        obtain ⟨k, o, F, hk, rfl, may, P⟩ := hrel
        by_cases hlt : k < swaps.length
        · obtain ⟨ad, rfl, hc⟩ := (hs.out.keep P.below).intAt k hlt
          have hwk := hwf _ (List.getElem_mem hlt)
          have hk0 : (0 : Int) ≤ (k : Int) := by omega
          have hk1 : (k : Int) < (swaps.length : Int) := by omega
          generalize swaps[k] = m at *
          have HP := fun U => lawPick m 7 U (by decide) (by decide) hwk
          have m0 := Int.emod_nonneg m (show (7 : Int) ≠ 0 by decide)
          have m1 := Int.emod_lt_of_pos m (show (0 : Int) < 7 by decide)
          generalize m % 7 = q at *
          have HS := H.swap P.a (MS.empty_ok 4000 (by decide) may) q
          rw [MS.empty_swap 4000 o m0 (by omega)] at HS
          have may' : mayO (swapO o q) = true := by rw [swapO_may]; exact may
          dsimp only at HS
          rw [errV0] at HS
          replace P := Lib.hid P
          replace may' := Lib.hid may'
          go_wp2_with fail
          refine (HP _).mono ?_
          rintro e w7 ⟨rfl, rfl⟩
          go_wp2_with fail
          refine HS.mono ?_
          rintro e w8 ⟨rfl, F6, hSt, hK, hW⟩
          have P6 := Lib.hid (P.out.store hSt hK hW)
          clear HS HP P hSt hK hW hc
          go_wp2
          exact ⟨⟨k + 1, _, F6, by omega, by go_num, may'.out, P6.out⟩, by simp [intOf]; omega⟩
        · obtain rfl : k = swaps.length := by omega
          clear hlt hk hs hwf
          have X := MS.Fits.empty (show 4000 ≤ 20000 by decide) may
          generalize MS.empty 4000 o = s at *
          replace P := Lib.hid P
          replace X := Lib.hid X
          go_wp2
          go_loopw [11, 13] (fun vr i wr => ∃ (j : Nat) (s : MS) (F : Nat → Prop) (lr : List Int) (fs : List Fn), j ≤ l.length ∧ i = .int .i64 j ∧ s.Fits fs o 4000 ∧ fs.length = j ∧ PL StAt w1 b F s vr lr wr ∧ Are s lr (l.take j) ∧ lr.length = j) (fun _ i _ => l.length - (intOf i).toNat)
          case atStart => exact ⟨0, s, F, [], [], Nat.zero_le _, rfl, X.out, rfl, P.out, by simpa using Are.nil s, rfl⟩
          case round =>
            clear P X may
            obtain ⟨j, s, F, lr, fs, hj, rfl, X, hfs, P, hA, hlr⟩ := hrel
            by_cases hlt : j < l.length
            · have hj0 : (0 : Int) ≤ (j : Int) := by omega
              have hj1 : (j : Int) < (l.length : Int) := by omega
              obtain ⟨ad, rfl, c0, c1, c2, c3⟩ := (hl.out.keep P.below (Nat.le_refl _)).fnAt j hlt
              have htk : l.take (j + 1) = l.take j ++ [l[j]] := List.take_succ_eq_append_getElem hlt
              generalize l[j] = f at *
              obtain ⟨n, s1, hr, X1, E1, tn, en⟩ := X.bld f (by omega)
              have BA := R.build (hL.out.keep P.below) (fun k hk => Nat.lt_of_lt_of_le hL.out.pos (P.lowF k hk)) P.a X.ok f
              rw [hr] at BA
              dsimp only at BA
              simp only [fv, errV0] at BA
              have hA2 := (hA.grows (MS.Grows.of_ext E1 X.ok X1.ok)).snoc tn en
              rw [← htk] at hA2
              replace P := Lib.hid P
              replace hA2 := Lib.hid hA2
              replace X1 := Lib.hid X1
              clear X hA hr E1 tn en htk
              go_wp2_with fail
              refine BA.mono ?_
              rintro e w3 ⟨rfl, F2, hSt, hK, hW⟩
              replace P := P.out.store hSt hK hW
              clear BA hSt hK hW c0 c1 c2 c3
              have hln : lr.length + [n].length ≤ 1000000 := by simp; omega
              have hsrc := oneI w3 n w3.heap.size rfl
              have P1 := P.keep H ((Below.refl w3.heap.size w3).alloc (Nat.le_refl _) (.cells #[.int .i64 n] 3))
              have hown := P1.m.own
              replace P1 := Lib.hid P1
              clear P
              go_wp2_with (at_builtin; refine appendI rfl (.tmp 86) (.tmp 88) rfl _ _ lr [n] rfl hown rfl hsrc hln ?_; intro v1 w4 hown1 hgr hat; have P2 := Lib.hid (P1.out.push H hown1 hgr hat); clear hown1 hgr hat)
              exact ⟨⟨j + 1, s1, F2, lr ++ [n], f :: fs, by omega, by go_num, X1.out, by simp [hfs], P2.out, hA2.out, by simp [hlr]⟩, by simp [intOf]; omega⟩
            · obtain rfl : j = l.length := by omega
              rw [List.take_length] at hA
              have hso := X.ok
              have hcap := X.cap
              clear X hlt hj
              obtain ⟨gr, cr, rfl⟩ : ∃ a c, u11 = .slice a l.length c := by obtain ⟨a, c, e, _⟩ := P.m.own.form; exact ⟨a, c, by rw [e, hlr]⟩
              have hrl : lr.length ≤ 100000 := by omega
              have hrw : ∀ r ∈ lr, r ≤ 9223372036854775807 ∧ -9223372036854775808 ≤ r := fun r hr => hso.toBase.there_i64 (hA.1 r hr)
              have hsw := (hso.swept lr).1
              have hA1 := hA.swept hso hsw
              have hz1 := hA.size hso hsw
              have hmost : (s.sweep lr).2.ar.most = 4000 := hsw.most.trans hcap
              have hkeep := hsw.ok.sift_keeps hA1.1 (v := X0) (by omega) (grow := grow) (by omega) (fun o ho => by rw [hA1.2, hmost]; have := size_77s o ho l; omega)
              rw [hA1.2] at hkeep
              have HS1 := fun V F (hV : StAt V b F s) hr => SC.sweep hV hso lr (.slice gr l.length cr) hr hrl hrw
              have hok1 := hsw.ok
              generalize (s.sweep lr).2 = s1 at *
              generalize (s.sweep lr).1 = fr at *
              rw [hz1] at hkeep
              obtain ⟨q1, ⟨Pp, I⟩, q3⟩ := hkeep
              have HS2 := fun V F (hV : StAt V b F s1) hr => C.sift hV hok1 lr (.slice gr l.length cr) hr hrl hrw (X0 : Int) grow
              rw [q1, errV0] at HS2
              have HL1 := fun V F (hV : StAt V b F s1) => H.live hV hok1
              have HO1 := fun V F (hV : StAt V b F s1) => H.order hV hok1
              generalize (s1.sift lr (X0 : Int) grow).2 = t at *
              have hokt := I.ok
              have hA2 : Are t lr l := ⟨I.th, by rw [← hA1.2]; exact List.map_congr_left fun r hr => I.tab r hr⟩
              have hzt : sizeF l t.o = t.all.length := by have := I.size; rwa [hA1.2] at this
              have hoth := I.oth
              have HL2 := fun V F (hV : StAt V b F t) => H.live hV hokt
              have HO2 := fun V F (hV : StAt V b F t) => H.order hV hokt
              have HSz := fun V (hV : SliceF V (.slice al l.length cl) l) => refSize l t.o _ V hV (by omega)
              rw [hzt] at HSz
              have HMy := fun V => refMay t.o V
              rw [hokt.order] at HMy
              have HT := fun V F (hL : LowW V) (hV : StAt V b F t) (n : Int) hn => R.table hL hV hokt n hn
              have hf1 : s1.all.length ≤ 20000 := Nat.le_trans (numsTo_filter_length s1.has s1.N.length) hok1.toBase.few
              generalize hso1 : s1.o = o1 at *
              generalize hso2 : t.o = o2 at *
              generalize s1.all.length = n1 at *
              generalize t.all.length = n2 at *
              have hnn : ¬ (n1 : Int) < (n2 : Int) := by omega
              replace hoth := Lib.hid hoth
              replace P := Lib.hid P
              replace hA2 := Lib.hid hA2
              replace hokt := Lib.hid hokt
              simp only [ov] at HO1 HO2 HSz HMy
              clear hA hso hcap hsw hA1 hz1 hmost hok1 q1 I hzt hso1 hso2
              replace HS1 := Lib.hid HS1
              replace HS2 := Lib.hid HS2
              replace HL1 := Lib.hid HL1
              replace HO1 := Lib.hid HO1
              replace HL2 := Lib.hid HL2
              replace HO2 := Lib.hid HO2
              replace HSz := Lib.hid HSz
              replace HMy := Lib.hid HMy
              replace HT := Lib.hid HT
              replace hrw := Lib.hid hrw
              replace hlr := Lib.hid hlr
              go_wp2_with fail
              refine (HS1.out _ _ P.out.a (RootsAt.of_owns P.out.m.own P.out.m.out)).mono ?_
              rintro e w7 ⟨rfl, F7, hSt, hK, hW⟩
              replace P := Lib.hid (P.out.store hSt hK hW)
              clear HS1 hSt hK hW
              go_wp2_with fail
              refine (HL1.out _ _ P.out.a).mono ?_
              rintro e w8 ⟨rfl, hb7⟩
              replace P := Lib.hid (P.out.keep H hb7)
              clear HL1 hb7
              go_wp2_with fail
              refine (HO1.out _ _ P.out.a).mono ?_
              rintro e w9 ⟨rfl, hb7⟩
              replace P := P.out.keep H hb7
              have hO1 := HoldsO.new w9 o1 w9.heap.size rfl
              have hbx := (Below.refl w9.heap.size w9).alloc (Nat.le_refl _) (.cells #[.int .i64 (o1 0), .int .i64 (o1 1), .int .i64 (o1 2), .int .i64 (o1 3), .int .i64 (o1 4), .int .i64 (o1 5), .int .i64 (o1 6), .int .i64 (o1 7)] 49)
              have hn1 : ¬ F7 w9.heap.size := fun e => by have := H.lt P.a _ e; omega
              have hlow1 : w1.heap.size ≤ w9.heap.size := P.below.size
              replace P := P.keep H hbx
              replace P := Lib.hid P
              clear HO1 hb7 hbx
              go_wp2_with fail
              refine (HS2.out _ _ P.out.a (RootsAt.of_owns P.out.m.own P.out.m.out)).mono ?_
              rintro e w10 ⟨rfl, F8, hSt, hK, hW⟩
              replace P := Lib.hid (P.out.store hSt hK hW)
              have hO1' : HoldsO w10 w9.heap.size o1 := (hK.block _ hO1.lt hn1).trans hO1
              clear HS2 hSt hK hW hO1
              go_wp2_with fail
              refine (HO2.out _ _ P.out.a).mono ?_
              rintro e w11 ⟨rfl, hb7⟩
              replace P := P.out.keep H hb7
              have hO2 := HoldsO.new w11 o2 w11.heap.size rfl
              have hbx := (Below.refl w11.heap.size w11).alloc (Nat.le_refl _) (.cells #[.int .i64 (o2 0), .int .i64 (o2 1), .int .i64 (o2 2), .int .i64 (o2 3), .int .i64 (o2 4), .int .i64 (o2 5), .int .i64 (o2 6), .int .i64 (o2 7)] 49)
              have hO3 := (hO1'.keep hb7 hO1'.lt).keep hbx (by have := hO1'.lt; have := hb7.size; omega)
              replace P := Lib.hid (P.keep H hbx)
              clear HO2 hb7 hbx hO1' hn1
              have Y : Two StAt w1 b F8 t (.slice gr l.length cr) lr w9.heap.size w11.heap.size o1 o2 _ := ⟨P.out, hO3, hO2⟩
              clear P hO3 hO2
              replace Y := Lib.hid Y
              go_wp2
              generalize w11.alloc (.cells #[.int .i64 (o2 0), .int .i64 (o2 1), .int .i64 (o2 2), .int .i64 (o2 3), .int .i64 (o2 4), .int .i64 (o2 5), .int .i64 (o2 6), .int .i64 (o2 7)] 49) = W at *
              generalize w9.heap.size = b1 at *
              generalize w11.heap.size = b2 at *
              have hd : decide (n1 < n2) = false := decide_eq_false (by omega)
              have c := fun u : Sub W => (Y.out.keep H u.2).o2.cell
              have c0 := fun u => c u 0 (by decide)
              have c1 := fun u => c u 1 (by decide)
              have c2 := fun u => c u 2 (by decide)
              have c3 := fun u => c u 3 (by decide)
              have c4 := fun u => c u 4 (by decide)
              have c5 := fun u => c u 5 (by decide)
              have c6 := fun u => c u 6 (by decide)
              have c7 := fun u => c u 7 (by decide)
              clear c
              have S1 := fun u : Sub W => HL2.out _ _ (Y.out.keep H u.2).p.a
              have S2 := fun u : Sub W => HSz.out _ (hl.out.keep (Y.out.keep H u.2).p.below (Nat.le_refl _))
              have S3 := fun u : Sub W => HMy.out u.1
              refine wp_region_quiet_all (C := fun w' => ∃ u : Sub W, w' = u.1) (by kernel_rfl) (by kernel_rfl) (InSub.drew W) ?_
              iterate 4 (go_big_quiet_step (fail))
              go_big_quiet_step (exact subBelow (S1 _))
              iterate 5 (go_big_quiet_step (fail))
              go_big_quiet_step (exact subBelow (S1 _))
              iterate 2 (go_big_quiet_step (fail))
              go_big_quiet_step (exact subBelow (S2 _))
              iterate 4 (go_big_quiet_step (fail))
              go_big_quiet_step (exact subBelow (S3 _))
              iterate 2 (go_big_quiet_step (fail))
              refine wpQuiet_nil ?_
              clear c0 c1 c2 c3 c4 c5 c6 c7 S1 S2 S3
              intro w' hw'
              obtain ⟨u, rfl⟩ := hw'
              replace Y := Lib.hid (Y.out.keep H u.2)
              generalize u.1 = W1 at *
              clear HL2 HSz HMy hd hnn hf1
              have HLv := Lib.hid fun (o : Nat → Int) v W => refLevel o v W
              go_wp2
              go_loopw [20] (fun i wr => ∃ a : Nat, a ≤ 8 ∧ i = .int .i64 a ∧ Two StAt w1 b F8 t (.slice gr l.length cr) lr b1 b2 o1 o2 wr) (fun i _ => 8 - (intOf i).toNat)
              case atStart => exact ⟨0, by omega, rfl, Y.out⟩
              case round =>
                clear Y
                obtain ⟨a, ha, rfl, Y⟩ := hrel
                by_cases hlt : a < 8
                · have ha0 : (0 : Int) ≤ (a : Int) := by omega
                  have ha8 : (a : Int) < 8 := by omega
                  replace Y := Lib.hid Y
                  go_wp2
                  go_loopw [21] (fun i wr => ∃ k : Nat, k ≤ 8 ∧ i = .int .i64 k ∧ Two StAt w1 b F8 t (.slice gr l.length cr) lr b1 b2 o1 o2 wr) (fun i _ => 8 - (intOf i).toNat)
                  case atStart => exact ⟨0, by omega, rfl, Y.out⟩
                  case round =>
                    clear Y
                    obtain ⟨k, hk, rfl, Y⟩ := hrel
                    by_cases hkt : k < 8
                    · have hk0 : (0 : Int) ≤ (k : Int) := by omega
                      have hk8 : (k : Int) < 8 := by omega
                      have hot := hoth.out a k hlt hkt
                      replace Y := Lib.hid Y
                      have c := fun u : Sub wr => (Y.out.keep H u.2).o1.cell
                      have c0 := fun u => c u 0 (by decide)
                      have c1 := fun u => c u 1 (by decide)
                      have c2 := fun u => c u 2 (by decide)
                      have c3 := fun u => c u 3 (by decide)
                      have c4 := fun u => c u 4 (by decide)
                      have c5 := fun u => c u 5 (by decide)
                      have c6 := fun u => c u 6 (by decide)
                      have c7 := fun u => c u 7 (by decide)
                      clear c
                      have S1 := fun u : Sub wr => HLv.out o1 (a : Int) u.1
                      have S2 := fun u : Sub wr => HLv.out o1 (k : Int) u.1
                      simp only [ov] at S1 S2
                      generalize levO o1 (a : Int) = la1 at *
                      generalize levO o1 (k : Int) = lb1 at *
                      go_wp2
                      refine wp_region_quiet_all (C := fun w' => ∃ u : Sub wr, w' = u.1) (by kernel_rfl) (by kernel_rfl) (InSub.drew wr) ?_
                      iterate 2 (go_big_quiet_step (fail))
                      go_big_quiet_step (exact subBelow (S1 _))
                      iterate 2 (go_big_quiet_step (fail))
                      go_big_quiet_step (exact subBelow (S2 _))
                      iterate 2 (go_big_quiet_step (fail))
                      refine wpQuiet_nil ?_
                      clear c0 c1 c2 c3 c4 c5 c6 c7 S1 S2
                      intro w' hw'
                      obtain ⟨u, rfl⟩ := hw'
                      replace Y := Lib.hid (Y.out.keep H u.2)
                      generalize u.1 = W2 at *
                      go_wp2
                      by_cases h1 : a = X0
                      · subst h1
                        clear hot
                        refine wp_region_quiet_all (C := fun w' => ∃ u : Sub W2, w' = u.1) (by kernel_rfl) (by kernel_rfl) (InSub.drew W2) ?_
                        iterate 4 (go_big_quiet_step (fail))
                        iterate 3 go_big_quiet_skip
                        iterate 2 (go_big_quiet_step (fail))
                        iterate 9 go_big_quiet_skip
                        go_big_quiet_step (fail)
                        refine wpQuiet_nil ?_
                        intro w' hw'
                        obtain ⟨u, rfl⟩ := hw'
                        replace Y := Lib.hid (Y.out.keep H u.2)
                        generalize u.1 = W3 at *
                        go_wp2
                        exact ⟨⟨k + 1, by omega, by go_num, Y.out⟩, by simp [intOf]; omega⟩
                      · have e1 : ((a : Int) != (X0 : Int)) = true := bne_iff_ne.2 (by omega)
                        by_cases h2 : k = X0
                        · subst h2
                          clear hot
                          refine wp_region_quiet_all (C := fun w' => ∃ u : Sub W2, w' = u.1) (by kernel_rfl) (by kernel_rfl) (InSub.drew W2) ?_
                          iterate 9 (go_big_quiet_step (fail))
                          iterate 9 go_big_quiet_skip
                          go_big_quiet_step (fail)
                          refine wpQuiet_nil ?_
                          intro w' hw'
                          obtain ⟨u, rfl⟩ := hw'
                          replace Y := Lib.hid (Y.out.keep H u.2)
                          generalize u.1 = W3 at *
                          go_wp2
                          exact ⟨⟨k + 1, by omega, by go_num, Y.out⟩, by simp [intOf]; omega⟩
                        · have e2 : ((k : Int) != (X0 : Int)) = true := bne_iff_ne.2 (by omega)
                          replace hot := hot (by omega) (by omega)
                          have c := fun u : Sub W2 => (Y.out.keep H u.2).o2.cell
                          have c0 := fun u => c u 0 (by decide)
                          have c1 := fun u => c u 1 (by decide)
                          have c2 := fun u => c u 2 (by decide)
                          have c3 := fun u => c u 3 (by decide)
                          have c4 := fun u => c u 4 (by decide)
                          have c5 := fun u => c u 5 (by decide)
                          have c6 := fun u => c u 6 (by decide)
                          have c7 := fun u => c u 7 (by decide)
                          clear c
                          have S1 := fun u : Sub W2 => HLv.out o2 (a : Int) u.1
                          have S2 := fun u : Sub W2 => HLv.out o2 (k : Int) u.1
                          simp only [ov] at S1 S2
                          generalize levO o2 (a : Int) = la2 at *
                          generalize levO o2 (k : Int) = lb2 at *
                          have hdd : ∃ d : Bool, decide (la1 < lb1) = d ∧ decide (la2 < lb2) = d := ⟨decide (la1 < lb1), rfl, by simp only [decide_eq_decide]; exact hot.symm⟩
                          obtain ⟨d, hd1, hd2⟩ := hdd
                          clear hot
                          refine wp_region_quiet_all (C := fun w' => ∃ u : Sub W2, w' = u.1) (by kernel_rfl) (by kernel_rfl) (InSub.drew W2) ?_
                          iterate 12 (go_big_quiet_step (fail))
                          go_big_quiet_step (exact subBelow (S1 _))
                          iterate 2 (go_big_quiet_step (fail))
                          go_big_quiet_step (exact subBelow (S2 _))
                          iterate 3 (go_big_quiet_step (fail))
                          clear c0 c1 c2 c3 c4 c5 c6 c7 S1 S2
                          refine wpQuiet_nil ?_
                          intro w' hw'
                          obtain ⟨u, rfl⟩ := hw'
                          replace Y := Lib.hid (Y.out.keep H u.2)
                          generalize u.1 = W3 at *
                          go_wp2
                          exact ⟨⟨k + 1, by omega, by go_num, Y.out⟩, by simp [intOf]; omega⟩
                    · obtain rfl : k = 8 := by omega
                      replace Y := Lib.hid Y
                      go_wp2
                      exact ⟨⟨a + 1, by omega, by go_num, Y.out⟩, by simp [intOf]; omega⟩
                · obtain rfl : a = 8 := by omega
                  replace Y := Lib.hid Y
                  clear hoth HLv
                  replace Y := Lib.hid Y.out.p
                  go_wp2
                  go_loopw [23] (fun i wr => ∃ k : Nat, k ≤ l.length ∧ i = .int .i64 k ∧ PL StAt w1 b F8 t (.slice gr l.length cr) lr wr) (fun i _ => l.length - (intOf i).toNat)
                  case atStart => exact ⟨0, Nat.zero_le _, rfl, Y.out⟩
                  case round =>
                    clear Y
                    obtain ⟨k, hk, rfl, P⟩ := hrel
                    by_cases hlt : k < l.length
                    · have hk0 : (0 : Int) ≤ (k : Int) := by omega
                      have hk1 : (k : Int) < (l.length : Int) := by omega
                      have hlt2 : k < lr.length := by have := hlr.out; omega
                      have hz : t.there lr[k] = true ∧ t.tab lr[k] = l[k] := by
                        refine ⟨hA2.out.1 _ (List.getElem_mem hlt2), ?_⟩
                        have h1 := hA2.out.2
                        have h2 : (lr.map t.tab)[k]'(by rw [List.length_map]; exact hlt2) = l[k] := by simp only [h1]
                        simpa using h2
                      obtain ⟨g1, rfl⟩ : ∃ g, gr = some ⟨g, 0, none⟩ := by obtain ⟨g, c, e, _⟩ := P.m.intAt k hlt2; injection e with e; exact ⟨g, e⟩
                      have x0 := fun z : Sub wr => (show z.1.cell? ⟨g1, k, none⟩ = some (.int .i64 lr[k]) by obtain ⟨g', c', e', h'⟩ := (P.keep H z.2).m.intAt k hlt2; injection e' with e' _ _; cases e'; exact h')
                      obtain ⟨ad, rfl, _⟩ := (hl.out.keep P.below (Nat.le_refl _)).fnAt k hlt
                      have yy := fun z : Sub wr => (show z.1.cell? (ad.add (k * 4)) = some (.int .u64 (wd l[k] 0)) ∧ z.1.cell? ⟨(ad.add (k * 4)).block, (ad.add (k * 4)).off + 1, none⟩ = some (.int .u64 (wd l[k] 1)) ∧
                          z.1.cell? ⟨(ad.add (k * 4)).block, (ad.add (k * 4)).off + 2, none⟩ = some (.int .u64 (wd l[k] 2)) ∧ z.1.cell? ⟨(ad.add (k * 4)).block, (ad.add (k * 4)).off + 3, none⟩ = some (.int .u64 (wd l[k] 3)) by
                        obtain ⟨ad', e', h2⟩ := (hl.out.keep (P.below.trans (z.2.mono P.below.size)) (Nat.le_refl _)).fnAt k hlt
                        cases e'; exact h2)
                      have y0 := fun z => (yy z).1
                      have y1 := fun z => (yy z).2.1
                      have y2 := fun z => (yy z).2.2.1
                      have y3 := fun z => (yy z).2.2.2
                      have J1 := fun z : Sub wr => HT.out z.1 F8 (hL.out.keep (P.below.trans (z.2.mono P.below.size))) (P.keep H z.2).a lr[k] (hokt.out.toBase.there_i64 hz.1)
                      rw [hz.2] at J1
                      generalize lr[k] = n at *
                      generalize l[k] = f at *
                      replace P := Lib.hid P
                      clear HT yy hz
                      go_wp2
                      refine wp_region_quiet_all (C := fun w' => ∃ u : Sub wr, w' = u.1) (by kernel_rfl) (by kernel_rfl) (InSub.drew wr) ?_
                      iterate 5 (go_big_quiet_step (fail))
                      go_big_quiet_step (exact subBelow (J1 _))
                      iterate 5 (go_big_quiet_step (fail))
                      refine wpQuiet_nil ?_
                      clear x0 y0 y1 y2 y3 J1
                      intro w' hw'
                      obtain ⟨z, rfl⟩ := hw'
                      go_wp2
                      exact ⟨⟨k + 1, by omega, by go_num, P.out.keep H z.2⟩, by simp [intOf]; omega⟩
                    · obtain rfl : k = l.length := by omega
                      clear HT hlt hk
                      replace P := Lib.hid P
                      go_wp2
                      go_ret
                      exact ⟨rfl, hb1.trans (P.out.below.mono hb1.size)⟩
    · have hl4 : 20 < (swaps.length : Int) := by omega
      go_wp2
      go_ret
      exact ⟨rfl, hb1.trans (P.below.mono hb1.size)⟩
  · have hl3 : 5 < (l.length : Int) := by omega
    go_wp2
    go_ret
    exact ⟨rfl, hb1.trans (P.below.mono hb1.size)⟩

end Go.Proofs.YtdcomiopjgcboaaGreatDoor

/-
  How a function of eight variables comes in and reads; the table of words as it is laid.
-/
namespace Go.Proofs.YtdcomiopjgcboaaGreatDoor
open Go Go.ChangeShapes Go.WideShapes Go.ChangeAt Go.RowKit

/-- The function of four words. -/
def ofWords (a b c d : Nat) : Fn := ofRow fun x => if x < 64 then a.testBit x else if x < 128 then b.testBit (x - 64) else if x < 192 then c.testBit (x - 128) else d.testBit (x - 192)

set_option maxRecDepth 100000 in
theorem wd_of_bits (f : Fn) (i a : Nat) (ha : a < 2 ^ 64) (h : ∀ j, j < 64 → f.getLsbD (64 * i + j) = a.testBit j) : wd f i = a := by
  refine Nat.eq_of_testBit_eq fun j => ?_
  unfold wd
  rw [BitVec.testBit_toNat, BitVec.getLsbD_extractLsb']
  by_cases hj : j < 64
  · rw [h j hj]; simp [hj]
  · have : a.testBit j = false := Nat.testBit_lt_two_pow (Nat.lt_of_lt_of_le ha (Nat.pow_le_pow_right (by decide) (by omega)))
    rw [this]; simp [hj]

set_option maxRecDepth 100000 in
theorem wd_ofWords (a b c d : Nat) (ha : a < 2 ^ 64) (hb : b < 2 ^ 64) (hc : c < 2 ^ 64) (hd : d < 2 ^ 64) :
    wd (ofWords a b c d) 0 = a ∧ wd (ofWords a b c d) 1 = b ∧ wd (ofWords a b c d) 2 = c ∧ wd (ofWords a b c d) 3 = d := by
  refine ⟨wd_of_bits _ _ _ ha fun j hj => ?_, wd_of_bits _ _ _ hb fun j hj => ?_, wd_of_bits _ _ _ hc fun j hj => ?_, wd_of_bits _ _ _ hd fun j hj => ?_⟩
  · rw [ofWords, ofRow_bit _ _ (by omega), if_pos (by omega), show 64 * 0 + j = j by omega]
  · rw [ofWords, ofRow_bit _ _ (by omega), if_neg (by omega), if_pos (by omega), show 64 * 1 + j - 64 = j by omega]
  · rw [ofWords, ofRow_bit _ _ (by omega), if_neg (by omega), if_neg (by omega), if_pos (by omega), show 64 * 2 + j - 128 = j by omega]
  · rw [ofWords, ofRow_bit _ _ (by omega), if_neg (by omega), if_neg (by omega), if_neg (by omega), show 64 * 3 + j - 192 = j by omega]

/-- What it reads as. -/
def datF {H : Type} (f : Fn) : DataW H := .agg [.lit (.int .u64 (wd f 0)), .lit (.int .u64 (wd f 1)), .lit (.int .u64 (wd f 2)), .lit (.int .u64 (wd f 3))]

set_option maxRecDepth 100000 in
theorem Tryz.cellsF : Tryz.prog.cellsOf 46 = 4 := by kernel_rfl
set_option maxRecDepth 100000 in
theorem Tryz.cellsU : Tryz.prog.cellsOf 44 = 1 := by kernel_rfl
set_option maxRecDepth 100000 in
theorem Tryz.own : ownKnob Tryz.prog.godebug = none := by kernel_rfl

set_option maxRecDepth 100000 in
theorem list4 {α : Type} (l : List α) (h : (⟨l⟩ : Array α).size = 4) : ∃ a b c d, l = [a, b, c, d] := by
  match l, h with
  | [a, b, c, d], _ => exact ⟨a, b, c, d, rfl⟩

set_option maxRecDepth 100000 in
theorem wf_u64 {n : Int} (h : (Lit.int .u64 n).wf = true) : ∃ m : Nat, n = (m : Int) ∧ m < 2 ^ 64 := by
  simp [Lit.wf, IntKind.min, IntKind.max, IntKind.signed, IntKind.bits] at h
  exact ⟨n.toNat, by omega, by omega⟩

set_option maxRecDepth 100000 in
theorem wd_wf (f : Fn) (i : Nat) : (Lit.int .u64 (wd f i)).wf = true := by
  have := wd_lt f i
  simp [Lit.wf, IntKind.min, IntKind.max, IntKind.signed, IntKind.bits]
  omega

section
variable {H : Type} {enc : TypeId × Value → H} {w : World} {base : Nat} {spare : Nat → Bool} {held : Bool}

set_option maxRecDepth 100000 in
theorem open_fn {r : Go.Reach} {b0 : Nat} {v : Value} {d : DataW H} {ps : List MemPlace} (hval : Value.okWide Tryz.prog w r b0 46 v) (hd : DataW.Trod enc Tryz.prog w base spare held 46 v d ps) :
    ∃ f : Fn, v = fv f ∧ d = datF f ∧ ps = [] := by
  obtain ⟨cs, rfl, hsz, _⟩ : ∃ cs, v = .agg cs ∧ cs.size = Tryz.prog.cellsOf 46 ∧ Row.okWide Tryz.prog w r b0 46 cs := by
    simpa [Value.okWide, Tryz.underlying46] using hval
  rw [Tryz.cellsF] at hsz
  obtain ⟨l⟩ := cs
  obtain ⟨c0, c1, c2, c3, rfl⟩ := list4 l hsz
  obtain ⟨fuel, hf⟩ := hd
  obtain ⟨y0, y1, y2, y3, m, hx, hy0, hy1, hy2, hy3⟩ := trod_array4 Tryz.underlying46 Tryz.cellsU hf
  obtain ⟨x0, e0, rfl, w0⟩ := DataW.trod_int Tryz.underlying44 hy0
  obtain ⟨x1, e1, rfl, w1⟩ := DataW.trod_int Tryz.underlying44 hy1
  obtain ⟨x2, e2, rfl, w2⟩ := DataW.trod_int Tryz.underlying44 hy2
  obtain ⟨x3, e3, rfl, w3⟩ := DataW.trod_int Tryz.underlying44 hy3
  simp at e0 e1 e2 e3
  subst e0 e1 e2 e3
  simp only [Prod.mk.injEq] at hx
  obtain ⟨rfl, rfl⟩ := hx
  obtain ⟨a, rfl, ha⟩ := wf_u64 w0
  obtain ⟨b, rfl, hb⟩ := wf_u64 w1
  obtain ⟨c, rfl, hc⟩ := wf_u64 w2
  obtain ⟨e, rfl, he⟩ := wf_u64 w3
  obtain ⟨i0, i1, i2, i3⟩ := wd_ofWords a b c e ha hb hc he
  exact ⟨ofWords a b c e, by rw [fv, i0, i1, i2, i3], by rw [datF, i0, i1, i2, i3], rfl⟩

set_option maxRecDepth 100000 in
theorem shut_fn (f : Fn) : DataW.Trod enc Tryz.prog w base spare held 46 (fv f) (datF f) [] :=
  ⟨2, by simp [fv, datF, DataW.trod, Value.cells, Tryz.underlying46, Tryz.underlying44, Tryz.cellsF, Tryz.cellsU, wd_wf, show List.range 4 = [0, 1, 2, 3] from rfl]⟩
end

/-- The table's cells. -/
def lowCells : Array Value := #[.int .u64 12297829382473034410, .int .u64 14757395258967641292, .int .u64 17361641481138401520, .int .u64 18374966859414961920, .int .u64 18446462603027742720, .int .u64 18446744069414584320]

set_option maxRecDepth 100000 in
theorem Tryz.low : Tryz.prog.globalNamed "bower/tab.lowWords" = some 0 := by kernel_rfl
set_option maxRecDepth 100000 in
theorem Tryz.lowType : (Tryz.prog.globals[0]?).map (·.type) = some 150 := by kernel_rfl
set_option maxRecDepth 100000 in
theorem Tryz.cellsLow : Tryz.prog.cellsOf 150 = 6 := by kernel_rfl

set_option maxRecDepth 100000 in
theorem list6 {α : Type} (l : List α) (h : l.length = 6) : ∃ a b c d e f, l = [a, b, c, d, e, f] := by
  match l, h with
  | [a, b, c, d, e, f], _ => exact ⟨a, b, c, d, e, f, rfl⟩

set_option maxRecDepth 100000 in
theorem low_of_laid {W : World} (h : laidMet Tryz.prog [("bower/tab.lowWords", Rows.laid_bower_tab_lowWords)] W) : W.var? Tryz.prog "bower/tab.lowWords" = some lowCells := by
  obtain ⟨ps, ⟨g, t, cs, fuel, p, q, hg, ht, hvar, hd, _, _⟩, _⟩ := h
  obtain rfl := Option.some.inj (Tryz.low.symm.trans hg)
  obtain rfl := Option.some.inj (Tryz.lowType.symm.trans ht)
  rw [hvar]
  congr 1
  obtain ⟨l⟩ := cs
  cases fuel with
  | zero => simp [DataW.trod] at hd
  | succ fuel =>
    simp only [DataW.trod, Tryz.underlying150, Tryz.cellsLow, Tryz.cellsU] at hd
    split at hd
    · rename_i hl
      obtain ⟨c0, c1, c2, c3, c4, c5, rfl⟩ := list6 l (by simpa using hl)
      have e : List.range 6 = [0, 1, 2, 3, 4, 5] := rfl
      rw [e] at hd
      simp only [Option.map_eq_some_iff, List.mapM_cons, List.mapM_nil, Option.bind_eq_bind, Option.bind_eq_some_iff, Option.pure_def, Option.some.injEq] at hd
      obtain ⟨xs, ⟨y0, h0, _, ⟨y1, h1, _, ⟨y2, h2, _, ⟨y3, h3, _, ⟨y4, h4, _, ⟨y5, h5, _, rfl, rfl⟩, rfl⟩, rfl⟩, rfl⟩, rfl⟩, rfl⟩, hx⟩ := hd
      obtain ⟨n0, e0, rfl, _⟩ := DataW.trod_int Tryz.underlying44 h0
      obtain ⟨n1, e1, rfl, _⟩ := DataW.trod_int Tryz.underlying44 h1
      obtain ⟨n2, e2, rfl, _⟩ := DataW.trod_int Tryz.underlying44 h2
      obtain ⟨n3, e3, rfl, _⟩ := DataW.trod_int Tryz.underlying44 h3
      obtain ⟨n4, e4, rfl, _⟩ := DataW.trod_int Tryz.underlying44 h4
      obtain ⟨n5, e5, rfl, _⟩ := DataW.trod_int Tryz.underlying44 h5
      simp at e0 e1 e2 e3 e4 e5
      subst e0 e1 e2 e3 e4 e5
      simp [Rows.laid_bower_tab_lowWords] at hx
      obtain ⟨⟨rfl, rfl, rfl, rfl, rfl, rfl⟩, _⟩ := hx
      rfl
    · cases hd

set_option maxRecDepth 100000 in
theorem lowW_of_laid {W : World} (h : laidMet Tryz.prog [("bower/tab.lowWords", Rows.laid_bower_tab_lowWords)] W) : LowW W := by
  intro i hi
  rw [World.var?_cell Tryz.low (low_of_laid h) i]
  rcases (by omega : i = 0 ∨ i = 1 ∨ i = 2 ∨ i = 3 ∨ i = 4 ∨ i = 5) with rfl | rfl | rfl | rfl | rfl | rfl <;> rfl

/-- A world in which the table is laid. -/
noncomputable def laidWorld (os : Os) : World :=
  { World.holding Tryz.prog os ⟨#[], #[], []⟩ with heap := (World.holding Tryz.prog os ⟨#[], #[], []⟩).heap.modify 0 fun
      | .cells _ t frozen => .cells lowCells t frozen
      | o => o }

set_option maxRecDepth 100000 in
theorem laidWorld_row (os : Os) (args : Array Value) : ((laidWorld os).forCall (fun _ _ => 0) ⟨#[], args, []⟩).memory.heap[0]? = some (.cells lowCells 150 (0, 0)) := by kernel_rfl

set_option maxRecDepth 100000 in
theorem laidWorld_met (os : Os) (args : Array Value) : laidMet Tryz.prog [("bower/tab.lowWords", Rows.laid_bower_tab_lowWords)] ((laidWorld os).forCall (fun _ _ => 0) ⟨#[], args, []⟩).memory :=
  ⟨_, ⟨0, 150, lowCells, 8, [], [], by kernel_rfl, by kernel_rfl, by kernel_rfl, by kernel_rfl, rfl, rfl⟩, by decide, fun b off h => by
    have h' : MemPlace.cell b off ∈ [MemPlace.cell 0 0, .cell 0 1, .cell 0 2, .cell 0 3, .cell 0 4, .cell 0 5] := h
    have hb : b = 0 := by
      simp at h'
      omega
    subst hb
    refine ⟨⟨_, _, laidWorld_row os args⟩, fun u v hc => ?_⟩
    simp only [World.cell?, laidWorld_row os args] at hc
    simp at h'
    rcases h' with rfl | rfl | rfl | rfl | rfl | rfl <;> simp [lowCells] at hc⟩

end Go.Proofs.YtdcomiopjgcboaaGreatDoor

/-
  How slices of functions and orders come in; arguments that read behind a call as they did.
-/
namespace Go.Proofs.YtdcomiopjgcboaaGreatDoor
open Go Go.ChangeShapes Go.WideShapes Go.ChangeAt Go.RowKit


section
variable {H : Type} {enc : TypeId × Value → H}

set_option maxRecDepth 100000 in
theorem trodAll_stays {P : Program} (hl : laidOutB P = true) {W W' : World} (hb : Below W.heap.size W W') : ∀ {ts : List TypeId} {vs : List Value} {ds : List (DataW H)} {ps : List MemPlace}, (∀ t ∈ ts, P.readableRec t = true ∧ t < P.types.size) →
    DataW.TrodAll enc P W 0 (fun _ => true) true ts vs ds ps → (∀ x ∈ ps, x.block < W.heap.size) → DataW.TrodAll enc P W' 0 (fun b => decide (b < W.heap.size)) true ts vs ds ps
  | [], [], [], _, _, h, _ => h
  | _ :: _, _ :: _, _ :: _, _, hT, ⟨p, q, h1, h2, e⟩, hs =>
    ⟨p, q, Below.trod hl (hT _ (List.mem_cons.2 (Or.inl rfl))).1 (hT _ (List.mem_cons.2 (Or.inl rfl))).2 h1 hb (fun x hx => hs x (by rw [e]; exact List.mem_append_left _ hx)),
      trodAll_stays hl hb (fun t ht => hT t (List.mem_cons.2 (Or.inr ht))) h2 (fun x hx => hs x (by rw [e]; exact List.mem_append_right _ hx)), e⟩

variable {w : World} {base : Nat} {spare : Nat → Bool} {held : Bool}

set_option maxRecDepth 100000 in
theorem trod_fn {fuel : Nat} {cs : List Value} {x : DataW H × List MemPlace} (hlen : cs.length = 4) (h : DataW.trod enc Tryz.prog w base spare held fuel 46 cs = some x) :
    ∃ f : Fn, cs = [.int .u64 (wd f 0), .int .u64 (wd f 1), .int .u64 (wd f 2), .int .u64 (wd f 3)] := by
  obtain ⟨c0, c1, c2, c3, rfl⟩ := list4 cs (by simpa using hlen)
  obtain ⟨y0, y1, y2, y3, m, hx, hy0, hy1, hy2, hy3⟩ := trod_array4 Tryz.underlying46 Tryz.cellsU h
  obtain ⟨x0, e0, _, w0⟩ := DataW.trod_int Tryz.underlying44 hy0
  obtain ⟨x1, e1, _, w1⟩ := DataW.trod_int Tryz.underlying44 hy1
  obtain ⟨x2, e2, _, w2⟩ := DataW.trod_int Tryz.underlying44 hy2
  obtain ⟨x3, e3, _, w3⟩ := DataW.trod_int Tryz.underlying44 hy3
  simp at e0 e1 e2 e3
  subst e0 e1 e2 e3
  obtain ⟨a, rfl, ha⟩ := wf_u64 w0
  obtain ⟨b, rfl, hb⟩ := wf_u64 w1
  obtain ⟨c, rfl, hc⟩ := wf_u64 w2
  obtain ⟨e, rfl, he⟩ := wf_u64 w3
  obtain ⟨i0, i1, i2, i3⟩ := wd_ofWords a b c e ha hb hc he
  exact ⟨ofWords a b c e, by rw [i0, i1, i2, i3]⟩

set_option maxRecDepth 100000 in
theorem cellsL_at (l : List Fn) (j : Nat) (u : Value) (h : (cellsL l)[j]? = some u) : ∃ (i r : Nat) (hi : i < l.length), r < 4 ∧ j = i * 4 + r ∧ u = .int .u64 (wd l[i] r) := by
  have hj : j < (cellsL l).length := by
    rcases Nat.lt_or_ge j (cellsL l).length with h' | h'
    · exact h'
    · rw [List.getElem?_eq_none h'] at h; cases h
  rw [cellsL_length] at hj
  have hi : j / 4 < l.length := by omega
  have e : j = j / 4 * 4 + j % 4 := by omega
  have h2 := cellsL_get l (j / 4) hi (j % 4) (by omega)
  rw [← e] at h2
  exact ⟨j / 4, j % 4, hi, by omega, e, Option.some.inj (h.symm.trans h2)⟩

set_option maxRecDepth 100000 in
/-- A slice of functions that came in. -/
theorem open_fns {r : Go.Reach} {b0 : Nat} {v : Value} {d : DataW H} {ps : List MemPlace} (hval : Value.okWide Tryz.prog w r b0 22 v) (hd : DataW.Trod enc Tryz.prog w base spare held 22 v d ps) :
    ∃ l : List Fn, SliceF w v l ∧ l.length ≤ maxLen ∧ ((l = [] ∧ d = .nil) ∨ ∃ xs ys, d = .slice xs ys ∧ xs.length = l.length) := by
  obtain ⟨a, len, cap, rfl⟩ := okWide_slice Tryz.underlying22 hval
  obtain ⟨fuel, hf⟩ := hd
  rcases Deep.open_slice Tryz.underlying22 hf with ⟨hcs, hx⟩ | ⟨ad, len', cap', m, n, D, Pl, hcs, _, hl, hm, hmm, hx, hall⟩
  · have hcs' : Value.slice a len cap = .slice none 0 0 := by simpa [Value.cells] using hcs
    rw [hcs']
    exact ⟨[], .inl ⟨rfl, rfl⟩, Nat.zero_le _, .inl ⟨rfl, congrArg Prod.fst hx⟩⟩
  · have hcs' : Value.slice a len cap = .slice (some ad) len' cap' := by simpa [Value.cells] using hcs
    rw [hcs']
    have hle : len' ≤ m := by rw [hmm]; split <;> omega
    have hall2 : ∀ i, i < len' → ∃ f : Fn, ∀ j, j < 4 → w.cell? (ad.add (i * 4 + j)) = some (.int .u64 (wd f j)) := fun i hi => by
      obtain ⟨cs', h1, h2⟩ := hall i (by omega)
      rw [Tryz.cellsF] at h1
      obtain ⟨_, hlen, hc⟩ := World.cells?_some h1
      obtain ⟨f, rfl⟩ := trod_fn hlen h2
      refine ⟨f, fun j hj => ?_⟩
      have h3 := hc j hj
      rw [Addr.add_add] at h3
      rw [h3]
      rcases (by omega : j = 0 ∨ j = 1 ∨ j = 2 ∨ j = 3) with rfl | rfl | rfl | rfl <;> rfl
    obtain ⟨F, hF⟩ := Deep.choose_lt (α := Fn) hall2
    refine ⟨(List.range len').map F, .inr ⟨ad, cap', by simp, fun j u hj => ?_⟩, by simp; omega, .inr ⟨_, _, congrArg Prod.fst hx, by simp⟩⟩
    obtain ⟨i, q, hi, hq, rfl, rfl⟩ := cellsL_at _ j u hj
    have hi' : i < len' := by simpa using hi
    rw [hF i hi' q hq]
    simp

set_option maxRecDepth 100000 in
theorem list8 {α : Type} (l : List α) (h : l.length = 8) : ∃ a b c d e f g i, l = [a, b, c, d, e, f, g, i] := by
  match l, h with
  | [a, b, c, d, e, f, g, i], _ => exact ⟨a, b, c, d, e, f, g, i, rfl⟩

set_option maxRecDepth 100000 in
theorem Tryz.cellsO : Tryz.prog.cellsOf 49 = 8 := by kernel_rfl
set_option maxRecDepth 100000 in
theorem Tryz.cellsI : Tryz.prog.cellsOf 3 = 1 := by kernel_rfl

set_option maxRecDepth 100000 in
/-- An order that came in. -/
theorem open_order {r : Go.Reach} {b0 : Nat} {v : Value} {d : DataW H} {ps : List MemPlace} (hval : Value.okWide Tryz.prog w r b0 49 v) (hd : DataW.Trod enc Tryz.prog w base spare held 49 v d ps) :
    ∃ o : Nat → Int, v = ov o ∧ ∀ i, (Lit.int .i64 (o i)).wf = true := by
  obtain ⟨cs, rfl, hsz, _⟩ : ∃ cs, v = .agg cs ∧ cs.size = Tryz.prog.cellsOf 49 ∧ Row.okWide Tryz.prog w r b0 49 cs := by
    simpa [Value.okWide, Tryz.underlying49] using hval
  rw [Tryz.cellsO] at hsz
  obtain ⟨l⟩ := cs
  obtain ⟨c0, c1, c2, c3, c4, c5, c6, c7, rfl⟩ := list8 l (by simpa using hsz)
  obtain ⟨fuel, hf⟩ := hd
  obtain ⟨xs, m, _, _, _, hxl, hget⟩ := DataW.trod_array Tryz.underlying49 hf
  rw [Tryz.cellsI] at hget
  have key : ∀ i (c : Value), i < 8 → ((Value.agg #[c0, c1, c2, c3, c4, c5, c6, c7]).cells.toList.drop (i * 1)).take 1 = [c] → ∃ n, c = .int .i64 n ∧ (Lit.int .i64 n).wf = true := fun i c hi hc => by
    have h1 := hget i hi
    rw [hc, List.getElem?_eq_getElem (by omega)] at h1
    obtain ⟨n, e, _, hw⟩ := DataW.trod_int Tryz.underlying3 h1
    exact ⟨n, by simpa using e, hw⟩
  obtain ⟨n0, rfl, w0⟩ := key 0 c0 (by decide) rfl
  obtain ⟨n1, rfl, w1⟩ := key 1 c1 (by decide) rfl
  obtain ⟨n2, rfl, w2⟩ := key 2 c2 (by decide) rfl
  obtain ⟨n3, rfl, w3⟩ := key 3 c3 (by decide) rfl
  obtain ⟨n4, rfl, w4⟩ := key 4 c4 (by decide) rfl
  obtain ⟨n5, rfl, w5⟩ := key 5 c5 (by decide) rfl
  obtain ⟨n6, rfl, w6⟩ := key 6 c6 (by decide) rfl
  obtain ⟨n7, rfl, w7⟩ := key 7 c7 (by decide) rfl
  refine ⟨fun i => [n0, n1, n2, n3, n4, n5, n6, n7].getD i 0, rfl, fun i => ?_⟩
  rcases Nat.lt_or_ge i 8 with hi | hi
  · rcases (by omega : i = 0 ∨ i = 1 ∨ i = 2 ∨ i = 3 ∨ i = 4 ∨ i = 5 ∨ i = 6 ∨ i = 7) with rfl | rfl | rfl | rfl | rfl | rfl | rfl | rfl <;> assumption
  · have e : [n0, n1, n2, n3, n4, n5, n6, n7].getD i 0 = 0 := by simp [List.getD, List.getElem?_eq_none (show [n0, n1, n2, n3, n4, n5, n6, n7].length ≤ i by simpa using hi)]
    simp only [e]
    decide
end

set_option maxRecDepth 100000 in
/-- By the reach. -/
theorem fns_short {H : Type} {ts : List TypeId} {ds : List (DataW H)} (h : (DataW.weightsEach Tryz.prog ts ds).all (· ≤ reachBytes) = true) {j : Nat} {l : List Fn} {d : DataW H} (ht : ts[j]? = some 22) (hd : ds[j]? = some d)
    (hl : (l = [] ∧ d = .nil) ∨ ∃ xs ys, d = .slice xs ys ∧ xs.length = l.length) : l.length ≤ 4611686018427387 := by
  rcases hl with ⟨rfl, _⟩ | ⟨xs, ys, rfl, hx⟩
  · exact Nat.zero_le _
  · have h1 := sized_slice h ht hd Tryz.underlying22
    rw [show Tryz.prog.bytesOf 46 = 32 by kernel_rfl, show reachBytes = 140737488351232 by kernel_rfl] at h1
    omega

end Go.Proofs.YtdcomiopjgcboaaGreatDoor
