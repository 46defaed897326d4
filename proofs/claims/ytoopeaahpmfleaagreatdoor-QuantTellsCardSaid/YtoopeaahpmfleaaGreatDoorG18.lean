/-
  Texts of this proof, one behind the other: IteW, Up9M, IteX, IteA.
-/
import Derived.Test.YtoopeaahpmfleaaGreatDoorG8
import Derived.Test.YtoopeaahpmfleaaGreatDoorG5
import Derived.Test.YtoopeaahpmfleaaGreatDoorG17
import Derived.Test.YtoopeaahpmfleaaGreatDoorG1
import Derived.KernelRfl
import Derived.Test.YtoopeaahpmfleaaGreatDoorG4
/-
  Walks of package ite over the store's contracts: isThere, isOf, set, has, top, where, atOnce.
-/
namespace Go.Proofs.YtoopeaahpmfleaaGreatDoor
open Go Go.RowKit

/-- Block b is a variable that holds three numbers. -/
def HoldsK (w : World) (b : Nat) (f g h : Int) : Prop := w.heap[b]? = some (.cells #[.int .i64 f, .int .i64 g, .int .i64 h] 126 (0, 0))
section
variable {w w' : World} {b : Nat} {f g h : Int}
theorem HoldsK.lt (H : HoldsK w b f g h) : b < w.heap.size := (Array.getElem?_eq_some_iff.1 H).1
theorem HoldsK.keep {F : Nat → Prop} (H : HoldsK w b f g h) (hb : Keeps F w w') (hF : ¬ F b) : HoldsK w' b f g h := (hb.block b H.lt hF).trans H
theorem HoldsK.below (H : HoldsK w b f g h) (hb : Below w.heap.size w w') : HoldsK w' b f g h := (hb.block b H.lt).trans H
theorem HoldsK.sub (H : HoldsK w b f g h) (u : Sub w) : HoldsK u.1 b f g h := H.below u.2
theorem HoldsK.cells (H : HoldsK w b f g h) : w.cell? ⟨b, 0, none⟩ = some (.int .i64 f) ∧ w.cell? ⟨b, 1, none⟩ = some (.int .i64 g) ∧ w.cell? ⟨b, 2, none⟩ = some (.int .i64 h) :=
  ⟨by rw [cell_of_row _ _ _ _ _ _ H]; rfl, by rw [cell_of_row _ _ _ _ _ _ H]; rfl, by rw [cell_of_row _ _ _ _ _ _ H]; rfl⟩
theorem HoldsK.free (H : HoldsK w b f g h) : w.frozen? ⟨b, 0, none⟩ = false ∧ w.frozen? ⟨b, 1, none⟩ = false ∧ w.frozen? ⟨b, 2, none⟩ = false :=
  ⟨frozen_of_row _ _ _ _ _ H, frozen_of_row _ _ _ _ _ H, frozen_of_row _ _ _ _ _ H⟩
theorem HoldsK.set3 (H : HoldsK w b f g h) (x y z : Int) : HoldsK (((w.setCell ⟨b, 0, none⟩ (.int .i64 x)).setCell ⟨b, 1, none⟩ (.int .i64 y)).setCell ⟨b, 2, none⟩ (.int .i64 z)) b x y z :=
  heap_setCell_same _ _ _ _ _ _ (heap_setCell_same _ _ _ _ _ _ (heap_setCell_same _ _ _ _ _ _ H))
theorem below_set3 {B c : Nat} {a w : World} {x0 x1 x2 : Value} (h : Below B a w) (hb : B ≤ c) : Below B a (((w.setCell ⟨c, 0, none⟩ x0).setCell ⟨c, 1, none⟩ x1).setCell ⟨c, 2, none⟩ x2) :=
  ((h.setCell hb _).setCell hb _).setCell hb _
theorem ret_holdsK {fn : Func} {p : Tmp} {tmps : Array Value} (h0 : fn.results = #[.cell p 126]) (hp : tmps.getD p undef = .pointer (some ⟨b, 0, none⟩)) (hh : HoldsK w b f g h) :
    (results fn tmps).run Tryz.prog w = .ok (askV f g h) w :=
  results_cell_row h0 tmps w b _ _ _ _ hp hh Tryz.underlying126 rfl (by kernel_rfl)
theorem HoldsK.new (w : World) (f g h : Int) : HoldsK (w.alloc (.cells #[.int .i64 f, .int .i64 g, .int .i64 h] 126)) w.heap.size f g h := heap_alloc_new _ _
end

section
variable {StAt : World → Nat → (Nat → Prop) → MS → Prop} {w : World} {b : Nat} {F : Nat → Prop} {s : MS}

set_option maxRecDepth 100000 in
set_option maxHeartbeats 2000000 in
theorem iteIsThere (H : StoreC StAt) (h : StAt w b F s) (ok : s.Ok) (n : Int) (hn : I64 n) :
    Calls Tryz.prog 87 #[.pointer (some ⟨b, 0, none⟩), .int .i64 n] w fun e w' => e = .returned (.bool (s.there n)) ∧ Below w.heap.size w w' := by
  have HN := H.node h ok n hn
  simp only [nodeV, nv] at HN
  clear h
  cases hh : s.has n
  · simp only [hh, Bool.false_eq_true, if_false] at HN
    by_cases h0 : n = 0
    · subst h0
      rw [show s.there 0 = true from rfl]
      go_enter Tryz.func87, Tryz.ntmps87
      go_wp2_with fail
      refine HN.mono ?_
      rintro e w1 ⟨rfl, hb1⟩
      replace hb1 := hb1.alloc hb1.size (.cells #[.int .i64 0, .int .i64 0, .int .i64 0] 57)
      clear HN
      go_wp2
      go_ret
      exact ⟨rfl, hb1⟩
    · by_cases h1 : n = 1
      · subst h1
        rw [show s.there 1 = true from rfl]
        go_enter Tryz.func87, Tryz.ntmps87
        go_wp2_with fail
        refine HN.mono ?_
        rintro e w1 ⟨rfl, hb1⟩
        replace hb1 := hb1.alloc hb1.size (.cells #[.int .i64 0, .int .i64 0, .int .i64 0] 57)
        clear HN
        go_wp2
        go_ret
        exact ⟨rfl, hb1⟩
      · have e0 : (n == 0) = false := by rw [beq_eq_false_iff_ne]; exact h0
        have e1 : (n == 1) = false := by rw [beq_eq_false_iff_ne]; exact h1
        rw [show s.there n = false by simp [MS.there, e0, e1, hh]]
        go_enter Tryz.func87, Tryz.ntmps87
        go_wp2_with fail
        refine HN.mono ?_
        rintro e w1 ⟨rfl, hb1⟩
        replace hb1 := hb1.alloc hb1.size (.cells #[.int .i64 0, .int .i64 0, .int .i64 0] 57)
        clear HN
        go_wp2
        go_ret
        exact ⟨rfl, hb1⟩
  · simp only [hh, if_true] at HN
    rw [show s.there n = true by simp [MS.there, hh]]
    generalize s.nd n = x at *
    obtain ⟨x0, x1, x2⟩ := x
    dsimp only at *
    go_enter Tryz.func87, Tryz.ntmps87
    go_wp2_with fail
    refine HN.mono ?_
    rintro e w1 ⟨rfl, hb1⟩
    replace hb1 := hb1.alloc hb1.size (.cells #[.int .i64 x0, .int .i64 x1, .int .i64 x2] 57)
    clear HN
    go_wp2
    go_ret
    exact ⟨rfl, hb1⟩

set_option maxRecDepth 100000 in
set_option maxHeartbeats 2000000 in
theorem iteIsOf (H : StoreC StAt) (h : StAt w b F s) (ok : s.Ok) (n v : Int) (hn : I64 n) :
    Calls Tryz.prog 148 #[.pointer (some ⟨b, 0, none⟩), .int .i64 n, .int .i64 v] w fun e w' => e = .returned (.bool (s.isOf n v)) ∧ Below w.heap.size w w' := by
  have HN := H.node h ok n hn
  simp only [nodeV, nv] at HN
  unfold MS.isOf MS.node
  clear h
  cases hh : s.has n
  · simp only [hh, Bool.false_eq_true, if_false] at HN ⊢
    go_enter Tryz.func148, Tryz.ntmps148
    go_wp2_with fail
    refine HN.mono ?_
    rintro e w1 ⟨rfl, hb1⟩
    replace hb1 := hb1.alloc hb1.size (.cells #[.int .i64 0, .int .i64 0, .int .i64 0] 57)
    clear HN
    go_wp2
    go_ret
    exact ⟨rfl, hb1⟩
  · simp only [hh, if_true] at HN ⊢
    generalize s.nd n = x at *
    obtain ⟨x0, x1, x2⟩ := x
    dsimp only at *
    go_enter Tryz.func148, Tryz.ntmps148
    go_wp2_with fail
    refine HN.mono ?_
    rintro e w1 ⟨rfl, hb1⟩
    have hX := (HoldsN.new w1 ⟨x0, x1, x2⟩).cells.1
    replace hb1 := hb1.alloc hb1.size (.cells #[.int .i64 x0, .int .i64 x1, .int .i64 x2] 57)
    dsimp only at hX
    clear HN
    go_wp2
    go_ret
    exact ⟨rfl, hb1⟩

set_option maxRecDepth 100000 in
set_option maxHeartbeats 2000000 in
theorem iteSet (H : StoreC StAt) (h : StAt w b F s) (ok : s.Ok) (n v : Int) (z : Bool) (hn : I64 n) :
    Calls Tryz.prog 134 #[.pointer (some ⟨b, 0, none⟩), .int .i64 n, .int .i64 v, .bool z] w fun e w' => e = .returned (.int .i64 (s.side n v z)) ∧ Below w.heap.size w w' := by
  have HN := H.node h ok n hn
  simp only [nodeV, nv] at HN
  unfold MS.side MS.isOf MS.node
  clear h
  cases hh : s.has n
  · simp only [hh, Bool.false_eq_true, if_false] at HN ⊢
    go_enter Tryz.func134, Tryz.ntmps134
    go_wp2_with fail
    refine HN.mono ?_
    rintro e w1 ⟨rfl, hb1⟩
    replace hb1 := hb1.alloc hb1.size (.cells #[.int .i64 0, .int .i64 0, .int .i64 0] 57)
    clear HN
    go_wp2
    go_ret
    exact ⟨rfl, hb1⟩
  · simp only [hh, if_true] at HN ⊢
    generalize s.nd n = x at *
    obtain ⟨x0, x1, x2⟩ := x
    dsimp only at *
    by_cases hv : x0 = v
    · subst hv
      have eb : (x0 != x0) = false := by simp
      rw [beq_self_eq_true, if_pos rfl]
      cases z
      · go_enter Tryz.func134, Tryz.ntmps134
        go_wp2_with fail
        refine HN.mono ?_
        rintro e w1 ⟨rfl, hb1⟩
        obtain ⟨y0, y1, y2⟩ := (HoldsN.new w1 ⟨x0, x1, x2⟩).cells
        replace hb1 := hb1.alloc hb1.size (.cells #[.int .i64 x0, .int .i64 x1, .int .i64 x2] 57)
        dsimp only at y0 y1 y2
        clear HN
        go_wp2
        go_ret
        exact ⟨rfl, hb1⟩
      · go_enter Tryz.func134, Tryz.ntmps134
        go_wp2_with fail
        refine HN.mono ?_
        rintro e w1 ⟨rfl, hb1⟩
        obtain ⟨y0, y1, y2⟩ := (HoldsN.new w1 ⟨x0, x1, x2⟩).cells
        replace hb1 := hb1.alloc hb1.size (.cells #[.int .i64 x0, .int .i64 x1, .int .i64 x2] 57)
        dsimp only at y0 y1 y2
        clear HN
        go_wp2
        go_ret
        exact ⟨rfl, hb1⟩
    · have eb : (x0 == v) = false := by rw [beq_eq_false_iff_ne]; exact hv
      rw [eb, if_neg (by simp)]
      go_enter Tryz.func134, Tryz.ntmps134
      go_wp2_with fail
      refine HN.mono ?_
      rintro e w1 ⟨rfl, hb1⟩
      obtain ⟨y0, y1, y2⟩ := (HoldsN.new w1 ⟨x0, x1, x2⟩).cells
      replace hb1 := hb1.alloc hb1.size (.cells #[.int .i64 x0, .int .i64 x1, .int .i64 x2] 57)
      dsimp only at y0 y1 y2
      clear HN
      go_wp2
      go_ret
      exact ⟨rfl, hb1⟩
set_option maxRecDepth 100000 in
set_option maxHeartbeats 2000000 in
theorem iteHas (H : StoreC StAt) (h : StAt w b F s) (ok : s.Ok) (f g k v : Int) (hf : I64 f) (hg : I64 g) (hk : I64 k) :
    Calls Tryz.prog 133 #[askV f g k, .pointer (some ⟨b, 0, none⟩), .int .i64 v] w fun e w' => e = .returned (.bool (s.isOf f v || s.isOf g v || s.isOf k v)) ∧ Below w.heap.size w w' := by
  have A1 := fun W (hb : Below w.heap.size w W) => iteIsOf H (H.below h hb) ok f v hf
  have A2 := fun W (hb : Below w.heap.size w W) => iteIsOf H (H.below h hb) ok g v hg
  have A3 := fun W (hb : Below w.heap.size w W) => iteIsOf H (H.below h hb) ok k v hk
  clear h
  unfold askV
  generalize s.isOf f v = r1 at *
  generalize s.isOf g v = r2 at *
  generalize s.isOf k v = r3 at *
  have hX := HoldsK.new w f g k
  have hb := (Below.refl w.heap.size w).alloc (Nat.le_refl _) (.cells #[.int .i64 f, .int .i64 g, .int .i64 k] 126)
  obtain ⟨y0, y1, y2⟩ := hX.cells
  cases r1
  · cases r2
    · go_enter Tryz.func133, Tryz.ntmps133
      go_wp2_with fail
      generalize w.alloc (.cells #[.int .i64 f, .int .i64 g, .int .i64 k] 126) = W at *
      refine (A1 _ hb).mono ?_
      rintro e w1 ⟨rfl, hb1⟩
      replace hX := hX.below hb1
      replace hb := hb.trans (hb1.mono hb.size)
      clear A1 y0 y1 y2 hb1
      obtain ⟨y0, y1, y2⟩ := hX.cells
      go_wp2_with fail
      refine (A2 _ hb).mono ?_
      rintro e w2 ⟨rfl, hb1⟩
      replace hX := hX.below hb1
      replace hb := hb.trans (hb1.mono hb.size)
      clear A2 y0 y1 y2 hb1
      obtain ⟨y0, y1, y2⟩ := hX.cells
      go_wp2_with fail
      refine (A3 _ hb).mono ?_
      rintro e w3 ⟨rfl, hb1⟩
      replace hb := hb.trans (hb1.mono hb.size)
      clear A3 y0 y1 y2 hb1
      go_wp2
      go_ret
      exact ⟨rfl, hb⟩
    · go_enter Tryz.func133, Tryz.ntmps133
      go_wp2_with fail
      generalize w.alloc (.cells #[.int .i64 f, .int .i64 g, .int .i64 k] 126) = W at *
      refine (A1 _ hb).mono ?_
      rintro e w1 ⟨rfl, hb1⟩
      replace hX := hX.below hb1
      replace hb := hb.trans (hb1.mono hb.size)
      clear A1 y0 y1 y2 hb1
      obtain ⟨y0, y1, y2⟩ := hX.cells
      go_wp2_with fail
      refine (A2 _ hb).mono ?_
      rintro e w2 ⟨rfl, hb1⟩
      replace hb := hb.trans (hb1.mono hb.size)
      clear A2 A3 y0 y1 y2 hb1
      go_wp2
      go_ret
      exact ⟨rfl, hb⟩
  · go_enter Tryz.func133, Tryz.ntmps133
    go_wp2_with fail
    generalize w.alloc (.cells #[.int .i64 f, .int .i64 g, .int .i64 k] 126) = W at *
    refine (A1 _ hb).mono ?_
    rintro e w1 ⟨rfl, hb1⟩
    replace hb := hb.trans (hb1.mono hb.size)
    clear A1 A2 A3 y0 y1 y2 hb1
    go_wp2
    go_ret
    exact ⟨rfl, hb⟩

set_option maxRecDepth 100000 in
set_option maxHeartbeats 4000000 in
theorem iteWhere (H : StoreC StAt) (h : StAt w b F s) (ok : s.Ok) (f g k v : Int) (z : Bool) (hf : I64 f) (hg : I64 g) (hk : I64 k) :
    Calls Tryz.prog 118 #[askV f g k, .pointer (some ⟨b, 0, none⟩), .int .i64 v, .bool z] w fun e w' => e = .returned (askV (s.side f v z) (s.side g v z) (s.side k v z)) ∧ Below w.heap.size w w' := by
  have A1 := fun W (hb : Below w.heap.size w W) => iteSet H (H.below h hb) ok f v z hf
  have A2 := fun W (hb : Below w.heap.size w W) => iteSet H (H.below h hb) ok g v z hg
  have A3 := fun W (hb : Below w.heap.size w W) => iteSet H (H.below h hb) ok k v z hk
  clear h
  unfold askV
  generalize s.side f v z = r1 at *
  generalize s.side g v z = r2 at *
  generalize s.side k v z = r3 at *
  go_enter Tryz.func118, Tryz.ntmps118
  go_wp2_with fail
  have hX0 := HoldsK.new w f g k
  have hb0 := (Below.refl w.heap.size w).alloc (Nat.le_refl _) (.cells #[.int .i64 f, .int .i64 g, .int .i64 k] 126)
  have eS : (w.alloc (.cells #[.int .i64 f, .int .i64 g, .int .i64 k] 126)).heap.size = w.heap.size + 1 := by simp only [World.alloc, Array.size_push]
  generalize w.alloc (.cells #[.int .i64 f, .int .i64 g, .int .i64 k] 126) = W0 at *
  have hR := HoldsK.new W0 0 0 0
  rw [eS] at hR
  have hX := hX0.below ((Below.refl W0.heap.size W0).alloc (Nat.le_refl _) (.cells #[.int .i64 0, .int .i64 0, .int .i64 0] 126))
  have hb := hb0.alloc hb0.size (.cells #[.int .i64 0, .int .i64 0, .int .i64 0] 126)
  generalize W0.alloc (.cells #[.int .i64 0, .int .i64 0, .int .i64 0] 126) = W at *
  have y0 := fun u : Sub W => (hX.sub u).cells.1
  have y1 := fun u : Sub W => (hX.sub u).cells.2.1
  have y2 := fun u : Sub W => (hX.sub u).cells.2.2
  have J1 := fun u : Sub W => A1 _ (hb.trans (u.2.mono hb.size))
  have J2 := fun u : Sub W => A2 _ (hb.trans (u.2.mono hb.size))
  have J3 := fun u : Sub W => A3 _ (hb.trans (u.2.mono hb.size))
  clear hX0 A1 A2 A3
  refine wp_region_quiet_tail (C := fun w' => ∃ u : Sub W, w' = u.1) 19 (by kernel_rfl) (by kernel_rfl) (InSub.drew W) ?_
  simp only [List.take_succ_cons, List.take_zero]
  iterate 5 (go_big_quiet_step (fail))
  go_big_quiet_step (exact subBelow (J1 _))
  iterate 5 (go_big_quiet_step (fail))
  go_big_quiet_step (exact subBelow (J2 _))
  iterate 5 (go_big_quiet_step (fail))
  go_big_quiet_step (exact subBelow (J3 _))
  go_big_quiet_step (fail)
  refine wpQuiet_nil ?_
  clear y0 y1 y2 J1 J2 J3
  intro w' hw'
  obtain ⟨u, rfl⟩ := hw'
  replace hR := hR.below u.2
  replace hb := hb.trans (u.2.mono hb.size)
  generalize u.1 = W3 at *
  obtain ⟨z0, z1, z2⟩ := hR.free
  obtain ⟨c0, c1, c2⟩ := hR.cells
  have hR3 := Lib.hid (hR.set3 r1 r2 r3)
  clear hR hX
  simp only [List.drop_succ_cons, List.drop_zero]
  go_wp2
  refine bodyPost_ret (v := askV r1 r2 r3) (ret_holdsK Tryz.results118 rfl hR3.out) rfl ?_
  exact ⟨rfl, below_set3 hb (Nat.le_succ _)⟩
/-- None of three is a node of v. -/
def MS.noneOf (s : MS) (f g k v : Int) : Bool := !(s.isOf f v || s.isOf g v || s.isOf k v)

set_option maxRecDepth 100000 in
set_option maxHeartbeats 4000000 in
theorem iteTop (H : StoreC StAt) (h : StAt w b F s) (ok : s.Ok) (f g k : Int) (hf : I64 f) (hg : I64 g) (hk : I64 k) :
    Calls Tryz.prog 117 #[askV f g k, .pointer (some ⟨b, 0, none⟩)] w fun e w' => (∃ l : Nat, l < 8 ∧ e = .returned (.int .i64 (s.o l)) ∧ (∀ j, j < l → s.noneOf f g k (s.o j) = true) ∧ (l = 7 ∨ s.noneOf f g k (s.o l) = false)) ∧ Below w.heap.size w w' := by
  have HO := fun W (hb : Below w.heap.size w W) => H.order (H.below h hb) ok
  have HH := fun (v : Int) W (hb : Below w.heap.size w W) => iteHas H (H.below h hb) ok f g k v hf hg hk
  replace HH := Lib.hid HH
  generalize ho : s.o = o at *
  replace ho := Lib.hid ho
  clear h
  unfold askV
  simp only [ov] at HO
  go_enter Tryz.func117, Tryz.ntmps117
  go_wp2_with fail
  have hX := HoldsK.new w f g k
  have hb := (Below.refl w.heap.size w).alloc (Nat.le_refl _) (.cells #[.int .i64 f, .int .i64 g, .int .i64 k] 126)
  generalize w.alloc (.cells #[.int .i64 f, .int .i64 g, .int .i64 k] 126) = W at *
  refine (HO _ hb).mono ?_
  rintro e w1 ⟨rfl, hb1⟩
  clear HO
  replace hX := (hX.below hb1).below ((Below.refl w1.heap.size w1).alloc (Nat.le_refl _) (.cells #[.int .i64 (o 0), .int .i64 (o 1), .int .i64 (o 2), .int .i64 (o 3), .int .i64 (o 4), .int .i64 (o 5), .int .i64 (o 6), .int .i64 (o 7)] 83))
  replace hb := (hb.trans (hb1.mono hb.size)).alloc (hb.trans (hb1.mono hb.size)).size (.cells #[.int .i64 (o 0), .int .i64 (o 1), .int .i64 (o 2), .int .i64 (o 3), .int .i64 (o 4), .int .i64 (o 5), .int .i64 (o 6), .int .i64 (o 7)] 83)
  have hO := HoldsO.new w1 o w1.heap.size rfl
  clear hb1
  go_wp2
  go_loopw [6] (fun i wr => ∃ n : Nat, n ≤ 7 ∧ i = .int .i64 n ∧ (∀ j, j < n → s.noneOf f g k (o j) = true) ∧ HoldsK wr w.heap.size f g k ∧ HoldsO wr w1.heap.size o ∧ Below w.heap.size w wr) (fun i _ => 7 - (intOf i).toNat)
  case atStart => exact ⟨0, Nat.zero_le _, rfl, fun j hj => absurd hj (Nat.not_lt_zero _), hX, hO, hb⟩
  case round =>
    clear hX hO hb
    obtain ⟨n, hn, rfl, hno, hX, hO, hb⟩ := hrel
    replace hno := Lib.hid hno
    by_cases hlt : n < 7
    · have hn0 : (0 : Int) ≤ (n : Int) := by omega
      have hn7 : (n : Int) < 7 := by omega
      have hn8 : (n : Int) < 8 := by omega
      have y0 := fun u : Sub wr => (hX.sub u).cells.1
      have y1 := fun u : Sub wr => (hX.sub u).cells.2.1
      have y2 := fun u : Sub wr => (hX.sub u).cells.2.2
      have q0 := fun u : Sub wr => (hO.sub u).cell n (by omega)
      have J := fun u : Sub wr => HH.out (o n) _ (hb.trans (u.2.mono hb.size))
      have e0 := hO.cell n (by omega)
      have hnx : s.noneOf f g k (o n) = !(s.isOf f (o n) || s.isOf g (o n) || s.isOf k (o n)) := rfl
      unfold askV at J
      generalize (s.isOf f (o n) || s.isOf g (o n) || s.isOf k (o n)) = r at *
      generalize hv : o n = v at *
      replace hv := Lib.hid hv
      go_wp2
      refine wp_region_quiet_all (C := fun w' => ∃ u : Sub wr, w' = u.1) (by kernel_rfl) (by kernel_rfl) (InSub.drew wr) ?_
      iterate 8 (go_big_quiet_step (fail))
      go_big_quiet_step (exact subBelow (J _))
      iterate 2 (go_big_quiet_step (fail))
      refine wpQuiet_nil ?_
      clear y0 y1 y2 q0 J
      intro w' hw'
      obtain ⟨u, rfl⟩ := hw'
      cases r
      · have hno' : Hid (∀ j, j < n + 1 → s.noneOf f g k (o j) = true) := fun j hj => by
          rcases Nat.lt_or_ge j n with h1 | h1
          · exact hno.out j h1
          · obtain rfl : j = n := by omega
            rw [hv.out]; exact hnx
        clear hno hnx
        go_wp2
        exact ⟨⟨n + 1, by omega, by go_num, hno'.out, hX.sub u, hO.sub u, hb.trans (u.2.mono hb.size)⟩, by simp [intOf]; omega⟩
      · replace hnx := Lib.hid hnx
        have e1 := (hO.sub u).cell n (by omega)
        rw [hv.out] at e1
        go_wp2
        go_ret
        exact ⟨⟨n, by omega, by rw [hv.out]; rfl, hno.out, .inr (by rw [hv.out]; exact hnx.out)⟩, hb.trans (u.2.mono hb.size)⟩
    · obtain rfl : n = 7 := by omega
      have e1 := fun u : Sub wr => (hO.sub u).cell 7 (by omega)
      generalize hv : o 7 = v at *
      replace hv := Lib.hid hv
      go_wp2
      refine wp_region_quiet_all (C := fun w' => ∃ u : Sub wr, w' = u.1) (by kernel_rfl) (by kernel_rfl) (InSub.drew wr) ?_
      iterate 3 (go_big_quiet_step (fail))
      iterate 7 go_big_quiet_skip
      go_big_quiet_step (fail)
      refine wpQuiet_nil ?_
      intro w' hw'
      obtain ⟨u, rfl⟩ := hw'
      replace e1 := e1 u
      go_wp2
      go_ret
      exact ⟨⟨7, by omega, by rw [hv.out]; rfl, hno.out, .inl rfl⟩, hb.trans (u.2.mono hb.size)⟩
/-- What is told at once. -/
def onceN (f g k : Int) : Int := if f = 1 ∨ g = k then g else if f = 0 then k else if g = 1 ∧ k = 0 then f else 0
def onceB (f g k : Int) : Bool := decide (f = 1 ∨ g = k ∨ f = 0 ∨ (g = 1 ∧ k = 0))
set_option maxRecDepth 100000 in
set_option maxHeartbeats 4000000 in
theorem iteOnce (f g k : Int) (w : World) : Calls Tryz.prog 116 #[askV f g k] w fun e w' => e = .returned (.tuple #[.int .i64 (onceN f g k), .bool (onceB f g k)]) ∧ Below w.heap.size w w' := by
  have hX := HoldsK.new w f g k
  have hb := (Below.refl w.heap.size w).alloc (Nat.le_refl _) (.cells #[.int .i64 f, .int .i64 g, .int .i64 k] 126)
  obtain ⟨y0, y1, y2⟩ := hX.cells
  clear hX
  unfold askV
  by_cases h1 : f = 1
  · subst h1
    rw [show onceN 1 g k = g by simp [onceN], show onceB 1 g k = true by simp [onceB]]
    go_enter Tryz.func116, Tryz.ntmps116
    go_wp2
    go_ret2
    exact ⟨rfl, hb⟩
  · have e1 : (f == 1) = false := by rw [beq_eq_false_iff_ne]; exact h1
    by_cases h2 : g = k
    · subst h2
      rw [show onceN f g g = g by simp [onceN], show onceB f g g = true by simp [onceB]]
      go_enter Tryz.func116, Tryz.ntmps116
      go_wp2
      go_ret2
      exact ⟨rfl, hb⟩
    · have e2 : (g == k) = false := by rw [beq_eq_false_iff_ne]; exact h2
      by_cases h3 : f = 0
      · subst h3
        rw [show onceN 0 g k = k by simp [onceN, h2], show onceB 0 g k = true by simp [onceB]]
        go_enter Tryz.func116, Tryz.ntmps116
        go_wp2
        go_ret2
        exact ⟨rfl, hb⟩
      · have e3 : (f == 0) = false := by rw [beq_eq_false_iff_ne]; exact h3
        by_cases h4 : g = 1
        · subst h4
          by_cases h5 : k = 0
          · subst h5
            rw [show onceN f 1 0 = f by simp [onceN, h1, h3], show onceB f 1 0 = true by simp [onceB]]
            go_enter Tryz.func116, Tryz.ntmps116
            go_wp2
            go_ret2
            exact ⟨rfl, hb⟩
          · have e5 : (k == 0) = false := by rw [beq_eq_false_iff_ne]; exact h5
            rw [show onceN f 1 k = 0 by simp [onceN, h1, h2, h3, h5], show onceB f 1 k = false by simp [onceB, h1, h2, h3, h5]]
            go_enter Tryz.func116, Tryz.ntmps116
            go_wp2
            go_ret2
            exact ⟨rfl, hb⟩
        · have e4 : (g == 1) = false := by rw [beq_eq_false_iff_ne]; exact h4
          rw [show onceN f g k = 0 by simp [onceN, h1, h2, h3, h4], show onceB f g k = false by simp [onceB, h1, h2, h3, h4]]
          go_enter Tryz.func116, Tryz.ntmps116
          go_wp2
          go_ret2
          exact ⟨rfl, hb⟩
end

end Go.Proofs.YtoopeaahpmfleaaGreatDoor

/-
  The numbers of the documents' examples of layers 9 to 11. Nothing of the program is read here.
-/
namespace Go.Proofs.YtoopeaahpmfleaaGreatDoor

/-- A store of so many, with these nodes. -/
def smallS (most : Nat) (N : List Nd) : MS := ⟨⟨most, N.length, (List.range N.length).map fun i : Nat => (i : Int), []⟩, N, plainO⟩
def s9a : MS := smallS 5 [⟨0, 0, 1⟩]
def s9b : MS := smallS 5 [⟨0, 0, 1⟩, ⟨0, 1, 0⟩]
theorem up9_mk : (MS.none 5).mk 0 0 1 [] = (2, 0, s9a) := by kernel_rfl
set_option maxRecDepth 100000 in
theorem up9_not : s9a.ite 2 0 1 = (3, 0, s9b) := by kernel_rfl
set_option maxRecDepth 100000 in
theorem up9_bad : s9b.ite 9 0 1 = (0, 1, s9b) := by kernel_rfl
set_option maxRecDepth 100000 in
theorem up9_tab : s9b.tab 3 = ~~~(varAny 0) := by decide +kernel
set_option maxRecDepth 100000 in
theorem up10_and : s9b.ite 2 3 0 = (0, 0, s9b) := by kernel_rfl
set_option maxRecDepth 100000 in
theorem up10_or : s9b.ite 2 1 3 = (1, 0, s9b) := by kernel_rfl
theorem s9a_ok : s9a.Ok := by
  have := (MS.none_ok 5 (by decide)).made 0 0 1
  rwa [up9_mk] at this
theorem s9b_ok : s9b.Ok := by
  have := (s9a_ok.ite_spec 2 0 1).1
  rwa [up9_not] at this
theorem s9_grows : MS.Grows s9a s9b := by
  have := MS.Grows.of_ext (s9a_ok.ite_spec 2 0 1).2.1 s9a_ok (s9a_ok.ite_spec 2 0 1).1
  rwa [up9_not] at this

def s11a : MS := smallS 9 [⟨0, 0, 1⟩]
def s11b : MS := smallS 9 [⟨0, 0, 1⟩, ⟨1, 0, 1⟩]
def s11c : MS := smallS 9 [⟨0, 0, 1⟩, ⟨1, 0, 1⟩, ⟨0, 0, 3⟩]
theorem up11_x : (MS.none 9).mk 0 0 1 [] = (2, 0, s11a) := by kernel_rfl
theorem up11_y : s11a.mk 1 0 1 [] = (3, 0, s11b) := by kernel_rfl
set_option maxRecDepth 100000 in
theorem up11_and : s11b.ite 2 3 0 = (4, 0, s11c) := by kernel_rfl
set_option maxRecDepth 100000 in
theorem up11_ex : s11c.three 1 4 0 0 = (3, 0, s11c) := by kernel_rfl
set_option maxRecDepth 100000 in
theorem up11_bad : s11c.restr 4 8 true = (0, 1, s11c) := by kernel_rfl
theorem s11a_ok : s11a.Ok := by
  have := (MS.none_ok 9 (by decide)).made 0 0 1
  rwa [up11_x] at this
theorem s11b_ok : s11b.Ok := by
  have := s11a_ok.made 1 0 1
  rwa [up11_y] at this
theorem s11c_ok : s11c.Ok := by
  have := (s11b_ok.ite_spec 2 3 0).1
  rwa [up11_and] at this

/-- What Mk makes grows. -/
theorem MS.Ok.mk_ext {s : MS} (h : s.Ok) (v lo hi : Int) : MS.Ext s (s.mk v lo hi []).2.2 := by
  rcases s.mk_cases v lo hi [] with ⟨r, e, h1⟩ | ⟨h1, _, _, _, _, _, _, h8⟩
  · rw [h1]; exact MS.Ext.refl s
  · rw [h8]
    refine ⟨rfl, ?_, fun n hn => (h.toBase.takeS_has h1 _ n).2 (.inl hn), fun n hn => h.toBase.takeS_old h1 _ hn⟩
    show s.ar.take.most = s.ar.most
    rcases last_or_nil s.ar.B with hb | ⟨k, n, hb⟩
    · rw [(AS.Ok.take_new h1 hb).2.2]
    · rw [(AS.Ok.take_again h1 hb).2.2]
theorem MS.Ok.mk_grows {s : MS} (h : s.Ok) (v lo hi : Int) : MS.Grows s (s.mk v lo hi []).2.2 := MS.Grows.of_ext (h.mk_ext v lo hi) h (h.made v lo hi)

end Go.Proofs.YtoopeaahpmfleaaGreatDoor

/-
  Walks of package ite: a cache in memory; New, Flush, keep.
-/
namespace Go.Proofs.YtoopeaahpmfleaaGreatDoor
open Go Go.RowKit

/-- What was kept is the node of if, then, else. -/
structure MS.Right (s : MS) (a : Ask) (x : Int) : Prop where
  tf : s.there a.1.1 = true
  tg : s.there a.1.2.1 = true
  tk : s.there a.1.2.2 = true
  tx : s.there x = true
  tab : s.tab x = iteF (s.tab a.1.1) (s.tab a.1.2.1) (s.tab a.1.2.2)
theorem MS.Right.grows {s t : MS} {a : Ask} {x : Int} (h : MS.Right s a x) (g : MS.Grows s t) : MS.Right t a x :=
  ⟨g.there _ h.tf, g.there _ h.tg, g.there _ h.tk, g.there _ h.tx, by rw [g.tab h.tx, g.tab h.tf, g.tab h.tg, g.tab h.tk]; exact h.tab⟩

/-- A cache in memory, by the store that it speaks of. -/
def CacheAt (w : World) (c : Nat) (F : Nat → Prop) (s : MS) : Prop := ∃ (m n : Nat) (kept : Ask → Option Int), (∀ k, F k ↔ k = c ∨ k = m) ∧ c ≠ m ∧ w.heap[c]? = some (.cells #[.map (some m)] 72 (0, 0)) ∧ KMap w m n kept ∧ n ≤ 65536 ∧ ∀ a x, kept a = some x → MS.Right s a x

section
variable {StAt : World → Nat → (Nat → Prop) → MS → Prop} {w w' : World} {c : Nat} {F G : Nat → Prop} {s t : MS}
theorem CacheAt.lt (h : CacheAt w c F s) (k : Nat) (hk : F k) : k < w.heap.size := by
  obtain ⟨m, n, kept, hF, _, hc, hm, _⟩ := h
  rcases (hF k).1 hk with rfl | rfl
  · exact row_lt hc
  · exact hm.lt
theorem CacheAt.keep (h : CacheAt w c F s) (hK : Keeps G w w') (hG : ∀ k, F k → ¬ G k) : CacheAt w' c F s := by
  have hlt := h.lt
  obtain ⟨m, n, kept, hF, hne, hc, hm, hn, hr⟩ := h
  have h1 := (hF c).2 (.inl rfl)
  have h2 := (hF m).2 (.inr rfl)
  exact ⟨m, n, kept, hF, hne, (hK.block c (hlt c h1) (hG c h1)).trans hc, hm.block (hK.block m (hlt m h2) (hG m h2)), hn, hr⟩
theorem CacheAt.below (h : CacheAt w c F s) (hb : Below w.heap.size w w') : CacheAt w' c F s := h.keep (Keeps.of_below hb noBlock) (fun _ _ h => h)
theorem CacheAt.grows (h : CacheAt w c F s) (g : MS.Grows s t) : CacheAt w c F t := by
  obtain ⟨m, n, kept, hF, hne, hc, hm, hn, hr⟩ := h
  exact ⟨m, n, kept, hF, hne, hc, hm, hn, fun a x e => (hr a x e).grows g⟩

set_option maxRecDepth 100000 in
set_option maxHeartbeats 2000000 in
theorem iteNew (w : World) : Calls Tryz.prog 7 #[] w fun e w' => ∃ c, e = .returned (.pointer (some ⟨c, 0, none⟩)) ∧ (∃ F, (∀ s : MS, s.Ok → CacheAt w' c F s) ∧ ∀ k, F k → w.heap.size ≤ k) ∧ Below w.heap.size w w' := by
  have hM := KMap.made w
  have hM2 := hM.block (w' := (w.alloc (.map #[] 0)).alloc (.cells #[.map (some w.heap.size)] 72)) (heap_alloc_old _ _ hM.lt)
  have hc := heap_alloc_new (w.alloc (.map #[] 0)) (.cells #[.map (some w.heap.size)] 72)
  have eS : (w.alloc (.map #[] 0)).heap.size = w.heap.size + 1 := by simp only [World.alloc, Array.size_push]
  rw [eS] at hc
  have hb : Below w.heap.size w ((w.alloc (.map #[] 0)).alloc (.cells #[.map (some w.heap.size)] 72)) := by go_grown
  clear hM eS
  have hmm := @run_makeMap Tryz.prog
  go_enter Tryz.func7, Tryz.ntmps7
  go_wp2
  go_ret
  exact ⟨w.heap.size + 1, rfl, ⟨fun k => k = w.heap.size + 1 ∨ k = w.heap.size, fun s _ => ⟨w.heap.size, 0, _, fun _ => Iff.rfl, by omega, hc, hM2, by omega, fun _ _ h => by cases h⟩, fun k hk => by omega⟩, hb⟩

set_option maxRecDepth 100000 in
set_option maxHeartbeats 4000000 in
theorem iteKeep (h : CacheAt w c F s) {f g k x : Int} (hf : I64 f) (hg : I64 g) (hk : I64 k) (hx : I64 x) (hr : MS.Right s (Ask.of hf hg hk) x) :
    Calls Tryz.prog 119 #[.pointer (some ⟨c, 0, none⟩), askV f g k, .int .i64 x] w fun e w' => e = .returned (.tuple #[]) ∧ CacheAt w' c F s ∧ Keeps F w w' := by
  obtain ⟨m, n, kept, hF, hne, hc, hm, hn, hrt⟩ := h
  have hcw := row_lt hc
  have hmw := hm.lt
  have c00 : w.cell? ⟨c, 0, none⟩ = some (.map (some m)) := by rw [cell_of_row _ _ _ _ _ _ hc]; rfl
  have hX := HoldsK.new w f g k
  have hcB := (heap_alloc_old w (.cells #[.int .i64 f, .int .i64 g, .int .i64 k] 126) hcw).trans hc
  replace hm := hm.block (heap_alloc_old w (.cells #[.int .i64 f, .int .i64 g, .int .i64 k] 126) hmw)
  have hb := (Below.refl w.heap.size w).alloc (Nat.le_refl _) (.cells #[.int .i64 f, .int .i64 g, .int .i64 k] 126)
  have K0 : Keeps F w _ := Keeps.of_below hb F
  have hFm : ∀ q, some m = some q → F q := fun q e => (hF q).2 (.inr (Option.some.inj e).symm)
  have hBm : ¬ w.heap.size = m := by omega
  clear hb hc
  -- the map written, in whatever world that the walk comes to
  have key : ∀ (W : World) (n : Nat) (kept : Ask → Option Int), KMap W m n kept → n < 65536 → (∀ a x, kept a = some x → MS.Right s a x) → W.heap[c]? = some (.cells #[.map (some m)] 72 (0, 0)) → Keeps F w W →
      ∀ w' n', n' ≤ n + 1 → KMap w' m n' (fun z => if z = Ask.of hf hg hk then some x else kept z) → W.grownBy w' (some m) → CacheAt w' c F s ∧ Keeps F w w' := by
    intro W n kept _ hn hrt hcW hKW w' n' hn' hm' hgr
    have hK1 : Keeps (fun q => q = m) W w' := Keeps.of_grown hgr fun q e => (Option.some.inj e).symm
    refine ⟨⟨m, n', _, hF, hne, (hK1.block c (row_lt hcW) hne).trans hcW, hm', by omega, fun a y e => ?_⟩, hKW.and (Keeps.of_grown hgr hFm)⟩
    by_cases ha : a = Ask.of hf hg hk
    · subst ha
      rw [if_pos rfl] at e
      cases e
      exact hr
    · rw [if_neg ha] at e
      exact hrt a y e
  clear hr
  unfold askV
  by_cases hn2 : n < 65536
  · have hlen := fun ty => hm.len ty
    have hn3 : ¬ 65536 ≤ (n : Int) := by omega
    go_enter Tryz.func119, Tryz.ntmps119
    go_wp2
    clear hlen
    generalize w.alloc (.cells #[.int .i64 f, .int .i64 g, .int .i64 k] 126) = W at *
    have cW := fun u : Sub W => (show u.1.cell? ⟨c, 0, none⟩ = some (.map (some m)) by rw [cell_of_row _ _ _ _ _ _ ((u.2.block c (row_lt hcB)).trans hcB)]; rfl)
    have x0 := fun u : Sub W => (hX.sub u).cells.1
    have x1 := fun u : Sub W => (hX.sub u).cells.2.1
    have x2 := fun u : Sub W => (hX.sub u).cells.2.2
    refine wp_region_quiet_tail (C := fun w' => ∃ u : Sub W, w' = u.1) 6 (by kernel_rfl) (by kernel_rfl) (InSub.drew W) ?_
    simp only [List.take_succ_cons, List.take_zero]
    iterate 6 (go_big_quiet_step (fail))
    refine wpQuiet_nil ?_
    clear cW x0 x1 x2 c00
    intro w' hw'
    obtain ⟨u, rfl⟩ := hw'
    have hcU := (u.2.block c (row_lt hcB)).trans hcB
    have hmU := hm.block (u.2.block m hm.lt)
    have hKU := K0.and (Keeps.of_below u.2 F)
    generalize u.1 = V at *
    replace key := key V _ _ hmU hn2 hrt hcU hKU
    simp only [List.drop_succ_cons, List.drop_zero]
    go_wp2_with (at_mapUpdate; refine KMap.put hmU (by unfold maxLen; omega) rfl (.tmp 19) (.tmp 20) (.tmp 21) rfl hf hg hk hx rfl rfl rfl ?_; intro w2 n2 hn2 hm2 hgr2; replace key := Lib.hid (key w2 n2 hn2 hm2 hgr2))
    exact bodyPost_end (v := .tuple #[]) (by simp [results, Tryz.results119, go_sem]) rfl ⟨rfl, key.out⟩
  · obtain rfl : n = 65536 := by omega
    have hlen := fun ty => hm.len ty
    obtain ⟨w1, hclr, hm1, hgr⟩ := hm.clear
    have hK1 : Keeps (fun q => q = m) _ w1 := Keeps.of_grown hgr fun q e => (Option.some.inj e).symm
    replace hX := hX.keep hK1 hBm
    replace hcB := (hK1.block c (row_lt hcB) hne).trans hcB
    replace K0 := K0.and (Keeps.of_grown hgr hFm)
    replace hm := hm1
    clear hm1 hgr hK1
    go_enter Tryz.func119, Tryz.ntmps119
    go_wp2
    clear hlen hclr
    generalize w1 = W at *
    have cW := fun u : Sub W => (show u.1.cell? ⟨c, 0, none⟩ = some (.map (some m)) by rw [cell_of_row _ _ _ _ _ _ ((u.2.block c (row_lt hcB)).trans hcB)]; rfl)
    have x0 := fun u : Sub W => (hX.sub u).cells.1
    have x1 := fun u : Sub W => (hX.sub u).cells.2.1
    have x2 := fun u : Sub W => (hX.sub u).cells.2.2
    refine wp_region_quiet_tail (C := fun w' => ∃ u : Sub W, w' = u.1) 6 (by kernel_rfl) (by kernel_rfl) (InSub.drew W) ?_
    simp only [List.take_succ_cons, List.take_zero]
    iterate 6 (go_big_quiet_step (fail))
    refine wpQuiet_nil ?_
    clear cW x0 x1 x2 c00
    intro w' hw'
    obtain ⟨u, rfl⟩ := hw'
    have hcU := (u.2.block c (row_lt hcB)).trans hcB
    have hmU := hm.block (u.2.block m hm.lt)
    have hKU := K0.and (Keeps.of_below u.2 F)
    generalize u.1 = V at *
    replace key := key V _ _ hmU (by omega) (fun _ _ h => by cases h) hcU hKU
    simp only [List.drop_succ_cons, List.drop_zero]
    go_wp2_with (at_mapUpdate; refine KMap.put hmU (by unfold maxLen; omega) rfl (.tmp 19) (.tmp 20) (.tmp 21) rfl hf hg hk hx rfl rfl rfl ?_; intro w2 n2 hn2 hm2 hgr2; replace key := Lib.hid (key w2 n2 hn2 hm2 hgr2))
    exact bodyPost_end (v := .tuple #[]) (by simp [results, Tryz.results119, go_sem]) rfl ⟨rfl, key.out⟩
end

end Go.Proofs.YtoopeaahpmfleaaGreatDoor

/-
  Walks of package ite: answer, Ite.
-/
namespace Go.Proofs.YtoopeaahpmfleaaGreatDoor
open Go Go.RowKit

/-- A store, a cache and a variable that holds three numbers, on the way of one call. -/
structure PK (StAt : World → Nat → (Nat → Prop) → MS → Prop) (w0 : World) (b c : Nat) (F0 G0 : Nat → Prop) (B : Nat) (f g h : Int) (F G : Nat → Prop) (s : MS) (W : World) : Prop where
  a : StAt W b F s
  k : CacheAt W c G s
  ap : ∀ q, F q → ¬ G q
  keeps : Keeps (fun q => F0 q ∨ G0 q) w0 W
  wF : Within w0 (fun q => F0 q ∨ G0 q) F
  wG : Within w0 (fun q => F0 q ∨ G0 q) G
  box : HoldsK W B f g h
  nF : ¬ F B
  nG : ¬ G B

section
variable {StAt : World → Nat → (Nat → Prop) → MS → Prop} {w0 W W' : World} {b c B : Nat} {F0 G0 F G F' G' : Nat → Prop} {s t : MS} {f g h : Int}
theorem PK.below (H : StoreC StAt) (p : PK StAt w0 b c F0 G0 B f g h F G s W) (hb : Below W.heap.size W W') : PK StAt w0 b c F0 G0 B f g h F G s W' :=
  ⟨H.below p.a hb, p.k.below hb, p.ap, p.keeps.and (Keeps.of_below hb _), p.wF, p.wG, p.box.below hb, p.nF, p.nG⟩
theorem PK.sub (H : StoreC StAt) (p : PK StAt w0 b c F0 G0 B f g h F G s W) (u : Sub W) : PK StAt w0 b c F0 G0 B f g h F G s u.1 := p.below H u.2
theorem PK.call {r : Int × Int × MS} {e : Ending} (p : PK StAt w0 b c F0 G0 B f g h F G s W) (hp : CallPost StAt CacheAt W b c F G r e W') :
    e = .returned (.tuple #[.int .i64 r.1, errV r.2.1]) ∧ ∃ F' G', PK StAt w0 b c F0 G0 B f g h F' G' r.2.2 W' := by
  obtain ⟨he, F', G', hA, hC, hap, hK, hWA, hWC⟩ := hp
  have hU : Within w0 (fun q => F0 q ∨ G0 q) (fun q => F q ∨ G q) := fun q hq => hq.elim (p.wF q) (p.wG q)
  have hlt := p.box.lt
  have hn : ¬ (F B ∨ G B) := fun e => e.elim p.nF p.nG
  exact ⟨he, F', G', hA, hC, hap, p.keeps.trans hK hU, hU.trans hWA p.keeps.size, hU.trans hWC p.keeps.size, p.box.keep hK hn, fun e => (hWA B e).elim hn (fun h => by omega), fun e => (hWC B e).elim hn (fun h => by omega)⟩
theorem PK.store (p : PK StAt w0 b c F0 G0 B f g h F G s W) (gr : MS.Grows s t) (hA : StAt W' b F' t) (hK : Keeps F W W') (hW : Within W F F') : PK StAt w0 b c F0 G0 B f g h F' G t W' := by
  have hlt := p.box.lt
  exact ⟨hA, (p.k.keep hK fun q h1 h2 => p.ap q h2 h1).grows gr, fun q h1 h2 => (hW q h1).elim (fun h3 => p.ap q h3 h2) (fun h3 => by have := p.k.lt q h2; omega), p.keeps.trans (hK.mono (G := F) fun _ h => h) p.wF,
    p.wF.trans hW p.keeps.size, p.wG, p.box.keep hK p.nF, fun e => (hW B e).elim p.nF (fun h => by omega), p.nG⟩
theorem PK.cache (H : StoreC StAt) (p : PK StAt w0 b c F0 G0 B f g h F G s W) (hC : CacheAt W' c G s) (hK : Keeps G W W') : PK StAt w0 b c F0 G0 B f g h F G s W' :=
  ⟨H.keep p.a hK p.ap, hC, p.ap, p.keeps.trans hK p.wG, p.wF, p.wG, p.box.keep hK p.nG, p.nF, p.nG⟩
theorem PK.post {n e : Int} (p : PK StAt w0 b c F0 G0 B f g h F G s W) : CallPost StAt CacheAt w0 b c F0 G0 (n, e, s) (.returned (.tuple #[.int .i64 n, errV e])) W :=
  ⟨rfl, F, G, p.a, p.k, p.ap, p.keeps, p.wF, p.wG⟩
theorem PK.start (H : StoreC StAt) (hA : StAt w0 b F s) (hC : CacheAt w0 c G s) (ap : ∀ q, F q → ¬ G q) (f g h : Int) : PK StAt w0 b c F G w0.heap.size f g h F G s (w0.alloc (.cells #[.int .i64 f, .int .i64 g, .int .i64 h] 126)) := by
  have hb := (Below.refl w0.heap.size w0).alloc (Nat.le_refl _) (.cells #[.int .i64 f, .int .i64 g, .int .i64 h] 126)
  exact ⟨H.below hA hb, hC.below hb, ap, Keeps.of_below hb _, fun q h => .inl (.inl h), fun q h => .inl (.inr h), HoldsK.new w0 f g h, fun e => by have := H.lt hA _ e; omega, fun e => by have := hC.lt _ e; omega⟩
end

section
variable {s : MS} {l : Nat} {f g k : Int}
theorem MS.Three.once (h : MS.Three s l f g k) (ok : s.Ok) (e : onceB f g k = true) : s.ans f g k = (onceN f g k, 0, s) := by
  unfold onceN
  by_cases h1 : f = 1
  · subst h1
    rw [if_pos (.inl rfl)]
    exact h.one ok
  · by_cases h2 : g = k
    · subst h2
      rw [if_pos (.inr rfl)]
      exact h.same ok
    · rw [if_neg (fun e => e.elim h1 h2)]
      by_cases h3 : f = 0
      · subst h3
        rw [if_pos rfl]
        exact h.zero ok
      · rw [if_neg h3]
        have h4 : g = 1 ∧ k = 0 := by
          have := of_decide_eq_true e
          rcases this with h | h | h | h
          · exact absurd h h1
          · exact absurd h h2
          · exact absurd h h3
          · exact h
        rw [if_pos h4]
        obtain ⟨rfl, rfl⟩ := h4
        exact h.self ok
theorem MS.Three.node (h : MS.Three s l f g k) (e : onceB f g k = false) : s.has f = true := by
  rcases MS.there_cases h.tf with ⟨hc, _⟩ | hh
  · exfalso
    have := of_decide_eq_false e
    rcases hc with rfl | rfl
    · exact this (.inr (.inr (.inl rfl)))
    · exact this (.inl rfl)
  · exact hh
/-- What top tells: all three stand from there on, and it is no further ahead than they were known to be. -/
theorem MS.Three.top (h : MS.Three s l f g k) (ok : s.Ok) (hf : s.has f = true) {n : Nat} (hn : n < 8) (hno : ∀ j, j < n → s.noneOf f g k (s.o j) = true) (hl : n = 7 ∨ s.noneOf f g k (s.o n) = false) : l ≤ n ∧ MS.Three s n f g k := by
  have hno' : ∀ j, j < n → s.isOf f (s.o j) = false ∧ s.isOf g (s.o j) = false ∧ s.isOf k (s.o j) = false := fun j hj => by
    have := hno j hj
    unfold MS.noneOf at this
    simp only [Bool.not_eq_true', Bool.or_eq_false_iff] at this
    exact ⟨this.1.1, this.1.2, this.2⟩
  refine ⟨?_, h.tf, h.tg, h.tk, ok.from_of fun j hj => (hno' j hj).1, ok.from_of fun j hj => (hno' j hj).2.1, ok.from_of fun j hj => (hno' j hj).2.2⟩
  have hl7 : l ≤ 7 := by
    have := h.ff hf
    have := ok.lev hf
    omega
  rcases hl with rfl | hl
  · exact hl7
  · have key : ∀ m, s.from (l : Int) m → s.isOf m (s.o n) = true → l ≤ n := fun m hm hi => by
      obtain ⟨hh, hv⟩ := MS.isOf_true.1 hi
      have := hm hh
      rw [hv, levO_at ok.order hn rfl] at this
      omega
    unfold MS.noneOf at hl
    simp only [Bool.not_eq_false', Bool.or_eq_true] at hl
    rcases hl with (hl | hl) | hl
    · exact key f h.ff hl
    · exact key g h.fg hl
    · exact key k h.fk hl
theorem MS.Three.i64 (h : MS.Three s l f g k) (ok : s.Ok) : I64 f ∧ I64 g ∧ I64 k := ⟨ok.toBase.there_i64 h.tf, ok.toBase.there_i64 h.tg, ok.toBase.there_i64 h.tk⟩
end

section
variable {StAt : World → Nat → (Nat → Prop) → MS → Prop} {w : World} {b c : Nat} {F G : Nat → Prop} {s : MS}
set_option maxRecDepth 100000 in
set_option maxHeartbeats 4000000 in
theorem iteAnswer_once (H : StoreC StAt) (hA : StAt w b F s) (hC : CacheAt w c G s) (ok : s.Ok) (ap : ∀ q, F q → ¬ G q) {l : Nat} {f g k : Int} (h : MS.Three s l f g k) (ho : onceB f g k = true) :
    Calls Tryz.prog 88 #[.pointer (some ⟨c, 0, none⟩), .pointer (some ⟨b, 0, none⟩), askV f g k] w (CallPost StAt CacheAt w b c F G (s.ans f g k)) := by
  rw [h.once ok ho]
  have A1 := fun W => iteOnce f g k W
  rw [ho] at A1
  have P := PK.start H hA hC ap f g k
  obtain ⟨y0, y1, y2⟩ := P.box.cells
  clear hA hC
  generalize onceN f g k = n at *
  unfold askV at *
  go_enter Tryz.func88, Tryz.ntmps88
  go_wp2_with fail
  refine (A1 _).mono ?_
  rintro e w1 ⟨rfl, hb1⟩
  replace P := P.below H hb1
  clear A1 y0 y1 y2
  go_wp2
  go_ret2
  exact P.post

set_option maxRecDepth 100000 in
set_option maxHeartbeats 8000000 in
theorem iteAnswer (H : StoreC StAt) (b c : Nat) : ∀ (d l : Nat) (s : MS) (f g k : Int) (w : World) (F G : Nat → Prop), 8 ≤ l + d → MS.Three s l f g k → StAt w b F s → CacheAt w c G s → s.Ok → (∀ q, F q → ¬ G q) →
    Calls Tryz.prog 88 #[.pointer (some ⟨c, 0, none⟩), .pointer (some ⟨b, 0, none⟩), askV f g k] w (CallPost StAt CacheAt w b c F G (s.ans f g k)) := by
  intro d
  induction d with
  | zero =>
    intro l s f g k w F G hd h hA hC ok ap
    refine iteAnswer_once H hA hC ok ap h ?_
    cases ho : onceB f g k
    · exfalso
      have hf := h.node ho
      have := h.ff hf
      have := ok.lev hf
      omega
    · rfl
  | succ d ih =>
    intro l s f g k w F G hd h hA hC ok ap
    cases ho : onceB f g k
    case true => exact iteAnswer_once H hA hC ok ap h ho
    have hf := h.node ho
    obtain ⟨i1, i2, i3⟩ := h.i64 ok
    have A1 := fun W => iteOnce f g k W
    rw [ho] at A1
    have P := PK.start H hA hC ap f g k
    obtain ⟨y0, y1, y2⟩ := P.box.cells
    clear hA hC
    generalize onceN f g k = n at *
    have A2 := fun W F' (hA : StAt W b F' s) => iteTop H hA ok f g k i1 i2 i3
    have A3 := fun W F' (hA : StAt W b F' s) v => iteWhere H hA ok f g k v false i1 i2 i3
    have A4 := fun t W F' (hA : StAt W b F' t) (okt : t.Ok) v => iteWhere H hA okt f g k v true i1 i2 i3
    unfold askV at A1 A2 A3 A4 ⊢
    go_enter Tryz.func88, Tryz.ntmps88
    go_wp2_with fail
    refine (A1 _).mono ?_
    rintro e w1 ⟨rfl, hb1⟩
    replace P := P.below H hb1
    clear A1 y0 y1 y2 hb1
    obtain ⟨m, nm, kept, _, _, hc, hm, _, hr⟩ := P.k
    replace hr := hr (Ask.of i1 i2 i3)
    have q0 := fun u : Sub w1 => (show u.1.cell? ⟨c, 0, none⟩ = some (.map (some m)) by rw [cell_of_row _ _ _ _ _ _ ((u.2.block c (row_lt hc)).trans hc)]; rfl)
    have L := fun u : Sub w1 => (hm.block (u.2.block m hm.lt)).look i1 i2 i3
    have x0 := fun u : Sub w1 => (P.box.sub u).cells.1
    have x1 := fun u : Sub w1 => (P.box.sub u).cells.2.1
    have x2 := fun u : Sub w1 => (P.box.sub u).cells.2.2
    unfold askV at L
    generalize kept (Ask.of i1 i2 i3) = ko at *
    clear hm hc
    replace P := Lib.hid P
    replace h := Lib.hid h
    cases ko with
    | some x =>
      have hrx := hr x rfl
      have hans := Lib.hid (show s.ans f g k = (x, 0, s) from ok.ans_known hrx.tx hrx.tab)
      clear hr A2 A3 A4 ih
      simp only [Option.getD_some, Option.isSome_some] at L
      go_wp2
      refine wp_region_quiet_all (C := fun w' => ∃ u : Sub w1, w' = u.1) (by kernel_rfl) (by kernel_rfl) (InSub.drew w1) ?_
      iterate 11 (go_big_quiet_step (fail))
      refine wpQuiet_nil ?_
      clear q0 x0 x1 x2 L
      intro w' hw'
      obtain ⟨u, rfl⟩ := hw'
      go_wp2
      go_ret2
      rw [hans.out]
      exact (P.out.sub H u).post
    | none =>
      clear hr
      simp only [Option.getD_none, Option.isSome_none] at L
      go_wp2
      refine wp_region_quiet_all (C := fun w' => ∃ u : Sub w1, w' = u.1) (by kernel_rfl) (by kernel_rfl) (InSub.drew w1) ?_
      iterate 11 (go_big_quiet_step (fail))
      refine wpQuiet_nil ?_
      clear q0 x0 x1 x2 L
      intro w' hw'
      obtain ⟨u, rfl⟩ := hw'
      replace P := P.out.sub H u
      generalize u.1 = w2 at *
      obtain ⟨x0, x1, x2⟩ := P.box.cells
      replace P := Lib.hid P
      go_wp2_with fail
      refine (A2 _ _ P.out.a).mono ?_
      rintro e w3 ⟨⟨n7, hn8, rfl, hno, hl7⟩, hb3⟩
      clear A2 x0 x1 x2
      replace P := Lib.hid (P.out.below H hb3)
      obtain ⟨hln, h7⟩ := h.out.top ok hf hn8 hno hl7
      clear hno hl7 hb3 h
      have S0 := h7.side ok hn8 false
      have IA := fun W F' G' hA hC ap => ih (n7 + 1) s _ _ _ W F' G' (by omega) S0 hA hC ok ap
      obtain ⟨okA, extA, errA, resA⟩ := ok.ans_spec (s.side f (s.o n7) false) (s.side g (s.o n7) false) (s.side k (s.o n7) false)
      have hans := fun A hA => h7.ans ok hn8 (A := A) hA
      replace A3 := fun W F' (hA : StAt W b F' s) => A3 W F' hA (s.o n7)
      obtain ⟨j1, j2, j3⟩ := S0.i64 ok
      unfold askV at IA A3
      generalize hAA : s.ans (s.side f (s.o n7) false) (s.side g (s.o n7) false) (s.side k (s.o n7) false) = A at *
      replace hans := hans A rfl
      generalize hB : A.2.2.ans (A.2.2.side f (s.o n7) true) (A.2.2.side g (s.o n7) true) (A.2.2.side k (s.o n7) true) = Bb at *
      have S1 := (h7.ext extA).side okA hn8 true
      have IB := fun W F' G' hA hC ap => ih (n7 + 1) A.2.2 _ _ _ W F' G' (by omega) S1 hA hC okA ap
      have SB := okA.ans_spec (A.2.2.side f (s.o n7) true) (A.2.2.side g (s.o n7) true) (A.2.2.side k (s.o n7) true)
      rw [extA.o] at IB
      rw [hB] at IB SB
      replace A4 := fun W F' (hA : StAt W b F' A.2.2) => A4 A.2.2 W F' hA okA (s.o n7)
      have hv := mayO_range ok.order hn8
      have hspec := ok.ans_spec f g k
      have hE := fun h0 => MS.bld_err0 8 s (iteF (s.tab f) (s.tab g) (s.tab k)) h0
      change (s.ans f g k).2.1 ≠ 0 → (s.ans f g k).1 = 0 at hE
      rw [hans] at hspec hE
      replace hans := Lib.hid hans
      unfold askV at IB A4
      generalize s.side f (s.o n7) false = f0 at *
      generalize s.side g (s.o n7) false = g0 at *
      generalize s.side k (s.o n7) false = k0 at *
      generalize A.2.2.side f (s.o n7) true = f1 at *
      generalize A.2.2.side g (s.o n7) true = g1 at *
      generalize A.2.2.side k (s.o n7) true = k1 at *
      generalize s.o n7 = v at *
      clear ih S0 S1 hAA hB hln
      obtain ⟨A0, A1, sA⟩ := A
      obtain ⟨B0, B1, sB⟩ := Bb
      dsimp only at *
      obtain ⟨okB, extB, errB, resB⟩ := SB
      obtain ⟨x0, x1, x2⟩ := P.out.box.cells
      replace hspec := Lib.hid hspec
      replace hE := Lib.hid hE
      replace h7 := Lib.hid h7
      go_wp2_with fail
      refine (A3 _ _ P.out.a).mono ?_
      rintro e w4 ⟨rfl, hb4⟩
      replace P := Lib.hid (P.out.below H hb4)
      clear A3 x0 x1 x2 hb4
      go_wp2_with fail
      refine (IA _ _ _ P.out.a P.out.k P.out.ap).mono ?_
      intro e w5 hp
      obtain ⟨rfl, F5, G5, P5⟩ := P.out.call hp
      clear IA hp P
      replace P5 := Lib.hid P5
      dsimp only
      by_cases hA1 : A1 = 0
      · subst hA1
        rw [errV0]
        obtain ⟨x0, x1, x2⟩ := P5.out.box.cells
        go_wp2_with fail
        refine (A4 _ _ P5.out.a).mono ?_
        rintro e w6 ⟨rfl, hb6⟩
        replace P5 := Lib.hid (P5.out.below H hb6)
        clear A4 x0 x1 x2 hb6
        go_wp2_with fail
        refine (IB _ _ _ P5.out.a P5.out.k P5.out.ap).mono ?_
        intro e w7 hp
        obtain ⟨rfl, F7, G7, P7⟩ := P5.out.call hp
        clear IB hp P5
        replace P7 := Lib.hid P7
        dsimp only
        by_cases hB1 : B1 = 0
        · subst hB1
          rw [errV0]
          have HM := H.make P7.out.a okB v A0 B0 (okB.toBase.there_i64 (extB.there (resA (by trivial)).1)) (okB.toBase.there_i64 (resB (by trivial)).1)
          have hgr := okB.mk_grows v A0 B0
          have hans2 := Lib.hid (hans.out.trans (show MS.twoB v (A0, 0, sA) (B0, 0, sB) = sB.mk v A0 B0 [] from rfl))
          rw [show MS.twoB v (A0, 0, sA) (B0, 0, sB) = sB.mk v A0 B0 [] from rfl] at hspec hE
          have hext := (extA.trans extB).trans (okB.mk_ext v A0 B0)
          clear hans
          generalize sB.mk v A0 B0 [] = R at *
          obtain ⟨R0, R1, sR⟩ := R
          dsimp only at HM hgr hext
          go_wp2_with fail
          refine HM.mono ?_
          rintro e w8 ⟨rfl, F8, hA8, hK8, hW8⟩
          clear HM
          have P8 := Lib.hid (P7.out.store hgr hA8 hK8 hW8)
          clear P7 hA8 hK8 hW8 hgr
          by_cases hR1 : R1 = 0
          · subst hR1
            rw [errV0]
            obtain ⟨okR, _, _, resR⟩ := hspec.out
            obtain ⟨tR, eR⟩ := resR (by trivial)
            have hRt : MS.Right sR (Ask.of i1 i2 i3) R0 := ⟨hext.there h7.out.tf, hext.there h7.out.tg, hext.there h7.out.tk, tR, by rw [eR]; show _ = iteF (sR.tab f) (sR.tab g) (sR.tab k); rw [hext.tab ok okR h7.out.tf, hext.tab ok okR h7.out.tg, hext.tab ok okR h7.out.tk]⟩
            have HK := iteKeep P8.out.k i1 i2 i3 (okR.toBase.there_i64 tR) hRt
            obtain ⟨x0, x1, x2⟩ := P8.out.box.cells
            unfold askV at HK
            clear hRt tR eR resR okR hspec hE
            go_wp2_with fail
            refine HK.mono ?_
            rintro e w9 ⟨rfl, hC9, hK9⟩
            clear HK x0 x1 x2
            have P9 := Lib.hid (P8.out.cache H hC9 hK9)
            clear hC9 hK9 P8
            go_wp2
            go_ret2
            rw [hans2.out]
            exact P9.out.post
          · have h0 : R0 = 0 := hE.out hR1
            subst h0
            simp only [errV, if_neg hR1]
            go_wp2
            go_ret2
            rw [hans2.out]
            have := P8.out.post (n := 0) (e := R1)
            simp only [errV, if_neg hR1] at this
            exact this
        · have hans2 := Lib.hid (hans.out.trans (show MS.twoB v (A0, 0, sA) (B0, B1, sB) = (0, B1, sB) by unfold MS.twoB; rw [if_neg (by simp), if_pos hB1]))
          clear hspec hE hans
          simp only [errV, if_neg hB1]
          go_wp2
          go_ret2
          rw [hans2.out]
          have := P7.out.post (n := 0) (e := B1)
          simp only [errV, if_neg hB1] at this
          exact this
      · have hans2 := Lib.hid (hans.out.trans (show MS.twoB v (A0, A1, sA) (B0, B1, sB) = (0, A1, sA) by unfold MS.twoB; rw [if_pos hA1]))
        clear hspec hE hans
        simp only [errV, if_neg hA1]
        go_wp2
        go_ret2
        rw [hans2.out]
        have := P5.out.post (n := 0) (e := A1)
        simp only [errV, if_neg hA1] at this
        exact this

set_option maxRecDepth 100000 in
set_option maxHeartbeats 4000000 in
theorem iteIte (H : StoreC StAt) (hA : StAt w b F s) (hC : CacheAt w c G s) (ok : s.Ok) (ap : ∀ q, F q → ¬ G q) (f g k : Int) (hf : I64 f) (hg : I64 g) (hk : I64 k) :
    Calls Tryz.prog 40 #[.pointer (some ⟨c, 0, none⟩), .pointer (some ⟨b, 0, none⟩), .int .i64 f, .int .i64 g, .int .i64 k] w (CallPost StAt CacheAt w b c F G (s.ite f g k)) := by
  have T1 := iteIsThere H hA ok f hf
  have T2 := fun W (hb : Below w.heap.size w W) => iteIsThere H (H.below hA hb) ok g hg
  have T3 := fun W (hb : Below w.heap.size w W) => iteIsThere H (H.below hA hb) ok k hk
  have hno : ∀ W, Below w.heap.size w W → CallPost StAt CacheAt w b c F G (0, 1, s) (.returned (.tuple #[.int .i64 0, .iface 75 (.int .i64 1)])) W := fun W hb => ⟨rfl, F, G, H.below hA hb, hC.below hb, ap, Keeps.of_below hb _, fun q h => .inl (.inl h), fun q h => .inl (.inr h)⟩
  have hyes : s.there f = true → s.there g = true → s.there k = true → ∀ W, Below w.heap.size w W →
      Calls Tryz.prog 88 #[.pointer (some ⟨c, 0, none⟩), .pointer (some ⟨b, 0, none⟩), askV f g k] W (CallPost StAt CacheAt w b c F G (s.ite f g k)) := fun t1 t2 t3 W hb => by
    have h3 : MS.Three s 0 f g k := ⟨t1, t2, t3, fun hh => (ok.lev hh).1, fun hh => (ok.lev hh).1, fun hh => (ok.lev hh).1⟩
    have e : s.ite f g k = s.ans f g k := by unfold MS.ite MS.ans; rw [if_pos ⟨t1, t2, t3⟩]
    rw [e]
    refine (iteAnswer H b c 8 0 s f g k W F G (by omega) h3 (H.below hA hb) (hC.below hb) ok ap).mono ?_
    rintro e W' ⟨he, F', G', h1, h2, h3, h4, h5, h6⟩
    exact ⟨he, F', G', h1, h2, h3, (Keeps.of_below hb _).and h4, fun q hq => (h5 q hq).imp id (fun h => Nat.le_trans hb.size h), fun q hq => (h6 q hq).imp id (fun h => Nat.le_trans hb.size h)⟩
  clear hA hC
  cases t1 : s.there f
  · have e : s.ite f g k = (0, 1, s) := by unfold MS.ite; rw [if_neg (by simp [t1])]
    rw [e]
    rw [t1] at T1
    clear hyes T2 T3 e
    go_enter Tryz.func40, Tryz.ntmps40
    go_wp2_with fail
    refine T1.mono ?_
    rintro e w1 ⟨rfl, hb⟩
    clear T1
    go_wp2
    go_ret2
    exact hno _ hb
  · rw [t1] at T1
    cases t2 : s.there g
    · have e : s.ite f g k = (0, 1, s) := by unfold MS.ite; rw [if_neg (by simp [t2])]
      rw [e]
      rw [t2] at T2
      clear hyes T3 e
      go_enter Tryz.func40, Tryz.ntmps40
      go_wp2_with fail
      refine T1.mono ?_
      rintro e w1 ⟨rfl, hb⟩
      clear T1
      go_wp2_with fail
      refine (T2 _ hb).mono ?_
      rintro e w2 ⟨rfl, hb2⟩
      replace hb := hb.trans (hb2.mono hb.size)
      clear T2 hb2
      go_wp2
      go_ret2
      exact hno _ hb
    · rw [t2] at T2
      cases t3 : s.there k
      · have e : s.ite f g k = (0, 1, s) := by unfold MS.ite; rw [if_neg (by simp [t3])]
        rw [e]
        rw [t3] at T3
        clear hyes e
        go_enter Tryz.func40, Tryz.ntmps40
        go_wp2_with fail
        refine T1.mono ?_
        rintro e w1 ⟨rfl, hb⟩
        clear T1
        go_wp2_with fail
        refine (T2 _ hb).mono ?_
        rintro e w2 ⟨rfl, hb2⟩
        replace hb := hb.trans (hb2.mono hb.size)
        clear T2 hb2
        go_wp2_with fail
        refine (T3 _ hb).mono ?_
        rintro e w3 ⟨rfl, hb2⟩
        replace hb := hb.trans (hb2.mono hb.size)
        clear T3 hb2
        go_wp2
        go_ret2
        exact hno _ hb
      · rw [t3] at T3
        replace hyes := hyes t1 t2 t3
        clear hno
        unfold askV at hyes
        generalize s.ite f g k = r at *
        obtain ⟨r0, r1, t⟩ := r
        go_enter Tryz.func40, Tryz.ntmps40
        go_wp2_with fail
        refine T1.mono ?_
        rintro e w1 ⟨rfl, hb⟩
        clear T1
        go_wp2_with fail
        refine (T2 _ hb).mono ?_
        rintro e w2 ⟨rfl, hb2⟩
        replace hb := hb.trans (hb2.mono hb.size)
        clear T2 hb2
        go_wp2_with fail
        refine (T3 _ hb).mono ?_
        rintro e w3 ⟨rfl, hb2⟩
        replace hb := hb.trans (hb2.mono hb.size)
        clear T3 hb2
        go_wp2_with fail
        refine (hyes _ hb).mono ?_
        rintro e w4 ⟨rfl, hp⟩
        dsimp only
        go_wp2
        go_ret2
        exact ⟨rfl, hp⟩

theorem iteC (H : StoreC StAt) : IteC StAt CacheAt where
  lt h := h.lt
  keep h hK hG := h.keep hK hG
  grows h _ _ g := h.grows g
  new w := iteNew w
  ite hA hC ok ap f g h i1 i2 i3 := iteIte H hA hC ok ap f g h i1 i2 i3
end

end Go.Proofs.YtoopeaahpmfleaaGreatDoor
