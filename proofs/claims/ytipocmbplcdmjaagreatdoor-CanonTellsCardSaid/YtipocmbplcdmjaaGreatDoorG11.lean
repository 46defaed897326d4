/-
  Texts of this proof, one behind the other: CoF, CoT, CoP, CoN, StoreI, Math.
-/
import Derived.Test.YtipocmbplcdmjaaGreatDoorG10
import Derived.Test.YtipocmbplcdmjaaGreatDoorG7
import Derived.WalkKit
/-
  Walks of the code's store: Free.
-/
namespace Go.Proofs.YtipocmbplcdmjaaGreatDoor
open Go Go.RowKit

section
variable {w w' : World} {b bA : Nat} {FA F : Nat → Prop} {bT : Nat → Nat} {FT : Nat → Nat → Prop} {v v' : Value} {o : Nat → Int} {ar : AS} {X X' : List (Nd × Int)} {tabs : Nat → TS} {s : MS} {R : List Int} {f : Int → Int}

end

end Go.Proofs.YtipocmbplcdmjaaGreatDoor

/-
  Walks of the code's store: turn.
-/
namespace Go.Proofs.YtipocmbplcdmjaaGreatDoor
open Go Go.RowKit

/-- What is known of a round. -/
structure MS.Turn (t : MS) (n : Int) (R : List Int) (X Y : Nat) (a c : Int) (t1 t2 : MS) : Prop where
  okb : t.Okb (n :: R)
  okb1 : t1.Okb (n :: R)
  base2 : t2.Base
  closed : t.Closed
  closed1 : t1.Closed
  hasR : ∀ m ∈ n :: R, t.has m = true
  hasR1 : ∀ m ∈ n :: R, t1.has m = true
  has2 : t2.has n = true
  nR : n ∉ R
  X8 : X < 8
  Y8 : Y < 8
  var : (t.nd n).var = (X : Int)
  nd2 : t2.nd n = t.nd n
  mk1 : t.mk (X : Int) (t.side (t.nd n).lo (Y : Int) false) (t.side (t.nd n).hi (Y : Int) false) (n :: R) = (a, 0, t1)
  mk2 : t1.mk (X : Int) (t.side (t.nd n).lo (Y : Int) true) (t.side (t.nd n).hi (Y : Int) true) (n :: R) = (c, 0, t2)
  b1 : t.behind (t.side (t.nd n).lo (Y : Int) false) (X : Int) = true
  b2 : t.behind (t.side (t.nd n).hi (Y : Int) false) (X : Int) = true
  b3 : t1.behind (t.side (t.nd n).lo (Y : Int) true) (X : Int) = true
  b4 : t1.behind (t.side (t.nd n).hi (Y : Int) true) (X : Int) = true
  ta : t2.there a = true
  tc : t2.there c = true
  tlo : t2.there (t.nd n).lo = true
  thi : t2.there (t.nd n).hi = true
  one : ∀ m, t2.has m = true → m ∉ n :: R → t2.nd m ≠ ⟨(Y : Int), a, c⟩

theorem MS.J.turn {s t : MS} {l : Nat} {C R : List Int} (w : s.Sw l C) {n : Int} (hn : n ∈ C) (hnR : n ∉ R) (hR : ∀ m ∈ R, m ∈ C) (j : MS.J s l C (n :: R) t) (hroom : 2 * ((n :: R).length : Int) ≤ t.room) {X Y : Nat} (hX : s.o l = (X : Int)) (hY : s.o (l + 1) = (Y : Int)) :
    ∃ a c t1 t2, t.Turn n R X Y a c t1 t2 ∧ t.mk (X : Int) (t.side (t.nd n).lo (Y : Int) false) (t.side (t.nd n).hi (Y : Int) false) (n :: R) = (a, 0, t1) ∧
      t1.mk (X : Int) (t1.side (t.nd n).lo (Y : Int) true) (t1.side (t.nd n).hi (Y : Int) true) (n :: R) = (c, 0, t2) ∧ MS.J s l C R (t2.setNd n ⟨(Y : Int), a, c⟩) ∧ 2 * (R.length : Int) ≤ (t2.setNd n ⟨(Y : Int), a, c⟩).room := by
  have hRC : ∀ m ∈ n :: R, m ∈ C := fun m hm => by
    rcases List.mem_cons.1 hm with rfl | hm
    · exact hn
    · exact hR m hm
  have rx := mayO_range w.ok.order (i := l) (by have := w.l6; omega)
  have ry := mayO_range w.ok.order (i := l + 1) (by have := w.l6; omega)
  obtain ⟨n1, n2, _⟩ := (w.mem n).1 hn
  obtain ⟨d1, d2⟩ := w.sides hn
  have e0 := j.old n n1 (.inr List.mem_cons_self)
  obtain ⟨a, c, t1, t2, _, m1, m2, j1, j2, hn2, j3, r3⟩ := j.round w hn hnR hroom
  have p00 := w.ok.deep_side w.l6 d1 false
  have p10 := w.ok.deep_side w.l6 d2 false
  have p01 := w.ok.deep_side w.l6 d1 true
  have p11 := w.ok.deep_side w.l6 d2 true
  have s00 := j.side_as w d1 false
  have s10 := j.side_as w d2 false
  have s01 := j.side_as w d1 true
  have s11 := j.side_as w d2 true
  have u01 := j1.side_as w d1 true
  have u11 := j1.side_as w d2 true
  have b00 := j.deep_behind w p00
  have b10 := j.deep_behind w p10
  have b01 := j1.deep_behind w p01
  have b11 := j1.deep_behind w p11
  have e2 := j2.old n n1 (.inr List.mem_cons_self)
  have hB2 := j2.okb.toBase
  have hat := hB2.setNd_at hn2 ⟨s.o (l + 1), a, c⟩
  have ha := MS.behind_there (j3.okb.lo n hn2 hnR)
  have hc := MS.behind_there (j3.okb.hi n hn2 hnR)
  rw [hat] at ha hc
  have hcl2 := j2.closed w hRC n hn2
  rw [e2] at hcl2
  rw [hX] at m1 m2 b00 b10 b01 b11
  rw [hX] at n2 rx
  rw [hY] at m1 m2 s00 s10 s01 s11 u01 u11 b00 b10 b01 b11 hat j3 r3 ry
  have m2' := m2
  rw [e0] at m1 m2 m2'
  rw [u01, u11, ← s01, ← s11] at m2'
  refine ⟨a, c, t1, t2, ⟨j.okb, j1.okb, hB2, j.closed w hRC, j1.closed w hRC, fun m hm => j.has m ((w.mem m).1 (hRC m hm)).1, fun m hm => j1.has m ((w.mem m).1 (hRC m hm)).1, hn2, hnR, by omega, by omega, by rw [e0]; exact n2, by rw [e2, e0], by rw [e0]; exact m1, by rw [e0]; exact m2', ?_, ?_, ?_, ?_, ha, hc, by rw [e0]; exact hcl2.1, by rw [e0]; exact hcl2.2, fun m hm hmR e => ?_⟩, by rw [e0]; exact m1, by rw [e0]; exact m2, j3, r3⟩
  · rw [e0, s00]; exact b00
  · rw [e0, s10]; exact b10
  · rw [e0, s01]; exact b01
  · rw [e0, s11]; exact b11
  · simp only [List.mem_cons, not_or] at hmR
    have h1 := hB2.setNd_ne hn2 hm hmR.1 ⟨(Y : Int), a, c⟩
    exact hmR.1 (j3.okb.one m n hm hn2 hmR.2 hnR (by rw [h1, e, hat]))

section
variable {w w' : World} {b : Nat} {F : Nat → Prop} {t t1 t2 : MS} {R : List Int}

set_option maxRecDepth 100000 in
set_option maxHeartbeats 4000000 in
theorem coTurn {n a c : Int} {vx vy : Nat} (h : CoAt w b F t (n :: R) t.refs) (T : t.Turn n R vx vy a c t1 t2) :
    Calls Tryz.prog 48 #[pv b, .int .i64 n, .int .i64 (vy : Int)] w fun e w' => e = .returned (.tuple #[]) ∧ ∃ F', CoAt w' b F' (t2.setNd n ⟨(vy : Int), a, c⟩) R (t2.setNd n ⟨(vy : Int), a, c⟩).refs ∧ Keeps F w w' ∧ Within w F F' := by
  have hh := T.hasR n List.mem_cons_self
  have okb := T.okb.toBase
  have hcl := T.closed n hh
  have HA := coAt h okb hh
  have q0 := fieldP (t.nd n) (t.refs n)
  unfold plv at HA
  have hFlt := h.lt
  have hlt : ∀ m, -100000 ≤ t2.refs m ∧ t2.refs m ≤ 100000 := fun m => by
    have := t2.refs_nonneg m; have := T.base2.refs_le m; omega
  have hlt2 : ∀ m, -100000 ≤ t2.refs m + cnt ⟨(vy : Int), a, c⟩ m ∧ t2.refs m + cnt ⟨(vy : Int), a, c⟩ m ≤ 100000 := fun m => by
    have := t2.refs_nonneg m; have := T.base2.refs_le m; have := cnt_nonneg ⟨(vy : Int), a, c⟩ m; have := cnt_le ⟨(vy : Int), a, c⟩ m; omega
  have hrefs := T.base2.refs_setNd T.has2 ⟨(vy : Int), a, c⟩
  rw [T.nd2] at hrefs
  have P1 := fun W hb => coApart (w := W) (h.below hb) okb (t.nd n).lo (vy : Int) hcl.1
  have P2 := fun W hb => coApart (w := W) (h.below hb) okb (t.nd n).hi (vy : Int) hcl.2
  have M1 := fun {W F} (h : CoAt W b F t (n :: R) t.refs) => coMust h T.okb T.closed T.hasR vx T.X8 _ _ T.b1 T.b2
  have M2 := fun {W F} (h : CoAt W b F t1 (n :: R) t1.refs) => coMust h T.okb1 T.closed1 T.hasR1 vx T.X8 _ _ T.b3 T.b4
  rw [T.mk1] at M1
  rw [T.mk2] at M2
  dsimp only at M1 M2
  have L := fun {W F} (h : CoAt W b F t2 (n :: R) t2.refs) => coLay h T.base2 T.has2 T.nR ⟨(vy : Int), a, c⟩ (by have := T.Y8; constructor <;> dsimp only <;> omega) T.ta T.tc T.one hlt
  have G := fun {W F} (h : CoAt W b F (t2.setNd n ⟨(vy : Int), a, c⟩) R (fun m => t2.refs m + cnt ⟨(vy : Int), a, c⟩ m)) => coHang h (T.base2.setNd n ⟨(vy : Int), a, c⟩) (t.nd n) (-1) T.tlo T.thi hlt2 (.inr rfl)
  have hvx := T.var
  unfold nv at L G
  generalize t.side (t.nd n).lo (vy : Int) false = s00 at *
  generalize t.side (t.nd n).lo (vy : Int) true = s01 at *
  generalize t.side (t.nd n).hi (vy : Int) false = s10 at *
  generalize t.side (t.nd n).hi (vy : Int) true = s11 at *
  generalize hold : t.nd n = old at *
  obtain ⟨ov', ol, oh⟩ := old
  dsimp only at hvx
  subst hvx
  dsimp only at HA q0 P1 P2 M1 M2 L G hrefs
  clear hlt hlt2 hcl T hh okb
  replace hold := Lib.hid hold
  replace hrefs := Lib.hid hrefs
  replace hFlt := Lib.hid hFlt
  go_enter Tryz.func48, Tryz.ntmps48
  go_wp2_with fail
  refine HA.mono ?_
  rintro e w2 ⟨rfl, hb2⟩
  clear HA
  have hx := HoldsN.new w2 ⟨(vx : Int), ol, oh⟩
  dsimp only at hx
  have hb3 : Below w.heap.size w (w2.alloc (.cells #[.int .i64 (vx : Int), .int .i64 ol, .int .i64 oh] 69)) := hb2.alloc hb2.size _
  have hBl := hb2.size
  clear hb2
  obtain ⟨x0, x1, x2⟩ := HoldsN.cells hx
  dsimp only at x0 x1 x2
  go_wp2_with fail
  generalize w2.alloc (.cells #[.int .i64 (vx : Int), .int .i64 ol, .int .i64 oh] 69) = W at *
  generalize hB : w2.heap.size = B at *
  clear hB x0 x1 x2
  refine (P1 W hb3).mono ?_
  rintro e w3 ⟨rfl, hb4⟩
  replace hx := HoldsN.below hx hb4
  replace hb3 := hb3.trans (hb4.mono hb3.size)
  clear P1 hb4
  obtain ⟨x0, x1, x2⟩ := HoldsN.cells hx
  dsimp only at x0 x1 x2
  go_wp2_with fail
  clear x0 x1 x2
  refine (P2 w3 hb3).mono ?_
  rintro e w4 ⟨rfl, hb4⟩
  replace hx := HoldsN.below hx hb4
  replace hb3 := hb3.trans (hb4.mono hb3.size)
  clear P2 hb4
  obtain ⟨x0, x1, x2⟩ := HoldsN.cells hx
  dsimp only at x0 x1 x2
  go_wp2_with fail
  clear x0 x1 x2
  have hBF : ¬ F B := fun e => by have := hFlt.out _ e; omega
  have hBlt := HoldsN.lt hx
  refine (M1 (h.below hb3)).mono ?_
  rintro e w5 ⟨rfl, F5, hC, hK, hW⟩
  replace hx := HoldsN.keep hx hK hBF
  have hKw := (Keeps.of_below hb3 F).and hK
  have hWw : Within w F F5 := fun k hk => (hW k hk).imp id (fun h => Nat.le_trans hb3.size h)
  have hBF5 : ¬ F5 B := fun e => (hW B e).elim hBF (fun h => by omega)
  clear M1 h hK hW hBlt hBF hb3
  obtain ⟨x0, x1, x2⟩ := HoldsN.cells hx
  dsimp only at x0 x1 x2
  go_wp2_with fail
  clear x0 x1 x2
  have hBlt := HoldsN.lt hx
  refine (M2 hC).mono ?_
  rintro e w6 ⟨rfl, F6, hC6, hK, hW⟩
  replace hx := HoldsN.keep hx hK hBF5
  have hWl := hWw.trans hW hKw.size
  have hKl := hKw.trans hK hWw
  have hBF6 : ¬ F6 B := fun e => (hW B e).elim hBF5 (fun h => by omega)
  clear M2 hC hK hW hBlt hBF5 hKw hWw
  go_wp2_with fail
  have hBlt := HoldsN.lt hx
  refine (L hC6).mono ?_
  rintro e w7 ⟨rfl, F7, hC7, hK, hW⟩
  replace hx := HoldsN.keep hx hK hBF6
  have hWw := hWl.trans hW hKl.size
  have hKw := hKl.trans hK hWl
  clear L hC6 hK hW hBlt hBF6 hKl hWl
  obtain ⟨x0, x1, x2⟩ := HoldsN.cells hx
  dsimp only at x0 x1 x2
  go_wp2_with fail
  refine (G hC7).mono ?_
  rintro e w8 ⟨rfl, hC8, hK⟩
  have hKl := hKw.trans hK hWw
  clear G hC7 hK x0 x1 x2 hx
  go_wp2
  exact bodyPost_end (v := .tuple #[]) (by simp [results, Tryz.results48, go_sem]) rfl ⟨rfl, F7, hC8.congr fun m => by rw [hrefs.out m]; omega, hKl, hWw⟩
end

end Go.Proofs.YtipocmbplcdmjaaGreatDoor

/-
  Walks of the code's store: Swap.
-/
namespace Go.Proofs.YtipocmbplcdmjaaGreatDoor
open Go Go.RowKit

theorem chain_orderC (W : World) (g : Nat) (p0 p1 p2 p3 p4 p5 p6 p7 : Value) : (((((((W.setCell ⟨g, 1, none⟩ p0).setCell ⟨g, 2, none⟩ p1).setCell ⟨g, 3, none⟩ p2).setCell ⟨g, 4, none⟩ p3).setCell ⟨g, 5, none⟩ p4).setCell ⟨g, 6, none⟩ p5).setCell ⟨g, 7, none⟩ p6).setCell ⟨g, 8, none⟩ p7 = W.setCells g 1 [p0, p1, p2, p3, p4, p5, p6, p7] := rfl

section
variable {w w' : World} {b : Nat} {F : Nat → Prop} {s : MS}

set_option maxRecDepth 100000 in
set_option maxHeartbeats 8000000 in
theorem coSwap (h : CoAt w b F s [] s.refs) (ok : s.Ok) (l : Int) :
    Calls Tryz.prog 19 #[pv b, .int .i64 l] w fun e w' => e = .returned (errV (s.swap l).1) ∧ ∃ F', CoAt w' b F' (s.swap l).2 [] (s.swap l).2.refs ∧ Keeps F w w' ∧ Within w F F' := by
  have okb := ok.toBase
  have hfew := okb.few
  generalize hr : s.swap l = r
  by_cases hl : l < 0 ∨ 6 < l
  · have e : s.swap l = (1, s) := by unfold MS.swap; rw [if_pos hl]
    rw [e] at hr
    subst hr
    go_enter Tryz.func19, Tryz.ntmps19
    by_cases h0 : l < 0
    · go_wp2
      go_ret
      exact ⟨rfl, F, h, Keeps.refl _ _, Within.refl _ _⟩
    · have h6 : 6 < l := by omega
      go_wp2
      go_ret
      exact ⟨rfl, F, h, Keeps.refl _ _, Within.refl _ _⟩
  obtain ⟨m, rfl⟩ := Int.eq_ofNat_of_zero_le (show 0 ≤ l by omega)
  have hm : m ≤ 6 := by omega
  have hsw : s.swap m = if s.room < 2 * ((s.changes (s.o m) (s.o (m + 1))).length : Int) then (2, s) else (0, MS.swap1 { s with o := swapO s.o m } (s.o m) (s.o (m + 1)) (s.changes (s.o m) (s.o (m + 1)))) := by
    unfold MS.swap
    rw [if_neg hl]
    rfl
  rw [hsw] at hr
  clear hsw hl
  have hm0 : (0 : Int) ≤ (m : Int) := by omega
  have hm6 : (m : Int) ≤ 6 := by omega
  have rx := mayO_range ok.order (i := m) (by omega)
  have ry := mayO_range ok.order (i := m + 1) (by omega)
  obtain ⟨X, hX⟩ := Int.eq_ofNat_of_zero_le rx.1
  obtain ⟨Y, hY⟩ := Int.eq_ofNat_of_zero_le ry.1
  have hX8 : X < 8 := by omega
  have hX8' : (X : Int) < 8 := by omega
  have HCh := fun W hb => coChanging (w := W) (h.below hb) okb ok.closed (X : Int) (Y : Int)
  have HRoom := fun W (hb : Below w.heap.size w W) => coRoom (h.below hb) okb
  have Sw : s.Sw m (s.changes (s.o m) (s.o (m + 1))) := ok.sw hm
  rw [hX, hY] at hr Sw
  have hFlt := h.lt
  have h0 := Lib.hid h
  have pxy : (∀ u : Sub w, u.1.cell? ⟨b, 1 + m, none⟩ = some (.int .i64 (X : Int))) ∧ ∀ u : Sub w, u.1.cell? ⟨b, 1 + (m + 1), none⟩ = some (.int .i64 (Y : Int)) := by
    obtain ⟨bA, FA, bT, FT, v, XX, tabs, rfl, hR, c⟩ := h
    exact ⟨fun u => by rw [← hX]; exact (hR.sub u).place m (by omega), fun u => by rw [← hY]; exact (hR.sub u).place (m + 1) (by omega)⟩
  obtain ⟨px, py⟩ := pxy
  clear h rx ry
  replace hX := Lib.hid hX
  replace hY := Lib.hid hY
  go_enter Tryz.func19, Tryz.ntmps19
  go_wp2
  refine wp_region_quiet_all (C := fun w' => ∃ u : Sub w, w' = u.1) (by kernel_rfl) (by kernel_rfl) (InSub.drew w) ?_
  iterate 15 (go_big_quiet_step (fail))
  refine wpQuiet_nil ?_
  clear px py
  intro w' hw'
  obtain ⟨u, rfl⟩ := hw'
  have hb1 := u.2
  generalize u.1 = w1 at *
  go_wp2_with fail
  refine (HCh _ hb1).mono ?_
  rintro e w2 ⟨vC, rfl, RC⟩
  obtain ⟨aC, cC, rfl, _⟩ := RC.own.form
  have hb2 := hb1.trans (RC.below.mono hb1.size)
  have hnewC := fun g hg => Nat.le_trans hb1.size (RC.new g hg)
  have hOC := RC.own
  have hfl : (s.changes X Y).length ≤ 20000 := Nat.le_trans (List.length_filter_le _ _) (Nat.le_trans (numsTo_filter_length s.has s.N.length) hfew)
  have hrm : s.room ≤ 20000 ∧ 0 ≤ s.room := by
    have := ok.ar.mostLe; have := ok.ar.nextLe; have := ok.ar.len
    simp only [MS.room]; omega
  clear HCh RC hb1
  go_wp2_with fail
  refine (HRoom _ hb2).mono ?_
  rintro e w3 ⟨rfl, hb3⟩
  replace hOC := hOC.block (w' := w3) fun g hg => hb3.block g (hOC.lt g hg)
  replace hb2 := hb2.trans (hb3.mono hb2.size)
  clear HRoom hb3
  by_cases hroom : s.room < 2 * ((s.changes X Y).length : Int)
  · rw [if_pos hroom] at hr
    subst hr
    go_wp2
    go_ret
    exact ⟨rfl, _, h0.out.below hb2, Keeps.of_below hb2 _, Within.refl _ _⟩
  · rw [if_neg hroom] at hr
    have hSwap := fun W => permSwap s.o m W
    simp only [swapLit7] at hSwap
    simp only [ov] at hSwap
    have h1 := h0.out.below hb2
    obtain ⟨bA, FA, bT, FT, v, XX, tabs, rfl, hR, cc⟩ := h1
    obtain ⟨c1, c2, c3, c4, c5, c6, c7, c8⟩ := hR.order
    go_wp2_with fail
    refine (hSwap _).mono ?_
    rintro e w4 ⟨rfl, hb4⟩
    clear c1 c2 c3 c4 c5 c6 c7 c8 hSwap
    replace hOC := hOC.block (w' := w4) fun g hg => hb4.block g (hOC.lt g hg)
    replace hb2 := hb2.trans (hb4.mono hb2.size)
    have hRw := hR.below hb4
    obtain ⟨c1, c2, c3, c4, c5, c6, c7, c8⟩ := hRw.order
    have f1 := hRw.free 1
    have f2 := hRw.free 2
    have f3 := hRw.free 3
    have f4 := hRw.free 4
    have f5 := hRw.free 5
    have f6 := hRw.free 6
    have f7 := hRw.free 7
    have f8 := hRw.free 8
    obtain ⟨hR5, hk5⟩ := hRw.setOrder (swapO s.o m)
    have HR5 := Lib.hid hR5
    have HK5 := Lib.hid hk5
    clear hb4 hRw hR5 hk5 hR
    go_wp2
    rw [chain_orderC]
    generalize w4.setCells b 1 [.int .i64 (swapO s.o m 0), .int .i64 (swapO s.o m 1), .int .i64 (swapO s.o m 2), .int .i64 (swapO s.o m 3), .int .i64 (swapO s.o m 4), .int .i64 (swapO s.o m 5), .int .i64 (swapO s.o m 6), .int .i64 (swapO s.o m 7)] = W0 at *
    clear c1 c2 c3 c4 c5 c6 c7 c8 f1 f2 f3 f4 f5 f6 f7 f8
    have hKw := (Keeps.of_below hb2 (footC b FA FT v)).and HK5.out
    have hOC0 := hOC.keep HK5.out (fun g hg e => by have := hFlt _ e; have := hnewC g hg; omega)
    have hCf : ∀ g, (Value.slice aC (s.changes X Y).length cC).ownBlock = some g → ¬ footC b FA FT v g := fun g hg e => by have := hFlt _ e; have := hnewC g hg; omega
    have hC0 : CoAt W0 b (footC b FA FT v) { s with o := swapO s.o m } [] s.refs := ⟨bA, FA, bT, FT, v, XX, tabs, rfl, HR5.out, cc.order _⟩
    have J0 := MS.J.start Sw
    have hnd : (s.changes X Y).Nodup := List.Pairwise.filter _ s.all_nodup
    have hroom0 : 2 * ((s.changes X Y).length : Int) ≤ s.room := by omega
    have okb0 : MS.Base { s with o := swapO s.o m } := ⟨okb.ar, okb.len⟩
    have hone : ∀ n, s.has n = true → ∀ k, s.has k = true → s.nd k = s.nd n → k = n := fun n hn k hk e => ok.one k n hk hn e
    have hmem : ∀ n ∈ s.changes X Y, s.has n = true ∧ (s.nd n).var = (X : Int) := fun n hn => by
      have h1 := (Sw.mem n).1 hn
      exact ⟨h1.1, h1.2.1.trans hX.out⟩
    have hFlt0 : ∀ k, footC b FA FT v k → k < w.heap.size := hFlt
    clear HR5 HK5 hOC hnewC cc h0 ok okb hFlt hb2
    generalize hF0 : footC b FA FT v = F0 at *
    replace hF0 := Lib.hid hF0
    generalize s.changes X Y = C at *
    replace J0 := Lib.hid J0
    replace Sw := Lib.hid Sw
    replace hr := Lib.hid hr
    replace hCf := Lib.hid hCf
    replace hOC0 := Lib.hid hOC0
    replace hone := Lib.hid hone
    replace hmem := Lib.hid hmem
    replace okb0 := Lib.hid okb0
    replace hnd := Lib.hid hnd
    have hCk : ∀ k, k < C.length → ∀ V, Keeps F0 W0 V → ∃ ad, aC = some ad ∧ V.cell? (ad.add k) = some (.int .i64 (C.getD k 0)) := fun k hk V hV => by
      have h1 := (hOC0.out.keep hV hCf.out).reads.intAt k hk
      simpa [List.getD, hk] using h1
    replace hCk := Lib.hid hCk
    clear hOC0 hCf
    go_loopw [55] (fun i wr => ∃ (k : Nat) (F' : Nat → Prop), k ≤ C.length ∧ i = .int .i64 k ∧ CoAt wr b F' { s with o := swapO s.o m } (C.take k) s.refs ∧ Keeps F0 W0 wr ∧ Within W0 F0 F') (fun i _ => C.length - (intOf i).toNat)
    case atStart => exact ⟨0, _, Nat.zero_le _, rfl, hC0, Keeps.refl _ _, Within.refl _ _⟩
    case round =>
      clear hC0
      obtain ⟨k, F', hk, rfl, hC, hK, hW⟩ := hrel
      by_cases hlt : k < C.length
      · obtain ⟨ad, rfl, ck⟩ := hCk.out k hlt wr hK
        have hgd : C.getD k 0 = C[k] := by simp [List.getD, hlt]
        rw [hgd] at ck
        have hnC : C[k] ∈ C := List.getElem_mem hlt
        have htk : ∀ j, j ∈ C.take (k + 1) ↔ j ∈ C.take k ∨ j = C[k] := fun j => by
          rw [List.take_succ_eq_append_getElem hlt, List.mem_append, List.mem_singleton]
        generalize C[k] = n at *
        obtain ⟨n1, n2⟩ := hmem.out n hnC
        have HA := coAt hC okb0.out (n := n) n1
        have hF'lt := hC.lt
        have q0 := fieldP (s.nd n) (s.refs n)
        obtain ⟨bA1, FA1, bT1, FT1, v1, X1, tabs1, rfl, hR, c⟩ := hC
        have tok := c.ok X hX8
        have tsl := c.slots X hX8
        have hcd := c.drop (n := n) hX8 n2 (fun j hj _ e => hone.out n n1 j hj e) htk
        unfold plv at HA
        rw [show MS.nd { s with o := swapO s.o m } n = s.nd n from rfl] at HA hcd
        generalize s.refs n = rn at *
        generalize s.nd n = x at *
        obtain ⟨xv, xl, xh⟩ := x
        dsimp only at HA q0 hcd n2
        subst n2
        replace hcd := Lib.hid hcd
        have hk0 : (0 : Int) ≤ (k : Int) := by omega
        have hk1 : (k : Int) < (C.length : Int) := by omega
        have hR0 := Lib.hid hR
        clear hR c n1 hnC htk hgd
        go_wp2_with fail
        refine HA.mono ?_
        rintro e w5 ⟨rfl, hb5⟩
        clear HA ck
        go_wp2
        have hx := HoldsN.new w5 ⟨(X : Int), xl, xh⟩
        dsimp only at hx
        have hb6 : Below wr.heap.size wr (w5.alloc (.cells #[.int .i64 (X : Int), .int .i64 xl, .int .i64 xh] 69)) := hb5.alloc hb5.size _
        have hBl := hb5.size
        clear hb5
        generalize w5.alloc (.cells #[.int .i64 (X : Int), .int .i64 xl, .int .i64 xh] 69) = W at *
        generalize hB : w5.heap.size = B at *
        have hR := hR0.out.below hb6
        have x1 := fun u : Sub W => (HoldsN.sub hx u).cells.2.1
        have x2 := fun u : Sub W => (HoldsN.sub hx u).cells.2.2
        dsimp only at x1 x2
        have ct := fun u : Sub W => (hR.sub u).table X hX8
        refine wp_region_quiet_tail (C := fun w' => ∃ u : Sub W, w' = u.1) 10 (by kernel_rfl) (by kernel_rfl) (InSub.drew W) ?_
        simp only [List.take_succ_cons, List.take_zero]
        iterate 10 (go_big_quiet_step (fail))
        refine wpQuiet_nil ?_
        clear x1 x2 ct
        intro w' hw'
        obtain ⟨u, rfl⟩ := hw'
        have hR7 := hR.sub u
        have hb7 := hb6.trans (u.2.mono hb6.size)
        clear hR hR0 hb6 hx
        generalize u.1 = W7 at *
        have HP := uniqDropS (hR7.tab X hX8) tok (by omega) xl xh
        simp only [List.drop_succ_cons, List.drop_zero]
        apply wpList_step
        intro K1 hK1
        go_simp
        refine HP.mono ?_
        rintro e W8 ⟨rfl, FT', hU, hKU, hWU⟩
        clear HP
        obtain ⟨hR8, hK8, hW8⟩ := hR7.setTab hX8 hU hKU hWU
        have hKf := hK.trans ((Keeps.of_below hb7 _).and hK8) hW
        have hWf : Within W0 F0 (footC b FA1 (upd FT1 X FT') v1) := hW.trans (fun k hk => (hW8 k hk).imp id (fun h => Nat.le_trans hb7.size h)) hK.size
        clear hR7 hU hKU hWU hK8 hW8 hb7 hK hW
        apply hK1
        clear hK1
        refine wpList_nil ?_
        replace hR8 := Lib.hid hR8
        go_wp2
        exact ⟨⟨k + 1, _, by omega, by go_num, ⟨bA1, FA1, bT1, upd FT1 X FT', v1, X1, _, rfl, hR8.out, hcd.out⟩, hKf, hWf⟩, by simp [intOf]; omega⟩
      · obtain rfl : k = C.length := by omega
        rw [List.take_length] at hC
        clear hlt hk hone hmem okb0
        have hCd : CoAt wr b F' { s with o := swapO s.o m } (C.drop 0) (MS.refs { s with o := swapO s.o m }) := hC
        have hJd : Hid (MS.J s m C (C.drop 0) { s with o := swapO s.o m }) := J0
        have hrd : Hid ((0, MS.swap1 { s with o := swapO s.o m } X Y (C.drop 0)) = r) := hr
        have hrmd : 2 * ((C.drop 0).length : Int) ≤ MS.room { s with o := swapO s.o m } := hroom0
        clear hC J0 hr hroom0 hroom
        go_wp2
        go_loopw [77] (fun i wt => ∃ (k : Nat) (t : MS) (F1 : Nat → Prop), k ≤ C.length ∧ i = .int .i64 k ∧ CoAt wt b F1 t (C.drop k) t.refs ∧ Hid (MS.J s m C (C.drop k) t) ∧ 2 * ((C.drop k).length : Int) ≤ t.room ∧ Keeps F0 W0 wt ∧ Within W0 F0 F1 ∧ Hid ((0, MS.swap1 t X Y (C.drop k)) = r)) (fun i _ => C.length - (intOf i).toNat)
        case atStart => exact ⟨0, _, _, Nat.zero_le _, rfl, hCd, hJd, hrmd, hK, hW, hrd⟩
        case round =>
          clear hCd hJd hrmd hK hW hrd
          obtain ⟨k, t, F1, hk, rfl, hC, hJ, hrmd, hK, hW, hrd⟩ := hrel
          by_cases hlt : k < C.length
          · obtain ⟨ad, rfl, ck⟩ := hCk.out k hlt _ hK
            have hgd : C.getD k 0 = C[k] := by simp [List.getD, hlt]
            rw [hgd] at ck
            have hnC : C[k] ∈ C := List.getElem_mem hlt
            have hdrop := List.drop_eq_getElem_cons hlt
            have hnR : C[k] ∉ C.drop (k + 1) := by
              have h1 : (C.drop k).Nodup := List.Pairwise.sublist (List.drop_sublist k C) hnd.out
              rw [hdrop] at h1
              exact (List.nodup_cons.1 h1).1
            have hRC : ∀ j ∈ C.drop (k + 1), j ∈ C := fun j hj => List.mem_of_mem_drop hj
            replace hJ := hJ.out
            rw [hdrop] at hC hJ hrmd hrd
            generalize C[k] = n at *
            obtain ⟨a, c, t1, t2, T, m1, m2, j3, r3⟩ := hJ.turn Sw.out hnC hnR hRC hrmd hX.out hY.out
            have hfin : Hid ((0, MS.swap1 (t2.setNd n ⟨(Y : Int), a, c⟩) X Y (C.drop (k + 1))) = r) := by
              have := hrd.out
              unfold MS.swap1 at this
              simp only [m1, m2] at this
              exact Lib.hid this
            have HT := coTurn hC T
            have hk0 : (0 : Int) ≤ (k : Int) := by omega
            have hk1 : (k : Int) < (C.length : Int) := by omega
            replace j3 := Lib.hid j3
            clear hC T m1 m2 hrd hJ hdrop hnC hnR hRC hgd hrmd
            go_wp2_with fail
            refine HT.mono ?_
            rintro e w6 ⟨rfl, F2, hC2, hK2, hW2⟩
            have hWl := hW.trans hW2 hK.size
            have hKl := hK.trans hK2 hW
            clear HT hK hW hK2 hW2 ck
            go_wp2
            exact ⟨⟨k + 1, _, _, by omega, by go_num, hC2, j3, r3, hKl, hWl, hfin⟩, by simp [intOf]; omega⟩
          · obtain rfl : k = C.length := by omega
            have hr2 := hrd.out
            rw [List.drop_length] at hr2 hC
            have hr3 : r = (0, t) := hr2.symm
            subst hr3
            clear hr2 hrd hlt hk hJ hrmd
            go_wp2
            go_ret
            exact ⟨rfl, F1, hC, by rw [hF0.out]; exact hKw.trans hK (Within.refl _ _), by rw [hF0.out]; exact (Within.refl _ _).trans hW hKw.size⟩
end

end Go.Proofs.YtipocmbplcdmjaaGreatDoor

/-
  Walks of the code's store: New.
-/
namespace Go.Proofs.YtipocmbplcdmjaaGreatDoor
open Go Go.RowKit

/-- The row of a store that is being made. -/
def rowN (most : Int) (p : Nat → Int) (bA : Nat) (q : Nat → Value) : Obj :=
  .cells #[.int .i64 most, .int .i64 (p 0), .int .i64 (p 1), .int .i64 (p 2), .int .i64 (p 3), .int .i64 (p 4), .int .i64 (p 5), .int .i64 (p 6), .int .i64 (p 7), pv bA, q 0, q 1, q 2, q 3, q 4, q 5, q 6, q 7, .slice none 0 0] 78 (0, 0)

section
variable {w : World} {b bA : Nat} {most : Int} {p : Nat → Int} {q : Nat → Value}

theorem rowN_cells (h : w.heap[b]? = some (rowN most p bA q)) (k : Nat) (hk : k < 8) : w.cell? ⟨b, 1 + k, none⟩ = some (.int .i64 (p k)) ∧ w.cell? ⟨b, 10 + k, none⟩ = some (q k) := by
  rw [cell_of_row _ _ _ _ _ _ h, cell_of_row _ _ _ _ _ _ h]
  rcases (by omega : k = 0 ∨ k = 1 ∨ k = 2 ∨ k = 3 ∨ k = 4 ∨ k = 5 ∨ k = 6 ∨ k = 7) with rfl | rfl | rfl | rfl | rfl | rfl | rfl | rfl <;> exact ⟨rfl, rfl⟩
theorem rowN_p (h : w.heap[b]? = some (rowN most p bA q)) (k : Nat) (hk : k < 8) (x : Int) : (w.setCell ⟨b, 1 + k, none⟩ (.int .i64 x)).heap[b]? = some (rowN most (upd p k x) bA q) := by
  rw [heap_setCell_same w b (1 + k) _ _ (.int .i64 x) h]
  rcases (by omega : k = 0 ∨ k = 1 ∨ k = 2 ∨ k = 3 ∨ k = 4 ∨ k = 5 ∨ k = 6 ∨ k = 7) with rfl | rfl | rfl | rfl | rfl | rfl | rfl | rfl <;> rfl
theorem rowN_q (h : w.heap[b]? = some (rowN most p bA q)) (k : Nat) (hk : k < 8) (x : Value) : (w.setCell ⟨b, 10 + k, none⟩ x).heap[b]? = some (rowN most p bA (upd q k x)) := by
  rw [heap_setCell_same w b (10 + k) _ _ x h]
  rcases (by omega : k = 0 ∨ k = 1 ∨ k = 2 ∨ k = 3 ∨ k = 4 ∨ k = 5 ∨ k = 6 ∨ k = 7) with rfl | rfl | rfl | rfl | rfl | rfl | rfl | rfl <;> rfl

/-- A store that is being made: k of its tables are there. -/
structure NewR (w0 : World) (most : Nat) (k b bA : Nat) (FA : Nat → Prop) (p : Nat → Int) (q : Nat → Value) (bT : Nat → Nat) (FT : Nat → Nat → Prop) (w : World) : Prop where
  row : w.heap[b]? = some (rowN (most : Int) p bA q)
  ar : ArenaAt w bA FA ⟨most, 0, [], []⟩
  p1 : ∀ i, i < k → p i = (i : Int)
  q1 : ∀ i, i < k → q i = pv (bT i)
  q2 : ∀ i, k ≤ i → i < 8 → q i = .pointer none
  tab : ∀ i, i < k → UniqAt w (bT i) (FT i) ⟨[], 8⟩
  lowb : w0.heap.size ≤ b
  lowA : ∀ j, FA j → w0.heap.size ≤ j ∧ j ≠ b
  lowT : ∀ i, i < k → ∀ j, FT i j → w0.heap.size ≤ j ∧ j ≠ b ∧ ¬ FA j
  apart : ∀ i, i < k → ∀ l, l < k → i ≠ l → ∀ j, FT i j → ¬ FT l j
  below : Below w0.heap.size w0 w

theorem NewR.keep {w0 w' : World} {most k : Nat} {FA : Nat → Prop} {bT : Nat → Nat} {FT : Nat → Nat → Prop} (h : NewR w0 most k b bA FA p q bT FT w) (hb : Below w.heap.size w w') : NewR w0 most k b bA FA p q bT FT w' :=
  ⟨(hb.block b (row_lt h.row)).trans h.row, h.ar.below hb, h.p1, h.q1, h.q2, fun i hi => (h.tab i hi).below hb, h.lowb, h.lowA, h.lowT, h.apart, h.below.trans (hb.mono h.below.size)⟩
/-- A variable's place in the order. -/
theorem NewR.setP {w0 : World} {most k : Nat} {FA : Nat → Prop} {bT : Nat → Nat} {FT : Nat → Nat → Prop} (h : NewR w0 most k b bA FA p q bT FT w) (hk : k < 8) : NewR w0 most k b bA FA (upd p k (k : Int)) q bT FT (w.setCell ⟨b, 1 + k, none⟩ (.int .i64 (k : Int))) := by
  have hK := Keeps.of_setCell (fun j => j = b) w ⟨b, 1 + k, none⟩ (.int .i64 (k : Int)) rfl
  refine ⟨rowN_p h.row k hk _, h.ar.keep hK fun j hj e => (h.lowA j hj).2 e, fun i hi => ?_, h.q1, h.q2, fun i hi => (h.tab i hi).keep hK fun j hj e => (h.lowT i hi j hj).2.1 e, h.lowb, h.lowA, h.lowT, h.apart, h.below.trans (hK.below h.below.size fun j e => e ▸ h.lowb)⟩
  rw [upd_other _ _ _ (by omega)]
  exact h.p1 i hi
/-- Its table. -/
theorem NewR.setQ {w0 w' : World} {most k bN : Nat} {FA F' : Nat → Prop} {bT : Nat → Nat} {FT : Nat → Nat → Prop} (h : NewR w0 most k b bA FA p q bT FT w) (hk : k < 8) (hp : p k = (k : Int)) (hU : UniqAt w' bN F' ⟨[], 8⟩) (hF : ∀ j, F' j → w.heap.size ≤ j) (hb : Below w.heap.size w w') :
    NewR w0 most (k + 1) b bA FA p (upd q k (pv bN)) (upd bT k bN) (upd FT k F') (w'.setCell ⟨b, 10 + k, none⟩ (pv bN)) := by
  have h' := h.keep hb
  have hK := Keeps.of_setCell (fun j => j = b) w' ⟨b, 10 + k, none⟩ (pv bN) rfl
  have hlb := row_lt h.row
  refine ⟨rowN_q h'.row k hk _, h'.ar.keep hK fun j hj e => (h.lowA j hj).2 e, fun i hi => ?_, fun i hi => ?_, fun i h1 h2 => ?_, fun i hi => ?_, h.lowb, h.lowA, fun i hi j hj => ?_, fun i hi l hl hne j hj hj2 => ?_, h'.below.trans (hK.below h'.below.size fun j e => e ▸ h.lowb)⟩
  · by_cases e : i = k
    · subst e; exact hp
    · exact h.p1 i (by omega)
  · by_cases e : i = k
    · subst e; rw [upd_same, upd_same]
    · rw [upd_other _ _ _ e, upd_other _ _ _ e]; exact h.q1 i (by omega)
  · rw [upd_other _ _ _ (by omega)]; exact h.q2 i (by omega) h2
  · by_cases e : i = k
    · subst e; rw [upd_same, upd_same]; exact hU.keep hK fun j hj e => by have := hF j hj; omega
    · rw [upd_other _ _ _ e, upd_other _ _ _ e]; exact (h'.tab i (by omega)).keep hK fun j hj e => (h.lowT i (by omega) j hj).2.1 e
  · by_cases e : i = k
    · subst e
      rw [upd_same] at hj
      have := hF j hj
      exact ⟨Nat.le_trans h.below.size this, by omega, fun e => by have := h.ar.lt j e; omega⟩
    · rw [upd_other _ _ _ e] at hj; exact h.lowT i (by omega) j hj
  · by_cases e : i = k
    · subst e
      rw [upd_same] at hj
      rw [upd_other _ _ _ (Ne.symm hne)] at hj2
      have := hF j hj
      have := (h.tab l (by omega)).lt j hj2
      omega
    · rw [upd_other _ _ _ e] at hj
      by_cases e2 : l = k
      · subst e2
        rw [upd_same] at hj2
        have := hF j hj2
        have := (h.tab i (by omega)).lt j hj
        omega
      · rw [upd_other _ _ _ e2] at hj2
        exact h.apart i (by omega) l (by omega) hne j hj hj2
/-- All of them are. -/
theorem NewR.done {w0 : World} {most : Nat} {FA : Nat → Prop} {bT : Nat → Nat} {FT : Nat → Nat → Prop} (h : NewR w0 most 8 b bA FA p q bT FT w) : ∃ F, CoAt w b F (MS.none most) [] (MS.none most).refs ∧ ∀ k, F k → w0.heap.size ≤ k := by
  refine ⟨_, ⟨bA, FA, bT, FT, .slice none 0 0, [], fun _ => ⟨[], 8⟩, rfl, ⟨?_, h.ar, h.tab, Owns.nil _ _, (fun e => by cases e), fun k hk => ⟨(h.lowA k hk).2, fun e => by cases e⟩, fun i hi k hk => ⟨(h.lowT i hi k hk).2.1, (fun e => by cases e), (h.lowT i hi k hk).2.2⟩, h.apart⟩, ⟨rfl, fun i hi => (by cases hi), fun i hi => (by cases hi), fun _ _ => TS.Ok.new, fun _ _ => by decide, fun v hv e => ?_⟩⟩, ?_⟩
  · rw [h.row]
    simp only [rowN, rowC, h.p1 0 (by decide), h.p1 1 (by decide), h.p1 2 (by decide), h.p1 3 (by decide), h.p1 4 (by decide), h.p1 5 (by decide), h.p1 6 (by decide), h.p1 7 (by decide), h.q1 0 (by decide), h.q1 1 (by decide), h.q1 2 (by decide), h.q1 3 (by decide), h.q1 4 (by decide), h.q1 5 (by decide), h.q1 6 (by decide), h.q1 7 (by decide)]
    rfl
  · constructor
    · intro h1; cases h1
    · rintro ⟨h1, _⟩
      simp [MS.has, MS.none] at h1
  · rintro k (rfl | e | e | ⟨i, hi, e⟩)
    · exact h.lowb
    · cases e
    · exact (h.lowA k e).1
    · exact (h.lowT i hi k e).1
end

set_option maxRecDepth 100000 in
set_option maxHeartbeats 1000000 in
theorem coNo (most : Int) (w : World) (h : most < 0 ∨ 20000 < most) : Calls Tryz.prog 12 #[.int .i64 most] w fun e w' => e = .returned (.pointer none) ∧ Below w.heap.size w w' := by
  have H := arenaNo most w h
  go_enter Tryz.func12, Tryz.ntmps12
  go_wp2_with fail
  refine H.mono ?_
  rintro e w1 ⟨rfl, rfl⟩
  clear H
  go_wp2
  go_ret
  exact ⟨rfl, Below.refl _ _⟩

set_option maxRecDepth 100000 in
set_option maxHeartbeats 2000000 in
theorem coNew (most : Int) (w : World) (h0 : 0 ≤ most) (h1 : most ≤ 20000) : Calls Tryz.prog 12 #[.int .i64 most] w fun e w' => ∃ b, e = .returned (.pointer (some ⟨b, 0, none⟩)) ∧ (∃ F, CoAt w' b F (MS.none most.toNat) [] (MS.none most.toNat).refs ∧ ∀ k, F k → w.heap.size ≤ k) ∧ Below w.heap.size w w' := by
  obtain ⟨M, rfl⟩ := Int.eq_ofNat_of_zero_le h0
  rw [Int.toNat_natCast]
  have H := arenaNewS (M : Int) w h0 h1
  rw [Int.toNat_natCast] at H
  go_enter Tryz.func12, Tryz.ntmps12
  go_wp2_with fail
  refine H.mono ?_
  rintro e w1 ⟨rfl, ⟨FA, hA, hFA⟩, hb1⟩
  clear H
  go_wp2
  have hS : NewR w M 0 w1.heap.size w.heap.size FA (fun _ => 0) (fun _ => .pointer none) (fun _ => 0) (fun _ _ => False) (w1.alloc (rowN (M : Int) (fun _ => 0) w.heap.size (fun _ => .pointer none))) :=
    ⟨heap_alloc_new _ _, hA.below ((Below.refl _ _).alloc (Nat.le_refl _) _), fun i hi => (by omega), fun i hi => (by omega), fun _ _ _ => rfl, fun i hi => (by omega), hb1.size, fun j hj => ⟨hFA j hj, by have := hA.lt j hj; omega⟩, fun i hi => (by omega), fun i hi => (by omega), hb1.alloc hb1.size _⟩
  unfold rowN at hS
  generalize w1.alloc (.cells #[.int .i64 (M : Int), .int .i64 0, .int .i64 0, .int .i64 0, .int .i64 0, .int .i64 0, .int .i64 0, .int .i64 0, .int .i64 0, pv w.heap.size, .pointer none, .pointer none, .pointer none, .pointer none, .pointer none, .pointer none, .pointer none, .pointer none, .slice none 0 0] 78 (0, 0)) = W0 at *
  generalize w1.heap.size = b at *
  clear hA hFA hb1
  go_loopw [14] (fun i wr => ∃ (k : Nat) (p : Nat → Int) (q : Nat → Value) (bT : Nat → Nat) (FT : Nat → Nat → Prop), k ≤ 8 ∧ i = .int .i64 k ∧ NewR w M k b w.heap.size FA p q bT FT wr) (fun i _ => 8 - (intOf i).toNat)
  case atStart => exact ⟨0, _, _, _, _, by omega, rfl, hS⟩
  case round =>
    clear hS
    obtain ⟨k, p, q, bT, FT, hk, rfl, hR⟩ := hrel
    by_cases hlt : k < 8
    · have hk8 : (k : Int) < 8 := by omega
      have c1 := (rowN_cells hR.row k hlt).1
      have z1 : wr.frozen? ⟨b, 1 + k, none⟩ = false := frozen_of_row _ _ _ _ _ hR.row
      have hR1 := Lib.hid (hR.setP hlt)
      clear hR
      go_wp2
      generalize wr.setCell ⟨b, 1 + k, none⟩ (.int .i64 (k : Int)) = W1 at *
      clear c1 z1
      have hR2 := hR1.out.keep (Below.refl _ _).drew
      have hq := hR2.q2 k (Nat.le_refl _) hlt
      have c0 := (rowN_cells hR2.row k hlt).2
      rw [hq] at c0
      have z0 : W1.drew.frozen? ⟨b, 10 + k, none⟩ = false := frozen_of_row _ _ _ _ _ hR2.row
      replace hq := Lib.hid hq
      replace hR2 := Lib.hid hR2
      clear hR1
      go_region_held3 (fun _ => True) (first | trivial)
        (first
          | (go_at_call 34; refine (uniqNewS _).mono ?_; rintro e W3 ⟨rfl, ⟨F', hU, hF'⟩, hb3⟩; have hR3 := hR2.out.keep hb3; have c2 := (rowN_cells hR3.row k hlt).2; rw [hq.out] at c2; have z2 : W3.frozen? ⟨b, 10 + k, none⟩ = false := frozen_of_row _ _ _ _ _ hR3.row; have hR4 := Lib.hid (hR2.out.setQ hlt (upd_same _ _ _) hU hF' hb3); clear hR3 hU hF' hb3))
      go_wp2
      exact ⟨⟨k + 1, _, _, _, _, by omega, by go_num, hR4.out⟩, by simp [intOf]; omega⟩
    · obtain rfl : k = 8 := by omega
      obtain ⟨F, hC, hF⟩ := hR.done
      have hb := hR.below
      clear hR
      go_wp2
      go_ret
      exact ⟨b, rfl, ⟨F, hC, hF⟩, hb⟩

end Go.Proofs.YtipocmbplcdmjaaGreatDoor

/-
  The code's store keeps the contracts.
-/
namespace Go.Proofs.YtipocmbplcdmjaaGreatDoor
open Go Go.RowKit

theorem nodup_sub_length : ∀ (l k : List Int), l.Nodup → (∀ x ∈ l, x ∈ k) → l.length ≤ k.length
  | [], _, _, _ => Nat.zero_le _
  | a :: l, k, hn, h => by
    obtain ⟨h1, h2⟩ := List.nodup_cons.1 hn
    have ha := h a List.mem_cons_self
    have := nodup_sub_length l (k.erase a) h2 fun x hx => (List.mem_erase_of_ne (fun (e : x = a) => h1 (e ▸ hx))).2 (h x (List.mem_cons_of_mem _ hx))
    have e := List.length_erase_of_mem ha
    have := List.length_pos_of_mem ha
    simp only [List.length_cons]
    omega
theorem MS.Base.all_length {s : MS} (h : s.Base) : s.all.length = s.ar.T.length := by
  have hT : (s.ar.T.map fun k => k + 2).Nodup := by
    rw [List.Nodup, List.pairwise_map]
    exact List.Pairwise.imp (fun hne e => hne (by omega)) h.ar.nodT
  refine Nat.le_antisymm ?_ ?_
  · have := nodup_sub_length s.all (s.ar.T.map fun k => k + 2) s.all_nodup fun n hn => List.mem_map.2 ⟨n - 2, (MS.has_mem h).1 (h.mem_all.1 hn), by omega⟩
    rwa [List.length_map] at this
  · have := nodup_sub_length (s.ar.T.map fun k => k + 2) s.all hT fun n hn => by
      obtain ⟨k, hk, rfl⟩ := List.mem_map.1 hn
      exact h.mem_all.2 ((MS.has_mem h).2 (by rw [show k + 2 - 2 = k by omega]; exact hk))
    rwa [List.length_map] at this

/-- The code's store, by its state. -/
def StoreAt (w : World) (b : Nat) (F : Nat → Prop) (s : MS) : Prop := CoAt w b F s [] s.refs

theorem storeC : StoreC StoreAt where
  lt h := CoAt.lt h
  keep h := CoAt.keep h
  new most w h0 h1 := coNew most w h0 h1
  no most w h := coNo most w h
  make h ok v lo hi h1 h2 := coMk h ok v lo hi h1 h2
  node h ok n hn := coNode h ok.toBase n hn
  swap h ok l := coSwap h ok l
  all h ok := coAll h ok.toBase
  order h _ := coOrder h
  live h ok := (coLive h ok.toBase).mono fun e w' ⟨he, hb⟩ => ⟨by rw [he, ok.toBase.all_length], hb⟩
  room h ok := coRoom h ok.toBase

end Go.Proofs.YtipocmbplcdmjaaGreatDoor

/-
  Plain mathematics of a function of eight variables as four words of 64 bits: nothing of the program is read here.
-/
namespace Go.Proofs.YtipocmbplcdmjaaGreatDoor
open Go Go.RowKit

/-- A function of eight variables: bit x is its value in row x. -/
abbrev Fn := BitVec 256

/-- Word i of it. -/
def wd (f : Fn) (i : Nat) : Nat := (f.extractLsb' (64 * i) 64).toNat

theorem wd_lt (f : Fn) (i : Nat) : wd f i < 18446744073709551616 := (f.extractLsb' (64 * i) 64).isLt

/-- The value that the program holds. -/
def fv (f : Fn) : Value := .agg #[.int .u64 (wd f 0), .int .u64 (wd f 1), .int .u64 (wd f 2), .int .u64 (wd f 3)]

theorem wd_and (f g : Fn) (i : Nat) : bits .and .u64 (wd f i) (wd g i) = (wd (f &&& g) i : Nat) := by
  rw [bits_and_u64_nat _ _ (wd_lt f i) (wd_lt g i)]
  unfold wd
  rw [BitVec.extractLsb'_and, BitVec.toNat_and]

theorem wd_or (f g : Fn) (i : Nat) : bits .or .u64 (wd f i) (wd g i) = (wd (f ||| g) i : Nat) := by
  rw [bits_or_u64_nat _ _ (wd_lt f i) (wd_lt g i)]
  unfold wd
  rw [BitVec.extractLsb'_or, BitVec.toNat_or]

theorem bits_xor_u64_nat' (a b : Nat) (ha : a < 18446744073709551616) (hb : b < 18446744073709551616) :
    bits .xor .u64 (a : Int) (b : Int) = ((a ^^^ b : Nat) : Int) := by
  have hx : a ^^^ b < 2 ^ 64 := Nat.xor_lt_two_pow (by omega) (by omega)
  show IntKind.u64.wrap ((BitVec.ofInt 64 (a : Int) ^^^ BitVec.ofInt 64 (b : Int)).toNat : Int) = _
  rw [BitVec.toNat_xor, BitVec.ofInt_natCast, BitVec.ofInt_natCast, BitVec.toNat_ofNat, BitVec.toNat_ofNat, Nat.mod_eq_of_lt (by omega), Nat.mod_eq_of_lt (by omega), IntKind.wrap_u64]
  omega

theorem wd_not (f : Fn) (i : Nat) (hi : i < 4 := by decide) : bits .xor .u64 IntKind.u64.max (wd f i) = (wd (~~~f) i : Nat) := by
  have e : IntKind.u64.max = ((18446744073709551615 : Nat) : Int) := by decide
  rw [e, bits_xor_u64_nat' _ _ (by decide) (wd_lt f i)]
  unfold wd
  rw [show (18446744073709551615 : Nat) = (BitVec.allOnes 64).toNat by decide, ← BitVec.toNat_xor]
  congr 2
  ext k hk
  simp only [BitVec.getElem_xor, BitVec.getElem_allOnes, BitVec.getElem_extractLsb', BitVec.getLsbD_not]
  have : 64 * i + k < 256 := by omega
  simp [this]

/-- The value in row x; false, where there is no such row. -/
def atF (f : Fn) (x : Int) : Bool := if 0 ≤ x ∧ x < 256 then f.getLsbD x.toNat else false

theorem wd_bit (f : Fn) (k : Nat) : f.getLsbD k = decide (wd f (k / 64) / 2 ^ (k % 64) % 2 = 1) := by
  have h1 : (f.extractLsb' (64 * (k / 64)) 64).getLsbD (k % 64) = f.getLsbD k := by
    rw [BitVec.getLsbD_extractLsb']
    have : 64 * (k / 64) + k % 64 = k := by omega
    simp [this, Nat.mod_lt]
  rw [← h1]
  unfold wd
  rw [BitVec.getLsbD, Nat.testBit_eq_decide_div_mod_eq]

theorem atF_and (f : Fn) (k : Nat) (hk : k < 256) : (bits .and .u64 ((wd f (k / 64) : Int) / 2 ^ (k % 64)) 1 == 1) = atF f k := by
  have e : ((wd f (k / 64) : Int) / 2 ^ (k % 64)) = ((wd f (k / 64) / 2 ^ (k % 64) : Nat) : Int) := by simp
  have hlt : wd f (k / 64) / 2 ^ (k % 64) < 18446744073709551616 := Nat.lt_of_le_of_lt (Nat.div_le_self _ _) (wd_lt f _)
  rw [e, show (1 : Int) = ((1 : Nat) : Int) from rfl, bits_and_u64_nat _ _ hlt (by decide), Nat.and_one_is_mod]
  unfold atF
  rw [if_pos (by omega), Int.toNat_natCast, wd_bit]
  generalize wd f (k / 64) / 2 ^ (k % 64) % 2 = r
  rw [Bool.eq_iff_iff]
  simp
  omega

theorem atF_rem (f : Fn) (k : Nat) (hk : k < 256) : ((wd f (k / 64) : Int) / 2 ^ (k % 64) % 2 == 1) = atF f k := by
  have e : ((wd f (k / 64) : Int) / 2 ^ (k % 64) % 2) = ((wd f (k / 64) / 2 ^ (k % 64) % 2 : Nat) : Int) := by simp
  rw [e]
  unfold atF
  rw [if_pos (by omega), Int.toNat_natCast, wd_bit]
  generalize wd f (k / 64) / 2 ^ (k % 64) % 2 = r
  rw [Bool.eq_iff_iff]
  simp
  omega

theorem atF_tmod (f : Fn) (k : Nat) (hk : k < 256) : (((wd f (k / 64) : Int) / 2 ^ (k % 64)).tmod 2 == 1) = atF f k := by
  rw [Int.tmod_eq_emod_of_nonneg (Int.ediv_nonneg (Int.natCast_nonneg _) (Int.pow_nonneg (by decide)))]
  exact atF_rem f k hk

theorem ret_bool {a b : Bool} (h : a = b) : Ending.returned (.bool a) = .returned (.bool b) := by rw [h]

theorem atF_out (f : Fn) (x : Int) (h : ¬ (0 ≤ x ∧ x < 256)) : atF f x = false := if_neg h

end Go.Proofs.YtipocmbplcdmjaaGreatDoor
