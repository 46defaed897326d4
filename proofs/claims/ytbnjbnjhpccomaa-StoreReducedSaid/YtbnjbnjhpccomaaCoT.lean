/-
  Walks of the code's store: turn.
-/
import Derived.Test.YtbnjbnjhpccomaaCoF
namespace Go.Proofs.Ytbnjbnjhpccomaa
open Go Go.RowKit

/-- What is known of a round. -/
structure MS.Turn (t : MS) (n : Int) (R : List Int) (X Y : Nat) (a c : Int) (t1 t2 : MS) : Prop where
  okb : t.Okb (n :: R)
  okb1 : t1.Okb (n :: R)
  base2 : t2.Base
  closed : t.Closed
  closed1 : t1.Closed
  hasR : ∀ m ∈ n :: R, t.has m = true
  hasR1 : ∀ m ∈ n :: R, t1.has m = true
  has2 : t2.has n = true
  nR : n ∉ R
  X8 : X < 8
  Y8 : Y < 8
  var : (t.nd n).var = (X : Int)
  nd2 : t2.nd n = t.nd n
  mk1 : t.mk (X : Int) (t.side (t.nd n).lo (Y : Int) false) (t.side (t.nd n).hi (Y : Int) false) (n :: R) = (a, 0, t1)
  mk2 : t1.mk (X : Int) (t.side (t.nd n).lo (Y : Int) true) (t.side (t.nd n).hi (Y : Int) true) (n :: R) = (c, 0, t2)
  b1 : t.behind (t.side (t.nd n).lo (Y : Int) false) (X : Int) = true
  b2 : t.behind (t.side (t.nd n).hi (Y : Int) false) (X : Int) = true
  b3 : t1.behind (t.side (t.nd n).lo (Y : Int) true) (X : Int) = true
  b4 : t1.behind (t.side (t.nd n).hi (Y : Int) true) (X : Int) = true
  ta : t2.there a = true
  tc : t2.there c = true
  tlo : t2.there (t.nd n).lo = true
  thi : t2.there (t.nd n).hi = true
  one : ∀ m, t2.has m = true → m ∉ n :: R → t2.nd m ≠ ⟨(Y : Int), a, c⟩

theorem MS.J.turn {s t : MS} {l : Nat} {C R : List Int} (w : s.Sw l C) {n : Int} (hn : n ∈ C) (hnR : n ∉ R) (hR : ∀ m ∈ R, m ∈ C) (j : MS.J s l C (n :: R) t) (hroom : 2 * ((n :: R).length : Int) ≤ t.room) {X Y : Nat} (hX : s.o l = (X : Int)) (hY : s.o (l + 1) = (Y : Int)) :
    ∃ a c t1 t2, t.Turn n R X Y a c t1 t2 ∧ t.mk (X : Int) (t.side (t.nd n).lo (Y : Int) false) (t.side (t.nd n).hi (Y : Int) false) (n :: R) = (a, 0, t1) ∧
      t1.mk (X : Int) (t1.side (t.nd n).lo (Y : Int) true) (t1.side (t.nd n).hi (Y : Int) true) (n :: R) = (c, 0, t2) ∧ MS.J s l C R (t2.setNd n ⟨(Y : Int), a, c⟩) ∧ 2 * (R.length : Int) ≤ (t2.setNd n ⟨(Y : Int), a, c⟩).room := by
  have hRC : ∀ m ∈ n :: R, m ∈ C := fun m hm => by
    rcases List.mem_cons.1 hm with rfl | hm
    · exact hn
    · exact hR m hm
  have rx := mayO_range w.ok.order (i := l) (by have := w.l6; omega)
  have ry := mayO_range w.ok.order (i := l + 1) (by have := w.l6; omega)
  obtain ⟨n1, n2, _⟩ := (w.mem n).1 hn
  obtain ⟨d1, d2⟩ := w.sides hn
  have e0 := j.old n n1 (.inr List.mem_cons_self)
  obtain ⟨a, c, t1, t2, _, m1, m2, j1, j2, hn2, j3, r3⟩ := j.round w hn hnR hroom
  have p00 := w.ok.deep_side w.l6 d1 false
  have p10 := w.ok.deep_side w.l6 d2 false
  have p01 := w.ok.deep_side w.l6 d1 true
  have p11 := w.ok.deep_side w.l6 d2 true
  have s00 := j.side_as w d1 false
  have s10 := j.side_as w d2 false
  have s01 := j.side_as w d1 true
  have s11 := j.side_as w d2 true
  have u01 := j1.side_as w d1 true
  have u11 := j1.side_as w d2 true
  have b00 := j.deep_behind w p00
  have b10 := j.deep_behind w p10
  have b01 := j1.deep_behind w p01
  have b11 := j1.deep_behind w p11
  have e2 := j2.old n n1 (.inr List.mem_cons_self)
  have hB2 := j2.okb.toBase
  have hat := hB2.setNd_at hn2 ⟨s.o (l + 1), a, c⟩
  have ha := MS.behind_there (j3.okb.lo n hn2 hnR)
  have hc := MS.behind_there (j3.okb.hi n hn2 hnR)
  rw [hat] at ha hc
  have hcl2 := j2.closed w hRC n hn2
  rw [e2] at hcl2
  rw [hX] at m1 m2 b00 b10 b01 b11
  rw [hX] at n2 rx
  rw [hY] at m1 m2 s00 s10 s01 s11 u01 u11 b00 b10 b01 b11 hat j3 r3 ry
  have m2' := m2
  rw [e0] at m1 m2 m2'
  rw [u01, u11, ← s01, ← s11] at m2'
  refine ⟨a, c, t1, t2, ⟨j.okb, j1.okb, hB2, j.closed w hRC, j1.closed w hRC, fun m hm => j.has m ((w.mem m).1 (hRC m hm)).1, fun m hm => j1.has m ((w.mem m).1 (hRC m hm)).1, hn2, hnR, by omega, by omega, by rw [e0]; exact n2, by rw [e2, e0], by rw [e0]; exact m1, by rw [e0]; exact m2', ?_, ?_, ?_, ?_, ha, hc, by rw [e0]; exact hcl2.1, by rw [e0]; exact hcl2.2, fun m hm hmR e => ?_⟩, by rw [e0]; exact m1, by rw [e0]; exact m2, j3, r3⟩
  · rw [e0, s00]; exact b00
  · rw [e0, s10]; exact b10
  · rw [e0, s01]; exact b01
  · rw [e0, s11]; exact b11
  · simp only [List.mem_cons, not_or] at hmR
    have h1 := hB2.setNd_ne hn2 hm hmR.1 ⟨(Y : Int), a, c⟩
    exact hmR.1 (j3.okb.one m n hm hn2 hmR.2 hnR (by rw [h1, e, hat]))

section
variable {w w' : World} {b : Nat} {F : Nat → Prop} {t t1 t2 : MS} {R : List Int}

set_option maxRecDepth 100000 in
set_option maxHeartbeats 4000000 in
theorem coTurn {n a c : Int} {vx vy : Nat} (h : CoAt w b F t (n :: R) t.refs) (T : t.Turn n R vx vy a c t1 t2) :
    Calls Try.prog 38 #[pv b, .int .i64 n, .int .i64 (vy : Int)] w fun e w' => e = .returned (.tuple #[]) ∧ ∃ F', CoAt w' b F' (t2.setNd n ⟨(vy : Int), a, c⟩) R (t2.setNd n ⟨(vy : Int), a, c⟩).refs ∧ Keeps F w w' ∧ Within w F F' := by
  have hh := T.hasR n List.mem_cons_self
  have okb := T.okb.toBase
  have hcl := T.closed n hh
  have HA := coAt h okb hh
  have q0 := fieldP (t.nd n) (t.refs n)
  unfold plv at HA
  have hFlt := h.lt
  have hlt : ∀ m, -100000 ≤ t2.refs m ∧ t2.refs m ≤ 100000 := fun m => by
    have := t2.refs_nonneg m; have := T.base2.refs_le m; omega
  have hlt2 : ∀ m, -100000 ≤ t2.refs m + cnt ⟨(vy : Int), a, c⟩ m ∧ t2.refs m + cnt ⟨(vy : Int), a, c⟩ m ≤ 100000 := fun m => by
    have := t2.refs_nonneg m; have := T.base2.refs_le m; have := cnt_nonneg ⟨(vy : Int), a, c⟩ m; have := cnt_le ⟨(vy : Int), a, c⟩ m; omega
  have hrefs := T.base2.refs_setNd T.has2 ⟨(vy : Int), a, c⟩
  rw [T.nd2] at hrefs
  have P1 := fun W hb => coApart (w := W) (h.below hb) okb (t.nd n).lo (vy : Int) hcl.1
  have P2 := fun W hb => coApart (w := W) (h.below hb) okb (t.nd n).hi (vy : Int) hcl.2
  have M1 := fun {W F} (h : CoAt W b F t (n :: R) t.refs) => coMust h T.okb T.closed T.hasR vx T.X8 _ _ T.b1 T.b2
  have M2 := fun {W F} (h : CoAt W b F t1 (n :: R) t1.refs) => coMust h T.okb1 T.closed1 T.hasR1 vx T.X8 _ _ T.b3 T.b4
  rw [T.mk1] at M1
  rw [T.mk2] at M2
  dsimp only at M1 M2
  have L := fun {W F} (h : CoAt W b F t2 (n :: R) t2.refs) => coLay h T.base2 T.has2 T.nR ⟨(vy : Int), a, c⟩ (by have := T.Y8; constructor <;> dsimp only <;> omega) T.ta T.tc T.one hlt
  have G := fun {W F} (h : CoAt W b F (t2.setNd n ⟨(vy : Int), a, c⟩) R (fun m => t2.refs m + cnt ⟨(vy : Int), a, c⟩ m)) => coHang h (T.base2.setNd n ⟨(vy : Int), a, c⟩) (t.nd n) (-1) T.tlo T.thi hlt2 (.inr rfl)
  have hvx := T.var
  unfold nv at L G
  generalize t.side (t.nd n).lo (vy : Int) false = s00 at *
  generalize t.side (t.nd n).lo (vy : Int) true = s01 at *
  generalize t.side (t.nd n).hi (vy : Int) false = s10 at *
  generalize t.side (t.nd n).hi (vy : Int) true = s11 at *
  generalize hold : t.nd n = old at *
  obtain ⟨ov', ol, oh⟩ := old
  dsimp only at hvx
  subst hvx
  dsimp only at HA q0 P1 P2 M1 M2 L G hrefs
  clear hlt hlt2 hcl T hh okb
  replace hold := Lib.hid hold
  replace hrefs := Lib.hid hrefs
  replace hFlt := Lib.hid hFlt
  go_enter Try.func38, Try.ntmps38
  go_wp2_with fail
  refine HA.mono ?_
  rintro e w2 ⟨rfl, hb2⟩
  clear HA
  have hx := HoldsN.new w2 ⟨(vx : Int), ol, oh⟩
  dsimp only at hx
  have hb3 : Below w.heap.size w (w2.alloc (.cells #[.int .i64 (vx : Int), .int .i64 ol, .int .i64 oh] 39)) := hb2.alloc hb2.size _
  have hBl := hb2.size
  clear hb2
  obtain ⟨x0, x1, x2⟩ := HoldsN.cells hx
  dsimp only at x0 x1 x2
  go_wp2_with fail
  generalize w2.alloc (.cells #[.int .i64 (vx : Int), .int .i64 ol, .int .i64 oh] 39) = W at *
  generalize hB : w2.heap.size = B at *
  clear hB x0 x1 x2
  refine (P1 W hb3).mono ?_
  rintro e w3 ⟨rfl, hb4⟩
  replace hx := HoldsN.below hx hb4
  replace hb3 := hb3.trans (hb4.mono hb3.size)
  clear P1 hb4
  obtain ⟨x0, x1, x2⟩ := HoldsN.cells hx
  dsimp only at x0 x1 x2
  go_wp2_with fail
  clear x0 x1 x2
  refine (P2 w3 hb3).mono ?_
  rintro e w4 ⟨rfl, hb4⟩
  replace hx := HoldsN.below hx hb4
  replace hb3 := hb3.trans (hb4.mono hb3.size)
  clear P2 hb4
  obtain ⟨x0, x1, x2⟩ := HoldsN.cells hx
  dsimp only at x0 x1 x2
  go_wp2_with fail
  clear x0 x1 x2
  have hBF : ¬ F B := fun e => by have := hFlt.out _ e; omega
  have hBlt := HoldsN.lt hx
  refine (M1 (h.below hb3)).mono ?_
  rintro e w5 ⟨rfl, F5, hC, hK, hW⟩
  replace hx := HoldsN.keep hx hK hBF
  have hKw := (Keeps.of_below hb3 F).and hK
  have hWw : Within w F F5 := fun k hk => (hW k hk).imp id (fun h => Nat.le_trans hb3.size h)
  have hBF5 : ¬ F5 B := fun e => (hW B e).elim hBF (fun h => by omega)
  clear M1 h hK hW hBlt hBF hb3
  obtain ⟨x0, x1, x2⟩ := HoldsN.cells hx
  dsimp only at x0 x1 x2
  go_wp2_with fail
  clear x0 x1 x2
  have hBlt := HoldsN.lt hx
  refine (M2 hC).mono ?_
  rintro e w6 ⟨rfl, F6, hC6, hK, hW⟩
  replace hx := HoldsN.keep hx hK hBF5
  have hWl := hWw.trans hW hKw.size
  have hKl := hKw.trans hK hWw
  have hBF6 : ¬ F6 B := fun e => (hW B e).elim hBF5 (fun h => by omega)
  clear M2 hC hK hW hBlt hBF5 hKw hWw
  go_wp2_with fail
  have hBlt := HoldsN.lt hx
  refine (L hC6).mono ?_
  rintro e w7 ⟨rfl, F7, hC7, hK, hW⟩
  replace hx := HoldsN.keep hx hK hBF6
  have hWw := hWl.trans hW hKl.size
  have hKw := hKl.trans hK hWl
  clear L hC6 hK hW hBlt hBF6 hKl hWl
  obtain ⟨x0, x1, x2⟩ := HoldsN.cells hx
  dsimp only at x0 x1 x2
  go_wp2_with fail
  refine (G hC7).mono ?_
  rintro e w8 ⟨rfl, hC8, hK⟩
  have hKl := hKw.trans hK hWw
  clear G hC7 hK x0 x1 x2 hx
  go_wp2
  exact bodyPost_end (v := .tuple #[]) (by simp [results, Try.results38, go_sem]) rfl ⟨rfl, F7, hC8.congr fun m => by rw [hrefs.out m]; omega, hKl, hWw⟩
end

end Go.Proofs.Ytbnjbnjhpccomaa
