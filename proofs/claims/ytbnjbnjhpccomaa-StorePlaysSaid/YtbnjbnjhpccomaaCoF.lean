/-
  Walks of the code's store: Free.
-/
import Derived.Test.YtbnjbnjhpccomaaCoO
namespace Go.Proofs.Ytbnjbnjhpccomaa
open Go Go.RowKit

section
variable {w w' : World} {b bA : Nat} {FA F : Nat → Prop} {bT : Nat → Nat} {FT : Nat → Nat → Prop} {v v' : Value} {o : Nat → Int} {ar : AS} {X X' : List (Nd × Int)} {tabs : Nat → TS} {s : MS} {R : List Int} {f : Int → Int}

theorem chain_placeC (W : World) (g k : Nat) (v0 v1 v2 v3 : Value) : (((W.setCell ⟨g, k, none⟩ v0).setCell ⟨g, k + 1, none⟩ v1).setCell ⟨g, k + 2, none⟩ v2).setCell ⟨g, k + 3, none⟩ v3 = W.setCells g k [v0, v1, v2, v3] := rfl
/-- A place emptied. -/
theorem CoR.putZero {g n cap i : Nat} (h : CoR w b bA FA bT FT (.slice (some ⟨g, 0, none⟩) n cap) o ar X tabs) (hn : n = X.length) (hi : i < X.length) :
    CoR (w.setCells g (i * 4) [.int .i64 0, .int .i64 0, .int .i64 0, .int .i64 0]) b bA FA bT FT (.slice (some ⟨g, 0, none⟩) n cap) o ar (X.set i (⟨0, 0, 0⟩, 0)) tabs ∧ Keeps (footC b FA FT (.slice (some ⟨g, 0, none⟩) n cap)) w (w.setCells g (i * 4) [.int .i64 0, .int .i64 0, .int .i64 0, .int .i64 0]) := by
  subst hn
  exact h.setX rfl (owns_putCells h.places hi (⟨0, 0, 0⟩, 0)) (Keeps.of_setCells (fun k => k = g) g rfl _ _ w)

set_option maxRecDepth 100000 in
set_option maxHeartbeats 4000000 in
theorem coFree (h : CoAt w b F s [] s.refs) (ok : s.Ok) (n : Int) (hn : n ≤ 9223372036854775807 ∧ -9223372036854775808 ≤ n) :
    Calls Try.prog 26 #[pv b, .int .i64 n] w fun e w' => e = .returned (errV (s.free n).1) ∧ ∃ F', CoAt w' b F' (s.free n).2 [] (s.free n).2.refs ∧ Keeps F w w' ∧ Within w F F' := by
  have okb := ok.toBase
  have hfew := okb.few
  have HH := coHas h okb n hn
  generalize hr : s.free n = r
  unfold MS.free at hr
  go_enter Try.func26, Try.ntmps26
  cases hh : s.has n
  · rw [hh] at hr HH
    rw [if_pos (.inl rfl)] at hr
    subst hr
    go_wp2_with fail
    refine HH.mono ?_
    rintro e w1 ⟨rfl, rfl⟩
    clear HH
    go_wp2
    go_ret
    exact ⟨rfl, F, h, Keeps.refl _ _, Within.refl _ _⟩
  rw [hh] at HH
  have HA := coAt h okb hh
  have hlow := okb.isLow_refs n
  have hrb := okb.refs_le n
  have hr0 := s.refs_nonneg n
  have q1 := fieldK (s.nd n) (s.refs n)
  unfold plv at HA
  by_cases hpos : 0 < s.refs n
  · rw [if_pos (.inr (by rw [hlow, decide_eq_true hpos]))] at hr
    subst hr
    replace h := Lib.hid h
    go_wp2_with fail
    refine HH.mono ?_
    rintro e w1 ⟨rfl, rfl⟩
    clear HH
    go_wp2_with fail
    refine HA.mono ?_
    rintro e w1 ⟨rfl, hb1⟩
    clear HA
    go_wp2
    go_ret
    exact ⟨rfl, F, h.out.below hb1, Keeps.of_below hb1 _, Within.refl _ _⟩
  · have hz : s.refs n = 0 := by omega
    have hr2 := (AS.give_yes ((MS.has_mem okb).1 hh)).1
    rw [if_neg (by rw [hh, hlow, decide_eq_false hpos]; simp), hr2] at hr
    subst hr
    have hno := (okb.refs_zero n).1 hz
    have hv := ok.var n hh
    obtain ⟨vn, hvn⟩ := Int.eq_ofNat_of_zero_le hv.1
    have hv8 : vn < 8 := by omega
    have hv8' : (vn : Int) < 8 := by omega
    have hlo := MS.behind_there (ok.lo n hh)
    have hhi := MS.behind_there (ok.hi n hh)
    obtain ⟨n1, n2⟩ := hno n hh
    have hgive := okb.refs_give hh
    have hone : ∀ m, s.has m = true → m ∉ ([] : List Int) → s.nd m = s.nd n → m = n := fun m hm _ e => ok.one m n hm hh e
    have hbnd : ∀ m, -100000 ≤ s.refs m ∧ s.refs m ≤ 100000 := fun m => by
      have := s.refs_nonneg m; have := okb.refs_le m; omega
    have HA2 := fun W (hb : Below w.heap.size w W) => coAt (h.below hb) okb hh
    have q0 := fieldP (s.nd n) (s.refs n)
    unfold plv at HA2
    have HHg := fun {w F} (h : CoAt w b F s [n] s.refs) => coHang h okb (s.nd n) (-1) hlo hhi hbnd (.inr rfl)
    unfold nv at HHg
    obtain ⟨bA, FA, bT, FT, v, X, tabs, rfl, hR, c⟩ := h
    have hcd := c.drop (n := n) hv8 hvn hone (R' := [n]) (fun m => by simp)
    have tsl := c.slots vn hv8
    have tok := c.ok vn hv8
    have hBF := hR.lt
    generalize hnd : s.nd n = x at *
    obtain ⟨xv, xl, xh⟩ := x
    dsimp only at hvn hlo hhi n1 n2 hcd HA HA2 q0 q1 HHg
    subst hvn
    have hR0 := Lib.hid hR
    have hcd0 := Lib.hid hcd
    have hnd0 := Lib.hid hnd
    have hgive0 := Lib.hid hgive
    have hzz := Lib.hid hz
    have hnn := Lib.hid (show cnt ⟨(vn : Int), xl, xh⟩ n = 0 from cnt_zero.2 ⟨n1, n2⟩)
    have hrr := (okb.range hh).2.1
    have hl0 := c.len
    clear hR c hone hno hgive hbnd hlow hrb hv hcd hnd hz n1 n2
    generalize hrn : s.refs n = rn at *
    replace hrn := Lib.hid hrn
    go_wp2_with fail
    refine HH.mono ?_
    rintro e w1 ⟨rfl, rfl⟩
    clear HH
    go_wp2_with fail
    refine HA.mono ?_
    rintro e w1 ⟨rfl, hb1⟩
    clear HA
    go_wp2_with fail
    refine (HA2 w1 hb1).mono ?_
    rintro e w2 ⟨rfl, hb2⟩
    replace hb1 := hb1.trans (hb2.mono hb1.size)
    clear HA2 hb2
    go_wp2
    have hx := HoldsN.new w2 ⟨(vn : Int), xl, xh⟩
    dsimp only at hx
    have hb3 : Below w.heap.size w (w2.alloc (.cells #[.int .i64 (vn : Int), .int .i64 xl, .int .i64 xh] 39)) := hb1.alloc hb1.size _
    have hBl := hb1.size
    clear hb1
    generalize w2.alloc (.cells #[.int .i64 (vn : Int), .int .i64 xl, .int .i64 xh] 39) = W at *
    generalize hB : w2.heap.size = B at *
    have hR := hR0.out.below hb3
    have x0 := fun u : Sub W => (HoldsN.sub hx u).cells.1
    have x1 := fun u : Sub W => (HoldsN.sub hx u).cells.2.1
    have x2 := fun u : Sub W => (HoldsN.sub hx u).cells.2.2
    dsimp only at x0 x1 x2
    have ct := fun u : Sub W => (hR.sub u).table vn hv8
    refine wp_region_quiet_tail (C := fun w' => ∃ u : Sub W, w' = u.1) 11 (by kernel_rfl) (by kernel_rfl) (InSub.drew W) ?_
    simp only [List.take_succ_cons, List.take_zero]
    iterate 11 (go_big_quiet_step (fail))
    refine wpQuiet_nil ?_
    clear x0 x1 x2 ct
    intro w' hw'
    obtain ⟨u, rfl⟩ := hw'
    have hR7 := hR.sub u
    have hx7 := HoldsN.sub hx u
    have hb7 := hb3.trans (u.2.mono hb3.size)
    clear hR hx hR0 hb3
    generalize u.1 = W7 at *
    have HP := uniqDropS (hR7.tab vn hv8) tok (by omega) xl xh
    simp only [List.drop_succ_cons, List.drop_zero]
    apply wpList_step
    intro K1 hK1
    go_simp
    refine HP.mono ?_
    rintro e W8 ⟨rfl, FT', hU, hKU, hWU⟩
    clear HP
    obtain ⟨hR8, hK8, hW8⟩ := hR7.setTab hv8 hU hKU hWU
    have hx8 := hx7.keep hK8 (fun e => by have := hBF _ e; omega)
    have hKf := (Keeps.of_below hb7 _).and hK8
    have hWf : Within w (footC b FA FT v) (footC b FA (upd FT vn FT') v) := fun k hk => (hW8 k hk).imp id (fun h => Nat.le_trans hb7.size h)
    clear hR7 hx7 hU hKU hWU hK8 hW8 hb7
    apply hK1
    clear hK1
    refine wpList_nil ?_
    have HH1 := HHg ⟨bA, FA, bT, upd FT vn FT', v, X, _, rfl, hR8, hcd0.out⟩
    obtain ⟨x0, x1, x2⟩ := hx8.cells
    dsimp only at x0 x1 x2
    clear HHg hR8 hcd0 hx8
    go_wp2_with fail
    refine HH1.mono ?_
    rintro e W9 ⟨rfl, hC9, hK9⟩
    replace hKf := hKf.trans hK9 hWf
    clear HH1 x0 x1 x2 hK9
    obtain ⟨bA9, FA9, bT9, FT9, v9, X9, tabs9, e9, hR9, hc9⟩ := hC9
    rw [e9] at hWf
    have hl9 := hc9.len
    obtain ⟨g, cap, rfl, h2, i0, i1, d0, d1, d2, d3⟩ := hR9.node hc9 okb hh
    have hX9 : (n - 2).toNat < X9.length := by omega
    have c18 := hR9.cell.2.2
    have y0 := hR9.places.free ((n - 2).toNat * 4)
    have y1 := hR9.places.free ((n - 2).toNat * 4 + 1)
    have y2 := hR9.places.free ((n - 2).toNat * 4 + 2)
    have y3 := hR9.places.free ((n - 2).toNat * 4 + 3)
    obtain ⟨hR10, hK10⟩ := hR9.putZero rfl hX9
    have hKf2 := hKf.trans hK10 hWf
    have HR10 := Lib.hid hR10
    have HK10 := Lib.hid hKf2
    clear hR9 hR10 hK10 hKf hKf2
    have c9 := HR10.out.cell.2.1
    rw [← chain_placeC] at c9
    go_wp2_with fail
    clear c9 c18 y0 y1 y2 y3 d0 d1 d2 d3
    rw [chain_placeC]
    have hR10 := HR10.out
    have hK10 := HK10.out
    clear HR10 HK10
    generalize W9.setCells g ((n - 2).toNat * 4) [.int .i64 0, .int .i64 0, .int .i64 0, .int .i64 0] = W10 at *
    have HG := arenaGiveS hR10.ar okb.ar (n - 2)
    rw [hr2] at HG
    refine HG.mono ?_
    rintro e W11 ⟨rfl, FA', hA, hK, hW⟩
    clear HG
    have hmost : (s.ar.give (n - 2)).most = s.ar.most := by rw [(AS.give_yes ((MS.has_mem okb).1 hh)).2]
    obtain ⟨hR11, hK11, hW11⟩ := hR10.setAr hA hmost hK hW
    have hKl := hK10.trans hK11 hWf
    have hWl := hWf.trans hW11 hK10.size
    have hcf := hc9.free okb hh (by rw [hrn.out, hzz.out, hnn.out]; rfl)
    clear hR10 hA hK hW hK11 hW11 hc9
    go_wp2
    go_ret
    exact ⟨rfl, _, ⟨bA9, FA', bT9, FT9, _, _, tabs9, rfl, hR11, hcf.congr fun m => by rw [hgive0.out m]; omega⟩, hKl, hWl⟩
end

end Go.Proofs.Ytbnjbnjhpccomaa
