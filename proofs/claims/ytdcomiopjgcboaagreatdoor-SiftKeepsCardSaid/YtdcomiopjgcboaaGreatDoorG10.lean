/-
  Texts of this proof, one behind the other: CoP, CoN, StoreI, IMap, BSet, Math, Tab, ReachM, MathVar.
-/
import Derived.Test.YtdcomiopjgcboaaGreatDoorG9
import Derived.Test.YtdcomiopjgcboaaGreatDoorG7
import Derived.Maps.Own
import Derived.Maps.OwnOps
import Derived.Maps.Views
import Derived.WalkKit
import Derived.Maps.OwnSet
import Derived.Test.YtdcomiopjgcboaaGreatDoorProg
import Derived.Outline
import Derived.RegionTactic
import Derived.ChangeAlike
import Derived.Handy
import Derived.StillTailTactics
import Derived.Deep.RegionHeld3
import Derived.KernelRfl
import Derived.Test.YtdcomiopjgcboaaGreatDoorG1
/-
  Walks of the code's store: Swap.
-/
namespace Go.Proofs.YtdcomiopjgcboaaGreatDoor
open Go Go.RowKit

theorem chain_orderC (W : World) (g : Nat) (p0 p1 p2 p3 p4 p5 p6 p7 : Value) : (((((((W.setCell ⟨g, 1, none⟩ p0).setCell ⟨g, 2, none⟩ p1).setCell ⟨g, 3, none⟩ p2).setCell ⟨g, 4, none⟩ p3).setCell ⟨g, 5, none⟩ p4).setCell ⟨g, 6, none⟩ p5).setCell ⟨g, 7, none⟩ p6).setCell ⟨g, 8, none⟩ p7 = W.setCells g 1 [p0, p1, p2, p3, p4, p5, p6, p7] := rfl

section
variable {w w' : World} {b : Nat} {F : Nat → Prop} {s : MS}

set_option maxRecDepth 100000 in
set_option maxHeartbeats 8000000 in
theorem coSwap (h : CoAt w b F s [] s.refs) (ok : s.Ok) (l : Int) :
    Calls Tryz.prog 15 #[pv b, .int .i64 l] w fun e w' => e = .returned (errV (s.swap l).1) ∧ ∃ F', CoAt w' b F' (s.swap l).2 [] (s.swap l).2.refs ∧ Keeps F w w' ∧ Within w F F' := by
  have okb := ok.toBase
  have hfew := okb.few
  generalize hr : s.swap l = r
  by_cases hl : l < 0 ∨ 6 < l
  · have e : s.swap l = (1, s) := by unfold MS.swap; rw [if_pos hl]
    rw [e] at hr
    subst hr
    go_enter Tryz.func15, Tryz.ntmps15
    by_cases h0 : l < 0
    · go_wp2
      go_ret
      exact ⟨rfl, F, h, Keeps.refl _ _, Within.refl _ _⟩
    · have h6 : 6 < l := by omega
      go_wp2
      go_ret
      exact ⟨rfl, F, h, Keeps.refl _ _, Within.refl _ _⟩
  obtain ⟨m, rfl⟩ := Int.eq_ofNat_of_zero_le (show 0 ≤ l by omega)
  have hm : m ≤ 6 := by omega
  have hsw : s.swap m = if s.room < 2 * ((s.changes (s.o m) (s.o (m + 1))).length : Int) then (2, s) else (0, MS.swap1 { s with o := swapO s.o m } (s.o m) (s.o (m + 1)) (s.changes (s.o m) (s.o (m + 1)))) := by
    unfold MS.swap
    rw [if_neg hl]
    rfl
  rw [hsw] at hr
  clear hsw hl
  have hm0 : (0 : Int) ≤ (m : Int) := by omega
  have hm6 : (m : Int) ≤ 6 := by omega
  have rx := mayO_range ok.order (i := m) (by omega)
  have ry := mayO_range ok.order (i := m + 1) (by omega)
  obtain ⟨X, hX⟩ := Int.eq_ofNat_of_zero_le rx.1
  obtain ⟨Y, hY⟩ := Int.eq_ofNat_of_zero_le ry.1
  have hX8 : X < 8 := by omega
  have hX8' : (X : Int) < 8 := by omega
  have HCh := fun W hb => coChanging (w := W) (h.below hb) okb ok.closed (X : Int) (Y : Int)
  have HRoom := fun W (hb : Below w.heap.size w W) => coRoom (h.below hb) okb
  have Sw : s.Sw m (s.changes (s.o m) (s.o (m + 1))) := ok.sw hm
  rw [hX, hY] at hr Sw
  have hFlt := h.lt
  have h0 := Lib.hid h
  have pxy : (∀ u : Sub w, u.1.cell? ⟨b, 1 + m, none⟩ = some (.int .i64 (X : Int))) ∧ ∀ u : Sub w, u.1.cell? ⟨b, 1 + (m + 1), none⟩ = some (.int .i64 (Y : Int)) := by
    obtain ⟨bA, FA, bT, FT, v, XX, tabs, rfl, hR, c⟩ := h
    exact ⟨fun u => by rw [← hX]; exact (hR.sub u).place m (by omega), fun u => by rw [← hY]; exact (hR.sub u).place (m + 1) (by omega)⟩
  obtain ⟨px, py⟩ := pxy
  clear h rx ry
  replace hX := Lib.hid hX
  replace hY := Lib.hid hY
  go_enter Tryz.func15, Tryz.ntmps15
  go_wp2
  refine wp_region_quiet_all (C := fun w' => ∃ u : Sub w, w' = u.1) (by kernel_rfl) (by kernel_rfl) (InSub.drew w) ?_
  iterate 15 (go_big_quiet_step (fail))
  refine wpQuiet_nil ?_
  clear px py
  intro w' hw'
  obtain ⟨u, rfl⟩ := hw'
  have hb1 := u.2
  generalize u.1 = w1 at *
  go_wp2_with fail
  refine (HCh _ hb1).mono ?_
  rintro e w2 ⟨vC, rfl, RC⟩
  obtain ⟨aC, cC, rfl, _⟩ := RC.own.form
  have hb2 := hb1.trans (RC.below.mono hb1.size)
  have hnewC := fun g hg => Nat.le_trans hb1.size (RC.new g hg)
  have hOC := RC.own
  have hfl : (s.changes X Y).length ≤ 20000 := Nat.le_trans (List.length_filter_le _ _) (Nat.le_trans (numsTo_filter_length s.has s.N.length) hfew)
  have hrm : s.room ≤ 20000 ∧ 0 ≤ s.room := by
    have := ok.ar.mostLe; have := ok.ar.nextLe; have := ok.ar.len
    simp only [MS.room]; omega
  clear HCh RC hb1
  go_wp2_with fail
  refine (HRoom _ hb2).mono ?_
  rintro e w3 ⟨rfl, hb3⟩
  replace hOC := hOC.block (w' := w3) fun g hg => hb3.block g (hOC.lt g hg)
  replace hb2 := hb2.trans (hb3.mono hb2.size)
  clear HRoom hb3
  by_cases hroom : s.room < 2 * ((s.changes X Y).length : Int)
  · rw [if_pos hroom] at hr
    subst hr
    go_wp2
    go_ret
    exact ⟨rfl, _, h0.out.below hb2, Keeps.of_below hb2 _, Within.refl _ _⟩
  · rw [if_neg hroom] at hr
    have hSwap := fun W => permSwap s.o m W
    simp only [swapLit7] at hSwap
    simp only [ov] at hSwap
    have h1 := h0.out.below hb2
    obtain ⟨bA, FA, bT, FT, v, XX, tabs, rfl, hR, cc⟩ := h1
    obtain ⟨c1, c2, c3, c4, c5, c6, c7, c8⟩ := hR.order
    go_wp2_with fail
    refine (hSwap _).mono ?_
    rintro e w4 ⟨rfl, hb4⟩
    clear c1 c2 c3 c4 c5 c6 c7 c8 hSwap
    replace hOC := hOC.block (w' := w4) fun g hg => hb4.block g (hOC.lt g hg)
    replace hb2 := hb2.trans (hb4.mono hb2.size)
    have hRw := hR.below hb4
    obtain ⟨c1, c2, c3, c4, c5, c6, c7, c8⟩ := hRw.order
    have f1 := hRw.free 1
    have f2 := hRw.free 2
    have f3 := hRw.free 3
    have f4 := hRw.free 4
    have f5 := hRw.free 5
    have f6 := hRw.free 6
    have f7 := hRw.free 7
    have f8 := hRw.free 8
    obtain ⟨hR5, hk5⟩ := hRw.setOrder (swapO s.o m)
    have HR5 := Lib.hid hR5
    have HK5 := Lib.hid hk5
    clear hb4 hRw hR5 hk5 hR
    go_wp2
    rw [chain_orderC]
    generalize w4.setCells b 1 [.int .i64 (swapO s.o m 0), .int .i64 (swapO s.o m 1), .int .i64 (swapO s.o m 2), .int .i64 (swapO s.o m 3), .int .i64 (swapO s.o m 4), .int .i64 (swapO s.o m 5), .int .i64 (swapO s.o m 6), .int .i64 (swapO s.o m 7)] = W0 at *
    clear c1 c2 c3 c4 c5 c6 c7 c8 f1 f2 f3 f4 f5 f6 f7 f8
    have hKw := (Keeps.of_below hb2 (footC b FA FT v)).and HK5.out
    have hOC0 := hOC.keep HK5.out (fun g hg e => by have := hFlt _ e; have := hnewC g hg; omega)
    have hCf : ∀ g, (Value.slice aC (s.changes X Y).length cC).ownBlock = some g → ¬ footC b FA FT v g := fun g hg e => by have := hFlt _ e; have := hnewC g hg; omega
    have hC0 : CoAt W0 b (footC b FA FT v) { s with o := swapO s.o m } [] s.refs := ⟨bA, FA, bT, FT, v, XX, tabs, rfl, HR5.out, cc.order _⟩
    have J0 := MS.J.start Sw
    have hnd : (s.changes X Y).Nodup := List.Pairwise.filter _ s.all_nodup
    have hroom0 : 2 * ((s.changes X Y).length : Int) ≤ s.room := by omega
    have okb0 : MS.Base { s with o := swapO s.o m } := ⟨okb.ar, okb.len⟩
    have hone : ∀ n, s.has n = true → ∀ k, s.has k = true → s.nd k = s.nd n → k = n := fun n hn k hk e => ok.one k n hk hn e
    have hmem : ∀ n ∈ s.changes X Y, s.has n = true ∧ (s.nd n).var = (X : Int) := fun n hn => by
      have h1 := (Sw.mem n).1 hn
      exact ⟨h1.1, h1.2.1.trans hX.out⟩
    have hFlt0 : ∀ k, footC b FA FT v k → k < w.heap.size := hFlt
    clear HR5 HK5 hOC hnewC cc h0 ok okb hFlt hb2
    generalize hF0 : footC b FA FT v = F0 at *
    replace hF0 := Lib.hid hF0
    generalize s.changes X Y = C at *
    replace J0 := Lib.hid J0
    replace Sw := Lib.hid Sw
    replace hr := Lib.hid hr
    replace hCf := Lib.hid hCf
    replace hOC0 := Lib.hid hOC0
    replace hone := Lib.hid hone
    replace hmem := Lib.hid hmem
    replace okb0 := Lib.hid okb0
    replace hnd := Lib.hid hnd
    have hCk : ∀ k, k < C.length → ∀ V, Keeps F0 W0 V → ∃ ad, aC = some ad ∧ V.cell? (ad.add k) = some (.int .i64 (C.getD k 0)) := fun k hk V hV => by
      have h1 := (hOC0.out.keep hV hCf.out).reads.intAt k hk
      simpa [List.getD, hk] using h1
    replace hCk := Lib.hid hCk
    clear hOC0 hCf
    go_loopw [55] (fun i wr => ∃ (k : Nat) (F' : Nat → Prop), k ≤ C.length ∧ i = .int .i64 k ∧ CoAt wr b F' { s with o := swapO s.o m } (C.take k) s.refs ∧ Keeps F0 W0 wr ∧ Within W0 F0 F') (fun i _ => C.length - (intOf i).toNat)
    case atStart => exact ⟨0, _, Nat.zero_le _, rfl, hC0, Keeps.refl _ _, Within.refl _ _⟩
    case round =>
      clear hC0
      obtain ⟨k, F', hk, rfl, hC, hK, hW⟩ := hrel
      by_cases hlt : k < C.length
      · obtain ⟨ad, rfl, ck⟩ := hCk.out k hlt wr hK
        have hgd : C.getD k 0 = C[k] := by simp [List.getD, hlt]
        rw [hgd] at ck
        have hnC : C[k] ∈ C := List.getElem_mem hlt
        have htk : ∀ j, j ∈ C.take (k + 1) ↔ j ∈ C.take k ∨ j = C[k] := fun j => by
          rw [List.take_succ_eq_append_getElem hlt, List.mem_append, List.mem_singleton]
        generalize C[k] = n at *
        obtain ⟨n1, n2⟩ := hmem.out n hnC
        have HA := coAt hC okb0.out (n := n) n1
        have hF'lt := hC.lt
        have q0 := fieldP (s.nd n) (s.refs n)
        obtain ⟨bA1, FA1, bT1, FT1, v1, X1, tabs1, rfl, hR, c⟩ := hC
        have tok := c.ok X hX8
        have tsl := c.slots X hX8
        have hcd := c.drop (n := n) hX8 n2 (fun j hj _ e => hone.out n n1 j hj e) htk
        unfold plv at HA
        rw [show MS.nd { s with o := swapO s.o m } n = s.nd n from rfl] at HA hcd
        generalize s.refs n = rn at *
        generalize s.nd n = x at *
        obtain ⟨xv, xl, xh⟩ := x
        dsimp only at HA q0 hcd n2
        subst n2
        replace hcd := Lib.hid hcd
        have hk0 : (0 : Int) ≤ (k : Int) := by omega
        have hk1 : (k : Int) < (C.length : Int) := by omega
        have hR0 := Lib.hid hR
        clear hR c n1 hnC htk hgd
        go_wp2_with fail
        refine HA.mono ?_
        rintro e w5 ⟨rfl, hb5⟩
        clear HA ck
        go_wp2
        have hx := HoldsN.new w5 ⟨(X : Int), xl, xh⟩
        dsimp only at hx
        have hb6 : Below wr.heap.size wr (w5.alloc (.cells #[.int .i64 (X : Int), .int .i64 xl, .int .i64 xh] 78)) := hb5.alloc hb5.size _
        have hBl := hb5.size
        clear hb5
        generalize w5.alloc (.cells #[.int .i64 (X : Int), .int .i64 xl, .int .i64 xh] 78) = W at *
        generalize hB : w5.heap.size = B at *
        have hR := hR0.out.below hb6
        have x1 := fun u : Sub W => (HoldsN.sub hx u).cells.2.1
        have x2 := fun u : Sub W => (HoldsN.sub hx u).cells.2.2
        dsimp only at x1 x2
        have ct := fun u : Sub W => (hR.sub u).table X hX8
        refine wp_region_quiet_tail (C := fun w' => ∃ u : Sub W, w' = u.1) 10 (by kernel_rfl) (by kernel_rfl) (InSub.drew W) ?_
        simp only [List.take_succ_cons, List.take_zero]
        iterate 10 (go_big_quiet_step (fail))
        refine wpQuiet_nil ?_
        clear x1 x2 ct
        intro w' hw'
        obtain ⟨u, rfl⟩ := hw'
        have hR7 := hR.sub u
        have hb7 := hb6.trans (u.2.mono hb6.size)
        clear hR hR0 hb6 hx
        generalize u.1 = W7 at *
        have HP := uniqDropS (hR7.tab X hX8) tok (by omega) xl xh
        simp only [List.drop_succ_cons, List.drop_zero]
        apply wpList_step
        intro K1 hK1
        go_simp
        refine HP.mono ?_
        rintro e W8 ⟨rfl, FT', hU, hKU, hWU⟩
        clear HP
        obtain ⟨hR8, hK8, hW8⟩ := hR7.setTab hX8 hU hKU hWU
        have hKf := hK.trans ((Keeps.of_below hb7 _).and hK8) hW
        have hWf : Within W0 F0 (footC b FA1 (upd FT1 X FT') v1) := hW.trans (fun k hk => (hW8 k hk).imp id (fun h => Nat.le_trans hb7.size h)) hK.size
        clear hR7 hU hKU hWU hK8 hW8 hb7 hK hW
        apply hK1
        clear hK1
        refine wpList_nil ?_
        replace hR8 := Lib.hid hR8
        go_wp2
        exact ⟨⟨k + 1, _, by omega, by go_num, ⟨bA1, FA1, bT1, upd FT1 X FT', v1, X1, _, rfl, hR8.out, hcd.out⟩, hKf, hWf⟩, by simp [intOf]; omega⟩
      · obtain rfl : k = C.length := by omega
        rw [List.take_length] at hC
        clear hlt hk hone hmem okb0
        have hCd : CoAt wr b F' { s with o := swapO s.o m } (C.drop 0) (MS.refs { s with o := swapO s.o m }) := hC
        have hJd : Hid (MS.J s m C (C.drop 0) { s with o := swapO s.o m }) := J0
        have hrd : Hid ((0, MS.swap1 { s with o := swapO s.o m } X Y (C.drop 0)) = r) := hr
        have hrmd : 2 * ((C.drop 0).length : Int) ≤ MS.room { s with o := swapO s.o m } := hroom0
        clear hC J0 hr hroom0 hroom
        go_wp2
        go_loopw [77] (fun i wt => ∃ (k : Nat) (t : MS) (F1 : Nat → Prop), k ≤ C.length ∧ i = .int .i64 k ∧ CoAt wt b F1 t (C.drop k) t.refs ∧ Hid (MS.J s m C (C.drop k) t) ∧ 2 * ((C.drop k).length : Int) ≤ t.room ∧ Keeps F0 W0 wt ∧ Within W0 F0 F1 ∧ Hid ((0, MS.swap1 t X Y (C.drop k)) = r)) (fun i _ => C.length - (intOf i).toNat)
        case atStart => exact ⟨0, _, _, Nat.zero_le _, rfl, hCd, hJd, hrmd, hK, hW, hrd⟩
        case round =>
          clear hCd hJd hrmd hK hW hrd
          obtain ⟨k, t, F1, hk, rfl, hC, hJ, hrmd, hK, hW, hrd⟩ := hrel
          by_cases hlt : k < C.length
          · obtain ⟨ad, rfl, ck⟩ := hCk.out k hlt _ hK
            have hgd : C.getD k 0 = C[k] := by simp [List.getD, hlt]
            rw [hgd] at ck
            have hnC : C[k] ∈ C := List.getElem_mem hlt
            have hdrop := List.drop_eq_getElem_cons hlt
            have hnR : C[k] ∉ C.drop (k + 1) := by
              have h1 : (C.drop k).Nodup := List.Pairwise.sublist (List.drop_sublist k C) hnd.out
              rw [hdrop] at h1
              exact (List.nodup_cons.1 h1).1
            have hRC : ∀ j ∈ C.drop (k + 1), j ∈ C := fun j hj => List.mem_of_mem_drop hj
            replace hJ := hJ.out
            rw [hdrop] at hC hJ hrmd hrd
            generalize C[k] = n at *
            obtain ⟨a, c, t1, t2, T, m1, m2, j3, r3⟩ := hJ.turn Sw.out hnC hnR hRC hrmd hX.out hY.out
            have hfin : Hid ((0, MS.swap1 (t2.setNd n ⟨(Y : Int), a, c⟩) X Y (C.drop (k + 1))) = r) := by
              have := hrd.out
              unfold MS.swap1 at this
              simp only [m1, m2] at this
              exact Lib.hid this
            have HT := coTurn hC T
            have hk0 : (0 : Int) ≤ (k : Int) := by omega
            have hk1 : (k : Int) < (C.length : Int) := by omega
            replace j3 := Lib.hid j3
            clear hC T m1 m2 hrd hJ hdrop hnC hnR hRC hgd hrmd
            go_wp2_with fail
            refine HT.mono ?_
            rintro e w6 ⟨rfl, F2, hC2, hK2, hW2⟩
            have hWl := hW.trans hW2 hK.size
            have hKl := hK.trans hK2 hW
            clear HT hK hW hK2 hW2 ck
            go_wp2
            exact ⟨⟨k + 1, _, _, by omega, by go_num, hC2, j3, r3, hKl, hWl, hfin⟩, by simp [intOf]; omega⟩
          · obtain rfl : k = C.length := by omega
            have hr2 := hrd.out
            rw [List.drop_length] at hr2 hC
            have hr3 : r = (0, t) := hr2.symm
            subst hr3
            clear hr2 hrd hlt hk hJ hrmd
            go_wp2
            go_ret
            exact ⟨rfl, F1, hC, by rw [hF0.out]; exact hKw.trans hK (Within.refl _ _), by rw [hF0.out]; exact (Within.refl _ _).trans hW hKw.size⟩
end

end Go.Proofs.YtdcomiopjgcboaaGreatDoor

/-
  Walks of the code's store: New.
-/
namespace Go.Proofs.YtdcomiopjgcboaaGreatDoor
open Go Go.RowKit

/-- The row of a store that is being made. -/
def rowN (most : Int) (p : Nat → Int) (bA : Nat) (q : Nat → Value) : Obj :=
  .cells #[.int .i64 most, .int .i64 (p 0), .int .i64 (p 1), .int .i64 (p 2), .int .i64 (p 3), .int .i64 (p 4), .int .i64 (p 5), .int .i64 (p 6), .int .i64 (p 7), pv bA, q 0, q 1, q 2, q 3, q 4, q 5, q 6, q 7, .slice none 0 0] 87 (0, 0)

section
variable {w : World} {b bA : Nat} {most : Int} {p : Nat → Int} {q : Nat → Value}

theorem rowN_cells (h : w.heap[b]? = some (rowN most p bA q)) (k : Nat) (hk : k < 8) : w.cell? ⟨b, 1 + k, none⟩ = some (.int .i64 (p k)) ∧ w.cell? ⟨b, 10 + k, none⟩ = some (q k) := by
  rw [cell_of_row _ _ _ _ _ _ h, cell_of_row _ _ _ _ _ _ h]
  rcases (by omega : k = 0 ∨ k = 1 ∨ k = 2 ∨ k = 3 ∨ k = 4 ∨ k = 5 ∨ k = 6 ∨ k = 7) with rfl | rfl | rfl | rfl | rfl | rfl | rfl | rfl <;> exact ⟨rfl, rfl⟩
theorem rowN_p (h : w.heap[b]? = some (rowN most p bA q)) (k : Nat) (hk : k < 8) (x : Int) : (w.setCell ⟨b, 1 + k, none⟩ (.int .i64 x)).heap[b]? = some (rowN most (upd p k x) bA q) := by
  rw [heap_setCell_same w b (1 + k) _ _ (.int .i64 x) h]
  rcases (by omega : k = 0 ∨ k = 1 ∨ k = 2 ∨ k = 3 ∨ k = 4 ∨ k = 5 ∨ k = 6 ∨ k = 7) with rfl | rfl | rfl | rfl | rfl | rfl | rfl | rfl <;> rfl
theorem rowN_q (h : w.heap[b]? = some (rowN most p bA q)) (k : Nat) (hk : k < 8) (x : Value) : (w.setCell ⟨b, 10 + k, none⟩ x).heap[b]? = some (rowN most p bA (upd q k x)) := by
  rw [heap_setCell_same w b (10 + k) _ _ x h]
  rcases (by omega : k = 0 ∨ k = 1 ∨ k = 2 ∨ k = 3 ∨ k = 4 ∨ k = 5 ∨ k = 6 ∨ k = 7) with rfl | rfl | rfl | rfl | rfl | rfl | rfl | rfl <;> rfl

/-- A store that is being made: k of its tables are there. -/
structure NewR (w0 : World) (most : Nat) (k b bA : Nat) (FA : Nat → Prop) (p : Nat → Int) (q : Nat → Value) (bT : Nat → Nat) (FT : Nat → Nat → Prop) (w : World) : Prop where
  row : w.heap[b]? = some (rowN (most : Int) p bA q)
  ar : ArenaAt w bA FA ⟨most, 0, [], []⟩
  p1 : ∀ i, i < k → p i = (i : Int)
  q1 : ∀ i, i < k → q i = pv (bT i)
  q2 : ∀ i, k ≤ i → i < 8 → q i = .pointer none
  tab : ∀ i, i < k → UniqAt w (bT i) (FT i) ⟨[], 8⟩
  lowb : w0.heap.size ≤ b
  lowA : ∀ j, FA j → w0.heap.size ≤ j ∧ j ≠ b
  lowT : ∀ i, i < k → ∀ j, FT i j → w0.heap.size ≤ j ∧ j ≠ b ∧ ¬ FA j
  apart : ∀ i, i < k → ∀ l, l < k → i ≠ l → ∀ j, FT i j → ¬ FT l j
  below : Below w0.heap.size w0 w

theorem NewR.keep {w0 w' : World} {most k : Nat} {FA : Nat → Prop} {bT : Nat → Nat} {FT : Nat → Nat → Prop} (h : NewR w0 most k b bA FA p q bT FT w) (hb : Below w.heap.size w w') : NewR w0 most k b bA FA p q bT FT w' :=
  ⟨(hb.block b (row_lt h.row)).trans h.row, h.ar.below hb, h.p1, h.q1, h.q2, fun i hi => (h.tab i hi).below hb, h.lowb, h.lowA, h.lowT, h.apart, h.below.trans (hb.mono h.below.size)⟩
/-- A variable's place in the order. -/
theorem NewR.setP {w0 : World} {most k : Nat} {FA : Nat → Prop} {bT : Nat → Nat} {FT : Nat → Nat → Prop} (h : NewR w0 most k b bA FA p q bT FT w) (hk : k < 8) : NewR w0 most k b bA FA (upd p k (k : Int)) q bT FT (w.setCell ⟨b, 1 + k, none⟩ (.int .i64 (k : Int))) := by
  have hK := Keeps.of_setCell (fun j => j = b) w ⟨b, 1 + k, none⟩ (.int .i64 (k : Int)) rfl
  refine ⟨rowN_p h.row k hk _, h.ar.keep hK fun j hj e => (h.lowA j hj).2 e, fun i hi => ?_, h.q1, h.q2, fun i hi => (h.tab i hi).keep hK fun j hj e => (h.lowT i hi j hj).2.1 e, h.lowb, h.lowA, h.lowT, h.apart, h.below.trans (hK.below h.below.size fun j e => e ▸ h.lowb)⟩
  rw [upd_other _ _ _ (by omega)]
  exact h.p1 i hi
/-- Its table. -/
theorem NewR.setQ {w0 w' : World} {most k bN : Nat} {FA F' : Nat → Prop} {bT : Nat → Nat} {FT : Nat → Nat → Prop} (h : NewR w0 most k b bA FA p q bT FT w) (hk : k < 8) (hp : p k = (k : Int)) (hU : UniqAt w' bN F' ⟨[], 8⟩) (hF : ∀ j, F' j → w.heap.size ≤ j) (hb : Below w.heap.size w w') :
    NewR w0 most (k + 1) b bA FA p (upd q k (pv bN)) (upd bT k bN) (upd FT k F') (w'.setCell ⟨b, 10 + k, none⟩ (pv bN)) := by
  have h' := h.keep hb
  have hK := Keeps.of_setCell (fun j => j = b) w' ⟨b, 10 + k, none⟩ (pv bN) rfl
  have hlb := row_lt h.row
  refine ⟨rowN_q h'.row k hk _, h'.ar.keep hK fun j hj e => (h.lowA j hj).2 e, fun i hi => ?_, fun i hi => ?_, fun i h1 h2 => ?_, fun i hi => ?_, h.lowb, h.lowA, fun i hi j hj => ?_, fun i hi l hl hne j hj hj2 => ?_, h'.below.trans (hK.below h'.below.size fun j e => e ▸ h.lowb)⟩
  · by_cases e : i = k
    · subst e; exact hp
    · exact h.p1 i (by omega)
  · by_cases e : i = k
    · subst e; rw [upd_same, upd_same]
    · rw [upd_other _ _ _ e, upd_other _ _ _ e]; exact h.q1 i (by omega)
  · rw [upd_other _ _ _ (by omega)]; exact h.q2 i (by omega) h2
  · by_cases e : i = k
    · subst e; rw [upd_same, upd_same]; exact hU.keep hK fun j hj e => by have := hF j hj; omega
    · rw [upd_other _ _ _ e, upd_other _ _ _ e]; exact (h'.tab i (by omega)).keep hK fun j hj e => (h.lowT i (by omega) j hj).2.1 e
  · by_cases e : i = k
    · subst e
      rw [upd_same] at hj
      have := hF j hj
      exact ⟨Nat.le_trans h.below.size this, by omega, fun e => by have := h.ar.lt j e; omega⟩
    · rw [upd_other _ _ _ e] at hj; exact h.lowT i (by omega) j hj
  · by_cases e : i = k
    · subst e
      rw [upd_same] at hj
      rw [upd_other _ _ _ (Ne.symm hne)] at hj2
      have := hF j hj
      have := (h.tab l (by omega)).lt j hj2
      omega
    · rw [upd_other _ _ _ e] at hj
      by_cases e2 : l = k
      · subst e2
        rw [upd_same] at hj2
        have := hF j hj2
        have := (h.tab i (by omega)).lt j hj
        omega
      · rw [upd_other _ _ _ e2] at hj2
        exact h.apart i (by omega) l (by omega) hne j hj hj2
/-- All of them are. -/
theorem NewR.done {w0 : World} {most : Nat} {FA : Nat → Prop} {bT : Nat → Nat} {FT : Nat → Nat → Prop} (h : NewR w0 most 8 b bA FA p q bT FT w) : ∃ F, CoAt w b F (MS.none most) [] (MS.none most).refs ∧ ∀ k, F k → w0.heap.size ≤ k := by
  refine ⟨_, ⟨bA, FA, bT, FT, .slice none 0 0, [], fun _ => ⟨[], 8⟩, rfl, ⟨?_, h.ar, h.tab, Owns.nil _ _, (fun e => by cases e), fun k hk => ⟨(h.lowA k hk).2, fun e => by cases e⟩, fun i hi k hk => ⟨(h.lowT i hi k hk).2.1, (fun e => by cases e), (h.lowT i hi k hk).2.2⟩, h.apart⟩, ⟨rfl, fun i hi => (by cases hi), fun i hi => (by cases hi), fun _ _ => TS.Ok.new, fun _ _ => by decide, fun v hv e => ?_⟩⟩, ?_⟩
  · rw [h.row]
    simp only [rowN, rowC, h.p1 0 (by decide), h.p1 1 (by decide), h.p1 2 (by decide), h.p1 3 (by decide), h.p1 4 (by decide), h.p1 5 (by decide), h.p1 6 (by decide), h.p1 7 (by decide), h.q1 0 (by decide), h.q1 1 (by decide), h.q1 2 (by decide), h.q1 3 (by decide), h.q1 4 (by decide), h.q1 5 (by decide), h.q1 6 (by decide), h.q1 7 (by decide)]
    rfl
  · constructor
    · intro h1; cases h1
    · rintro ⟨h1, _⟩
      simp [MS.has, MS.none] at h1
  · rintro k (rfl | e | e | ⟨i, hi, e⟩)
    · exact h.lowb
    · cases e
    · exact (h.lowA k e).1
    · exact (h.lowT i hi k e).1
end

set_option maxRecDepth 100000 in
set_option maxHeartbeats 1000000 in
theorem coNo (most : Int) (w : World) (h : most < 0 ∨ 20000 < most) : Calls Tryz.prog 14 #[.int .i64 most] w fun e w' => e = .returned (.pointer none) ∧ Below w.heap.size w w' := by
  have H := arenaNo most w h
  go_enter Tryz.func14, Tryz.ntmps14
  go_wp2_with fail
  refine H.mono ?_
  rintro e w1 ⟨rfl, rfl⟩
  clear H
  go_wp2
  go_ret
  exact ⟨rfl, Below.refl _ _⟩

set_option maxRecDepth 100000 in
set_option maxHeartbeats 2000000 in
theorem coNew (most : Int) (w : World) (h0 : 0 ≤ most) (h1 : most ≤ 20000) : Calls Tryz.prog 14 #[.int .i64 most] w fun e w' => ∃ b, e = .returned (.pointer (some ⟨b, 0, none⟩)) ∧ (∃ F, CoAt w' b F (MS.none most.toNat) [] (MS.none most.toNat).refs ∧ ∀ k, F k → w.heap.size ≤ k) ∧ Below w.heap.size w w' := by
  obtain ⟨M, rfl⟩ := Int.eq_ofNat_of_zero_le h0
  rw [Int.toNat_natCast]
  have H := arenaNewS (M : Int) w h0 h1
  rw [Int.toNat_natCast] at H
  go_enter Tryz.func14, Tryz.ntmps14
  go_wp2_with fail
  refine H.mono ?_
  rintro e w1 ⟨rfl, ⟨FA, hA, hFA⟩, hb1⟩
  clear H
  go_wp2
  have hS : NewR w M 0 w1.heap.size w.heap.size FA (fun _ => 0) (fun _ => .pointer none) (fun _ => 0) (fun _ _ => False) (w1.alloc (rowN (M : Int) (fun _ => 0) w.heap.size (fun _ => .pointer none))) :=
    ⟨heap_alloc_new _ _, hA.below ((Below.refl _ _).alloc (Nat.le_refl _) _), fun i hi => (by omega), fun i hi => (by omega), fun _ _ _ => rfl, fun i hi => (by omega), hb1.size, fun j hj => ⟨hFA j hj, by have := hA.lt j hj; omega⟩, fun i hi => (by omega), fun i hi => (by omega), hb1.alloc hb1.size _⟩
  unfold rowN at hS
  generalize w1.alloc (.cells #[.int .i64 (M : Int), .int .i64 0, .int .i64 0, .int .i64 0, .int .i64 0, .int .i64 0, .int .i64 0, .int .i64 0, .int .i64 0, pv w.heap.size, .pointer none, .pointer none, .pointer none, .pointer none, .pointer none, .pointer none, .pointer none, .pointer none, .slice none 0 0] 87 (0, 0)) = W0 at *
  generalize w1.heap.size = b at *
  clear hA hFA hb1
  go_loopw [14] (fun i wr => ∃ (k : Nat) (p : Nat → Int) (q : Nat → Value) (bT : Nat → Nat) (FT : Nat → Nat → Prop), k ≤ 8 ∧ i = .int .i64 k ∧ NewR w M k b w.heap.size FA p q bT FT wr) (fun i _ => 8 - (intOf i).toNat)
  case atStart => exact ⟨0, _, _, _, _, by omega, rfl, hS⟩
  case round =>
    clear hS
    obtain ⟨k, p, q, bT, FT, hk, rfl, hR⟩ := hrel
    by_cases hlt : k < 8
    · have hk8 : (k : Int) < 8 := by omega
      have c1 := (rowN_cells hR.row k hlt).1
      have z1 : wr.frozen? ⟨b, 1 + k, none⟩ = false := frozen_of_row _ _ _ _ _ hR.row
      have hR1 := Lib.hid (hR.setP hlt)
      clear hR
      go_wp2
      generalize wr.setCell ⟨b, 1 + k, none⟩ (.int .i64 (k : Int)) = W1 at *
      clear c1 z1
      have hR2 := hR1.out.keep (Below.refl _ _).drew
      have hq := hR2.q2 k (Nat.le_refl _) hlt
      have c0 := (rowN_cells hR2.row k hlt).2
      rw [hq] at c0
      have z0 : W1.drew.frozen? ⟨b, 10 + k, none⟩ = false := frozen_of_row _ _ _ _ _ hR2.row
      replace hq := Lib.hid hq
      replace hR2 := Lib.hid hR2
      clear hR1
      go_region_held3 (fun _ => True) (first | trivial)
        (first
          | (go_at_call 45; refine (uniqNewS _).mono ?_; rintro e W3 ⟨rfl, ⟨F', hU, hF'⟩, hb3⟩; have hR3 := hR2.out.keep hb3; have c2 := (rowN_cells hR3.row k hlt).2; rw [hq.out] at c2; have z2 : W3.frozen? ⟨b, 10 + k, none⟩ = false := frozen_of_row _ _ _ _ _ hR3.row; have hR4 := Lib.hid (hR2.out.setQ hlt (upd_same _ _ _) hU hF' hb3); clear hR3 hU hF' hb3))
      go_wp2
      exact ⟨⟨k + 1, _, _, _, _, by omega, by go_num, hR4.out⟩, by simp [intOf]; omega⟩
    · obtain rfl : k = 8 := by omega
      obtain ⟨F, hC, hF⟩ := hR.done
      have hb := hR.below
      clear hR
      go_wp2
      go_ret
      exact ⟨b, rfl, ⟨F, hC, hF⟩, hb⟩

end Go.Proofs.YtdcomiopjgcboaaGreatDoor

/-
  The code's store keeps the contracts.
-/
namespace Go.Proofs.YtdcomiopjgcboaaGreatDoor
open Go Go.RowKit

theorem nodup_sub_length : ∀ (l k : List Int), l.Nodup → (∀ x ∈ l, x ∈ k) → l.length ≤ k.length
  | [], _, _, _ => Nat.zero_le _
  | a :: l, k, hn, h => by
    obtain ⟨h1, h2⟩ := List.nodup_cons.1 hn
    have ha := h a List.mem_cons_self
    have := nodup_sub_length l (k.erase a) h2 fun x hx => (List.mem_erase_of_ne (fun (e : x = a) => h1 (e ▸ hx))).2 (h x (List.mem_cons_of_mem _ hx))
    have e := List.length_erase_of_mem ha
    have := List.length_pos_of_mem ha
    simp only [List.length_cons]
    omega
theorem MS.Base.all_length {s : MS} (h : s.Base) : s.all.length = s.ar.T.length := by
  have hT : (s.ar.T.map fun k => k + 2).Nodup := by
    rw [List.Nodup, List.pairwise_map]
    exact List.Pairwise.imp (fun hne e => hne (by omega)) h.ar.nodT
  refine Nat.le_antisymm ?_ ?_
  · have := nodup_sub_length s.all (s.ar.T.map fun k => k + 2) s.all_nodup fun n hn => List.mem_map.2 ⟨n - 2, (MS.has_mem h).1 (h.mem_all.1 hn), by omega⟩
    rwa [List.length_map] at this
  · have := nodup_sub_length (s.ar.T.map fun k => k + 2) s.all hT fun n hn => by
      obtain ⟨k, hk, rfl⟩ := List.mem_map.1 hn
      exact h.mem_all.2 ((MS.has_mem h).2 (by rw [show k + 2 - 2 = k by omega]; exact hk))
    rwa [List.length_map] at this

/-- The code's store, by its state. -/
def StoreAt (w : World) (b : Nat) (F : Nat → Prop) (s : MS) : Prop := CoAt w b F s [] s.refs

theorem storeC : StoreC StoreAt where
  lt h := CoAt.lt h
  keep h := CoAt.keep h
  new most w h0 h1 := coNew most w h0 h1
  no most w h := coNo most w h
  make h ok v lo hi h1 h2 := coMk h ok v lo hi h1 h2
  node h ok n hn := coNode h ok.toBase n hn
  swap h ok l := coSwap h ok l
  all h ok := coAll h ok.toBase
  free h ok n hn := coFree h ok n hn
  order h _ := coOrder h
  live h ok := (coLive h ok.toBase).mono fun e w' ⟨he, hb⟩ => ⟨by rw [he, ok.toBase.all_length], hb⟩
  room h ok := coRoom h ok.toBase

end Go.Proofs.YtdcomiopjgcboaaGreatDoor

/-
  A map of the call's own whose elements are numbers, as a function from its keys; nothing of the program is read here.
-/
namespace Go.Proofs.YtdcomiopjgcboaaGreatDoor
open Go Go.RowKit Go.Maps

/-- How values of α stand as keys of type K. -/
structure KeyEnc (P : Program) (K : TypeId) (α : Type) where
  val : α → Value
  lit : α → Lit
  key : ∀ a, keyOf P K (val a) = some (lit a)
  inj : ∀ a b, val a = val b → a = b
  law : Keyed P K

section
variable {P : Program} {K e : TypeId} {α : Type} {E : KeyEnc P K α}

theorem KeyEnc.lit_inj (E : KeyEnc P K α) {a b : α} (h : E.lit a = E.lit b) : a = b := by
  have ha := E.key a
  have hb := E.key b
  rw [h] at ha
  exact E.inj a b (E.law.inj ha hb)

/-- Block b is a map of at most n entries; at key a it has m a, and 0 where there is none. -/
def IMap (E : KeyEnc P K α) (e : TypeId) (w : World) (b n : Nat) (m : α → Int) : Prop :=
  ∃ D : DataW Unit, w.ownsMap P K (plainElem P e) b n D ∧ IsMap D ∧ ∀ a, D.atKey (E.lit a) (.lit (.int .i64 0)) = .lit (.int .i64 (m a))

theorem IMap.made (E : KeyEnc P K α) (e : TypeId) (w : World) : IMap E e (w.alloc (.map #[] 0)) w.heap.size 0 (fun _ => 0) :=
  ⟨.map [], World.ownsMap_made _ _ _ _, isMap_empty, fun _ => rfl⟩

theorem IMap.block {w w' : World} {b n : Nat} {m : α → Int} (h : IMap E e w b n m) (hb : w'.heap[b]? = w.heap[b]?) : IMap E e w' b n m := by
  obtain ⟨D, ⟨es, clock, h1, h2, h3, h4⟩, hm, ha⟩ := h
  exact ⟨D, ⟨es, clock, hb.trans h1, h2, h3, h4⟩, hm, ha⟩

theorem IMap.lt {w : World} {b n : Nat} {m : α → Int} (h : IMap E e w b n m) : b < w.heap.size := by
  obtain ⟨D, ho, _⟩ := h; exact ho.lt

theorem IMap.keep {w w' : World} {b n B : Nat} {m : α → Int} (h : IMap E e w b n m) (hb : Below B w w') (hB : b < B) : IMap E e w' b n m := h.block (hb.block b hB)
theorem IMap.alloc {w : World} {b n : Nat} {m : α → Int} (h : IMap E e w b n m) (o : Obj) : IMap E e (w.alloc o) b n m := h.block (heap_alloc_old _ _ h.lt)
theorem IMap.grown {w w' : World} {b n : Nat} {m : α → Int} {row : Option Nat} (h : IMap E e w b n m) (hg : w.grownBy w' row) (hne : some b ≠ row) : IMap E e w' b n m := by
  obtain ⟨D, ho, hm, ha⟩ := h; exact ⟨D, ho.kept hg hne, hm, ha⟩

theorem IMap.le {w : World} {b n : Nat} {m : α → Int} (h : IMap E e w b n m) : IMap E e w b (n + 1) m := by
  obtain ⟨D, ho, hm, ha⟩ := h; exact ⟨D, ho.mono (Nat.le_succ _), hm, ha⟩

/-- m[a], read. -/
theorem IMap.look {w : World} {b n : Nat} {m : α → Int} {t : TypeId} (h : IMap E e w b n m) (ht : P.underlying t = some (.map K e)) (he : P.underlying e = some (.int .i64)) (hz : (zeroValue e).run P w = .ok (.int .i64 0) w) (a : α) :
    (Instr.lookup t (.map (some b)) (E.val a) false).run P w = .ok (.int .i64 (m a)) w := by
  obtain ⟨D, ho, _, ha⟩ := h
  obtain ⟨c, hr, hc, _⟩ := ho.lookup_int E.law ht he hz (E.key a)
  rw [ha a] at hc
  injection hc with hc
  injection hc with _ hc
  rw [hr, hc]

/-- m[a] = x, stored. -/
theorem IMap.put [DecidableEq α] {ops : Array Oper} {rest : List Oper} {o : Oper} {A : Act} {Q : Exit → Act → World → Prop} {w : World} {b n : Nat} {m : α → Int} {t : TypeId}
    (h : IMap E e w b n m) (ht : P.underlying t = some (.map K e)) (he : P.underlying e = some (.int .i64)) (hn : n < maxLen) (hg : o.guard = none) (x y v : Operand) (hop : o.op = Op.mapUpdate t x y v)
    (a : α) (c : Int) (hc : (Lit.int .i64 c).wf = true) (hx : A.eval x = .map (some b)) (hy : A.eval y = E.val a) (hv : A.eval v = .int .i64 c)
    (hK : ∀ w', IMap E e w' b (n + 1) (fun z => if z = a then c else m z) → w.grownBy w' (some b) → wpList P ops Q rest (A.put o.dst undef) w') : wpList P ops Q (o :: rest) A w := by
  obtain ⟨D, ho, hm, ha⟩ := h
  refine wpList_mapUpdate_own w hg x y v t hop K e E.law ht _ b n D hx ho hn _ _ _ hy hv (E.key a) _ [] (plainElem_int he hc) ?_
  intro w' ho' hgr
  refine hK w' ⟨_, ho', hm.put _ _, fun z => ?_⟩ hgr
  by_cases hz : z = a
  · subst hz
    rw [atKey_put_same hm (E.law.key (E.key z))]
    dsimp only
    rw [if_pos rfl]
  · rw [atKey_put_other (fun h => hz (E.lit_inj h)), ha z]
    dsimp only
    rw [if_neg hz]
end

end Go.Proofs.YtdcomiopjgcboaaGreatDoor

/-
  A map whose elements are bools and that holds true at some keys and nothing else, as the list of these keys; nothing of the program is read here.
-/
namespace Go.Proofs.YtdcomiopjgcboaaGreatDoor
open Go Go.RowKit Go.Maps

section
variable {P : Program} {K e : TypeId} {α : Type} [DecidableEq α] {E : KeyEnc P K α}

/-- Block b is a map that holds true at the keys S, and nothing else. -/
def BSet (E : KeyEnc P K α) (e : TypeId) (w : World) (b : Nat) (S : List α) : Prop :=
  ∃ D : DataW Unit, w.ownsMap P K (plainElem P e) b S.length D ∧ (∀ a, D.atKey (E.lit a) (.lit (.bool false)) = .lit (.bool (decide (a ∈ S)))) ∧ (∀ a, has D (E.lit a) = decide (a ∈ S)) ∧ Maps.size D = S.length

theorem BSet.made (E : KeyEnc P K α) (e : TypeId) (w : World) : BSet E e (w.alloc (.map #[] 0)) w.heap.size [] :=
  ⟨.map [], World.ownsMap_made _ _ _ _, fun _ => rfl, fun _ => rfl, rfl⟩

theorem BSet.block {w w' : World} {b : Nat} {S : List α} (h : BSet E e w b S) (hb : w'.heap[b]? = w.heap[b]?) : BSet E e w' b S := by
  obtain ⟨D, ⟨es, clock, h1, h2, h3, h4⟩, r⟩ := h
  exact ⟨D, ⟨es, clock, hb.trans h1, h2, h3, h4⟩, r⟩

theorem BSet.lt {w : World} {b : Nat} {S : List α} (h : BSet E e w b S) : b < w.heap.size := by
  obtain ⟨D, ho, _⟩ := h; exact ho.lt

theorem BSet.keep {w w' : World} {b B : Nat} {S : List α} (h : BSet E e w b S) (hb : Below B w w') (hB : b < B) : BSet E e w' b S := h.block (hb.block b hB)
theorem BSet.alloc {w : World} {b : Nat} {S : List α} (h : BSet E e w b S) (o : Obj) : BSet E e (w.alloc o) b S := h.block (heap_alloc_old _ _ h.lt)

theorem plainElem_bool_inv {e : TypeId} (he : P.underlying e = some .bool) {v : Value} {z : DataW Unit × List MemPlace} (h : plainElem P e v = some z) : ∃ x, v = .bool x ∧ z = (.lit (.bool x), []) := by
  unfold plainElem at h
  rw [he] at h
  cases v <;> simp at h
  exact ⟨_, rfl, h.symm⟩

/-- m[a], read. -/
theorem BSet.look {w : World} {b : Nat} {S : List α} {t : TypeId} (h : BSet E e w b S) (ht : P.underlying t = some (.map K e)) (he : P.underlying e = some .bool) (hz : (zeroValue e).run P w = .ok (.bool false) w) (a : α) :
    (Instr.lookup t (.map (some b)) (E.val a) false).run P w = .ok (.bool (decide (a ∈ S))) w := by
  obtain ⟨D, ho, ha, _⟩ := h
  obtain ⟨v, ps, hr, hv⟩ := ho.lookup E.law ht hz (plainElem_bool he false) (E.key a)
  obtain ⟨x, rfl, hx⟩ := plainElem_bool_inv he hv
  rw [ha a] at hx
  simp only [Prod.mk.injEq, DataW.lit.injEq, Lit.bool.injEq] at hx
  rw [hr, hx.1]

/-- len(m). -/
theorem BSet.len {w : World} {b : Nat} {S : List α} {t : TypeId} (h : BSet E e w b S) (ht : P.underlying t = some (.map K e)) (ty : TypeId) : (Builtin.len_ #[t] ty #[.map (some b)]).run P w = .ok (.int .i64 S.length) w := by
  obtain ⟨D, ho, _, _, hs⟩ := h
  rw [ho.len ht ty, hs]

/-- m[a] = true, stored. -/
theorem BSet.put {ops : Array Oper} {rest : List Oper} {o : Oper} {A : Act} {Q : Exit → Act → World → Prop} {w : World} {b : Nat} {S : List α} {t : TypeId}
    (h : BSet E e w b S) (ht : P.underlying t = some (.map K e)) (he : P.underlying e = some .bool) (hn : S.length < maxLen) (hg : o.guard = none) (x y v : Operand) (hop : o.op = Op.mapUpdate t x y v)
    (a : α) (hna : a ∉ S) (hx : A.eval x = .map (some b)) (hy : A.eval y = E.val a) (hv : A.eval v = .bool true)
    (hK : ∀ w', BSet E e w' b (S ++ [a]) → w.grownBy w' (some b) → wpList P ops Q rest (A.put o.dst undef) w') : wpList P ops Q (o :: rest) A w := by
  obtain ⟨D, ho, ha, hh, hs⟩ := h
  have hm := ho.isMap
  have htd := ho.tidy E.law
  refine wpList_mapUpdate_own w hg x y v t hop K e E.law ht _ b _ D hx ho hn _ _ _ hy hv (E.key a) _ [] (plainElem_bool he true) ?_
  intro w' ho' hgr
  refine hK w' ⟨_, by rw [List.length_append, List.length_singleton]; exact ho', fun z => ?_, fun z => ?_, ?_⟩ hgr
  · by_cases hz : z = a
    · subst hz
      rw [atKey_put_same hm (E.law.key (E.key z)), decide_eq_true (List.mem_append_right _ (List.mem_singleton.2 rfl))]
    · rw [atKey_put_other (fun h => hz (E.lit_inj h)), ha z]
      simp [hz]
  · by_cases hz : z = a
    · subst hz
      rw [has_put_same hm (E.law.key (E.key z)), decide_eq_true (List.mem_append_right _ (List.mem_singleton.2 rfl))]
    · rw [has_put_other (fun h => hz (E.lit_inj h)), hh z]
      simp [hz]
  · rw [size_put htd, hh a, decide_eq_false hna, hs]
    simp
end

end Go.Proofs.YtdcomiopjgcboaaGreatDoor

/-
  Plain mathematics of a function of eight variables as four words of 64 bits: nothing of the program is read here.
-/
namespace Go.Proofs.YtdcomiopjgcboaaGreatDoor
open Go Go.RowKit

/-- A function of eight variables: bit x is its value in row x. -/
abbrev Fn := BitVec 256

/-- Word i of it. -/
def wd (f : Fn) (i : Nat) : Nat := (f.extractLsb' (64 * i) 64).toNat

theorem wd_lt (f : Fn) (i : Nat) : wd f i < 18446744073709551616 := (f.extractLsb' (64 * i) 64).isLt

/-- The value that the program holds. -/
def fv (f : Fn) : Value := .agg #[.int .u64 (wd f 0), .int .u64 (wd f 1), .int .u64 (wd f 2), .int .u64 (wd f 3)]

theorem wd_and (f g : Fn) (i : Nat) : bits .and .u64 (wd f i) (wd g i) = (wd (f &&& g) i : Nat) := by
  rw [bits_and_u64_nat _ _ (wd_lt f i) (wd_lt g i)]
  unfold wd
  rw [BitVec.extractLsb'_and, BitVec.toNat_and]

theorem wd_or (f g : Fn) (i : Nat) : bits .or .u64 (wd f i) (wd g i) = (wd (f ||| g) i : Nat) := by
  rw [bits_or_u64_nat _ _ (wd_lt f i) (wd_lt g i)]
  unfold wd
  rw [BitVec.extractLsb'_or, BitVec.toNat_or]

theorem bits_xor_u64_nat' (a b : Nat) (ha : a < 18446744073709551616) (hb : b < 18446744073709551616) :
    bits .xor .u64 (a : Int) (b : Int) = ((a ^^^ b : Nat) : Int) := by
  have hx : a ^^^ b < 2 ^ 64 := Nat.xor_lt_two_pow (by omega) (by omega)
  show IntKind.u64.wrap ((BitVec.ofInt 64 (a : Int) ^^^ BitVec.ofInt 64 (b : Int)).toNat : Int) = _
  rw [BitVec.toNat_xor, BitVec.ofInt_natCast, BitVec.ofInt_natCast, BitVec.toNat_ofNat, BitVec.toNat_ofNat, Nat.mod_eq_of_lt (by omega), Nat.mod_eq_of_lt (by omega), IntKind.wrap_u64]
  omega

theorem wd_xor (f g : Fn) (i : Nat) : bits .xor .u64 (wd f i) (wd g i) = (wd (f ^^^ g) i : Nat) := by
  rw [bits_xor_u64_nat' _ _ (wd_lt f i) (wd_lt g i)]
  unfold wd
  rw [BitVec.extractLsb'_xor, BitVec.toNat_xor]

theorem wd_not (f : Fn) (i : Nat) (hi : i < 4 := by decide) : bits .xor .u64 IntKind.u64.max (wd f i) = (wd (~~~f) i : Nat) := by
  have e : IntKind.u64.max = ((18446744073709551615 : Nat) : Int) := by decide
  rw [e, bits_xor_u64_nat' _ _ (by decide) (wd_lt f i)]
  unfold wd
  rw [show (18446744073709551615 : Nat) = (BitVec.allOnes 64).toNat by decide, ← BitVec.toNat_xor]
  congr 2
  ext k hk
  simp only [BitVec.getElem_xor, BitVec.getElem_allOnes, BitVec.getElem_extractLsb', BitVec.getLsbD_not]
  have : 64 * i + k < 256 := by omega
  simp [this]

/-- The value in row x; false, where there is no such row. -/
def atF (f : Fn) (x : Int) : Bool := if 0 ≤ x ∧ x < 256 then f.getLsbD x.toNat else false

theorem wd_bit (f : Fn) (k : Nat) : f.getLsbD k = decide (wd f (k / 64) / 2 ^ (k % 64) % 2 = 1) := by
  have h1 : (f.extractLsb' (64 * (k / 64)) 64).getLsbD (k % 64) = f.getLsbD k := by
    rw [BitVec.getLsbD_extractLsb']
    have : 64 * (k / 64) + k % 64 = k := by omega
    simp [this, Nat.mod_lt]
  rw [← h1]
  unfold wd
  rw [BitVec.getLsbD, Nat.testBit_eq_decide_div_mod_eq]

theorem atF_and (f : Fn) (k : Nat) (hk : k < 256) : (bits .and .u64 ((wd f (k / 64) : Int) / 2 ^ (k % 64)) 1 == 1) = atF f k := by
  have e : ((wd f (k / 64) : Int) / 2 ^ (k % 64)) = ((wd f (k / 64) / 2 ^ (k % 64) : Nat) : Int) := by simp
  have hlt : wd f (k / 64) / 2 ^ (k % 64) < 18446744073709551616 := Nat.lt_of_le_of_lt (Nat.div_le_self _ _) (wd_lt f _)
  rw [e, show (1 : Int) = ((1 : Nat) : Int) from rfl, bits_and_u64_nat _ _ hlt (by decide), Nat.and_one_is_mod]
  unfold atF
  rw [if_pos (by omega), Int.toNat_natCast, wd_bit]
  generalize wd f (k / 64) / 2 ^ (k % 64) % 2 = r
  rw [Bool.eq_iff_iff]
  simp
  omega

theorem atF_rem (f : Fn) (k : Nat) (hk : k < 256) : ((wd f (k / 64) : Int) / 2 ^ (k % 64) % 2 == 1) = atF f k := by
  have e : ((wd f (k / 64) : Int) / 2 ^ (k % 64) % 2) = ((wd f (k / 64) / 2 ^ (k % 64) % 2 : Nat) : Int) := by simp
  rw [e]
  unfold atF
  rw [if_pos (by omega), Int.toNat_natCast, wd_bit]
  generalize wd f (k / 64) / 2 ^ (k % 64) % 2 = r
  rw [Bool.eq_iff_iff]
  simp
  omega

theorem atF_tmod (f : Fn) (k : Nat) (hk : k < 256) : (((wd f (k / 64) : Int) / 2 ^ (k % 64)).tmod 2 == 1) = atF f k := by
  rw [Int.tmod_eq_emod_of_nonneg (Int.ediv_nonneg (Int.natCast_nonneg _) (Int.pow_nonneg (by decide)))]
  exact atF_rem f k hk

theorem ret_bool {a b : Bool} (h : a = b) : Ending.returned (.bool a) = .returned (.bool b) := by rw [h]

theorem atF_out (f : Fn) (x : Int) (h : ¬ (0 ≤ x ∧ x < 256)) : atF f x = false := if_neg h

end Go.Proofs.YtdcomiopjgcboaaGreatDoor

/-
  Walks of package tab: Not, And, Or, Xor, Ite on four words.
-/
namespace Go.Proofs.YtdcomiopjgcboaaGreatDoor
open Go Go.RowKit

set_option maxHeartbeats 400000 in
theorem tabAnd (f g : Fn) (w : World) :
    Calls Tryz.prog 112 #[fv f, fv g] w fun e w' => e = .returned (fv (f &&& g)) ∧ Below w.heap.size w w' := by
  simp only [fv, ← wd_and]
  go_enter Tryz.func112, Tryz.ntmps112
  go_wp2
  refine wp_loop_rounds 5 ?_
  iterate 4 (rw [rounds_succ]; go_wp2; go_region; go_wp2)
  rw [rounds_succ]
  go_wp2
  exact bodyPost_ret (v := .agg #[.int .u64 (bits .and .u64 (wd f 0) (wd g 0)), .int .u64 (bits .and .u64 (wd f 1) (wd g 1)), .int .u64 (bits .and .u64 (wd f 2) (wd g 2)), .int .u64 (bits .and .u64 (wd f 3) (wd g 3))])
    (by simp [results, Tryz.results112, go_sem]) rfl ⟨rfl, by go_grown⟩



set_option maxHeartbeats 400000 in
theorem tabNot (f : Fn) (w : World) :
    Calls Tryz.prog 94 #[fv f] w fun e w' => e = .returned (fv (~~~f)) ∧ Below w.heap.size w w' := by
  simp only [fv]
  go_enter Tryz.func94, Tryz.ntmps94
  go_wp2
  refine wp_loop_rounds 5 ?_
  iterate 4 (rw [rounds_succ]; go_wp2)
  rw [rounds_succ]
  go_wp2
  exact bodyPost_ret (v := .agg #[.int .u64 (bits .xor .u64 IntKind.u64.max (wd f 0)), .int .u64 (bits .xor .u64 IntKind.u64.max (wd f 1)), .int .u64 (bits .xor .u64 IntKind.u64.max (wd f 2)), .int .u64 (bits .xor .u64 IntKind.u64.max (wd f 3))])
    (by simp [results, Tryz.results94, go_sem]) rfl ⟨by rw [wd_not f 0, wd_not f 1, wd_not f 2, wd_not f 3], by go_grown⟩

end Go.Proofs.YtdcomiopjgcboaaGreatDoor

/-
  Mathematics of layer 8: what is reached. Nothing of the program is read here.
-/
namespace Go.Proofs.YtdcomiopjgcboaaGreatDoor

/-- Reached from roots. -/
inductive MS.Rch (s : MS) (roots : List Int) : Int → Prop
  | root {r : Int} (h : r ∈ roots) (hh : s.has r = true) : MS.Rch s roots r
  | lo {n : Int} (h : MS.Rch s roots n) (hh : s.has (s.nd n).lo = true) : MS.Rch s roots (s.nd n).lo
  | hi {n : Int} (h : MS.Rch s roots n) (hh : s.has (s.nd n).hi = true) : MS.Rch s roots (s.nd n).hi
theorem MS.Rch.has {s : MS} {roots : List Int} {n : Int} (h : s.Rch roots n) : s.has n = true := by cases h <;> assumption
open Classical in
/-- Their numbers, rising. -/
noncomputable def MS.reach (s : MS) (roots : List Int) : List Int := s.all.filter fun n => decide (s.Rch roots n)

/-- While what is reached is marked: so much of the work is done. -/
structure RInv (s : MS) (roots : List Int) (seen : List Bool) (work : List Int) (i : Nat) : Prop where
  len : seen.length = s.N.length + 2
  sound : ∀ n : Int, 0 ≤ n → seen.getD n.toNat false = true → s.Rch roots n
  wk : ∀ m ∈ work, s.has m = true → s.Rch roots m
  done : ∀ j (hj : j < work.length), j < i → s.has work[j] = true → seen.getD work[j].toNat false = true
  kids : ∀ n : Int, 0 ≤ n → seen.getD n.toNat false = true → (s.nd n).lo ∈ work ∧ (s.nd n).hi ∈ work
  rt : ∀ r ∈ roots, r ∈ work
  count : work.length = roots.length + 2 * seen.count true

section
variable {s : MS} {roots work : List Int} {seen : List Bool} {i : Nat}
theorem RInv.start (s : MS) (roots : List Int) : RInv s roots (List.replicate (s.N.length + 2) false) roots 0 := by
  have h0 : ∀ n : Nat, (List.replicate (s.N.length + 2) false).getD n false = false := fun n => by
    rw [List.getD, List.getElem?_replicate]; split <;> rfl
  exact ⟨by simp, fun n _ h => (by rw [h0] at h; cases h), fun m hm hh => .root hm hh, fun j hj h => by omega, fun n _ h => (by rw [h0] at h; cases h), fun r hr => hr, by simp [List.count_replicate]⟩
theorem RInv.old (h : RInv s roots seen work i) (hi : i < work.length) (hs : s.has work[i] = true → seen.getD work[i].toNat false = true) : RInv s roots seen work (i + 1) :=
  ⟨h.len, h.sound, h.wk, fun j hj hlt hh => by
    by_cases e : j = i
    · subst e; exact hs hh
    · exact h.done j hj (by omega) hh, h.kids, h.rt, h.count⟩
theorem getD_set (l : List Bool) (k j : Nat) (hk : k < l.length) : (l.set k true).getD j false = if j = k then true else l.getD j false := by
  rw [List.getD, List.getElem?_set]
  by_cases e : k = j
  · subst e; simp [hk]
  · rw [if_neg e, if_neg (fun e' => e e'.symm)]; rfl
theorem RInv.new (h : RInv s roots seen work i) (ok : s.Base) (hi : i < work.length) (hh : s.has work[i] = true) (hs : seen.getD work[i].toNat false = false) :
    RInv s roots (seen.set work[i].toNat true) (work ++ [(s.nd work[i]).lo, (s.nd work[i]).hi]) (i + 1) := by
  obtain ⟨r1, r2, _⟩ := ok.range hh
  have hk : work[i].toNat < seen.length := by rw [h.len]; omega
  have hR := h.wk _ (List.getElem_mem hi) hh
  have e : ∀ n : Int, 0 ≤ n → (n.toNat = work[i].toNat ↔ n = work[i]) := fun n hn => by omega
  refine ⟨by rw [List.length_set]; exact h.len, fun n hn hc => ?_, fun m hm hmh => ?_, fun j hj hlt hjh => ?_, fun n hn hc => ?_, fun r hr => List.mem_append_left _ (h.rt r hr), ?_⟩
  · rw [getD_set _ _ _ hk] at hc
    by_cases en : n = work[i]
    · rw [en]; exact hR
    · rw [if_neg (fun q => en ((e n hn).1 q))] at hc
      exact h.sound n hn hc
  · rcases List.mem_append.1 hm with hm | hm
    · exact h.wk m hm hmh
    · simp only [List.mem_cons, List.not_mem_nil, or_false] at hm
      rcases hm with rfl | rfl
      · exact .lo hR hmh
      · exact .hi hR hmh
  · rw [getD_set _ _ _ hk]
    by_cases ej : j = i
    · subst ej
      rw [List.getElem_append_left hi, if_pos rfl]
    · have hj' : j < work.length := by omega
      rw [List.getElem_append_left hj'] at hjh ⊢
      split
      · rfl
      · exact h.done j hj' (by omega) hjh
  · rw [getD_set _ _ _ hk] at hc
    by_cases en : n = work[i]
    · rw [en]; simp
    · rw [if_neg (fun q => en ((e n hn).1 q))] at hc
      have := h.kids n hn hc
      exact ⟨List.mem_append_left _ this.1, List.mem_append_left _ this.2⟩
  · have hc := List.count_set (a := true) (b := true) hk
    have h0 : seen[work[i].toNat] = false := by
      rw [List.getD, List.getElem?_eq_getElem hk] at hs
      exact hs
    rw [hc, h0, List.length_append, h.count]
    simp
    omega
theorem RInv.all (h : RInv s roots seen work i) (hi : work.length ≤ i) {n : Int} (hn : s.Rch roots n) : seen.getD n.toNat false = true := by
  have key : ∀ m ∈ work, s.has m = true → seen.getD m.toNat false = true := fun m hm hh => by
    obtain ⟨j, hj, rfl⟩ := List.mem_iff_getElem.1 hm
    exact h.done j hj (by omega) hh
  induction hn with
  | root hr hh => exact key _ (h.rt _ hr) hh
  | lo hR hh ih => exact key _ (h.kids _ (by have := hR.has; simp only [MS.has, Bool.and_eq_true, decide_eq_true_eq] at this; omega) ih).1 hh
  | hi hR hh ih => exact key _ (h.kids _ (by have := hR.has; simp only [MS.has, Bool.and_eq_true, decide_eq_true_eq] at this; omega) ih).2 hh
theorem RInv.bound (h : RInv s roots seen work i) : work.length ≤ roots.length + 2 * (s.N.length + 2) := by
  have := List.count_le_length (a := true) (l := seen)
  rw [h.len] at this
  rw [h.count]
  omega
theorem RInv.reach (h : RInv s roots seen work i) (hi : work.length ≤ i) : ((List.range s.N.length).map fun k : Nat => (k : Int) + 2).filter (fun n => seen.getD n.toNat false) = s.reach roots := by
  unfold MS.reach MS.all
  rw [List.filter_filter]
  refine List.filter_congr fun n hn => ?_
  obtain ⟨k, _, rfl⟩ := List.mem_map.1 hn
  have h1 : seen.getD ((k : Int) + 2).toNat false = true ↔ s.Rch roots ((k : Int) + 2) := ⟨fun q => h.sound _ (by omega) q, fun q => h.all hi q⟩
  by_cases hR : s.Rch roots ((k : Int) + 2)
  · rw [h1.2 hR, hR.has]; simp [hR]
  · have : seen.getD ((k : Int) + 2).toNat false = false := by
      cases hc : seen.getD ((k : Int) + 2).toNat false
      · rfl
      · exact absurd (h1.1 hc) hR
    rw [this]; simp [hR]
end

end Go.Proofs.YtdcomiopjgcboaaGreatDoor

/-
  Plain mathematics: the variables as functions, their words; what putting row after row comes to.
-/
namespace Go.Proofs.YtdcomiopjgcboaaGreatDoor
open Go Go.RowKit

/-- The number whose bits below n are P's. -/
def rowNat (P : Nat → Bool) : Nat → Nat
  | 0 => 0
  | n + 1 => if P n then rowNat P n + 2 ^ n else rowNat P n

theorem rowNat_lt (P : Nat → Bool) (n : Nat) : rowNat P n < 2 ^ n := by
  induction n with
  | zero => simp [rowNat]
  | succ n ih => simp only [rowNat]; rw [Nat.pow_succ]; split <;> omega

theorem rowNat_bit (P : Nat → Bool) (n k : Nat) : (rowNat P n).testBit k = (decide (k < n) && P k) := by
  induction n with
  | zero => simp [rowNat]
  | succ n ih =>
    simp only [rowNat]
    have hlt := rowNat_lt P n
    split
    · rename_i hp
      rw [Nat.add_comm]
      rcases Nat.lt_trichotomy k n with h | h | h
      · rw [Nat.testBit_two_pow_add_gt h, ih]
        simp [h, Nat.lt_succ_of_lt h]
      · subst h
        rw [Nat.testBit_two_pow_add_eq, Nat.testBit_lt_two_pow hlt]
        simp [hp]
      · have h2 : 2 ^ n + rowNat P n < 2 ^ k :=
          Nat.lt_of_lt_of_le (by rw [Nat.pow_succ]; omega) (Nat.pow_le_pow_right (by decide) (Nat.succ_le_of_lt h))
        rw [Nat.testBit_lt_two_pow h2]
        have : ¬ k < n + 1 := by omega
        simp [this]
    · rename_i hp
      rw [ih, Bool.eq_iff_iff]
      simp
      intro hk
      constructor
      · intro h; omega
      · intro h
        rcases Nat.lt_or_ge k n with h' | h'
        · exact h'
        · obtain rfl : k = n := by omega
          exact absurd hk hp

/-- The function whose value in row x is P x. -/
def ofRow (P : Nat → Bool) : Fn := BitVec.ofNat 256 (rowNat P 256)

theorem ofRow_bit (P : Nat → Bool) (k : Nat) (hk : k < 256) : (ofRow P).getLsbD k = P k := by
  unfold ofRow
  rw [BitVec.getLsbD_ofNat, rowNat_bit]
  simp [hk]

/-- Variable v. -/
def varF (v : Nat) : Fn := ofRow (fun x => x.testBit v)

/-- Any number as a variable. -/
def varAny (v : Int) : Fn := if 0 ≤ v ∧ v < 8 then varF v.toNat else 0#256

/-- The words of the first six variables. -/
def lowV : Nat → Int
  | 0 => 12297829382473034410
  | 1 => 14757395258967641292
  | 2 => 17361641481138401520
  | 3 => 18374966859414961920
  | 4 => 18446462603027742720
  | _ => 18446744069414584320

theorem lowV_eq (v i : Nat) (hv : v < 6) (hi : i < 4) : lowV v = (wd (varF v) i : Nat) := by
  have H : ∀ v : Fin 6, ∀ i : Fin 4, lowV v = (wd (varF v) i : Nat) := by decide +kernel
  exact H ⟨v, hv⟩ ⟨i, hi⟩

theorem wd_var6 : wd (varF 6) 0 = 0 ∧ wd (varF 6) 1 = 18446744073709551615 ∧ wd (varF 6) 2 = 0 ∧ wd (varF 6) 3 = 18446744073709551615 := by decide +kernel
theorem wd_var7 : wd (varF 7) 0 = 0 ∧ wd (varF 7) 1 = 0 ∧ wd (varF 7) 2 = 18446744073709551615 ∧ wd (varF 7) 3 = 18446744073709551615 := by decide +kernel

theorem fn_ext {f g : Fn} (h : ∀ k, k < 256 → f.getLsbD k = g.getLsbD k) : f = g := BitVec.eq_of_getLsbD_eq fun k hk => h k hk

/-- What has been put when the rows below n have been. -/
def upTo (P : Nat → Bool) (n : Nat) : Fn := ofRow (fun x => decide (x < n) && P x)

theorem upTo_zero (P : Nat → Bool) : upTo P 0 = 0#256 := fn_ext fun k hk => by rw [upTo, ofRow_bit _ _ hk]; simp
theorem upTo_all (P : Nat → Bool) : upTo P 256 = ofRow P := fn_ext fun k hk => by rw [upTo, ofRow_bit _ _ hk, ofRow_bit _ _ hk]; simp [hk]

/-- f with b put in row k. -/
def putF (f : Fn) (k : Nat) (b : Bool) : Fn := if b then f ||| (1#256 <<< k) else f

theorem putF_bit (f : Fn) (k j : Nat) (b : Bool) (hj : j < 256) : (putF f k b).getLsbD j = (f.getLsbD j || (b && decide (j = k))) := by
  unfold putF
  cases b with
  | false => simp
  | true =>
    simp only [if_true, BitVec.getLsbD_or, BitVec.getLsbD_shiftLeft, BitVec.getLsbD_one, Bool.true_and]
    by_cases h : j = k
    · subst h; simp [hj]
    · have : ¬ (j - k = 0 ∧ k ≤ j) := by omega
      by_cases h2 : j < k
      · simp [h, h2]
      · have h3 : ¬ (j - k = 0) := by omega
        simp [h, h2, h3]

theorem upTo_put (P : Nat → Bool) (n : Nat) (b : Bool) (hb : b = P n) : putF (upTo P n) n b = upTo P (n + 1) := fn_ext fun k hk => by
  subst hb
  rw [putF_bit _ _ _ _ hk, upTo, upTo, ofRow_bit _ _ hk, ofRow_bit _ _ hk, Bool.eq_iff_iff]
  simp
  constructor
  · rintro (⟨h1, h2⟩ | ⟨h1, rfl⟩)
    · exact ⟨by omega, h2⟩
    · exact ⟨by omega, h1⟩
  · rintro ⟨h1, h2⟩
    rcases Nat.lt_or_ge k n with h | h
    · exact .inl ⟨h, h2⟩
    · obtain rfl : k = n := by omega
      exact .inr ⟨h2, rfl⟩

/-- One word of it. -/
theorem wd_put (f : Fn) (k i : Nat) (hi : i < 4) : wd (putF f k true) i = if i = k / 64 then wd f i ||| 2 ^ (k % 64) else wd f i := by
  have e : ∀ j, j < 64 → ((putF f k true).extractLsb' (64 * i) 64).getLsbD j = (if i = k / 64 then (f.extractLsb' (64 * i) 64) ||| (1#64 <<< (k % 64)) else f.extractLsb' (64 * i) 64).getLsbD j := by
    intro j hj
    rw [BitVec.getLsbD_extractLsb', putF_bit _ _ _ _ (by omega)]
    by_cases h : i = k / 64
    · rw [if_pos h, BitVec.getLsbD_or, BitVec.getLsbD_extractLsb', BitVec.getLsbD_shiftLeft, BitVec.getLsbD_one]
      simp only [hj, decide_true, Bool.true_and]
      congr 1
      rw [Bool.eq_iff_iff]
      simp
      omega
    · rw [if_neg h, BitVec.getLsbD_extractLsb']
      have : ¬ (64 * i + j = k) := by omega
      simp [hj, this]
  have e2 := BitVec.eq_of_getLsbD_eq e
  unfold wd
  rw [e2]
  by_cases h : i = k / 64
  · rw [if_pos h, if_pos h, BitVec.toNat_or, BitVec.toNat_shiftLeft, BitVec.toNat_one (by decide), Nat.shiftLeft_eq, Nat.one_mul, Nat.mod_eq_of_lt]
    exact Nat.pow_lt_pow_right (by decide) (Nat.mod_lt _ (by decide))
  · rw [if_neg h, if_neg h]

theorem put_same (f : Fn) (k q : Nat) (hq : k / 64 = q) (h4 : q < 4) : bits .or .u64 (wd f q) (IntKind.u64.wrap (2 ^ (k % 64))) = (wd (putF f k true) q : Nat) := by
  have hp : (2 : Nat) ^ (k % 64) < 18446744073709551616 := by
    have : (2 : Nat) ^ (k % 64) < 2 ^ 64 := Nat.pow_lt_pow_right (by decide) (Nat.mod_lt _ (by decide))
    simpa using this
  have e : IntKind.u64.wrap (2 ^ (k % 64)) = ((2 ^ (k % 64) : Nat) : Int) := by
    rw [IntKind.wrap_u64]
    have : ((2 : Int) ^ (k % 64)) = ((2 ^ (k % 64) : Nat) : Int) := by simp
    rw [this]
    clear this
    generalize (2 : Nat) ^ (k % 64) = y at hp
    omega
  rw [e, bits_or_u64_nat _ _ (wd_lt f q) hp, wd_put f k q h4, if_pos hq.symm]

theorem put_other (f : Fn) (k q i : Nat) (hq : k / 64 = q) (hi : i < 4) (hne : i ≠ q) : wd (putF f k true) i = wd f i := by
  rw [wd_put f k i hi, if_neg (by omega)]

theorem bit_div (k v : Nat) : ((k / 2 ^ v : Nat) % 2 == 1) = k.testBit v := by
  rw [Nat.testBit_eq_decide_div_mod_eq]; rfl

end Go.Proofs.YtdcomiopjgcboaaGreatDoor
