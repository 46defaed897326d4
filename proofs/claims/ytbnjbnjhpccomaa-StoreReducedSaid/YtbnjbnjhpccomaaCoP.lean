/-
  Walks of the code's store: Swap.
-/
import Derived.Test.YtbnjbnjhpccomaaCoT
namespace Go.Proofs.Ytbnjbnjhpccomaa
open Go Go.RowKit

theorem chain_orderC (W : World) (g : Nat) (p0 p1 p2 p3 p4 p5 p6 p7 : Value) : (((((((W.setCell ⟨g, 1, none⟩ p0).setCell ⟨g, 2, none⟩ p1).setCell ⟨g, 3, none⟩ p2).setCell ⟨g, 4, none⟩ p3).setCell ⟨g, 5, none⟩ p4).setCell ⟨g, 6, none⟩ p5).setCell ⟨g, 7, none⟩ p6).setCell ⟨g, 8, none⟩ p7 = W.setCells g 1 [p0, p1, p2, p3, p4, p5, p6, p7] := rfl

section
variable {w w' : World} {b : Nat} {F : Nat → Prop} {s : MS}

set_option maxRecDepth 100000 in
set_option maxHeartbeats 8000000 in
theorem coSwap (h : CoAt w b F s [] s.refs) (ok : s.Ok) (l : Int) :
    Calls Try.prog 16 #[pv b, .int .i64 l] w fun e w' => e = .returned (errV (s.swap l).1) ∧ ∃ F', CoAt w' b F' (s.swap l).2 [] (s.swap l).2.refs ∧ Keeps F w w' ∧ Within w F F' := by
  have okb := ok.toBase
  have hfew := okb.few
  generalize hr : s.swap l = r
  by_cases hl : l < 0 ∨ 6 < l
  · have e : s.swap l = (1, s) := by unfold MS.swap; rw [if_pos hl]
    rw [e] at hr
    subst hr
    go_enter Try.func16, Try.ntmps16
    by_cases h0 : l < 0
    · go_wp2
      go_ret
      exact ⟨rfl, F, h, Keeps.refl _ _, Within.refl _ _⟩
    · have h6 : 6 < l := by omega
      go_wp2
      go_ret
      exact ⟨rfl, F, h, Keeps.refl _ _, Within.refl _ _⟩
  obtain ⟨m, rfl⟩ := Int.eq_ofNat_of_zero_le (show 0 ≤ l by omega)
  have hm : m ≤ 6 := by omega
  have hsw : s.swap m = if s.room < 2 * ((s.changes (s.o m) (s.o (m + 1))).length : Int) then (2, s) else (0, MS.swap1 { s with o := swapO s.o m } (s.o m) (s.o (m + 1)) (s.changes (s.o m) (s.o (m + 1)))) := by
    unfold MS.swap
    rw [if_neg hl]
    rfl
  rw [hsw] at hr
  clear hsw hl
  have hm0 : (0 : Int) ≤ (m : Int) := by omega
  have hm6 : (m : Int) ≤ 6 := by omega
  have rx := mayO_range ok.order (i := m) (by omega)
  have ry := mayO_range ok.order (i := m + 1) (by omega)
  obtain ⟨X, hX⟩ := Int.eq_ofNat_of_zero_le rx.1
  obtain ⟨Y, hY⟩ := Int.eq_ofNat_of_zero_le ry.1
  have hX8 : X < 8 := by omega
  have hX8' : (X : Int) < 8 := by omega
  have HCh := fun W hb => coChanging (w := W) (h.below hb) okb ok.closed (X : Int) (Y : Int)
  have HRoom := fun W (hb : Below w.heap.size w W) => coRoom (h.below hb) okb
  have Sw : s.Sw m (s.changes (s.o m) (s.o (m + 1))) := ok.sw hm
  rw [hX, hY] at hr Sw
  have hFlt := h.lt
  have h0 := Lib.hid h
  have pxy : (∀ u : Sub w, u.1.cell? ⟨b, 1 + m, none⟩ = some (.int .i64 (X : Int))) ∧ ∀ u : Sub w, u.1.cell? ⟨b, 1 + (m + 1), none⟩ = some (.int .i64 (Y : Int)) := by
    obtain ⟨bA, FA, bT, FT, v, XX, tabs, rfl, hR, c⟩ := h
    exact ⟨fun u => by rw [← hX]; exact (hR.sub u).place m (by omega), fun u => by rw [← hY]; exact (hR.sub u).place (m + 1) (by omega)⟩
  obtain ⟨px, py⟩ := pxy
  clear h rx ry
  replace hX := Lib.hid hX
  replace hY := Lib.hid hY
  go_enter Try.func16, Try.ntmps16
  go_wp2
  refine wp_region_quiet_all (C := fun w' => ∃ u : Sub w, w' = u.1) (by kernel_rfl) (by kernel_rfl) (InSub.drew w) ?_
  iterate 15 (go_big_quiet_step (fail))
  refine wpQuiet_nil ?_
  clear px py
  intro w' hw'
  obtain ⟨u, rfl⟩ := hw'
  have hb1 := u.2
  generalize u.1 = w1 at *
  go_wp2_with fail
  refine (HCh _ hb1).mono ?_
  rintro e w2 ⟨vC, rfl, RC⟩
  obtain ⟨aC, cC, rfl, _⟩ := RC.own.form
  have hb2 := hb1.trans (RC.below.mono hb1.size)
  have hnewC := fun g hg => Nat.le_trans hb1.size (RC.new g hg)
  have hOC := RC.own
  have hfl : (s.changes X Y).length ≤ 20000 := Nat.le_trans (List.length_filter_le _ _) (Nat.le_trans (numsTo_filter_length s.has s.N.length) hfew)
  have hrm : s.room ≤ 20000 ∧ 0 ≤ s.room := by
    have := ok.ar.mostLe; have := ok.ar.nextLe; have := ok.ar.len
    simp only [MS.room]; omega
  clear HCh RC hb1
  go_wp2_with fail
  refine (HRoom _ hb2).mono ?_
  rintro e w3 ⟨rfl, hb3⟩
  replace hOC := hOC.block (w' := w3) fun g hg => hb3.block g (hOC.lt g hg)
  replace hb2 := hb2.trans (hb3.mono hb2.size)
  clear HRoom hb3
  by_cases hroom : s.room < 2 * ((s.changes X Y).length : Int)
  · rw [if_pos hroom] at hr
    subst hr
    go_wp2
    go_ret
    exact ⟨rfl, _, h0.out.below hb2, Keeps.of_below hb2 _, Within.refl _ _⟩
  · rw [if_neg hroom] at hr
    have hSwap := fun W => permSwap s.o m W
    simp only [swapLit7] at hSwap
    simp only [ov] at hSwap
    have h1 := h0.out.below hb2
    obtain ⟨bA, FA, bT, FT, v, XX, tabs, rfl, hR, cc⟩ := h1
    obtain ⟨c1, c2, c3, c4, c5, c6, c7, c8⟩ := hR.order
    go_wp2_with fail
    refine (hSwap _).mono ?_
    rintro e w4 ⟨rfl, hb4⟩
    clear c1 c2 c3 c4 c5 c6 c7 c8 hSwap
    replace hOC := hOC.block (w' := w4) fun g hg => hb4.block g (hOC.lt g hg)
    replace hb2 := hb2.trans (hb4.mono hb2.size)
    have hRw := hR.below hb4
    obtain ⟨c1, c2, c3, c4, c5, c6, c7, c8⟩ := hRw.order
    have f1 := hRw.free 1
    have f2 := hRw.free 2
    have f3 := hRw.free 3
    have f4 := hRw.free 4
    have f5 := hRw.free 5
    have f6 := hRw.free 6
    have f7 := hRw.free 7
    have f8 := hRw.free 8
    obtain ⟨hR5, hk5⟩ := hRw.setOrder (swapO s.o m)
    have HR5 := Lib.hid hR5
    have HK5 := Lib.hid hk5
    clear hb4 hRw hR5 hk5 hR
    go_wp2
    rw [chain_orderC]
    generalize w4.setCells b 1 [.int .i64 (swapO s.o m 0), .int .i64 (swapO s.o m 1), .int .i64 (swapO s.o m 2), .int .i64 (swapO s.o m 3), .int .i64 (swapO s.o m 4), .int .i64 (swapO s.o m 5), .int .i64 (swapO s.o m 6), .int .i64 (swapO s.o m 7)] = W0 at *
    clear c1 c2 c3 c4 c5 c6 c7 c8 f1 f2 f3 f4 f5 f6 f7 f8
    have hKw := (Keeps.of_below hb2 (footC b FA FT v)).and HK5.out
    have hOC0 := hOC.keep HK5.out (fun g hg e => by have := hFlt _ e; have := hnewC g hg; omega)
    have hCf : ∀ g, (Value.slice aC (s.changes X Y).length cC).ownBlock = some g → ¬ footC b FA FT v g := fun g hg e => by have := hFlt _ e; have := hnewC g hg; omega
    have hC0 : CoAt W0 b (footC b FA FT v) { s with o := swapO s.o m } [] s.refs := ⟨bA, FA, bT, FT, v, XX, tabs, rfl, HR5.out, cc.order _⟩
    have J0 := MS.J.start Sw
    have hnd : (s.changes X Y).Nodup := List.Pairwise.filter _ s.all_nodup
    have hroom0 : 2 * ((s.changes X Y).length : Int) ≤ s.room := by omega
    have okb0 : MS.Base { s with o := swapO s.o m } := ⟨okb.ar, okb.len⟩
    have hone : ∀ n, s.has n = true → ∀ k, s.has k = true → s.nd k = s.nd n → k = n := fun n hn k hk e => ok.one k n hk hn e
    have hmem : ∀ n ∈ s.changes X Y, s.has n = true ∧ (s.nd n).var = (X : Int) := fun n hn => by
      have h1 := (Sw.mem n).1 hn
      exact ⟨h1.1, h1.2.1.trans hX.out⟩
    have hFlt0 : ∀ k, footC b FA FT v k → k < w.heap.size := hFlt
    clear HR5 HK5 hOC hnewC cc h0 ok okb hFlt hb2
    generalize hF0 : footC b FA FT v = F0 at *
    replace hF0 := Lib.hid hF0
    generalize s.changes X Y = C at *
    replace J0 := Lib.hid J0
    replace Sw := Lib.hid Sw
    replace hr := Lib.hid hr
    replace hCf := Lib.hid hCf
    replace hOC0 := Lib.hid hOC0
    replace hone := Lib.hid hone
    replace hmem := Lib.hid hmem
    replace okb0 := Lib.hid okb0
    replace hnd := Lib.hid hnd
    have hCk : ∀ k, k < C.length → ∀ V, Keeps F0 W0 V → ∃ ad, aC = some ad ∧ V.cell? (ad.add k) = some (.int .i64 (C.getD k 0)) := fun k hk V hV => by
      have h1 := (hOC0.out.keep hV hCf.out).reads.intAt k hk
      simpa [List.getD, hk] using h1
    replace hCk := Lib.hid hCk
    clear hOC0 hCf
    go_loopw [55] (fun i wr => ∃ (k : Nat) (F' : Nat → Prop), k ≤ C.length ∧ i = .int .i64 k ∧ CoAt wr b F' { s with o := swapO s.o m } (C.take k) s.refs ∧ Keeps F0 W0 wr ∧ Within W0 F0 F') (fun i _ => C.length - (intOf i).toNat)
    case atStart => exact ⟨0, _, Nat.zero_le _, rfl, hC0, Keeps.refl _ _, Within.refl _ _⟩
    case round =>
      clear hC0
      obtain ⟨k, F', hk, rfl, hC, hK, hW⟩ := hrel
      by_cases hlt : k < C.length
      · obtain ⟨ad, rfl, ck⟩ := hCk.out k hlt wr hK
        have hgd : C.getD k 0 = C[k] := by simp [List.getD, hlt]
        rw [hgd] at ck
        have hnC : C[k] ∈ C := List.getElem_mem hlt
        have htk : ∀ j, j ∈ C.take (k + 1) ↔ j ∈ C.take k ∨ j = C[k] := fun j => by
          rw [List.take_succ_eq_append_getElem hlt, List.mem_append, List.mem_singleton]
        generalize C[k] = n at *
        obtain ⟨n1, n2⟩ := hmem.out n hnC
        have HA := coAt hC okb0.out (n := n) n1
        have hF'lt := hC.lt
        have q0 := fieldP (s.nd n) (s.refs n)
        obtain ⟨bA1, FA1, bT1, FT1, v1, X1, tabs1, rfl, hR, c⟩ := hC
        have tok := c.ok X hX8
        have tsl := c.slots X hX8
        have hcd := c.drop (n := n) hX8 n2 (fun j hj _ e => hone.out n n1 j hj e) htk
        unfold plv at HA
        rw [show MS.nd { s with o := swapO s.o m } n = s.nd n from rfl] at HA hcd
        generalize s.refs n = rn at *
        generalize s.nd n = x at *
        obtain ⟨xv, xl, xh⟩ := x
        dsimp only at HA q0 hcd n2
        subst n2
        replace hcd := Lib.hid hcd
        have hk0 : (0 : Int) ≤ (k : Int) := by omega
        have hk1 : (k : Int) < (C.length : Int) := by omega
        have hR0 := Lib.hid hR
        clear hR c n1 hnC htk hgd
        go_wp2_with fail
        refine HA.mono ?_
        rintro e w5 ⟨rfl, hb5⟩
        clear HA ck
        go_wp2
        have hx := HoldsN.new w5 ⟨(X : Int), xl, xh⟩
        dsimp only at hx
        have hb6 : Below wr.heap.size wr (w5.alloc (.cells #[.int .i64 (X : Int), .int .i64 xl, .int .i64 xh] 39)) := hb5.alloc hb5.size _
        have hBl := hb5.size
        clear hb5
        generalize w5.alloc (.cells #[.int .i64 (X : Int), .int .i64 xl, .int .i64 xh] 39) = W at *
        generalize hB : w5.heap.size = B at *
        have hR := hR0.out.below hb6
        have x1 := fun u : Sub W => (HoldsN.sub hx u).cells.2.1
        have x2 := fun u : Sub W => (HoldsN.sub hx u).cells.2.2
        dsimp only at x1 x2
        have ct := fun u : Sub W => (hR.sub u).table X hX8
        refine wp_region_quiet_tail (C := fun w' => ∃ u : Sub W, w' = u.1) 10 (by kernel_rfl) (by kernel_rfl) (InSub.drew W) ?_
        simp only [List.take_succ_cons, List.take_zero]
        iterate 10 (go_big_quiet_step (fail))
        refine wpQuiet_nil ?_
        clear x1 x2 ct
        intro w' hw'
        obtain ⟨u, rfl⟩ := hw'
        have hR7 := hR.sub u
        have hb7 := hb6.trans (u.2.mono hb6.size)
        clear hR hR0 hb6 hx
        generalize u.1 = W7 at *
        have HP := uniqDropS (hR7.tab X hX8) tok (by omega) xl xh
        simp only [List.drop_succ_cons, List.drop_zero]
        apply wpList_step
        intro K1 hK1
        go_simp
        refine HP.mono ?_
        rintro e W8 ⟨rfl, FT', hU, hKU, hWU⟩
        clear HP
        obtain ⟨hR8, hK8, hW8⟩ := hR7.setTab hX8 hU hKU hWU
        have hKf := hK.trans ((Keeps.of_below hb7 _).and hK8) hW
        have hWf : Within W0 F0 (footC b FA1 (upd FT1 X FT') v1) := hW.trans (fun k hk => (hW8 k hk).imp id (fun h => Nat.le_trans hb7.size h)) hK.size
        clear hR7 hU hKU hWU hK8 hW8 hb7 hK hW
        apply hK1
        clear hK1
        refine wpList_nil ?_
        replace hR8 := Lib.hid hR8
        go_wp2
        exact ⟨⟨k + 1, _, by omega, by go_num, ⟨bA1, FA1, bT1, upd FT1 X FT', v1, X1, _, rfl, hR8.out, hcd.out⟩, hKf, hWf⟩, by simp [intOf]; omega⟩
      · obtain rfl : k = C.length := by omega
        rw [List.take_length] at hC
        clear hlt hk hone hmem okb0
        have hCd : CoAt wr b F' { s with o := swapO s.o m } (C.drop 0) (MS.refs { s with o := swapO s.o m }) := hC
        have hJd : Hid (MS.J s m C (C.drop 0) { s with o := swapO s.o m }) := J0
        have hrd : Hid ((0, MS.swap1 { s with o := swapO s.o m } X Y (C.drop 0)) = r) := hr
        have hrmd : 2 * ((C.drop 0).length : Int) ≤ MS.room { s with o := swapO s.o m } := hroom0
        clear hC J0 hr hroom0 hroom
        go_wp2
        go_loopw [77] (fun i wt => ∃ (k : Nat) (t : MS) (F1 : Nat → Prop), k ≤ C.length ∧ i = .int .i64 k ∧ CoAt wt b F1 t (C.drop k) t.refs ∧ Hid (MS.J s m C (C.drop k) t) ∧ 2 * ((C.drop k).length : Int) ≤ t.room ∧ Keeps F0 W0 wt ∧ Within W0 F0 F1 ∧ Hid ((0, MS.swap1 t X Y (C.drop k)) = r)) (fun i _ => C.length - (intOf i).toNat)
        case atStart => exact ⟨0, _, _, Nat.zero_le _, rfl, hCd, hJd, hrmd, hK, hW, hrd⟩
        case round =>
          clear hCd hJd hrmd hK hW hrd
          obtain ⟨k, t, F1, hk, rfl, hC, hJ, hrmd, hK, hW, hrd⟩ := hrel
          by_cases hlt : k < C.length
          · obtain ⟨ad, rfl, ck⟩ := hCk.out k hlt _ hK
            have hgd : C.getD k 0 = C[k] := by simp [List.getD, hlt]
            rw [hgd] at ck
            have hnC : C[k] ∈ C := List.getElem_mem hlt
            have hdrop := List.drop_eq_getElem_cons hlt
            have hnR : C[k] ∉ C.drop (k + 1) := by
              have h1 : (C.drop k).Nodup := List.Pairwise.sublist (List.drop_sublist k C) hnd.out
              rw [hdrop] at h1
              exact (List.nodup_cons.1 h1).1
            have hRC : ∀ j ∈ C.drop (k + 1), j ∈ C := fun j hj => List.mem_of_mem_drop hj
            replace hJ := hJ.out
            rw [hdrop] at hC hJ hrmd hrd
            generalize C[k] = n at *
            obtain ⟨a, c, t1, t2, T, m1, m2, j3, r3⟩ := hJ.turn Sw.out hnC hnR hRC hrmd hX.out hY.out
            have hfin : Hid ((0, MS.swap1 (t2.setNd n ⟨(Y : Int), a, c⟩) X Y (C.drop (k + 1))) = r) := by
              have := hrd.out
              unfold MS.swap1 at this
              simp only [m1, m2] at this
              exact Lib.hid this
            have HT := coTurn hC T
            have hk0 : (0 : Int) ≤ (k : Int) := by omega
            have hk1 : (k : Int) < (C.length : Int) := by omega
            replace j3 := Lib.hid j3
            clear hC T m1 m2 hrd hJ hdrop hnC hnR hRC hgd hrmd
            go_wp2_with fail
            refine HT.mono ?_
            rintro e w6 ⟨rfl, F2, hC2, hK2, hW2⟩
            have hWl := hW.trans hW2 hK.size
            have hKl := hK.trans hK2 hW
            clear HT hK hW hK2 hW2 ck
            go_wp2
            exact ⟨⟨k + 1, _, _, by omega, by go_num, hC2, j3, r3, hKl, hWl, hfin⟩, by simp [intOf]; omega⟩
          · obtain rfl : k = C.length := by omega
            have hr2 := hrd.out
            rw [List.drop_length] at hr2 hC
            have hr3 : r = (0, t) := hr2.symm
            subst hr3
            clear hr2 hrd hlt hk hJ hrmd
            go_wp2
            go_ret
            exact ⟨rfl, F1, hC, by rw [hF0.out]; exact hKw.trans hK (Within.refl _ _), by rw [hF0.out]; exact (Within.refl _ _).trans hW hKw.size⟩
end

end Go.Proofs.Ytbnjbnjhpccomaa
