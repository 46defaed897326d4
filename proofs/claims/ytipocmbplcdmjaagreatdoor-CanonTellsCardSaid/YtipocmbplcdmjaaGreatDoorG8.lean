/-
  Texts of this proof, one behind the other: RefS4, CoM.
-/
import Derived.Test.YtipocmbplcdmjaaGreatDoorG7
import Derived.Test.YtipocmbplcdmjaaGreatDoorG3
import Derived.Test.YtipocmbplcdmjaaGreatDoorG1
import Derived.Test.YtipocmbplcdmjaaGreatDoorG5
/-
  The document's store: Swap.
-/
namespace Go.Proofs.YtipocmbplcdmjaaGreatDoor
open Go Go.RowKit

/-- The order stored anew. -/
theorem RefSR.setOrder {w : World} {b bA : Nat} {FA : Nat → Prop} {v : Value} {s : MS} (h : RefSR w b bA FA v s) (p : Nat → Int) :
    RefSR (w.setCells b 2 [.int .i64 (p 0), .int .i64 (p 1), .int .i64 (p 2), .int .i64 (p 3), .int .i64 (p 4), .int .i64 (p 5), .int .i64 (p 6), .int .i64 (p 7)]) b bA FA v { s with o := p } ∧
      Keeps (footS b FA v) w (w.setCells b 2 [.int .i64 (p 0), .int .i64 (p 1), .int .i64 (p 2), .int .i64 (p 3), .int .i64 (p 4), .int .i64 (p 5), .int .i64 (p 6), .int .i64 (p 7)]) := by
  have hk := Keeps.of_setCells (fun k => k = b) b rfl [.int .i64 (p 0), .int .i64 (p 1), .int .i64 (p 2), .int .i64 (p 3), .int .i64 (p 4), .int .i64 (p 5), .int .i64 (p 6), .int .i64 (p 7)] 2 w
  refine ⟨⟨?_, h.ar.keep hk fun k hk e => h.apart1 (e ▸ hk), h.nodes.keep hk fun g hg e => h.apart2 (e ▸ hg), h.apart1, h.apart2, h.apart⟩, hk.mono fun k e => .inl e⟩
  have r2 := heap_setCell_same _ b 2 _ _ (.int .i64 (p 0)) h.row
  have r3 := heap_setCell_same _ b 3 _ _ (.int .i64 (p 1)) r2
  have r4 := heap_setCell_same _ b 4 _ _ (.int .i64 (p 2)) r3
  have r5 := heap_setCell_same _ b 5 _ _ (.int .i64 (p 3)) r4
  have r6 := heap_setCell_same _ b 6 _ _ (.int .i64 (p 4)) r5
  have r7 := heap_setCell_same _ b 7 _ _ (.int .i64 (p 5)) r6
  have r8 := heap_setCell_same _ b 8 _ _ (.int .i64 (p 6)) r7
  have r9 := heap_setCell_same _ b 9 _ _ (.int .i64 (p 7)) r8
  refine Eq.trans r9 ?_
  simp
set_option maxRecDepth 100000 in
set_option maxHeartbeats 8000000 in
theorem refSSwap {w : World} {b : Nat} {F : Nat → Prop} {s : MS} (h : RefSAt w b F s) (ok : s.Ok) (l : Int) :
    Calls Tryz.prog 20 #[.pointer (some ⟨b, 0, none⟩), .int .i64 l] w fun e w' => e = .returned (.int .i64 (s.swap l).1) ∧ ∃ F', RefSAt w' b F' (s.swap l).2 ∧ Keeps F w w' ∧ Within w F F' := by
  have hfew := ok.toBase.few
  generalize hr : s.swap l = r
  by_cases hl : l < 0 ∨ 6 < l
  · have e : s.swap l = (1, s) := by unfold MS.swap; rw [if_pos hl]
    rw [e] at hr
    subst hr
    go_enter Tryz.func20, Tryz.ntmps20
    by_cases h0 : l < 0
    · go_wp2
      go_ret
      exact ⟨rfl, F, h, Keeps.refl _ _, Within.refl _ _⟩
    · have h6 : 6 < l := by omega
      go_wp2
      go_ret
      exact ⟨rfl, F, h, Keeps.refl _ _, Within.refl _ _⟩
  obtain ⟨m, rfl⟩ := Int.eq_ofNat_of_zero_le (show 0 ≤ l by omega)
  have hm : m ≤ 6 := by omega
  have hsw : s.swap m = if s.room < 2 * ((s.changes (s.o m) (s.o (m + 1))).length : Int) then (2, s) else (0, MS.swap1 { s with o := swapO s.o m } (s.o m) (s.o (m + 1)) (s.changes (s.o m) (s.o (m + 1)))) := by
    unfold MS.swap
    rw [if_neg hl]
    rfl
  rw [hsw] at hr
  clear hsw hl
  have hc : s.changes (s.o m) (s.o (m + 1)) = s.all.filter (s.chg (s.o m) (s.o (m + 1))) := rfl
  have hm0 : (0 : Int) ≤ (m : Int) := by omega
  have hm6 : (m : Int) ≤ 6 := by omega
  have HAll := refSAll h ok.toBase
  have HOf := fun W (hb : Below w.heap.size w W) (u : Sub W) (n : Int) (hn : n ≤ 9223372036854775807) => refSOf ((h.below hb).sub u) ok.toBase n (s.o (m + 1)) hn
  have HRoom := fun W (hb : Below w.heap.size w W) => refSRoom (h.below hb) ok.toBase
  obtain ⟨bA, FA, vN, rfl, hR⟩ := h
  have px := hR.place m (by omega)
  have py := hR.place (m + 1) (by omega)
  generalize hX : s.o m = X at *
  generalize hY : s.o (m + 1) = Y at *
  go_enter Tryz.func20, Tryz.ntmps20
  go_wp2_with fail
  refine HAll.mono ?_
  rintro e w1 ⟨vA, rfl, RA⟩
  obtain ⟨aA, cA, rfl, _⟩ := RA.own.form
  have hal : s.all.length ≤ 20000 := Nat.le_trans (numsTo_filter_length s.has s.N.length) hfew
  clear HAll
  go_wp2
  go_loopw [7, 9] (fun vo i wr => ∃ k : Nat, k ≤ s.all.length ∧ i = .int .i64 k ∧ WRel w1 ((s.all.take k).filter (s.chg X Y)) vo wr) (fun _ i _ => s.all.length - (intOf i).toNat)
  case atStart => exact ⟨0, Nat.zero_le _, rfl, Owns.nil _ _, (fun g h => by cases h), Below.refl _ _⟩
  case round =>
    obtain ⟨k, hk, rfl, R⟩ := hrel
    by_cases hlt : k < s.all.length
    · obtain ⟨hyes, hno⟩ := filter_take (s.chg X Y) s.all k hlt
      obtain ⟨ad, rfl, _⟩ := (RA.own.reads.keep R.below).intAt k hlt
      have hhas : s.has s.all[k] = true := ok.toBase.mem_all.1 (List.getElem_mem hlt)
      generalize hn : s.all[k] = n at *
      have hle := ok.toBase.has_le hhas
      have blo := ok.toBase.behind_le (ok.lo n hhas)
      have bhi := ok.toBase.behind_le (ok.hi n hhas)
      have hk0 : (0 : Int) ≤ (k : Int) := by omega
      have hk1 : (k : Int) < (s.all.length : Int) := by omega
      have hfl : ((s.all.take k).filter (s.chg X Y)).length ≤ k := Nat.le_trans (List.length_filter_le _ _) (by simp; omega)
      have hln : ((s.all.take k).filter (s.chg X Y)).length + [n].length ≤ 1000000 := by simp at hfl ⊢; omega
      have hAt : ∀ V, Below w1.heap.size w1 V → V.cell? (ad.add k) = some (.int .i64 n) := fun V hV => by
        obtain ⟨ad', e', hc'⟩ := (RA.own.reads.keep hV).intAt k hlt
        cases e'
        rw [hn] at hc'
        exact hc'
      obtain ⟨g, cN, e5, h2, i0, i1, _, _, _⟩ := hR.node ok.toBase hhas
      subst e5
      have hNd : ∀ V, Below w.heap.size w V → V.cell? ⟨b, 1, none⟩ = some (.slice (some ⟨g, 0, none⟩) s.N.length cN) ∧ V.cell? ⟨g, (n - 2).toNat * 3, none⟩ = some (.int .i64 (s.nd n).var) ∧ V.cell? ⟨g, (n - 2).toNat * 3 + 1, none⟩ = some (.int .i64 (s.nd n).lo) ∧ V.cell? ⟨g, (n - 2).toNat * 3 + 2, none⟩ = some (.int .i64 (s.nd n).hi) := fun V hV => by
        obtain ⟨g', c', e', _, _, _, q0, q1, q2⟩ := (hR.below hV).node ok.toBase hhas
        cases e'
        exact ⟨(hR.below hV).cells.2, q0, q1, q2⟩
      clear px py
      have hb1 := RA.below.trans (R.below.mono RA.below.size)
      have cN1 := fun u : Sub wr => (hNd _ (hb1.trans (u.2.mono hb1.size))).1
      have q1 := fun u : Sub wr => (hNd _ (hb1.trans (u.2.mono hb1.size))).2.2.1
      have cA1 := fun u : Sub wr => hAt _ (R.below.trans (u.2.mono R.below.size))
      go_wp2
      refine wp_region_quiet_all (C := fun w' => ∃ u : Sub wr, w' = u.1) (by kernel_rfl) (by kernel_rfl) (InSub.drew wr) ?_
      iterate 14 (go_big_quiet_step (fail))
      go_big_quiet_step (exact subBelow (HOf wr hb1 _ (s.nd n).lo (by omega)))
      go_big_quiet_step (fail)
      refine wpQuiet_nil ?_
      clear cN1 cA1 q1
      intro w' hw'
      obtain ⟨u1, rfl⟩ := hw'
      replace R := R.keep' u1.2
      clear hb1
      generalize u1.1 = W1 at *
      have hb1 := RA.below.trans (R.below.mono RA.below.size)
      have cN2 := fun u : Sub W1 => (hNd _ (hb1.trans (u.2.mono hb1.size))).1
      have q2 := fun u : Sub W1 => (hNd _ (hb1.trans (u.2.mono hb1.size))).2.2.2
      have cA2 := fun u : Sub W1 => hAt _ (R.below.trans (u.2.mono R.below.size))
      go_wp2
      refine wp_region_quiet_all (C := fun w' => ∃ u : Sub W1, w' = u.1) (by kernel_rfl) (by kernel_rfl) (InSub.drew W1) ?_
      iterate 14 (go_big_quiet_step (fail))
      go_big_quiet_step (exact subBelow (HOf W1 hb1 _ (s.nd n).hi (by omega)))
      go_big_quiet_step (fail)
      refine wpQuiet_nil ?_
      clear cN2 cA2 q2
      intro w' hw'
      obtain ⟨u2, rfl⟩ := hw'
      replace R := R.keep' u2.2
      clear hb1
      generalize u2.1 = W2 at *
      have hb1 := RA.below.trans (R.below.mono RA.below.size)
      have cN3 := fun u : Sub W2 => (hNd _ (hb1.trans (u.2.mono hb1.size))).1
      have q0 := fun u : Sub W2 => (hNd _ (hb1.trans (u.2.mono hb1.size))).2.1
      have cA3 := fun u : Sub W2 => hAt _ (R.below.trans (u.2.mono R.below.size))
      have hLO : s.isOf (s.nd n).lo Y = s.isOf (s.nd n).lo Y := rfl
      generalize hlo : s.isOf (s.nd n).lo Y = LO at *
      generalize hhi : s.isOf (s.nd n).hi Y = HI at *
      clear hLO
      by_cases hv : (s.nd n).var = X
      · have hvb : ((s.nd n).var == X) = true := by rw [beq_iff_eq]; exact hv
        cases LO
        · cases HI
          · go_wp2
            refine wp_region_quiet_all (C := fun w' => ∃ u : Sub W2, w' = u.1) (by kernel_rfl) (by kernel_rfl) (InSub.drew W2) ?_
            iterate 14 (go_big_quiet_step (fail))
            go_big_quiet_step (fail)
            go_big_quiet_step (fail)
            go_big_quiet_step (fail)
            go_big_quiet_step (fail)
            go_big_quiet_step (fail)
            go_big_quiet_step (fail)
            refine wpQuiet_nil ?_
            clear cN3 cA3 q0
            intro w' hw'
            obtain ⟨u3, rfl⟩ := hw'
            replace R := R.keep' u3.2
            generalize u3.1 = W3 at *
            have HS := Lib.hid (hno (by simp [MS.chg, hv, hlo, hhi]))
            clear hyes hno hv RA
            go_wp2
            exact ⟨⟨k + 1, by omega, by go_num, by rw [HS.out]; exact R⟩, by simp [intOf]; omega⟩
          · go_wp2
            refine wp_region_quiet_all (C := fun w' => ∃ u : Sub W2, w' = u.1) (by kernel_rfl) (by kernel_rfl) (InSub.drew W2) ?_
            iterate 14 (go_big_quiet_step (fail))
            go_big_quiet_step (fail)
            go_big_quiet_step (fail)
            go_big_quiet_step (fail)
            go_big_quiet_step (fail)
            go_big_quiet_step (fail)
            go_big_quiet_step (fail)
            refine wpQuiet_nil ?_
            clear cN3 cA3 q0
            intro w' hw'
            obtain ⟨u3, rfl⟩ := hw'
            replace R := R.keep' u3.2
            generalize u3.1 = W3 at *
            have HS := Lib.hid (hyes (by simp [MS.chg, hv, hlo, hhi]))
            have hA := R.own.alloc (.cells #[.int .i64 n] 3)
            have hsrc := oneI W3 n W3.heap.size rfl
            have hcA := (RA.own.reads.keep R.below).intAt k hlt
            obtain ⟨ad', he', hcell⟩ := hcA
            cases he'
            rw [hn] at hcell
            clear hyes hno hv RA
            go_wp2_with (at_builtin; refine appendI rfl (.tmp 95) (.tmp 100) rfl _ _ ((s.all.take k).filter (s.chg X Y)) [n] rfl hA rfl hsrc hln ?_; intro v' w4 hown hgr hat)
            refine ⟨⟨k + 1, by omega, by go_num, by rw [HS.out]; exact hown, fun g hg => ?_, ?_⟩, by simp [intOf]; omega⟩
            · rcases hat with hat | hat
              · exact R.new g (hat ▸ hg)
              · rw [hat] at hg; injection hg with hg; have := R.below.size; simp at hg; omega
            · exact (R.below.alloc R.below.size _).grown hgr (by have := R.below.size; simp; omega) R.new
        · go_wp2
          refine wp_region_quiet_all (C := fun w' => ∃ u : Sub W2, w' = u.1) (by kernel_rfl) (by kernel_rfl) (InSub.drew W2) ?_
          iterate 14 (go_big_quiet_step (fail))
          go_big_quiet_step (fail)
          go_big_quiet_step (fail)
          go_big_quiet_step (fail)
          go_big_quiet_skip
          go_big_quiet_step (fail)
          go_big_quiet_step (fail)
          refine wpQuiet_nil ?_
          clear cN3 cA3 q0
          intro w' hw'
          obtain ⟨u3, rfl⟩ := hw'
          replace R := R.keep' u3.2
          generalize u3.1 = W3 at *
          have HS := Lib.hid (hyes (by simp [MS.chg, hv, hlo, hhi]))
          have hA := R.own.alloc (.cells #[.int .i64 n] 3)
          have hsrc := oneI W3 n W3.heap.size rfl
          have hcA := (RA.own.reads.keep R.below).intAt k hlt
          obtain ⟨ad', he', hcell⟩ := hcA
          cases he'
          rw [hn] at hcell
          clear hyes hno hv RA
          go_wp2_with (at_builtin; refine appendI rfl (.tmp 95) (.tmp 100) rfl _ _ ((s.all.take k).filter (s.chg X Y)) [n] rfl hA rfl hsrc hln ?_; intro v' w4 hown hgr hat)
          refine ⟨⟨k + 1, by omega, by go_num, by rw [HS.out]; exact hown, fun g hg => ?_, ?_⟩, by simp [intOf]; omega⟩
          · rcases hat with hat | hat
            · exact R.new g (hat ▸ hg)
            · rw [hat] at hg; injection hg with hg; have := R.below.size; simp at hg; omega
          · exact (R.below.alloc R.below.size _).grown hgr (by have := R.below.size; simp; omega) R.new
      · have hvb : ((s.nd n).var == X) = false := by rw [beq_eq_false_iff_ne]; exact hv
        go_wp2
        refine wp_region_quiet_all (C := fun w' => ∃ u : Sub W2, w' = u.1) (by kernel_rfl) (by kernel_rfl) (InSub.drew W2) ?_
        iterate 14 (go_big_quiet_step (fail))
        go_big_quiet_step (fail)
        go_big_quiet_skip
        go_big_quiet_skip
        go_big_quiet_skip
        go_big_quiet_skip
        go_big_quiet_step (fail)
        refine wpQuiet_nil ?_
        clear cN3 cA3 q0
        intro w' hw'
        obtain ⟨u3, rfl⟩ := hw'
        replace R := R.keep' u3.2
        generalize u3.1 = W3 at *
        have HS := Lib.hid (hno (by simp [MS.chg, hv, hlo, hhi]))
        clear hyes hno hv RA
        go_wp2
        exact ⟨⟨k + 1, by omega, by go_num, by rw [HS.out]; exact R⟩, by simp [intOf]; omega⟩
    · obtain rfl : k = s.all.length := by omega
      rw [List.take_length, ← hc] at R
      have hfl : (s.changes X Y).length ≤ 20000 := by rw [hc]; exact Nat.le_trans (List.length_filter_le _ _) hal
      have hb1 := RA.below.trans (R.below.mono RA.below.size)
      have hnewC := fun g hg => Nat.le_trans RA.below.size (R.new g hg)
      have hOC := R.own
      obtain ⟨aC, cC, rfl, _⟩ := R.own.form
      have hrm : s.room ≤ 20000 ∧ 0 ≤ s.room := by
        have := ok.ar.mostLe; have := ok.ar.nextLe; have := ok.ar.len
        simp only [MS.room]; omega
      clear hlt RA R HOf hc hal
      go_wp2_with fail
      refine (HRoom _ hb1).mono ?_
      rintro e w2 ⟨rfl, hb2⟩
      replace hOC := hOC.block (w' := w2) fun g hg => hb2.block g (hOC.lt g hg)
      replace hb1 := hb1.trans (hb2.mono hb1.size)
      clear HRoom hb2
      by_cases hroom : s.room < 2 * ((s.changes X Y).length : Int)
      · rw [if_pos hroom] at hr
        subst hr
        go_wp2
        go_ret
        exact ⟨rfl, _, ⟨bA, FA, _, rfl, hR.below hb1⟩, Keeps.of_below hb1 _, Within.refl _ _⟩
      · rw [if_neg hroom] at hr
        have hSwap := fun W => refSwap s.o m W
        simp only [swapLit7] at hSwap
        simp only [ov] at hSwap
        have hRw := hR.below hb1
        obtain ⟨c2, c3, c4, c5, c6, c7, c8, c9⟩ := hRw.order
        go_wp2_with fail
        refine (hSwap _).mono ?_
        rintro e w3 ⟨rfl, hb3⟩
        clear c2 c3 c4 c5 c6 c7 c8 c9 hSwap hRw
        replace hOC := hOC.block (w' := w3) fun g hg => hb3.block g (hOC.lt g hg)
        replace hb1 := hb1.trans (hb3.mono hb1.size)
        have hRw := hR.below hb1
        obtain ⟨c2, c3, c4, c5, c6, c7, c8, c9⟩ := hRw.order
        have f2 := hRw.free 2
        have f3 := hRw.free 3
        have f4 := hRw.free 4
        have f5 := hRw.free 5
        have f6 := hRw.free 6
        have f7 := hRw.free 7
        have f8 := hRw.free 8
        have f9 := hRw.free 9
        obtain ⟨hR4, hk4⟩ := hRw.setOrder (swapO s.o m)
        have HR4 := Lib.hid hR4
        have HK4 := Lib.hid hk4
        clear hb3 hRw hR4 hk4
        go_wp2
        rw [chain_order]
        generalize w3.setCells b 2 [.int .i64 (swapO s.o m 0), .int .i64 (swapO s.o m 1), .int .i64 (swapO s.o m 2), .int .i64 (swapO s.o m 3), .int .i64 (swapO s.o m 4), .int .i64 (swapO s.o m 5), .int .i64 (swapO s.o m 6), .int .i64 (swapO s.o m 7)] = W0 at *
        have hflt := hR.lt
        have hOC0 := hOC.keep HK4.out (fun g hg e => by have := hflt g e; have := hnewC g hg; omega)
        have hKw : Keeps (footS b FA vN) w W0 := (Keeps.of_below hb1 _).and HK4.out
        have hCf : ∀ g, (Value.slice aC (s.changes X Y).length cC).ownBlock = some g → ¬ footS b FA vN g := fun g hg e => by have := hflt g e; have := hnewC g hg; omega
        have Sw : s.Sw m (s.changes X Y) := by rw [← hX, ← hY]; exact ok.sw hm
        have J0 := MS.J.start Sw
        have hnd : (s.changes X Y).Nodup := List.Pairwise.filter _ s.all_nodup
        have hroom0 : 2 * ((s.changes X Y).length : Int) ≤ s.room := by omega
        have hR4 := HR4.out
        clear c2 c3 c4 c5 c6 c7 c8 c9 f2 f3 f4 f5 f6 f7 f8 f9 HR4 HK4 hOC hnewC hb1 hflt px py
        generalize s.changes X Y = C at *
        go_loopw [12] (fun i wr => ∃ (k : Nat) (t : MS) (F' : Nat → Prop), k ≤ C.length ∧ i = .int .i64 k ∧ RefSAt wr b F' t ∧ MS.J s m C (C.drop k) t ∧ 2 * ((C.drop k).length : Int) ≤ t.room ∧ Keeps (footS b FA vN) W0 wr ∧ Within W0 (footS b FA vN) F' ∧ Hid ((0, MS.swap1 t X Y (C.drop k)) = r)) (fun i _ => C.length - (intOf i).toNat)
        case atStart => exact ⟨0, _, _, Nat.zero_le _, rfl, ⟨bA, FA, vN, rfl, hR4⟩, J0, hroom0, Keeps.refl _ _, Within.refl _ _, Lib.hid hr⟩
        case round =>
          obtain ⟨k, t, F', hk, rfl, hT, j0, hrm0, hK, hW, hfin⟩ := hrel
          by_cases hlt : k < C.length
          · have hdrop := List.drop_eq_getElem_cons hlt
            have hnC : C[k] ∈ C := List.getElem_mem hlt
            have hnR : C[k] ∉ C.drop (k + 1) := by
              have h1 : (C.drop k).Nodup := List.Pairwise.sublist (List.drop_sublist k C) hnd
              rw [hdrop] at h1
              exact (List.nodup_cons.1 h1).1
            have hCk : ∀ V, Keeps (footS b FA vN) W0 V → ∃ ad, aC = some ad ∧ V.cell? (ad.add k) = some (.int .i64 C[k]) := fun V hV => (hOC0.keep hV hCf).reads.intAt k hlt
            have hCd : ∀ V, Keeps (footS b FA vN) W0 V → Reads encI V (.slice aC C.length cC) C := fun V hV => (hOC0.keep hV hCf).reads
            rw [hdrop] at j0 hrm0 hfin
            generalize hn : C[k] = n at *
            obtain ⟨a, c, t1, t2, e0, m1, m2, j1, j2, hn2, j3, r3⟩ := j0.round Sw hnC hnR hrm0
            rw [hX, hY] at m1 m2
            rw [hY] at j3 r3
            have hfin2 : Hid ((0, MS.swap1 (t2.setNd n ⟨Y, a, c⟩) X Y (C.drop (k + 1))) = r) := by
              have := hfin.out
              unfold MS.swap1 at this
              simp only [m1, m2] at this
              exact Lib.hid this
            clear hfin hrm0
            obtain ⟨nC1, nC2, _⟩ := (Sw.mem n).1 hnC
            obtain ⟨dp1, dp2⟩ := Sw.sides hnC
            have thas := j0.has n nC1
            have hok := ok.toBase
            have lo0 := hok.deep_le (ok.deep_side hm dp1 false)
            have hi0 := hok.deep_le (ok.deep_side hm dp2 false)
            have lo1 := hok.deep_le (ok.deep_side hm dp1 true)
            have hi1 := hok.deep_le (ok.deep_side hm dp2 true)
            rw [← j0.side_as Sw dp1 false, hY] at lo0
            rw [← j0.side_as Sw dp2 false, hY] at hi0
            rw [← j1.side_as Sw dp1 true, hY] at lo1
            rw [← j1.side_as Sw dp2 true, hY] at hi1
            have blo := hok.behind_le (ok.lo n nC1)
            have bhi := hok.behind_le (ok.hi n nC1)
            rw [← e0] at lo0 hi0 lo1 hi1 blo bhi
            have bt := j0.okb.toBase
            have bt1 := j1.okb.toBase
            have bt2 := j2.okb.toBase
            have hF'lt := hT.lt
            have hle := hok.has_le nC1
            obtain ⟨bA1, FA1, v1, rfl, hRt⟩ := hT
            obtain ⟨g1, cN1, rfl, h2n, i0, i1, _, _, _⟩ := hRt.node bt thas
            obtain ⟨adC, rfl, _⟩ := hCk _ hK
            have hCk' : ∀ V, Keeps (footS b FA vN) W0 V → V.cell? (adC.add k) = some (.int .i64 n) := fun V hV => by
              obtain ⟨ad', e', hc'⟩ := hCk V hV
              cases e'
              exact hc'
            have hQ : ∀ V, Below wr.heap.size wr V → V.cell? ⟨b, 1, none⟩ = some (.slice (some ⟨g1, 0, none⟩) t.N.length cN1) ∧ V.cell? ⟨g1, (n - 2).toNat * 3, none⟩ = some (.int .i64 (t.nd n).var) ∧ V.cell? ⟨g1, (n - 2).toNat * 3 + 1, none⟩ = some (.int .i64 (t.nd n).lo) ∧ V.cell? ⟨g1, (n - 2).toNat * 3 + 2, none⟩ = some (.int .i64 (t.nd n).hi) ∧ V.cell? (adC.add k) = some (.int .i64 n) := fun V hV => by
              obtain ⟨g', c', e', _, _, _, q0, q1, q2⟩ := (hRt.below hV).node bt thas
              cases e'
              exact ⟨(hRt.below hV).cells.2, q0, q1, q2, hCk' V (hK.and (Keeps.of_below hV _))⟩
            have hk0 : (0 : Int) ≤ (k : Int) := by omega
            have hk1 : (k : Int) < (C.length : Int) := by omega
            have HRt := Lib.hid hRt
            clear hCk hRt
            generalize hold : t.nd n = old at *
            replace hQ := Lib.hid hQ
            replace hCd := Lib.hid hCd
            replace hCk' := Lib.hid hCk'
            replace hnC := Lib.hid hnC
            replace hnR := Lib.hid hnR
            replace e0 := Lib.hid e0
            replace hold := Lib.hid hold
            go_wp2
            refine wp_region_alloc_tail 11 _ (.cells #[.int .i64 0, .int .i64 0, .int .i64 0] 69) (by kernel_rfl) (by kernel_rfl) rfl (fun a w => by simp [go_sem]; done) ?_
            apply Exists.intro
            refine ⟨fun V hV => ?_, ?_⟩
            · have c0 := fun u : Sub V => (hQ.out _ (hV.trans (u.2.mono hV.size))).1
              have q0 := fun u : Sub V => (hQ.out _ (hV.trans (u.2.mono hV.size))).2.1
              have q1 := fun u : Sub V => (hQ.out _ (hV.trans (u.2.mono hV.size))).2.2.1
              have q2 := fun u : Sub V => (hQ.out _ (hV.trans (u.2.mono hV.size))).2.2.2.1
              have q3 := fun u : Sub V => (hQ.out _ (hV.trans (u.2.mono hV.size))).2.2.2.2
              simp only [List.take_succ_cons, List.take_zero]
              iterate 11 (go_big_quiet_step (fail))
              exact wpQuiet_nil rfl
            intro B V hV hB hz
            have hz0 : HoldsN V B ⟨0, 0, 0⟩ := hz
            obtain ⟨z0, z1, z2⟩ := hz0.cells
            have y0 := hz0.free 0
            have y1 := hz0.free 1
            have y2 := hz0.free 2
            have hx := hz0.put old
            have hVb := ((hV.setCell (p := ⟨B, 0, none⟩) hB (.int .i64 old.var)).setCell (p := ⟨B, 1, none⟩) hB (.int .i64 old.lo)).setCell (p := ⟨B, 2, none⟩) hB (.int .i64 old.hi)
            dsimp only at z0 z1 z2
            replace hx := Lib.hid hx
            replace hVb := Lib.hid hVb
            clear hz hz0 hV
            simp only [List.drop_succ_cons, List.drop_zero]
            apply wpList_step
            intro K1 hK1
            go_simp
            apply hK1
            clear hK1 z0 z1 z2 y0 y1 y2
            replace hx := hx.out
            replace hVb := hVb.out
            generalize ((V.setCell ⟨B, 0, none⟩ (.int .i64 old.var)).setCell ⟨B, 1, none⟩ (.int .i64 old.lo)).setCell ⟨B, 2, none⟩ (.int .i64 old.hi) = W1 at *
            refine wpList_nil ?_
            replace hK := hK.and (Keeps.of_below hVb _)
            have hT : RefSAt W1 b (footS b FA1 (.slice (some ⟨g1, 0, none⟩) t.N.length cN1)) t := ⟨bA1, FA1, _, rfl, HRt.out.below hVb⟩
            have hBF : ¬ footS b FA1 (.slice (some ⟨g1, 0, none⟩) t.N.length cN1) B := fun e => by have := hF'lt B e; omega
            clear hF'lt HRt hQ hVb hB i0 i1
            generalize footS b FA1 (.slice (some ⟨g1, 0, none⟩) t.N.length cN1) = F1 at *
            have hsub := (hCd.out W1 hK)
            have x1 := fun u : Sub W1 => (hx.sub u).cells.2.1
            have x2 := fun u : Sub W1 => (hx.sub u).cells.2.2
            have S1 := fun u : Sub W1 => refSSide (hT.sub u) bt old.lo Y false 0 rfl (by omega)
            have S2 := fun u : Sub W1 => refSSide (hT.sub u) bt old.hi Y false 0 rfl (by omega)
            have HM := fun u : Sub W1 => refSmk (hT.sub u) bt X (t.side old.lo Y false) (t.side old.hi Y false) (by omega) (by omega) (C.drop k) (.slice (some (adC.add k)) (C.length - k) (cC - k)) (by
              have := (hsub.keep u.2).drop rfl k (by omega) (cC - k)
              simpa [encI] using this) (by rw [List.length_drop]; omega)
            rw [hdrop, m1] at HM
            unfold MkPost at HM
            dsimp only at HM
            replace HM := Lib.hid HM
            clear m1 lo0 hi0 hsub
            generalize t.side old.lo Y false = p1 at *
            generalize t.side old.hi Y false = p2 at *
            go_wp2
            refine wp_region_quiet_effect (C := fun w' => ∃ u : Sub W1, w' = u.1) 15 _ rfl (by kernel_rfl) (by kernel_rfl) (InSub.drew W1) (by simp only [List.drop_succ_cons, List.drop_zero]; exact panicsBy_cons (fun _ _ _ _ h => h) (panicsBy_cons (fun _ _ _ _ h => h) (panicsBy_cons (fun _ _ _ _ h => h) (panicsBy_cons (fun _ _ _ _ h => h) (panicsBy_cons (fun _ _ _ _ h => h) (panicsBy_nil)))))) ?_
            simp only [List.take_succ_cons, List.take_zero]
            iterate 6 (go_big_quiet_step (fail))
            go_big_quiet_step (exact subBelow (S1 _))
            iterate 4 (go_big_quiet_step (fail))
            go_big_quiet_step (exact subBelow (S2 _))
            iterate 3 (go_big_quiet_step (fail))
            refine wpQuiet_nil ?_
            clear x1 x2 S1 S2
            intro w' hw' K1 hK1
            obtain ⟨u, rfl⟩ := hw'
            have hb5 := u.2
            have HM1 := HM.out u
            replace hx := hx.sub u
            clear HM hT
            generalize u.1 = UW1 at *
            replace hK := hK.and (Keeps.of_below hb5 _)
            have hsz := hb5.size
            have hlx := hx.lt
            go_simp
            refine HM1.mono ?_
            rintro e W2 ⟨rfl, F2, hT, hk6, hw6⟩
            clear HM1
            replace hx := hx.keep hk6 hBF
            replace hBF : ¬ F2 B := fun e => by
              rcases hw6 B e with e | e
              · exact hBF e
              · omega
            have hW' := hW.trans hw6 hK.size
            replace hK := hK.trans hk6 hW
            replace hW := hW'
            clear hW'
            clear hb5 hsz hlx hk6 hw6
            refine hK1.out _ _ ?_
            clear hK1
            simp only [List.drop_succ_cons, List.drop_zero]
            refine wpPure_cons (v := ?_) (by rfl) ?_ ?_
            rotate_left
            · (intro w; go_simp <;> with_reducible rfl)
            simp only [Act.put, List.setIfInBounds_toArray, List.set_cons_zero, List.set_cons_succ]
            refine wpPure_cons (v := ?_) (by rfl) ?_ ?_
            rotate_left
            · (intro w; go_simp <;> with_reducible rfl)
            simp only [Act.put, List.setIfInBounds_toArray, List.set_cons_zero, List.set_cons_succ]
            refine wpPure_cons (v := ?_) (by rfl) ?_ ?_
            rotate_left
            · (intro w; go_simp <;> with_reducible rfl)
            simp only [Act.put, List.setIfInBounds_toArray, List.set_cons_zero, List.set_cons_succ]
            refine wpPure_cons (v := ?_) (by rfl) ?_ ?_
            rotate_left
            · (intro w; go_simp <;> with_reducible rfl)
            simp only [Act.put, List.setIfInBounds_toArray, List.set_cons_zero, List.set_cons_succ]
            refine wpPure_cons (v := ?_) (by rfl) ?_ ?_
            rotate_left
            · (intro w; go_simp <;> with_reducible rfl)
            simp only [Act.put, List.setIfInBounds_toArray, List.set_cons_zero, List.set_cons_succ]
            refine wpPure_nil ?_
            have hsub := (hCd.out W2 hK)
            have x1 := fun u : Sub W2 => (hx.sub u).cells.2.1
            have x2 := fun u : Sub W2 => (hx.sub u).cells.2.2
            have S1 := fun u : Sub W2 => refSSide (hT.sub u) bt1 old.lo Y true 1 rfl (by omega)
            have S2 := fun u : Sub W2 => refSSide (hT.sub u) bt1 old.hi Y true 1 rfl (by omega)
            have HM := fun u : Sub W2 => refSmk (hT.sub u) bt1 X (t1.side old.lo Y true) (t1.side old.hi Y true) (by omega) (by omega) (C.drop k) (.slice (some (adC.add k)) (C.length - k) (cC - k)) (by
              have := (hsub.keep u.2).drop rfl k (by omega) (cC - k)
              simpa [encI] using this) (by rw [List.length_drop]; omega)
            rw [hdrop, m2] at HM
            unfold MkPost at HM
            dsimp only at HM
            replace HM := Lib.hid HM
            clear m2 lo1 hi1 hsub
            generalize t1.side old.lo Y true = p1 at *
            generalize t1.side old.hi Y true = p2 at *
            go_wp2
            refine wp_region_quiet_effect (C := fun w' => ∃ u : Sub W2, w' = u.1) 15 _ rfl (by kernel_rfl) (by kernel_rfl) (InSub.drew W2) (by simp only [List.drop_succ_cons, List.drop_zero]; exact panicsBy_cons (fun _ _ _ _ h => h) (panicsBy_cons (fun _ _ _ _ h => h) (panicsBy_cons (fun _ _ _ _ h => h) (panicsBy_cons (fun _ _ _ _ h => h) (panicsBy_cons (fun _ _ _ _ h => h) (panicsBy_nil)))))) ?_
            simp only [List.take_succ_cons, List.take_zero]
            iterate 6 (go_big_quiet_step (fail))
            go_big_quiet_step (exact subBelow (S1 _))
            iterate 4 (go_big_quiet_step (fail))
            go_big_quiet_step (exact subBelow (S2 _))
            iterate 3 (go_big_quiet_step (fail))
            refine wpQuiet_nil ?_
            clear x1 x2 S1 S2
            intro w' hw' K1 hK1
            obtain ⟨u, rfl⟩ := hw'
            have hb5 := u.2
            have HM1 := HM.out u
            replace hx := hx.sub u
            clear HM hT
            generalize u.1 = UW2 at *
            replace hK := hK.and (Keeps.of_below hb5 _)
            have hsz := hb5.size
            have hlx := hx.lt
            go_simp
            refine HM1.mono ?_
            rintro e W3 ⟨rfl, F3, hT, hk6, hw6⟩
            clear HM1
            replace hx := hx.keep hk6 hBF
            replace hBF : ¬ F3 B := fun e => by
              rcases hw6 B e with e | e
              · exact hBF e
              · omega
            have hW' := hW.trans hw6 hK.size
            replace hK := hK.trans hk6 hW
            replace hW := hW'
            clear hW'
            clear hb5 hsz hlx hk6 hw6
            refine hK1.out _ _ ?_
            clear hK1
            simp only [List.drop_succ_cons, List.drop_zero]
            refine wpPure_cons (v := ?_) (by rfl) ?_ ?_
            rotate_left
            · (intro w; go_simp <;> with_reducible rfl)
            simp only [Act.put, List.setIfInBounds_toArray, List.set_cons_zero, List.set_cons_succ]
            refine wpPure_cons (v := ?_) (by rfl) ?_ ?_
            rotate_left
            · (intro w; go_simp <;> with_reducible rfl)
            simp only [Act.put, List.setIfInBounds_toArray, List.set_cons_zero, List.set_cons_succ]
            refine wpPure_cons (v := ?_) (by rfl) ?_ ?_
            rotate_left
            · (intro w; go_simp <;> with_reducible rfl)
            simp only [Act.put, List.setIfInBounds_toArray, List.set_cons_zero, List.set_cons_succ]
            refine wpPure_cons (v := ?_) (by rfl) ?_ ?_
            rotate_left
            · (intro w; go_simp <;> with_reducible rfl)
            simp only [Act.put, List.setIfInBounds_toArray, List.set_cons_zero, List.set_cons_succ]
            refine wpPure_cons (v := ?_) (by rfl) ?_ ?_
            rotate_left
            · (intro w; go_simp <;> with_reducible rfl)
            simp only [Act.put, List.setIfInBounds_toArray, List.set_cons_zero, List.set_cons_succ]
            refine wpPure_nil ?_
            clear hx hBF
            have hF3lt := hT.lt
            obtain ⟨bA3, FA3, v3, rfl, hR3⟩ := hT
            obtain ⟨g3, cN3, rfl, _, i0, i1, _, _, _⟩ := hR3.node bt2 hn2
            have hr3n := (bt2.range hn2).2.1
            have hQ3 : ∀ V, Below W3.heap.size W3 V → V.cell? ⟨b, 1, none⟩ = some (.slice (some ⟨g3, 0, none⟩) t2.N.length cN3) ∧ V.cell? (adC.add k) = some (.int .i64 n) := fun V hV => ⟨(hR3.below hV).cells.2, hCk'.out V (hK.and (Keeps.of_below hV _))⟩
            have c0 := fun u : Sub W3 => (hQ3 _ u.2).1
            have c1 := fun u : Sub W3 => (hQ3 _ u.2).2
            go_wp2
            refine wp_region_quiet_tail (C := fun w' => ∃ u : Sub W3, w' = u.1) 14 (by kernel_rfl) (by kernel_rfl) (InSub.drew W3) ?_
            simp only [List.take_succ_cons, List.take_zero]
            iterate 14 (go_big_quiet_step (fail))
            refine wpQuiet_nil ?_
            clear c0 c1 hQ3
            intro w' hw'
            obtain ⟨u, rfl⟩ := hw'
            have hR5 := hR3.sub u
            have hk5 := Keeps.of_below u.2 (footS b FA3 (.slice (some ⟨g3, 0, none⟩) t2.N.length cN3))
            clear hR3 hF3lt
            generalize u.1 = W5 at *
            obtain ⟨q0, q1, q2⟩ := nodeAt hR5.nodes (n - 2).toNat hr3n
            have y0 := hR5.nodes.free ((n - 2).toNat * 3)
            have y1 := hR5.nodes.free ((n - 2).toNat * 3 + 1)
            have y2 := hR5.nodes.free ((n - 2).toNat * 3 + 2)
            obtain ⟨hR6, hk6⟩ := hR5.putNode rfl hr3n ⟨Y, a, c⟩
            dsimp only at hk6
            replace hK := hK.trans (hk5.and hk6) hW
            have HR6 := Lib.hid hR6
            have HK6 := Lib.hid hK
            clear hR5 hk5 hk6 hR6 hK
            simp only [List.drop_succ_cons, List.drop_zero]
            apply wpList_step
            intro K1 hK1
            go_simp
            apply hK1
            clear hK1 q0 q1 q2 y0 y1 y2
            rw [chain_node]
            generalize W5.setCells g3 ((n - 2).toNat * 3) [.int .i64 Y, .int .i64 a, .int .i64 c] = W6 at *
            refine wpList_nil ?_
            go_wp2
            exact ⟨⟨k + 1, _, _, by omega, by go_num, ⟨bA3, FA3, _, rfl, HR6.out⟩, j3, r3, HK6.out, hW, hfin2⟩, by simp [intOf]; omega⟩
          · obtain rfl : k = C.length := by omega
            have hr2 := hfin.out
            rw [List.drop_length] at hr2
            have hr3 : r = (0, t) := hr2.symm
            subst hr3
            go_wp2
            go_ret
            exact ⟨rfl, F', hT, hKw.trans hK (Within.refl _ _), (Within.refl _ _).trans hW hKw.size⟩

end Go.Proofs.YtipocmbplcdmjaaGreatDoor

/-
  Mathematics of the code's store: beside each node how often it is had, beside each variable a table of its nodes. Nothing of the program is read here.
-/
namespace Go.Proofs.YtipocmbplcdmjaaGreatDoor

/-- How often a node has a number. -/
def cnt (x : Nd) (m : Int) : Int := (if x.lo = m then 1 else 0) + (if x.hi = m then 1 else 0)
theorem cnt_nonneg (x : Nd) (m : Int) : 0 ≤ cnt x m := by unfold cnt; split <;> split <;> decide
theorem cnt_le (x : Nd) (m : Int) : cnt x m ≤ 2 := by unfold cnt; split <;> split <;> decide
theorem cnt_zero {x : Nd} {m : Int} : cnt x m = 0 ↔ x.lo ≠ m ∧ x.hi ≠ m := by
  unfold cnt
  by_cases h1 : x.lo = m <;> by_cases h2 : x.hi = m <;> simp [h1, h2]

/-- A sum over a list. -/
def sumL {α : Type} (l : List α) (f : α → Int) : Int := (l.map f).sum
theorem sumL_nil {α : Type} (f : α → Int) : sumL [] f = 0 := rfl
theorem sumL_cons {α : Type} (a : α) (l : List α) (f : α → Int) : sumL (a :: l) f = f a + sumL l f := by simp [sumL]
theorem sumL_append {α : Type} (l k : List α) (f : α → Int) : sumL (l ++ k) f = sumL l f + sumL k f := by simp [sumL]
theorem sumL_congr {α : Type} {l : List α} {f g : α → Int} (h : ∀ a ∈ l, f a = g a) : sumL l f = sumL l g := by
  unfold sumL; rw [List.map_congr_left h]
theorem sumL_nonneg {α : Type} {l : List α} {f : α → Int} (h : ∀ a ∈ l, 0 ≤ f a) : 0 ≤ sumL l f := by
  induction l with
  | nil => exact Int.le_refl _
  | cons a l ih =>
    rw [sumL_cons]
    have := h a List.mem_cons_self
    have := ih fun b hb => h b (List.mem_cons_of_mem _ hb)
    omega
theorem sumL_le {α : Type} {l : List α} {f : α → Int} (h : ∀ a ∈ l, f a ≤ 2) : sumL l f ≤ 2 * l.length := by
  induction l with
  | nil => exact Int.le_refl _
  | cons a l ih =>
    rw [sumL_cons, List.length_cons]
    have := h a List.mem_cons_self
    have := ih fun b hb => h b (List.mem_cons_of_mem _ hb)
    omega
theorem sumL_zero {α : Type} {l : List α} {f : α → Int} (h : ∀ a ∈ l, 0 ≤ f a) : sumL l f = 0 ↔ ∀ a ∈ l, f a = 0 := by
  induction l with
  | nil => simp [sumL]
  | cons a l ih =>
    rw [sumL_cons]
    have h1 := h a List.mem_cons_self
    have h2 := sumL_nonneg fun b hb => h b (List.mem_cons_of_mem _ hb)
    have h3 := ih fun b hb => h b (List.mem_cons_of_mem _ hb)
    constructor
    · intro e b hb
      rcases List.mem_cons.1 hb with rfl | hb
      · omega
      · exact h3.1 (by omega) b hb
    · intro e
      rw [e a List.mem_cons_self, h3.2 fun b hb => e b (List.mem_cons_of_mem _ hb)]
      rfl
/-- One of them changes. -/
theorem sumL_change {l : List Int} {f g : Int → Int} {k : Int} (hk : k ∈ l) (hn : l.Nodup) (h : ∀ a ∈ l, a ≠ k → g a = f a) : sumL l g = sumL l f - f k + g k := by
  induction l with
  | nil => cases hk
  | cons a l ih =>
    rw [sumL_cons, sumL_cons]
    obtain ⟨n1, n2⟩ := List.nodup_cons.1 hn
    rcases List.mem_cons.1 hk with rfl | hk
    · rw [sumL_congr (f := g) (g := f) fun b hb => h b (List.mem_cons_of_mem _ hb) (fun e => n1 (e ▸ hb))]
      omega
    · rw [ih hk n2 fun b hb hne => h b (List.mem_cons_of_mem _ hb) hne, h a List.mem_cons_self (fun e => n1 (e ▸ hk))]
      omega
/-- One of them goes. -/
theorem sumL_without {l : List Int} {f : Int → Int} {k : Int} (hk : k ∈ l) (hn : l.Nodup) : sumL (l.filter fun x => x != k) f = sumL l f - f k := by
  induction l with
  | nil => cases hk
  | cons a l ih =>
    obtain ⟨n1, n2⟩ := List.nodup_cons.1 hn
    rcases List.mem_cons.1 hk with rfl | hk
    · have h1 : l.filter (fun x => x != k) = l := List.filter_eq_self.2 fun b hb => by simp only [bne_iff_ne, ne_eq]; exact fun e => n1 (e ▸ hb)
      simp only [List.filter_cons, bne_self_eq_false, Bool.false_eq_true, if_false, h1, sumL_cons]
      omega
    · have h1 : (a != k) = true := by simp only [bne_iff_ne, ne_eq]; exact fun e => n1 (e ▸ hk)
      simp only [List.filter_cons, h1, if_true, sumL_cons, ih hk n2]
      omega

/-- Numbers below n, each once, are at most n. -/
theorem nodup_range_le (n : Nat) : ∀ l : List Int, l.Nodup → (∀ x ∈ l, 0 ≤ x ∧ x < n) → l.length ≤ n := by
  induction n with
  | zero =>
    intro l _ h
    cases l with
    | nil => exact Nat.le_refl _
    | cons a l => have := h a (List.mem_cons_self); omega
  | succ n ih =>
    intro l hl h
    have h1 := ih (l.erase (n : Int)) (hl.erase _) (fun x hx => by
      rw [hl.mem_erase_iff] at hx
      have := h x hx.2
      omega)
    have h2 : (l.erase (n : Int)).length = l.length - (if (n : Int) ∈ l then 1 else 0) := by
      split
      · rename_i hm; exact List.length_erase_of_mem hm
      · rename_i hm; rw [List.erase_of_not_mem hm]; rfl
    split at h2 <;> omega

/-- How often a number is had by what is there. -/
def MS.refs (s : MS) (m : Int) : Int := sumL s.ar.T fun k => cnt (s.nd (k + 2)) m

section
variable {s t : MS} {R : List Int}

theorem MS.has_mem {n : Int} (hs : s.Base) : s.has n = true ↔ n - 2 ∈ s.ar.T := by
  constructor
  · exact fun h => (hs.range h).2.2
  · intro h
    have := (hs.ar.all (n - 2)).1 (.inl h)
    simp only [MS.has, Bool.and_eq_true, decide_eq_true_eq]
    exact ⟨by omega, h⟩
theorem MS.refs_nonneg (m : Int) : 0 ≤ s.refs m := sumL_nonneg fun _ _ => cnt_nonneg _ _
theorem MS.Base.refs_le (h : s.Base) (m : Int) : s.refs m ≤ 40000 := by
  have h1 := sumL_le (l := s.ar.T) (f := fun k => cnt (s.nd (k + 2)) m) fun _ _ => cnt_le _ _
  have h2 := h.ar.len
  have h3 := h.ar.nextLe
  have h4 := h.ar.mostLe
  unfold MS.refs
  omega
theorem MS.Base.refs_zero (h : s.Base) (m : Int) : s.refs m = 0 ↔ ∀ n, s.has n = true → (s.nd n).lo ≠ m ∧ (s.nd n).hi ≠ m := by
  unfold MS.refs
  rw [sumL_zero fun _ _ => cnt_nonneg _ _]
  constructor
  · intro e n hn
    have := e (n - 2) ((MS.has_mem h).1 hn)
    rw [show n - 2 + 2 = n by omega] at this
    exact cnt_zero.1 this
  · intro e k hk
    exact cnt_zero.2 (e (k + 2) ((MS.has_mem h).2 (by rw [show k + 2 - 2 = k by omega]; exact hk)))

/-- Sides are constants, or there. -/
def MS.Closed (s : MS) : Prop := ∀ n, s.has n = true → s.there (s.nd n).lo = true ∧ s.there (s.nd n).hi = true
theorem MS.Ok.closed (h : s.Ok) : s.Closed := fun n hn => ⟨MS.behind_there (h.lo n hn), MS.behind_there (h.hi n hn)⟩
theorem MS.there_mono (h : ∀ n, s.has n = true → t.has n = true) {n : Int} (hn : s.there n = true) : t.there n = true := by
  rcases MS.there_cases hn with ⟨rfl | rfl, _⟩ | hn
  · rfl
  · rfl
  · simp [MS.there, h n hn]
theorem MS.J.closed {l : Nat} {C : List Int} (w : s.Sw l C) (hR : ∀ n ∈ R, n ∈ C) (j : MS.J s l C R t) : t.Closed := fun n hn => by
  by_cases h : n ∈ R
  · have hs := ((w.mem n).1 (hR n h)).1
    rw [j.old n hs (.inr h)]
    exact ⟨MS.there_mono j.has (w.ok.closed n hs).1, MS.there_mono j.has (w.ok.closed n hs).2⟩
  · exact ⟨MS.behind_there (j.okb.lo n hn h), MS.behind_there (j.okb.hi n hn h)⟩
/-- What is there, or a constant, is no place that is still to come. -/
theorem MS.Base.there_range (h : s.Base) {n : Int} (hn : s.there n = true) : 0 ≤ n ∧ n < (s.N.length : Int) + 2 := by
  rcases MS.there_cases hn with ⟨e, _⟩ | hn
  · omega
  · have := h.range hn; omega
theorem MS.Base.refs_new (h : s.Base) (hc : s.Closed) {m : Int} (hm : (s.N.length : Int) + 2 ≤ m) : s.refs m = 0 :=
  (h.refs_zero m).2 fun n hn => by
    have h1 := h.there_range (hc n hn).1
    have h2 := h.there_range (hc n hn).2
    exact ⟨by omega, by omega⟩

/-- By what is taken, given back, laid. -/
theorem MS.Base.refs_takeS (h : s.Base) (hf : s.ar.T.length ≠ s.ar.most) (x : Nd) (m : Int) : (s.takeS x).refs m = s.refs m + cnt x m := by
  have hT : (s.takeS x).ar.T = s.ar.T ++ [s.ar.takeN] := by
    show s.ar.take.T = _
    rcases last_or_nil s.ar.B with hb | ⟨l, n, hb⟩
    · obtain ⟨e1, _, e3⟩ := AS.Ok.take_new hf hb
      rw [e1, e3]
    · obtain ⟨e1, _, e3⟩ := AS.Ok.take_again hf hb
      rw [e1, e3]
  unfold MS.refs
  rw [hT, sumL_append, sumL_cons, sumL_nil, h.takeS_new hf x]
  have h1 := sumL_congr (l := s.ar.T) (f := fun k => cnt ((s.takeS x).nd (k + 2)) m) (g := fun k => cnt (s.nd (k + 2)) m) fun k hk => by
    rw [h.takeS_old hf x ((MS.has_mem h).2 (by rw [show k + 2 - 2 = k by omega]; exact hk))]
  rw [h1]
  omega
theorem MS.Base.refs_setNd (h : s.Base) {n : Int} (hn : s.has n = true) (x : Nd) (m : Int) : (s.setNd n x).refs m = s.refs m - cnt (s.nd n) m + cnt x m := by
  have h1 := sumL_change (l := s.ar.T) (f := fun k => cnt (s.nd (k + 2)) m) (g := fun k => cnt ((s.setNd n x).nd (k + 2)) m) ((MS.has_mem h).1 hn) h.ar.nodT fun k hk hne => by
    rw [h.setNd_ne hn ((MS.has_mem h).2 (by rw [show k + 2 - 2 = k by omega]; exact hk)) (by omega) x]
  rw [show n - 2 + 2 = n by omega, h.setNd_at hn x] at h1
  exact h1

/-- What the code keeps of a state: beside each node how often it is had; of each variable the nodes, but those of a list. -/
structure MS.Co (s : MS) (R : List Int) (f : Int → Int) (X : List (Nd × Int)) (tabs : Nat → TS) : Prop where
  len : X.length = s.N.length
  node : ∀ (i : Nat) (h : i < X.length), s.has ((i : Int) + 2) = true → X[i].1 = s.nd ((i : Int) + 2)
  above : ∀ (i : Nat) (h : i < X.length), X[i].2 = f ((i : Int) + 2)
  ok : ∀ v, v < 8 → (tabs v).Ok
  slots : ∀ v, v < 8 → (tabs v).slots ≤ 80002
  tab : ∀ v, v < 8 → ∀ e : Ent, e ∈ (tabs v).L ↔ s.has e.2 = true ∧ e.2 ∉ R ∧ s.nd e.2 = ⟨(v : Int), e.1.1, e.1.2⟩

/-- One of many. -/
def upd {α : Type} (f : Nat → α) (i : Nat) (x : α) : Nat → α := fun j => if j = i then x else f j
theorem upd_same {α : Type} (f : Nat → α) (i : Nat) (x : α) : upd f i x i = x := by simp [upd]
theorem upd_other {α : Type} (f : Nat → α) (i : Nat) (x : α) {j : Nat} (h : j ≠ i) : upd f i x j = f j := by simp [upd, h]

theorem MS.Co.few {f : Int → Int} {X : List (Nd × Int)} {tabs : Nat → TS} (c : s.Co R f X tabs) (hs : s.Base) {v : Nat} (hv : v < 8) : (tabs v).L.length ≤ 20000 := by
  have h1 : ((tabs v).L.map fun e : Ent => e.2 - 2).Nodup := by
    have ap := (c.ok v hv).apart
    unfold Apart at ap
    have hinj : ∀ a ∈ (tabs v).L, ∀ b ∈ (tabs v).L, a.2 - 2 = b.2 - 2 → a.1 = b.1 := fun a ha b hb e => by
      have e2 : a.2 = b.2 := by omega
      have h1 := ((c.tab v hv a).1 ha).2.2
      have h2 := ((c.tab v hv b).1 hb).2.2
      rw [e2, h2] at h1
      injection h1 with _ h3 h4
      exact Prod.ext h3.symm h4.symm
    rw [List.Nodup, List.pairwise_map] at ap ⊢
    exact List.Pairwise.imp_of_mem (fun ha hb hne e => hne (hinj _ ha _ hb e)) ap
  have h2 := nodup_range_le s.ar.next _ h1 fun x hx => by
    obtain ⟨e, he, rfl⟩ := List.mem_map.1 hx
    have h3 := ((c.tab v hv e).1 he).1
    exact (hs.ar.all (e.2 - 2)).1 (.inl ((MS.has_mem hs).1 h3))
  rw [List.length_map] at h2
  have h3 := hs.ar.nextLe
  have h4 := hs.ar.mostLe
  omega

/-- What a table tells is what is there. -/
theorem MS.Co.get {f : Int → Int} {X : List (Nd × Int)} {tabs : Nat → TS} (c : s.Co R f X tabs) (hs : s.Okb R) {v : Nat} (hv : v < 8) (lo hi : Int) :
    (∃ n, s.find ⟨(v : Int), lo, hi⟩ R = some n ∧ (tabs v).get (lo, hi) = (n, true)) ∨ (s.find ⟨(v : Int), lo, hi⟩ R = Option.none ∧ (tabs v).get (lo, hi) = (0, false)) := by
  cases hf : s.find ⟨(v : Int), lo, hi⟩ R with
  | some n =>
    obtain ⟨h1, h2, h3⟩ := MS.find_some hf
    exact .inl ⟨n, rfl, TS.get_yes (c.ok v hv).apart (e := ((lo, hi), n)) ((c.tab v hv _).2 ⟨h1, h3, h2⟩)⟩
  | none =>
    refine .inr ⟨rfl, TS.get_no fun e he hk => ?_⟩
    obtain ⟨h1, h2, h3⟩ := (c.tab v hv e).1 he
    rw [hk] at h3
    exact MS.find_none hs.toBase hf h1 h2 h3

/-- Places: one more, one less had. -/
def bump (X : List (Nd × Int)) (n by' : Int) : List (Nd × Int) := if n = 0 ∨ n = 1 then X else X.set (n - 2).toNat ((X.getD (n - 2).toNat (⟨0, 0, 0⟩, 0)).1, (X.getD (n - 2).toNat (⟨0, 0, 0⟩, 0)).2 + by')
theorem bump_length (X : List (Nd × Int)) (n by' : Int) : (bump X n by').length = X.length := by unfold bump; split <;> simp
theorem bump_get (X : List (Nd × Int)) (n by' : Int) (hn : 0 ≤ n) (i : Nat) (h : i < X.length) : ∃ h' : i < (bump X n by').length, (bump X n by')[i] = (X[i].1, X[i].2 + (if n = (i : Int) + 2 then by' else 0)) := by
  refine ⟨by rw [bump_length]; exact h, ?_⟩
  by_cases hc : n = 0 ∨ n = 1
  · have : ¬ n = (i : Int) + 2 := by omega
    simp [bump, hc, this]
  · simp only [bump, if_neg hc, List.getElem_set]
    by_cases e : (n - 2).toNat = i
    · have e2 : n = (i : Int) + 2 := by omega
      rw [if_pos e, if_pos e2, e]
      simp [List.getD, h]
    · have e2 : ¬ n = (i : Int) + 2 := by omega
      rw [if_neg e, if_neg e2]
      simp
theorem MS.Co.bump {f : Int → Int} {X : List (Nd × Int)} {tabs : Nat → TS} (c : s.Co R f X tabs) (n by' : Int) (hn : 0 ≤ n) : s.Co R (fun m => f m + (if n = m then by' else 0)) (bump X n by') tabs := by
  refine ⟨(bump_length _ _ _).trans c.len, fun i h hh => ?_, fun i h => ?_, c.ok, c.slots, c.tab⟩
  · have h0 : i < X.length := by rwa [bump_length] at h
    obtain ⟨_, e⟩ := bump_get X n by' hn i h0
    rw [e]
    exact c.node i h0 hh
  · have h0 : i < X.length := by rwa [bump_length] at h
    obtain ⟨_, e⟩ := bump_get X n by' hn i h0
    rw [e, c.above i h0]

/-- Laid: what was left out until now. -/
theorem MS.Co.lay {f : Int → Int} {X : List (Nd × Int)} {tabs : Nat → TS} (hs : s.Base) {n : Int} (c : s.Co (n :: R) f X tabs) (hn : s.has n = true) (hnR : n ∉ R) {v : Nat} (hv : v < 8) (lo hi : Int) (hone : ∀ m, s.has m = true → m ∉ n :: R → s.nd m ≠ ⟨(v : Int), lo, hi⟩) :
    (s.setNd n ⟨(v : Int), lo, hi⟩).Co R f (X.set (n - 2).toNat (⟨(v : Int), lo, hi⟩, (X.getD (n - 2).toNat (⟨0, 0, 0⟩, 0)).2)) (upd tabs v ((tabs v).put ((lo, hi), n))) ∧ ((tabs v).get (lo, hi)).2 = false := by
  obtain ⟨r1, r2, r3⟩ := hs.range hn
  have hno : ∀ e ∈ (tabs v).L, e.1 ≠ (lo, hi) := fun e he hk => by
    obtain ⟨h1, h2, h3⟩ := (c.tab v hv e).1 he
    rw [hk] at h3
    exact hone e.2 h1 h2 h3
  have hg := TS.get_no hno
  have hfew := c.few hs hv
  refine ⟨⟨by simp [MS.setNd, c.len], fun i h hh => ?_, fun i h => ?_, fun u hu => ?_, fun u hu => ?_, fun u hu e => ?_⟩, by rw [hg]⟩
  · rw [List.getElem_set]
    split
    · rename_i e
      rw [show (i : Int) + 2 = n by omega, hs.setNd_at hn]
    · rename_i e
      have h0 : i < X.length := by simpa using h
      have hh' : s.has ((i : Int) + 2) = true := hh
      rw [hs.setNd_ne hn hh' (by omega)]
      exact c.node i h0 hh'
  · have h0 : i < X.length := by simpa using h
    rw [List.getElem_set]
    split
    · rename_i e
      subst e
      simp only [List.getD, List.getElem?_eq_getElem h0, Option.getD_some]
      exact c.above _ h0
    · exact c.above i h0
  · by_cases e : u = v
    · subst e; rw [upd_same]; exact (c.ok u hu).put _
    · rw [upd_other _ _ _ e]; exact c.ok u hu
  · by_cases e : u = v
    · subst e
      rw [upd_same, TS.put_yes (by rw [hg])]
      have h1 := c.slots u hu
      show (if (tabs u).L.length + 1 > (tabs u).slots / 2 then 2 * (tabs u).slots else (tabs u).slots) ≤ 80002
      split <;> omega
    · rw [upd_other _ _ _ e]; exact c.slots u hu
  · have hcase : s.has e.2 = true ∧ e.2 ∉ n :: R ∧ s.nd e.2 = ⟨(u : Int), e.1.1, e.1.2⟩ ∨ e.2 = n ∧ (⟨(v : Int), lo, hi⟩ : Nd) = ⟨(u : Int), e.1.1, e.1.2⟩ ↔ (s.setNd n ⟨(v : Int), lo, hi⟩).has e.2 = true ∧ e.2 ∉ R ∧ (s.setNd n ⟨(v : Int), lo, hi⟩).nd e.2 = ⟨(u : Int), e.1.1, e.1.2⟩ := by
      by_cases he : e.2 = n
      · rw [he, hs.setNd_at hn]
        simp only [MS.setNd_has, hn, hnR, not_false_eq_true, List.mem_cons, true_or, not_true_eq_false, false_and, and_false, false_or, true_and]
      · constructor
        · rintro (⟨h1, h2, h3⟩ | ⟨h1, _⟩)
          · exact ⟨h1, fun h => h2 (List.mem_cons_of_mem _ h), by rw [hs.setNd_ne hn h1 he]; exact h3⟩
          · exact absurd h1 he
        · rintro ⟨h1, h2, h3⟩
          have h1' : s.has e.2 = true := h1
          rw [hs.setNd_ne hn h1' he] at h3
          exact .inl ⟨h1', by simp [he, h2], h3⟩
    rw [← hcase]
    by_cases hu' : u = v
    · subst hu'
      rw [upd_same, TS.put_yes (by rw [hg])]
      show e ∈ (tabs u).L ++ [((lo, hi), n)] ↔ _
      rw [List.mem_append, List.mem_singleton, c.tab u hu e]
      refine or_congr_right ⟨fun h => by subst h; exact ⟨rfl, rfl⟩, fun ⟨h1, h2⟩ => ?_⟩
      obtain ⟨⟨a, b⟩, d⟩ := e
      simp only [Nd.mk.injEq, true_and] at h2
      simp only at h1
      rw [h1, h2.1, h2.2]
    · rw [upd_other _ _ _ hu', c.tab u hu e]
      refine ⟨.inl, fun h => h.elim id fun ⟨_, h2⟩ => ?_⟩
      injection h2 with h3
      omega

/-- Left out from now on. -/
theorem MS.Co.drop {f : Int → Int} {X : List (Nd × Int)} {tabs : Nat → TS} (c : s.Co R f X tabs) {n : Int} {v : Nat} (hv : v < 8) (he : (s.nd n).var = (v : Int)) (hone : ∀ m, s.has m = true → m ∉ R → s.nd m = s.nd n → m = n) {R' : List Int} (hR' : ∀ m, m ∈ R' ↔ m ∈ R ∨ m = n) :
    s.Co R' f X (upd tabs v ((tabs v).drop ((s.nd n).lo, (s.nd n).hi))) := by
  refine ⟨c.len, c.node, c.above, fun u hu => ?_, fun u hu => ?_, fun u hu e => ?_⟩
  · by_cases e : u = v
    · subst e; rw [upd_same]; exact (c.ok u hu).drop _
    · rw [upd_other _ _ _ e]; exact c.ok u hu
  · by_cases e : u = v
    · subst e; rw [upd_same]; exact c.slots u hu
    · rw [upd_other _ _ _ e]; exact c.slots u hu
  · have hnd : s.nd n = ⟨(v : Int), (s.nd n).lo, (s.nd n).hi⟩ := by rw [← he]
    have h0 := c.tab u hu e
    by_cases hu' : u = v
    · subst hu'
      rw [upd_same]
      show e ∈ (tabs u).L.filter (fun x => x.1 != ((s.nd n).lo, (s.nd n).hi)) ↔ _
      rw [List.mem_filter, h0]
      simp only [bne_iff_ne, ne_eq, hR', not_or]
      constructor
      · rintro ⟨⟨h1, h2, h3⟩, h4⟩
        refine ⟨h1, ⟨h2, fun e' => h4 ?_⟩, h3⟩
        rw [e'] at h3
        rw [h3]
      · rintro ⟨h1, ⟨h2, h3⟩, h4⟩
        refine ⟨⟨h1, h2, h4⟩, fun e' => h3 (hone e.2 h1 h2 ?_)⟩
        have e1 := congrArg Prod.fst e'
        have e2 := congrArg Prod.snd e'
        simp only at e1 e2
        rw [h4, hnd, e1, e2]
    · rw [upd_other _ _ _ hu', h0]
      simp only [hR', not_or]
      constructor
      · rintro ⟨h1, h2, h3⟩
        refine ⟨h1, ⟨h2, fun e' => ?_⟩, h3⟩
        rw [e', hnd] at h3
        injection h3 with h4
        omega
      · rintro ⟨h1, ⟨h2, _⟩, h3⟩
        exact ⟨h1, h2, h3⟩
theorem MS.Co.order {f : Int → Int} {X : List (Nd × Int)} {tabs : Nat → TS} (c : s.Co R f X tabs) (o : Nat → Int) : MS.Co { s with o := o } R f X tabs := ⟨c.len, c.node, c.above, c.ok, c.slots, c.tab⟩

/-- Taken, and not laid yet: n is left out. -/
theorem MS.Co.take {f : Int → Int} {X : List (Nd × Int)} {tabs : Nat → TS} (c : s.Co R f X tabs) (hs : s.Base) (hf : s.ar.T.length ≠ s.ar.most) (h0 : s.ar.takeN = s.N.length → f (s.ar.takeN + 2) = 0) :
    ∃ z, (s.takeS z).Co ((s.ar.takeN + 2) :: R) f (if s.ar.takeN = s.N.length then X ++ [(⟨0, 0, 0⟩, 0)] else X) tabs := by
  obtain ⟨t0, t1, t2, t3⟩ := hs.took hf
  have hhas := fun z n => hs.takeS_has hf z n
  have hold := fun z n hn => hs.takeS_old hf z (n := n) hn
  have hnew : s.has (s.ar.takeN + 2) = false := Bool.eq_false_iff.2 fun e => by
    have := (hs.range e).2.2
    rw [show s.ar.takeN + 2 - 2 = s.ar.takeN by omega] at this
    exact t1 this
  have htab : ∀ z v, v < 8 → ∀ e : Ent, e ∈ (tabs v).L ↔ (s.takeS z).has e.2 = true ∧ e.2 ∉ (s.ar.takeN + 2) :: R ∧ (s.takeS z).nd e.2 = ⟨(v : Int), e.1.1, e.1.2⟩ := fun z v hv e => by
    rw [c.tab v hv e]
    constructor
    · rintro ⟨h1, h2, h3⟩
      refine ⟨(hhas z _).2 (.inl h1), ?_, by rw [hold z _ h1]; exact h3⟩
      simp only [List.mem_cons, not_or]
      exact ⟨fun e' => (by rw [e', hnew] at h1; cases h1), h2⟩
    · rintro ⟨h1, h2, h3⟩
      simp only [List.mem_cons, not_or] at h2
      have h4 := ((hhas z _).1 h1).resolve_right h2.1
      rw [hold z _ h4] at h3
      exact ⟨h4, h2.2, h3⟩
  by_cases e : s.ar.takeN = s.N.length
  · refine ⟨⟨0, 0, 0⟩, ?_, fun i h hh => ?_, fun i h => ?_, c.ok, c.slots, htab _⟩
    · simp [e, MS.takeS, c.len]
    · rcases (hhas _ _).1 hh with h1 | h1
      · have h2 := (hs.range h1).2.1
        have hi : i < X.length := by rw [c.len]; omega
        rw [hold _ _ h1, ← c.node i hi h1]
        simp only [e, if_true]
        rw [List.getElem_append_left hi]
      · have hi : i = X.length := by rw [c.len]; omega
        rw [h1, hs.takeS_new hf]
        simp only [e, if_true, hi, List.getElem_append_right (Nat.le_refl _), Nat.sub_self, List.getElem_cons_zero]
    · simp only [e, if_true] at h ⊢
      by_cases hi : i < X.length
      · rw [List.getElem_append_left hi]; exact c.above i hi
      · have hi2 : i = X.length := by simp at h; omega
        have h3 := h0 e
        subst hi2
        rw [List.getElem_append_right (Nat.le_refl _)]
        simp only [Nat.sub_self, List.getElem_cons_zero]
        rw [c.len, ← e, h3]
  · have hlt : s.ar.takeN < s.N.length := by rcases t3 with ⟨h, _⟩ | ⟨h, _⟩ <;> omega
    have hX : s.ar.takeN.toNat < X.length := by rw [c.len]; omega
    refine ⟨X[s.ar.takeN.toNat].1, ?_, fun i h hh => ?_, fun i h => ?_, c.ok, c.slots, htab _⟩
    · simp [e, MS.takeS, c.len]
    · simp only [e, if_false] at h ⊢
      rcases (hhas _ _).1 hh with h1 | h1
      · rw [hold _ _ h1, c.node i h h1]
      · have hi : i = s.ar.takeN.toNat := by omega
        subst hi
        rw [h1, hs.takeS_new hf]
    · simp only [e, if_false] at h ⊢
      exact c.above i h
theorem MS.takeS_setNd {z x : Nd} (hs : s.Base) (hf : s.ar.T.length ≠ s.ar.most) : (s.takeS z).setNd (s.ar.takeN + 2) x = s.takeS x := by
  obtain ⟨t0, _, _, t3⟩ := hs.took hf
  simp only [MS.setNd, MS.takeS, show s.ar.takeN + 2 - 2 = s.ar.takeN by omega]
  congr 1
  split
  · rename_i e
    rw [show s.ar.takeN.toNat = s.N.length by omega, List.set_append_right _ _ (Nat.le_refl _)]
    simp
  · rw [List.set_set]

end

end Go.Proofs.YtipocmbplcdmjaaGreatDoor
