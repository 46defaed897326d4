/-
  Walks of the code's store: what only looks, more.
-/
import Derived.Test.YtbnjbnjhpccomaaCoW
namespace Go.Proofs.Ytbnjbnjhpccomaa
open Go Go.RowKit

section
variable {w : World} {b : Nat} {F : Nat → Prop} {s : MS} {R : List Int} {f : Int → Int}

set_option maxRecDepth 100000 in
set_option maxHeartbeats 1000000 in
theorem coFits (h : CoAt w b F s R f) (ok : s.Base) (n l v : Int) (hn : n ≤ 9223372036854775807 ∧ -9223372036854775808 ≤ n) (hl : l = levO s.o v) : Calls Try.prog 40 #[pv b, .int .i64 n, .int .i64 l] w fun e w' => e = .returned (.bool (s.behind n v)) ∧ Below w.heap.size w w' := by
  subst hl
  have HC := coIsConst n w
  go_enter Try.func40, Try.ntmps40
  by_cases hc : isC n = true
  · have e2 : s.behind n v = true := MS.behind_const (isC_not (s := s) hc).2
    rw [e2]
    rw [hc] at HC
    clear h
    go_wp2_with fail
    refine HC.mono ?_
    rintro e w1 ⟨rfl, rfl⟩
    clear HC
    go_wp2
    go_ret
    exact ⟨rfl, Below.refl _ _⟩
  · have hc' : isC n = false := by simpa using hc
    rw [hc'] at HC
    have hx := isC_no hc'
    have HH := fun u : Sub w => coHas (h.sub u) ok n hn
    cases hh : s.has n
    · have e2 : s.behind n v = false := by simp [MS.behind, MS.node, hh, hx]
      rw [e2]
      rw [hh] at HH
      clear h
      go_wp2_with fail
      refine HC.mono ?_
      rintro e w1 ⟨rfl, rfl⟩
      clear HC
      go_wp2
      refine wp_region_quiet_all (C := fun w' => ∃ u : Sub w, w' = u.1) (by kernel_rfl) (by kernel_rfl) (InSub.drew w) ?_
      iterate 2 (go_big_quiet_step (fail))
      go_big_quiet_step (exact subSame (HH _))
      go_big_quiet_step (fail)
      iterate 12 go_big_quiet_skip
      iterate 2 (go_big_quiet_step (fail))
      refine wpQuiet_nil ?_
      clear HH
      intro w' hw'
      obtain ⟨u, rfl⟩ := hw'
      go_wp2
      go_ret
      exact ⟨rfl, u.2⟩
    · have e2 : s.behind n v = decide (levO s.o (s.nd n).var > levO s.o v) := MS.behind_node hh
      rw [e2]
      rw [hh] at HH
      have HA := fun u : Sub w => coAt (h.sub u) ok hh
      have HL := fun u : Sub w => permLevel s.o (s.nd n).var u.1
      obtain ⟨bA, FA, bT, FT, vv, X, tabs, rfl, hR, c⟩ := h
      have c1 := fun u : Sub w => (hR.sub u).order.1
      have c2 := fun u : Sub w => (hR.sub u).order.2.1
      have c3 := fun u : Sub w => (hR.sub u).order.2.2.1
      have c4 := fun u : Sub w => (hR.sub u).order.2.2.2.1
      have c5 := fun u : Sub w => (hR.sub u).order.2.2.2.2.1
      have c6 := fun u : Sub w => (hR.sub u).order.2.2.2.2.2.1
      have c7 := fun u : Sub w => (hR.sub u).order.2.2.2.2.2.2.1
      have c8 := fun u : Sub w => (hR.sub u).order.2.2.2.2.2.2.2
      have q0 := fieldP (s.nd n) (f n)
      have q1 := fieldV (s.nd n)
      unfold plv at HA
      simp only [ov] at HL
      clear hR c
      generalize levO s.o (s.nd n).var = X at *
      generalize levO s.o v = Y at *
      go_wp2_with fail
      refine HC.mono ?_
      rintro e w1 ⟨rfl, rfl⟩
      clear HC
      go_wp2
      refine wp_region_quiet_all (C := fun w' => ∃ u : Sub w, w' = u.1) (by kernel_rfl) (by kernel_rfl) (InSub.drew w) ?_
      iterate 2 (go_big_quiet_step (fail))
      go_big_quiet_step (exact subSame (HH _))
      iterate 7 (go_big_quiet_step (fail))
      go_big_quiet_step (exact subBelow (HA _))
      iterate 2 (go_big_quiet_step (fail))
      go_big_quiet_step (exact subBelow (HL _))
      iterate 4 (go_big_quiet_step (fail))
      refine wpQuiet_nil ?_
      clear HH HA HL c1 c2 c3 c4 c5 c6 c7 c8
      intro w' hw'
      obtain ⟨u, rfl⟩ := hw'
      go_wp2
      go_ret
      exact ⟨rfl, u.2⟩

set_option maxRecDepth 100000 in
theorem coApart (h : CoAt w b F s R f) (ok : s.Base) (n v : Int) (hn : s.there n = true) : Calls Try.prog 56 #[pv b, .int .i64 n, .int .i64 v] w fun e w' => e = .returned (.tuple #[.int .i64 (s.side n v false), .int .i64 (s.side n v true)]) ∧ Below w.heap.size w w' := by
  have HO := coIsOf h ok n v hn
  go_enter Try.func56, Try.ntmps56
  cases ho : s.isOf n v
  · have e1 : ∀ z, s.side n v z = n := fun z => by simp [MS.side, ho]
    rw [e1, e1]
    rw [ho] at HO
    clear h
    go_wp2_with fail
    refine HO.mono ?_
    rintro e w1 ⟨rfl, hb⟩
    clear HO
    go_wp2
    go_ret2
    exact ⟨rfl, hb⟩
  · have e1 : s.side n v false = (s.nd n).lo := by simp [MS.side, ho]
    have e2 : s.side n v true = (s.nd n).hi := by simp [MS.side, ho]
    rw [e1, e2]
    rw [ho] at HO
    have hh := (MS.isOf_iff.1 ho).1
    have HA := fun u : Sub w => coAt (h.sub u) ok hh
    clear h
    unfold plv at HA
    go_wp2_with fail
    refine HO.mono ?_
    rintro e w1 ⟨rfl, hb⟩
    clear HO
    go_wp2_with fail
    refine (HA ⟨w1, hb⟩).mono ?_
    rintro e w2 ⟨rfl, hb2⟩
    replace hb := hb.trans (hb2.mono hb.size)
    clear HA hb2
    go_wp2
    have hP := HoldsP.new w2 (s.nd n) (f n)
    have hb3 : Below w.heap.size w (w2.alloc (.cells #[.int .i64 (s.nd n).var, .int .i64 (s.nd n).lo, .int .i64 (s.nd n).hi, .int .i64 (f n)] 74)) := hb.alloc hb.size _
    generalize w2.alloc (.cells #[.int .i64 (s.nd n).var, .int .i64 (s.nd n).lo, .int .i64 (s.nd n).hi, .int .i64 (f n)] 74) = W at *
    obtain ⟨p0, p1, p2⟩ := hP.cells
    go_region
    go_wp2
    go_ret2
    exact ⟨rfl, hb3.drew⟩

set_option maxRecDepth 100000 in
set_option maxHeartbeats 1000000 in
theorem coAll (h : CoAt w b F s R f) (ok : s.Base) : Calls Try.prog 10 #[pv b] w fun e w' => ∃ v', e = .returned v' ∧ WRel w s.all v' w' := by
  have hfew := ok.few
  have H := fun wr (hb : Below w.heap.size w wr) (n : Int) (hn : n ≤ 9223372036854775807 ∧ -9223372036854775808 ≤ n) => coHas (h.below hb) ok n hn
  obtain ⟨bA, FA, bT, FT, v, X, tabs, rfl, hR, c⟩ := h
  obtain ⟨a, cp, rfl⟩ := hR.form
  have hl := c.len
  rw [hl] at hR
  have c18 := hR.cell.2.2
  clear hR c
  have hlen : s.all = (numsTo s.N.length).filter s.has := rfl
  rw [hlen]
  clear hlen hl
  go_enter Try.func10, Try.ntmps10
  go_wp2
  go_loopw [3, 11] (fun vo i wr => ∃ k : Nat, k ≤ s.N.length ∧ i = .int .i64 (k : Int) ∧ WRel w ((numsTo k).filter s.has) vo wr) (fun _ i _ => s.N.length - (intOf i).toNat)
  case atStart => exact ⟨0, Nat.zero_le _, rfl, Owns.nil _ _, (fun g h => by cases h), Below.refl _ _⟩
  case round =>
    obtain ⟨k, hk, rfl, Rr⟩ := hrel
    by_cases hlt : k < s.N.length
    · have hstep := numsTo_filter s.has k
      have hl := numsTo_filter_length s.has k
      have hki : (k : Int) < (s.N.length : Int) := by omega
      have HH := H wr Rr.below ((k : Int) + 2) (by omega)
      clear H
      cases hh : s.has ((k : Int) + 2)
      · rw [hh] at hstep HH
        simp only [Bool.false_eq_true, if_false, List.append_nil] at hstep
        have HS := Lib.hid hstep
        clear hstep hh
        go_wp2_with fail
        refine HH.mono ?_
        rintro e w1 ⟨rfl, rfl⟩
        clear HH
        go_wp2
        exact ⟨⟨k + 1, by omega, by go_num, by rw [HS.out]; exact Rr⟩, by simp [intOf]; omega⟩
      · rw [hh] at hstep HH
        simp only [if_true] at hstep
        have HS := Lib.hid hstep
        clear hstep hh
        have hA := Rr.own.alloc (.cells #[.int .i64 ((k : Int) + 2)] 3)
        have hsrc := oneI wr ((k : Int) + 2) wr.heap.size rfl
        have hln : ((numsTo k).filter s.has).length + [(k : Int) + 2].length ≤ 1000000 := by simp at hl ⊢; omega
        go_wp2_with fail
        refine HH.mono ?_
        rintro e w1 ⟨rfl, rfl⟩
        clear HH
        go_wp2_with (at_builtin; refine appendI rfl (.tmp 19) (.tmp 21) rfl _ _ ((numsTo k).filter s.has) [(k : Int) + 2] rfl hA rfl hsrc hln ?_; intro v' w2 hown hgr hat)
        refine ⟨⟨k + 1, by omega, by go_num, by rw [HS.out]; exact hown, fun g hg => ?_, ?_⟩, by simp [intOf]; omega⟩
        · rcases hat with hat | hat
          · exact Rr.new g (hat ▸ hg)
          · rw [hat] at hg; injection hg with hg; have := Rr.below.size; simp at hg; omega
        · exact (Rr.below.alloc Rr.below.size _).grown hgr (by have := Rr.below.size; simp; omega) Rr.new
    · obtain rfl : k = s.N.length := by omega
      clear H
      go_wp2
      go_ret
      exact ⟨_, rfl, Rr⟩

set_option maxRecDepth 100000 in
set_option maxHeartbeats 2000000 in
theorem coChanging (h : CoAt w b F s R f) (ok : s.Base) (hc : s.Closed) (x y : Int) : Calls Try.prog 35 #[pv b, .int .i64 x, .int .i64 y] w fun e w' => ∃ v', e = .returned v' ∧ WRel w (s.changes x y) v' w' := by
  have hfew := ok.few
  have hch : s.changes x y = s.all.filter (s.chg x y) := rfl
  rw [hch]
  clear hch
  have HAll := coAll h ok
  go_enter Try.func35, Try.ntmps35
  go_wp2_with fail
  refine HAll.mono ?_
  rintro e w1 ⟨vA, rfl, RA⟩
  obtain ⟨aA, cA, rfl, _⟩ := RA.own.form
  have hal : s.all.length ≤ 20000 := Nat.le_trans (numsTo_filter_length s.has s.N.length) hfew
  clear HAll
  go_wp2
  go_loopw [7, 14] (fun vo i wr => ∃ k : Nat, k ≤ s.all.length ∧ i = .int .i64 k ∧ WRel w1 ((s.all.take k).filter (s.chg x y)) vo wr) (fun _ i _ => s.all.length - (intOf i).toNat)
  case atStart => exact ⟨0, Nat.zero_le _, rfl, Owns.nil _ _, (fun g h => by cases h), Below.refl _ _⟩
  case round =>
    obtain ⟨k, hk, rfl, Rr⟩ := hrel
    by_cases hlt : k < s.all.length
    · obtain ⟨hyes, hno⟩ := filter_take (s.chg x y) s.all k hlt
      obtain ⟨ad, rfl, cAk⟩ := (RA.own.reads.keep Rr.below).intAt k hlt
      have hhas : s.has s.all[k] = true := ok.mem_all.1 (List.getElem_mem hlt)
      generalize hn : s.all[k] = n at *
      have hfl : ((s.all.take k).filter (s.chg x y)).length ≤ k := Nat.le_trans (List.length_filter_le _ _) (by simp; omega)
      have hln : ((s.all.take k).filter (s.chg x y)).length + [n].length ≤ 1000000 := by simp at hfl ⊢; omega
      have hk1 : (k : Int) < (s.all.length : Int) := by omega
      have hb1 := RA.below.trans (Rr.below.mono RA.below.size)
      have HA := coAt (h.below hb1) ok hhas
      unfold plv at HA
      go_wp2_with fail
      refine HA.mono ?_
      rintro e w2 ⟨rfl, hb2⟩
      clear HA cAk
      replace Rr := Rr.keep' hb2
      have hP := HoldsP.new w2 (s.nd n) (f n)
      have hbA : Below w2.heap.size w2 (w2.alloc (.cells #[.int .i64 (s.nd n).var, .int .i64 (s.nd n).lo, .int .i64 (s.nd n).hi, .int .i64 (f n)] 74)) := by go_grown
      replace Rr := Rr.keep' hbA
      replace hb1 := (hb1.trans (hb2.mono hb1.size)).trans (hbA.mono (hb1.trans (hb2.mono hb1.size)).size)
      clear hbA hb2
      obtain ⟨p0, p1, p2⟩ := hP.cells
      have HL := fun W hb => coIsOf (w := W) (h.below hb) ok (s.nd n).lo y (hc n hhas).1
      have HI := fun W hb => coIsOf (w := W) (h.below hb) ok (s.nd n).hi y (hc n hhas).2
      have hP' := fun W (hb : Below _ _ W) => (HoldsP.below hP (w' := W) hb).cells
      clear hP
      replace hyes := Lib.hid hyes
      replace hno := Lib.hid hno
      replace RA := Lib.hid RA
      replace h := Lib.hid h
      by_cases hv : (s.nd n).var = x
      · have hvb : ((s.nd n).var == x) = true := by rw [beq_iff_eq]; exact hv
        replace hv := Lib.hid hv
        cases hLO : s.isOf (s.nd n).lo y
        · have HL1 := HL
          simp only [hLO] at HL1
          cases hHI : s.isOf (s.nd n).hi y
          · have HI1 := HI
            simp only [hHI] at HI1
            have HS := Lib.hid (hno.out (by simp [MS.chg, hLO, hHI]))
            clear hyes hno HL HI
            go_wp2_with fail
            generalize w2.alloc (.cells #[.int .i64 (s.nd n).var, .int .i64 (s.nd n).lo, .int .i64 (s.nd n).hi, .int .i64 (f n)] 74) = W at *
            refine (HL1 W hb1).mono ?_
            rintro e w3 ⟨rfl, hb3⟩
            replace Rr := Rr.keep' hb3
            replace hb1 := hb1.trans (hb3.mono hb1.size)
            obtain ⟨p0, p1, p2⟩ := hP' _ hb3
            clear HL1 hP'
            go_wp2_with fail
            refine (HI1 w3 hb1).mono ?_
            rintro e w5 ⟨rfl, hb5⟩
            replace Rr := Rr.keep' hb5
            clear HI1
            go_wp2
            exact ⟨⟨k + 1, by omega, by go_num, by rw [HS.out]; exact Rr⟩, by simp [intOf]; omega⟩
          · have HI1 := HI
            simp only [hHI] at HI1
            have HS := Lib.hid (hyes.out (by simp [MS.chg, hv.out, hLO, hHI]))
            clear hyes hno HL HI
            go_wp2_with fail
            generalize w2.alloc (.cells #[.int .i64 (s.nd n).var, .int .i64 (s.nd n).lo, .int .i64 (s.nd n).hi, .int .i64 (f n)] 74) = W at *
            refine (HL1 W hb1).mono ?_
            rintro e w3 ⟨rfl, hb3⟩
            replace Rr := Rr.keep' hb3
            replace hb1 := hb1.trans (hb3.mono hb1.size)
            obtain ⟨p0, p1, p2⟩ := hP' _ hb3
            clear HL1 hP'
            go_wp2_with fail
            refine (HI1 w3 hb1).mono ?_
            rintro e w5 ⟨rfl, hb5⟩
            replace Rr := Rr.keep' hb5
            clear HI1
            have hA := Rr.own.alloc (.cells #[.int .i64 n] 3)
            have hsrc := oneI w5 n w5.heap.size rfl
            go_wp2_with (at_builtin; refine appendI rfl (.tmp 42) (.tmp 44) rfl _ _ ((s.all.take k).filter (s.chg x y)) [n] rfl hA rfl hsrc hln ?_; intro v' w4 hown hgr hat)
            refine ⟨⟨k + 1, by omega, by go_num, by rw [HS.out]; exact hown, fun g hg => ?_, ?_⟩, by simp [intOf]; omega⟩
            · rcases hat with hat | hat
              · exact Rr.new g (hat ▸ hg)
              · rw [hat] at hg; injection hg with hg; have := Rr.below.size; simp at hg; omega
            · exact (Rr.below.alloc Rr.below.size _).grown hgr (by have := Rr.below.size; simp; omega) Rr.new
        · have HL1 := HL
          simp only [hLO] at HL1
          have HS := Lib.hid (hyes.out (by simp [MS.chg, hv.out, hLO]))
          clear hyes hno HL HI
          go_wp2_with fail
          generalize w2.alloc (.cells #[.int .i64 (s.nd n).var, .int .i64 (s.nd n).lo, .int .i64 (s.nd n).hi, .int .i64 (f n)] 74) = W at *
          refine (HL1 W hb1).mono ?_
          rintro e w3 ⟨rfl, hb3⟩
          replace Rr := Rr.keep' hb3
          replace hb1 := hb1.trans (hb3.mono hb1.size)
          obtain ⟨p0, p1, p2⟩ := hP' _ hb3
          clear HL1 hP'
          have hA := Rr.own.alloc (.cells #[.int .i64 n] 3)
          have hsrc := oneI w3 n w3.heap.size rfl
          go_wp2_with (at_builtin; refine appendI rfl (.tmp 42) (.tmp 44) rfl _ _ ((s.all.take k).filter (s.chg x y)) [n] rfl hA rfl hsrc hln ?_; intro v' w4 hown hgr hat)
          refine ⟨⟨k + 1, by omega, by go_num, by rw [HS.out]; exact hown, fun g hg => ?_, ?_⟩, by simp [intOf]; omega⟩
          · rcases hat with hat | hat
            · exact Rr.new g (hat ▸ hg)
            · rw [hat] at hg; injection hg with hg; have := Rr.below.size; simp at hg; omega
          · exact (Rr.below.alloc Rr.below.size _).grown hgr (by have := Rr.below.size; simp; omega) Rr.new
      · have hvb : ((s.nd n).var == x) = false := by rw [beq_eq_false_iff_ne]; exact hv
        have HS := Lib.hid (hno.out (by simp [MS.chg, hv]))
        clear hyes hno hv
        go_wp2
        exact ⟨⟨k + 1, by omega, by go_num, by rw [HS.out]; exact Rr⟩, by simp [intOf]; omega⟩
    · obtain rfl : k = s.all.length := by omega
      rw [List.take_length] at Rr
      go_wp2
      go_ret
      exact ⟨_, rfl, Rr.own, fun g hg => Nat.le_trans RA.below.size (Rr.new g hg), RA.below.trans (Rr.below.mono RA.below.size)⟩
end

end Go.Proofs.Ytbnjbnjhpccomaa
