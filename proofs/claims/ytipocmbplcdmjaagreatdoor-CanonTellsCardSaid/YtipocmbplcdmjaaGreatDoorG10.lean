/-
  Texts of this proof, one behind the other: CoW2, CoX, CoO.
-/
import Derived.Test.YtipocmbplcdmjaaGreatDoorG9
/-
  Walks of the code's store: what only looks, more.
-/
namespace Go.Proofs.YtipocmbplcdmjaaGreatDoor
open Go Go.RowKit

section
variable {w : World} {b : Nat} {F : Nat → Prop} {s : MS} {R : List Int} {f : Int → Int}

set_option maxRecDepth 100000 in
set_option maxHeartbeats 1000000 in
theorem coFits (h : CoAt w b F s R f) (ok : s.Base) (n l v : Int) (hn : n ≤ 9223372036854775807 ∧ -9223372036854775808 ≤ n) (hl : l = levO s.o v) : Calls Tryz.prog 67 #[pv b, .int .i64 n, .int .i64 l] w fun e w' => e = .returned (.bool (s.behind n v)) ∧ Below w.heap.size w w' := by
  subst hl
  have HC := coIsConst n w
  go_enter Tryz.func67, Tryz.ntmps67
  by_cases hc : isC n = true
  · have e2 : s.behind n v = true := MS.behind_const (isC_not (s := s) hc).2
    rw [e2]
    rw [hc] at HC
    clear h
    go_wp2_with fail
    refine HC.mono ?_
    rintro e w1 ⟨rfl, rfl⟩
    clear HC
    go_wp2
    go_ret
    exact ⟨rfl, Below.refl _ _⟩
  · have hc' : isC n = false := by simpa using hc
    rw [hc'] at HC
    have hx := isC_no hc'
    have HH := fun u : Sub w => coHas (h.sub u) ok n hn
    cases hh : s.has n
    · have e2 : s.behind n v = false := by simp [MS.behind, MS.node, hh, hx]
      rw [e2]
      rw [hh] at HH
      clear h
      go_wp2_with fail
      refine HC.mono ?_
      rintro e w1 ⟨rfl, rfl⟩
      clear HC
      go_wp2
      refine wp_region_quiet_all (C := fun w' => ∃ u : Sub w, w' = u.1) (by kernel_rfl) (by kernel_rfl) (InSub.drew w) ?_
      iterate 2 (go_big_quiet_step (fail))
      go_big_quiet_step (exact subSame (HH _))
      go_big_quiet_step (fail)
      iterate 12 go_big_quiet_skip
      iterate 2 (go_big_quiet_step (fail))
      refine wpQuiet_nil ?_
      clear HH
      intro w' hw'
      obtain ⟨u, rfl⟩ := hw'
      go_wp2
      go_ret
      exact ⟨rfl, u.2⟩
    · have e2 : s.behind n v = decide (levO s.o (s.nd n).var > levO s.o v) := MS.behind_node hh
      rw [e2]
      rw [hh] at HH
      have HA := fun u : Sub w => coAt (h.sub u) ok hh
      have HL := fun u : Sub w => permLevel s.o (s.nd n).var u.1
      obtain ⟨bA, FA, bT, FT, vv, X, tabs, rfl, hR, c⟩ := h
      have c1 := fun u : Sub w => (hR.sub u).order.1
      have c2 := fun u : Sub w => (hR.sub u).order.2.1
      have c3 := fun u : Sub w => (hR.sub u).order.2.2.1
      have c4 := fun u : Sub w => (hR.sub u).order.2.2.2.1
      have c5 := fun u : Sub w => (hR.sub u).order.2.2.2.2.1
      have c6 := fun u : Sub w => (hR.sub u).order.2.2.2.2.2.1
      have c7 := fun u : Sub w => (hR.sub u).order.2.2.2.2.2.2.1
      have c8 := fun u : Sub w => (hR.sub u).order.2.2.2.2.2.2.2
      have q0 := fieldP (s.nd n) (f n)
      have q1 := fieldV (s.nd n)
      unfold plv at HA
      simp only [ov] at HL
      clear hR c
      generalize levO s.o (s.nd n).var = X at *
      generalize levO s.o v = Y at *
      go_wp2_with fail
      refine HC.mono ?_
      rintro e w1 ⟨rfl, rfl⟩
      clear HC
      go_wp2
      refine wp_region_quiet_all (C := fun w' => ∃ u : Sub w, w' = u.1) (by kernel_rfl) (by kernel_rfl) (InSub.drew w) ?_
      iterate 2 (go_big_quiet_step (fail))
      go_big_quiet_step (exact subSame (HH _))
      iterate 7 (go_big_quiet_step (fail))
      go_big_quiet_step (exact subBelow (HA _))
      iterate 2 (go_big_quiet_step (fail))
      go_big_quiet_step (exact subBelow (HL _))
      iterate 4 (go_big_quiet_step (fail))
      refine wpQuiet_nil ?_
      clear HH HA HL c1 c2 c3 c4 c5 c6 c7 c8
      intro w' hw'
      obtain ⟨u, rfl⟩ := hw'
      go_wp2
      go_ret
      exact ⟨rfl, u.2⟩

set_option maxRecDepth 100000 in
theorem coApart (h : CoAt w b F s R f) (ok : s.Base) (n v : Int) (hn : s.there n = true) : Calls Tryz.prog 75 #[pv b, .int .i64 n, .int .i64 v] w fun e w' => e = .returned (.tuple #[.int .i64 (s.side n v false), .int .i64 (s.side n v true)]) ∧ Below w.heap.size w w' := by
  have HO := coIsOf h ok n v hn
  go_enter Tryz.func75, Tryz.ntmps75
  cases ho : s.isOf n v
  · have e1 : ∀ z, s.side n v z = n := fun z => by simp [MS.side, ho]
    rw [e1, e1]
    rw [ho] at HO
    clear h
    go_wp2_with fail
    refine HO.mono ?_
    rintro e w1 ⟨rfl, hb⟩
    clear HO
    go_wp2
    go_ret2
    exact ⟨rfl, hb⟩
  · have e1 : s.side n v false = (s.nd n).lo := by simp [MS.side, ho]
    have e2 : s.side n v true = (s.nd n).hi := by simp [MS.side, ho]
    rw [e1, e2]
    rw [ho] at HO
    have hh := (MS.isOf_iff.1 ho).1
    have HA := fun u : Sub w => coAt (h.sub u) ok hh
    clear h
    unfold plv at HA
    go_wp2_with fail
    refine HO.mono ?_
    rintro e w1 ⟨rfl, hb⟩
    clear HO
    go_wp2_with fail
    refine (HA ⟨w1, hb⟩).mono ?_
    rintro e w2 ⟨rfl, hb2⟩
    replace hb := hb.trans (hb2.mono hb.size)
    clear HA hb2
    go_wp2
    have hP := HoldsP.new w2 (s.nd n) (f n)
    have hb3 : Below w.heap.size w (w2.alloc (.cells #[.int .i64 (s.nd n).var, .int .i64 (s.nd n).lo, .int .i64 (s.nd n).hi, .int .i64 (f n)] 91)) := hb.alloc hb.size _
    generalize w2.alloc (.cells #[.int .i64 (s.nd n).var, .int .i64 (s.nd n).lo, .int .i64 (s.nd n).hi, .int .i64 (f n)] 91) = W at *
    obtain ⟨p0, p1, p2⟩ := hP.cells
    go_region
    go_wp2
    go_ret2
    exact ⟨rfl, hb3.drew⟩

set_option maxRecDepth 100000 in
set_option maxHeartbeats 1000000 in
theorem coAll (h : CoAt w b F s R f) (ok : s.Base) : Calls Tryz.prog 28 #[pv b] w fun e w' => ∃ v', e = .returned v' ∧ WRel w s.all v' w' := by
  have hfew := ok.few
  have H := fun wr (hb : Below w.heap.size w wr) (n : Int) (hn : n ≤ 9223372036854775807 ∧ -9223372036854775808 ≤ n) => coHas (h.below hb) ok n hn
  obtain ⟨bA, FA, bT, FT, v, X, tabs, rfl, hR, c⟩ := h
  obtain ⟨a, cp, rfl⟩ := hR.form
  have hl := c.len
  rw [hl] at hR
  have c18 := hR.cell.2.2
  clear hR c
  have hlen : s.all = (numsTo s.N.length).filter s.has := rfl
  rw [hlen]
  clear hlen hl
  go_enter Tryz.func28, Tryz.ntmps28
  go_wp2
  go_loopw [3, 11] (fun vo i wr => ∃ k : Nat, k ≤ s.N.length ∧ i = .int .i64 (k : Int) ∧ WRel w ((numsTo k).filter s.has) vo wr) (fun _ i _ => s.N.length - (intOf i).toNat)
  case atStart => exact ⟨0, Nat.zero_le _, rfl, Owns.nil _ _, (fun g h => by cases h), Below.refl _ _⟩
  case round =>
    obtain ⟨k, hk, rfl, Rr⟩ := hrel
    by_cases hlt : k < s.N.length
    · have hstep := numsTo_filter s.has k
      have hl := numsTo_filter_length s.has k
      have hki : (k : Int) < (s.N.length : Int) := by omega
      have HH := H wr Rr.below ((k : Int) + 2) (by omega)
      clear H
      cases hh : s.has ((k : Int) + 2)
      · rw [hh] at hstep HH
        simp only [Bool.false_eq_true, if_false, List.append_nil] at hstep
        have HS := Lib.hid hstep
        clear hstep hh
        go_wp2_with fail
        refine HH.mono ?_
        rintro e w1 ⟨rfl, rfl⟩
        clear HH
        go_wp2
        exact ⟨⟨k + 1, by omega, by go_num, by rw [HS.out]; exact Rr⟩, by simp [intOf]; omega⟩
      · rw [hh] at hstep HH
        simp only [if_true] at hstep
        have HS := Lib.hid hstep
        clear hstep hh
        have hA := Rr.own.alloc (.cells #[.int .i64 ((k : Int) + 2)] 3)
        have hsrc := oneI wr ((k : Int) + 2) wr.heap.size rfl
        have hln : ((numsTo k).filter s.has).length + [(k : Int) + 2].length ≤ 1000000 := by simp at hl ⊢; omega
        go_wp2_with fail
        refine HH.mono ?_
        rintro e w1 ⟨rfl, rfl⟩
        clear HH
        go_wp2_with (at_builtin; refine appendI rfl (.tmp 19) (.tmp 21) rfl _ _ ((numsTo k).filter s.has) [(k : Int) + 2] rfl hA rfl hsrc hln ?_; intro v' w2 hown hgr hat)
        refine ⟨⟨k + 1, by omega, by go_num, by rw [HS.out]; exact hown, fun g hg => ?_, ?_⟩, by simp [intOf]; omega⟩
        · rcases hat with hat | hat
          · exact Rr.new g (hat ▸ hg)
          · rw [hat] at hg; injection hg with hg; have := Rr.below.size; simp at hg; omega
        · exact (Rr.below.alloc Rr.below.size _).grown hgr (by have := Rr.below.size; simp; omega) Rr.new
    · obtain rfl : k = s.N.length := by omega
      clear H
      go_wp2
      go_ret
      exact ⟨_, rfl, Rr⟩

set_option maxRecDepth 100000 in
set_option maxHeartbeats 2000000 in
theorem coChanging (h : CoAt w b F s R f) (ok : s.Base) (hc : s.Closed) (x y : Int) : Calls Tryz.prog 44 #[pv b, .int .i64 x, .int .i64 y] w fun e w' => ∃ v', e = .returned v' ∧ WRel w (s.changes x y) v' w' := by
  have hfew := ok.few
  have hch : s.changes x y = s.all.filter (s.chg x y) := rfl
  rw [hch]
  clear hch
  have HAll := coAll h ok
  go_enter Tryz.func44, Tryz.ntmps44
  go_wp2_with fail
  refine HAll.mono ?_
  rintro e w1 ⟨vA, rfl, RA⟩
  obtain ⟨aA, cA, rfl, _⟩ := RA.own.form
  have hal : s.all.length ≤ 20000 := Nat.le_trans (numsTo_filter_length s.has s.N.length) hfew
  clear HAll
  go_wp2
  go_loopw [7, 14] (fun vo i wr => ∃ k : Nat, k ≤ s.all.length ∧ i = .int .i64 k ∧ WRel w1 ((s.all.take k).filter (s.chg x y)) vo wr) (fun _ i _ => s.all.length - (intOf i).toNat)
  case atStart => exact ⟨0, Nat.zero_le _, rfl, Owns.nil _ _, (fun g h => by cases h), Below.refl _ _⟩
  case round =>
    obtain ⟨k, hk, rfl, Rr⟩ := hrel
    by_cases hlt : k < s.all.length
    · obtain ⟨hyes, hno⟩ := filter_take (s.chg x y) s.all k hlt
      obtain ⟨ad, rfl, cAk⟩ := (RA.own.reads.keep Rr.below).intAt k hlt
      have hhas : s.has s.all[k] = true := ok.mem_all.1 (List.getElem_mem hlt)
      generalize hn : s.all[k] = n at *
      have hfl : ((s.all.take k).filter (s.chg x y)).length ≤ k := Nat.le_trans (List.length_filter_le _ _) (by simp; omega)
      have hln : ((s.all.take k).filter (s.chg x y)).length + [n].length ≤ 1000000 := by simp at hfl ⊢; omega
      have hk1 : (k : Int) < (s.all.length : Int) := by omega
      have hb1 := RA.below.trans (Rr.below.mono RA.below.size)
      have HA := coAt (h.below hb1) ok hhas
      unfold plv at HA
      go_wp2_with fail
      refine HA.mono ?_
      rintro e w2 ⟨rfl, hb2⟩
      clear HA cAk
      replace Rr := Rr.keep' hb2
      have hP := HoldsP.new w2 (s.nd n) (f n)
      have hbA : Below w2.heap.size w2 (w2.alloc (.cells #[.int .i64 (s.nd n).var, .int .i64 (s.nd n).lo, .int .i64 (s.nd n).hi, .int .i64 (f n)] 91)) := by go_grown
      replace Rr := Rr.keep' hbA
      replace hb1 := (hb1.trans (hb2.mono hb1.size)).trans (hbA.mono (hb1.trans (hb2.mono hb1.size)).size)
      clear hbA hb2
      obtain ⟨p0, p1, p2⟩ := hP.cells
      have HL := fun W hb => coIsOf (w := W) (h.below hb) ok (s.nd n).lo y (hc n hhas).1
      have HI := fun W hb => coIsOf (w := W) (h.below hb) ok (s.nd n).hi y (hc n hhas).2
      have hP' := fun W (hb : Below _ _ W) => (HoldsP.below hP (w' := W) hb).cells
      clear hP
      replace hyes := Lib.hid hyes
      replace hno := Lib.hid hno
      replace RA := Lib.hid RA
      replace h := Lib.hid h
      by_cases hv : (s.nd n).var = x
      · have hvb : ((s.nd n).var == x) = true := by rw [beq_iff_eq]; exact hv
        replace hv := Lib.hid hv
        cases hLO : s.isOf (s.nd n).lo y
        · have HL1 := HL
          simp only [hLO] at HL1
          cases hHI : s.isOf (s.nd n).hi y
          · have HI1 := HI
            simp only [hHI] at HI1
            have HS := Lib.hid (hno.out (by simp [MS.chg, hLO, hHI]))
            clear hyes hno HL HI
            go_wp2_with fail
            generalize w2.alloc (.cells #[.int .i64 (s.nd n).var, .int .i64 (s.nd n).lo, .int .i64 (s.nd n).hi, .int .i64 (f n)] 91) = W at *
            refine (HL1 W hb1).mono ?_
            rintro e w3 ⟨rfl, hb3⟩
            replace Rr := Rr.keep' hb3
            replace hb1 := hb1.trans (hb3.mono hb1.size)
            obtain ⟨p0, p1, p2⟩ := hP' _ hb3
            clear HL1 hP'
            go_wp2_with fail
            refine (HI1 w3 hb1).mono ?_
            rintro e w5 ⟨rfl, hb5⟩
            replace Rr := Rr.keep' hb5
            clear HI1
            go_wp2
            exact ⟨⟨k + 1, by omega, by go_num, by rw [HS.out]; exact Rr⟩, by simp [intOf]; omega⟩
          · have HI1 := HI
            simp only [hHI] at HI1
            have HS := Lib.hid (hyes.out (by simp [MS.chg, hv.out, hLO, hHI]))
            clear hyes hno HL HI
            go_wp2_with fail
            generalize w2.alloc (.cells #[.int .i64 (s.nd n).var, .int .i64 (s.nd n).lo, .int .i64 (s.nd n).hi, .int .i64 (f n)] 91) = W at *
            refine (HL1 W hb1).mono ?_
            rintro e w3 ⟨rfl, hb3⟩
            replace Rr := Rr.keep' hb3
            replace hb1 := hb1.trans (hb3.mono hb1.size)
            obtain ⟨p0, p1, p2⟩ := hP' _ hb3
            clear HL1 hP'
            go_wp2_with fail
            refine (HI1 w3 hb1).mono ?_
            rintro e w5 ⟨rfl, hb5⟩
            replace Rr := Rr.keep' hb5
            clear HI1
            have hA := Rr.own.alloc (.cells #[.int .i64 n] 3)
            have hsrc := oneI w5 n w5.heap.size rfl
            go_wp2_with (at_builtin; refine appendI rfl (.tmp 42) (.tmp 44) rfl _ _ ((s.all.take k).filter (s.chg x y)) [n] rfl hA rfl hsrc hln ?_; intro v' w4 hown hgr hat)
            refine ⟨⟨k + 1, by omega, by go_num, by rw [HS.out]; exact hown, fun g hg => ?_, ?_⟩, by simp [intOf]; omega⟩
            · rcases hat with hat | hat
              · exact Rr.new g (hat ▸ hg)
              · rw [hat] at hg; injection hg with hg; have := Rr.below.size; simp at hg; omega
            · exact (Rr.below.alloc Rr.below.size _).grown hgr (by have := Rr.below.size; simp; omega) Rr.new
        · have HL1 := HL
          simp only [hLO] at HL1
          have HS := Lib.hid (hyes.out (by simp [MS.chg, hv.out, hLO]))
          clear hyes hno HL HI
          go_wp2_with fail
          generalize w2.alloc (.cells #[.int .i64 (s.nd n).var, .int .i64 (s.nd n).lo, .int .i64 (s.nd n).hi, .int .i64 (f n)] 91) = W at *
          refine (HL1 W hb1).mono ?_
          rintro e w3 ⟨rfl, hb3⟩
          replace Rr := Rr.keep' hb3
          replace hb1 := hb1.trans (hb3.mono hb1.size)
          obtain ⟨p0, p1, p2⟩ := hP' _ hb3
          clear HL1 hP'
          have hA := Rr.own.alloc (.cells #[.int .i64 n] 3)
          have hsrc := oneI w3 n w3.heap.size rfl
          go_wp2_with (at_builtin; refine appendI rfl (.tmp 42) (.tmp 44) rfl _ _ ((s.all.take k).filter (s.chg x y)) [n] rfl hA rfl hsrc hln ?_; intro v' w4 hown hgr hat)
          refine ⟨⟨k + 1, by omega, by go_num, by rw [HS.out]; exact hown, fun g hg => ?_, ?_⟩, by simp [intOf]; omega⟩
          · rcases hat with hat | hat
            · exact Rr.new g (hat ▸ hg)
            · rw [hat] at hg; injection hg with hg; have := Rr.below.size; simp at hg; omega
          · exact (Rr.below.alloc Rr.below.size _).grown hgr (by have := Rr.below.size; simp; omega) Rr.new
      · have hvb : ((s.nd n).var == x) = false := by rw [beq_eq_false_iff_ne]; exact hv
        have HS := Lib.hid (hno.out (by simp [MS.chg, hv]))
        clear hyes hno hv
        go_wp2
        exact ⟨⟨k + 1, by omega, by go_num, by rw [HS.out]; exact Rr⟩, by simp [intOf]; omega⟩
    · obtain rfl : k = s.all.length := by omega
      rw [List.take_length] at Rr
      go_wp2
      go_ret
      exact ⟨_, rfl, Rr.own, fun g hg => Nat.le_trans RA.below.size (Rr.new g hg), RA.below.trans (Rr.below.mono RA.below.size)⟩
end

end Go.Proofs.YtipocmbplcdmjaaGreatDoor

/-
  Walks of the code's store: hang, lay.
-/
namespace Go.Proofs.YtipocmbplcdmjaaGreatDoor
open Go Go.RowKit

theorem list_set_same {α : Type} {l : List α} {j : Nat} {v : α} (h : l[j]? = some v) : l.set j v = l := by
  refine List.ext_getElem? fun i => ?_
  rw [List.getElem?_set]
  split
  · rename_i e
    subst e
    have := (List.getElem?_eq_some_iff.1 h).1
    rw [if_pos this]
    exact h.symm
  · rfl
theorem encX_cell (X : List (Nd × Int)) (i : Nat) (hi : i < X.length) : (encX.all X)[i * 4]? = some (.int .i64 X[i].1.var) ∧ (encX.all X)[i * 4 + 1]? = some (.int .i64 X[i].1.lo) ∧ (encX.all X)[i * 4 + 2]? = some (.int .i64 X[i].1.hi) ∧ (encX.all X)[i * 4 + 3]? = some (.int .i64 X[i].2) :=
  ⟨encX.all_get X i hi 0 (by decide), encX.all_get X i hi 1 (by decide), encX.all_get X i hi 2 (by decide), encX.all_get X i hi 3 (by decide)⟩
/-- How often one is had, written. -/
theorem encX_above (X : List (Nd × Int)) (i : Nat) (hi : i < X.length) (k : Int) : encX.all (X.set i (X[i].1, k)) = (encX.all X).set (i * 4 + 3) (.int .i64 k) := by
  obtain ⟨h0, h1, h2, _⟩ := encX_cell X i hi
  rw [encX.all_set X i hi]
  show ((((encX.all X).set (i * 4) (.int .i64 X[i].1.var)).set (i * 4 + 1) (.int .i64 X[i].1.lo)).set (i * 4 + 1 + 1) (.int .i64 X[i].1.hi)).set (i * 4 + 1 + 1 + 1) (.int .i64 k) = _
  rw [list_set_same h0, list_set_same h1, list_set_same h2]
/-- A node, written. -/
theorem encX_node (X : List (Nd × Int)) (i : Nat) (hi : i < X.length) (x : Nd) : encX.all (X.set i (x, X[i].2)) = setMany (encX.all X) (i * 4) [.int .i64 x.var, .int .i64 x.lo, .int .i64 x.hi] := by
  obtain ⟨_, _, _, h3⟩ := encX_cell X i hi
  rw [encX.all_set X i hi]
  show ((((encX.all X).set (i * 4) (.int .i64 x.var)).set (i * 4 + 1) (.int .i64 x.lo)).set (i * 4 + 1 + 1) (.int .i64 x.hi)).set (i * 4 + 1 + 1 + 1) (.int .i64 X[i].2) = (((encX.all X).set (i * 4) (.int .i64 x.var)).set (i * 4 + 1) (.int .i64 x.lo)).set (i * 4 + 1 + 1) (.int .i64 x.hi)
  refine list_set_same ?_
  rw [List.getElem?_set_ne (by omega), List.getElem?_set_ne (by omega), List.getElem?_set_ne (by omega)]
  exact h3

section
variable {w : World} {b bA : Nat} {FA F : Nat → Prop} {bT : Nat → Nat} {FT : Nat → Nat → Prop} {v : Value} {o : Nat → Int} {ar : AS} {X : List (Nd × Int)} {tabs : Nat → TS} {s : MS} {R : List Int} {f : Int → Int}

theorem CoR.putNode {g n cap i : Nat} (h : CoR w b bA FA bT FT (.slice (some ⟨g, 0, none⟩) n cap) o ar X tabs) (hi : i < X.length) (x : Nd) :
    CoR (w.setCells g (i * 4) [.int .i64 x.var, .int .i64 x.lo, .int .i64 x.hi]) b bA FA bT FT (.slice (some ⟨g, 0, none⟩) n cap) o ar (X.set i (x, X[i].2)) tabs ∧ Keeps (footC b FA FT (.slice (some ⟨g, 0, none⟩) n cap)) w (w.setCells g (i * 4) [.int .i64 x.var, .int .i64 x.lo, .int .i64 x.hi]) := by
  refine h.setX rfl ?_ (Keeps.of_setCells (fun k => k = g) g rfl _ _ w)
  have hO := h.places
  obtain ⟨a, c, hv, _⟩ := hO.form
  injection hv with _ hn _
  subst hn
  have h1 := ownsRow_setCells [.int .i64 x.var, .int .i64 x.lo, .int .i64 x.hi] (i * 4) w _ hO
  unfold Owns
  rw [List.length_set, encX_node X i hi x]
  exact h1

/-- What a part of a node's sides has. -/
def cntK (x : Nd) (k : Nat) (m : Int) : Int := (if 1 ≤ k ∧ x.lo = m then 1 else 0) + (if 2 ≤ k ∧ x.hi = m then 1 else 0)
theorem cntK_zero (x : Nd) (m : Int) : cntK x 0 m = 0 := by simp [cntK]
theorem cntK_one (x : Nd) (m : Int) : cntK x 1 m = if x.lo = m then 1 else 0 := by simp [cntK]
theorem cntK_two (x : Nd) (m : Int) : cntK x 2 m = cnt x m := by simp [cntK, cnt]
theorem cntK_range (x : Nd) (k : Nat) (m : Int) : 0 ≤ cntK x k m ∧ cntK x k m ≤ 2 := by
  unfold cntK; split <;> split <;> decide

theorem cntK_next (x : Nd) {k : Nat} (hk : k < 2) {by' : Int} (hby : by' = 1 ∨ by' = -1) (m : Int) : by' * cntK x k m + (if (if k = 0 then x.lo else x.hi) = m then by' else 0) = by' * cntK x (k + 1) m := by
  rcases (by omega : k = 0 ∨ k = 1) with rfl | rfl
  · rw [cntK_zero, cntK_one, if_pos rfl]
    by_cases h1 : x.lo = m <;> simp [h1]
  · rw [cntK_one, cntK_two, show (if (1 : Nat) = 0 then x.lo else x.hi) = x.hi from rfl]
    unfold cnt
    rcases hby with rfl | rfl <;> by_cases h1 : x.lo = m <;> by_cases h2 : x.hi = m <;> simp [h1, h2]

/-- A constant is had by one more, or less: nothing is to be done. -/
theorem CoAt.bumpC (h : CoAt w b F s R f) {n : Int} (hc : n = 0 ∨ n = 1) (by' : Int) : CoAt w b F s R (fun m => f m + (if n = m then by' else 0)) := by
  obtain ⟨bA, FA, bT, FT, v, X, tabs, rfl, hR, c⟩ := h
  have h1 := c.bump n by' (by omega)
  have h2 : bump X n by' = X := by simp [bump, hc]
  rw [h2] at h1
  exact ⟨bA, FA, bT, FT, v, X, tabs, rfl, hR, h1⟩
/-- A node is. -/
theorem CoR.bumpN {g n1 cap : Nat} (h : CoR w b bA FA bT FT (.slice (some ⟨g, 0, none⟩) n1 cap) s.o s.ar X tabs) (c : s.Co R f X tabs) {n : Int} (h2 : 2 ≤ n) (hX : (n - 2).toNat < X.length) (by' : Int) :
    CoAt (w.setCell ⟨g, (n - 2).toNat * 4 + 3, none⟩ (.int .i64 (f n + by'))) b (footC b FA FT (.slice (some ⟨g, 0, none⟩) n1 cap)) s R (fun m => f m + (if n = m then by' else 0)) ∧
      Keeps (footC b FA FT (.slice (some ⟨g, 0, none⟩) n1 cap)) w (w.setCell ⟨g, (n - 2).toNat * 4 + 3, none⟩ (.int .i64 (f n + by'))) := by
  have h1 := c.bump n by' (by omega)
  have e : bump X n by' = X.set (n - 2).toNat (X[(n - 2).toNat].1, f n + by') := by
    have h3 := c.above _ hX
    rw [show ((n - 2).toNat : Int) + 2 = n by omega] at h3
    simp [bump, show ¬ (n = 0 ∨ n = 1) by omega, List.getD, hX, h3]
  obtain ⟨h4, h5⟩ := h.putCell (X' := bump X n by') (j := (n - 2).toNat * 4 + 3) (u := .int .i64 (f n + by')) (bump_length _ _ _) (by rw [e, encX_above X _ hX])
  exact ⟨⟨bA, FA, bT, FT, _, _, tabs, rfl, h4, h1⟩, h5⟩

set_option maxRecDepth 100000 in
set_option maxHeartbeats 1000000 in
theorem coHang (h : CoAt w b F s R f) (ok : s.Base) (x : Nd) (by' : Int) (hlo : s.there x.lo = true) (hhi : s.there x.hi = true) (hf : ∀ m, -100000 ≤ f m ∧ f m ≤ 100000) (hby : by' = 1 ∨ by' = -1) :
    Calls Tryz.prog 78 #[pv b, nv x, .int .i64 by'] w fun e w' => e = .returned (.tuple #[]) ∧ CoAt w' b F s R (fun m => f m + by' * cnt x m) ∧ Keeps F w w' := by
  have hfew := ok.few
  unfold nv
  go_enter Tryz.func78, Tryz.ntmps78
  go_wp2
  have hb : Below w.heap.size w (w.alloc (.cells #[.int .i64 x.var, .int .i64 x.lo, .int .i64 x.hi] 69)) := by go_grown
  replace h := h.below hb
  have hK0 := Keeps.of_below hb F
  generalize w.alloc (.cells #[.int .i64 x.var, .int .i64 x.lo, .int .i64 x.hi] 69) = W at *
  go_loopw [13] (fun i wr => ∃ k : Nat, k ≤ 2 ∧ i = .int .i64 k ∧ CoAt wr b F s R (fun m => f m + by' * cntK x k m) ∧ Keeps F w wr) (fun i _ => 2 - (intOf i).toNat)
  case atStart => exact ⟨0, by omega, rfl, h.congr fun m => by rw [cntK_zero]; omega, hK0⟩
  case round =>
    clear h hK0 hb
    obtain ⟨k, hk, rfl, h, hK⟩ := hrel
    by_cases hlt : k < 2
    · have hnext := cntK_next x hlt hby
      have hr := cntK_range x k
      have hthere : s.there (if k = 0 then x.lo else x.hi) = true := by split <;> assumption
      have hcm : ∀ W, CoAt W b F s R (fun m => (f m + by' * cntK x k m) + (if (if k = 0 then x.lo else x.hi) = m then by' else 0)) → CoAt W b F s R (fun m => f m + by' * cntK x (k + 1) m) := fun W hW => hW.congr fun m => by
        have := hnext m; omega
      have hbnd : ∀ m, -200000 ≤ f m + by' * cntK x k m ∧ f m + by' * cntK x k m ≤ 200000 := fun m => by
        have := hr m; have := hf m; rcases hby with rfl | rfl <;> omega
      have hix : ∀ W, (Instr.index 127 (.agg #[.int .i64 x.lo, .int .i64 x.hi]) (.int .i64 (k : Int))).run Tryz.prog W = .ok (.int .i64 (if k = 0 then x.lo else x.hi)) W := fun W => by
        rcases (by omega : k = 0 ∨ k = 1) with rfl | rfl <;> kernel_rfl
      clear hnext hr hlo hhi hf
      generalize hf1 : (fun m => f m + by' * cntK x k m) = f1 at *
      replace hbnd : ∀ m, -200000 ≤ f1 m ∧ f1 m ≤ 200000 := by subst hf1; exact hbnd
      replace hcm : ∀ W, CoAt W b F s R (fun m => f1 m + (if (if k = 0 then x.lo else x.hi) = m then by' else 0)) → CoAt W b F s R (fun m => f m + by' * cntK x (k + 1) m) := by subst hf1; exact hcm
      clear hf1
      generalize (if k = 0 then x.lo else x.hi) = n at *
      have hk2 : (k : Int) < 2 := by omega
      have HC := fun W => coIsConst n W
      replace hcm := Lib.hid hcm
      rcases MS.there_cases hthere with ⟨hc, _⟩ | hh
      · have hN := h.bumpC hc by'
        have e : isC n = true := by rcases hc with rfl | rfl <;> rfl
        rw [e] at HC
        clear h hc hthere
        go_wp2_with fail
        refine (HC _).mono ?_
        rintro e w1 ⟨rfl, rfl⟩
        clear HC
        go_wp2
        exact ⟨⟨k + 1, by omega, by go_num, hcm.out _ hN, hK⟩, by simp [intOf]; omega⟩
      · have e : isC n = false := isC_of ok hh
        rw [e] at HC
        have hbn := hbnd n
        obtain ⟨bA, FA, bT, FT, v, X, tabs, rfl, hR, c⟩ := h
        have hl := c.len
        obtain ⟨g, cap, rfl, h2, i0, i1, d0, d1, d2, d3⟩ := hR.node c ok hh
        have z3 := hR.places.free ((n - 2).toNat * 4 + 3)
        have c18 := hR.cell.2.2
        obtain ⟨hN, hK2⟩ := hR.bumpN c h2 (by omega) by'
        have HN := Lib.hid (hcm.out _ hN)
        have HK := Lib.hid (hK.and hK2)
        clear hR c hN hK2 hcm hbnd hK hthere
        go_wp2_with fail
        refine (HC _).mono ?_
        rintro e w1 ⟨rfl, rfl⟩
        clear HC
        go_wp2
        exact ⟨⟨k + 1, by omega, by go_num, HN.out, HK.out⟩, by simp [intOf]; omega⟩
    · obtain rfl : k = 2 := by omega
      go_wp2
      exact bodyPost_end (v := .tuple #[]) (by simp [results, Tryz.results78, go_sem]) rfl ⟨rfl, h.congr fun m => by rw [cntK_two], hK⟩

theorem chain_nodeC (W : World) (g k : Nat) (v0 v1 v2 : Value) : ((W.setCell ⟨g, k, none⟩ v0).setCell ⟨g, k + 1, none⟩ v1).setCell ⟨g, k + 2, none⟩ v2 = W.setCells g k [v0, v1, v2] := rfl
theorem MS.Base.setNd (h : s.Base) (n : Int) (x : Nd) : (s.setNd n x).Base := ⟨h.ar, by simp [MS.setNd, h.len]⟩

set_option maxRecDepth 100000 in
set_option maxHeartbeats 2000000 in
theorem coLay {n : Int} (h : CoAt w b F s (n :: R) f) (ok : s.Base) (hn : s.has n = true) (hnR : n ∉ R) (x : Nd) (hv : 0 ≤ x.var ∧ x.var ≤ 7) (hlo : s.there x.lo = true) (hhi : s.there x.hi = true) (hone : ∀ m, s.has m = true → m ∉ n :: R → s.nd m ≠ x) (hf : ∀ m, -100000 ≤ f m ∧ f m ≤ 100000) :
    Calls Tryz.prog 77 #[pv b, .int .i64 n, nv x] w fun e w' => e = .returned (.tuple #[]) ∧ ∃ F', CoAt w' b F' (s.setNd n x) R (fun m => f m + cnt x m) ∧ Keeps F w w' ∧ Within w F F' := by
  have hfew := ok.few
  obtain ⟨xv, xl, xh⟩ := x
  dsimp only at hv hlo hhi
  obtain ⟨vn, rfl⟩ := Int.eq_ofNat_of_zero_le hv.1
  have okn := ok.setNd n ⟨(vn : Int), xl, xh⟩
  have hv8 : vn < 8 := by omega
  have hv8' : (vn : Int) < 8 := by omega
  obtain ⟨bA, FA, bT, FT, v, X, tabs, rfl, hR, c⟩ := h
  have hl := c.len
  obtain ⟨g, cap, rfl, h2, i0, i1, _, _, _, _⟩ := hR.node c ok hn
  have hX : (n - 2).toNat < X.length := by omega
  obtain ⟨cL, hget⟩ := c.lay ok hn hnR hv8 xl xh hone
  have hput : (tabs vn).putB (xl, xh) = true := by simp [TS.putB, hget]
  have tok := c.ok vn hv8
  have tsl := c.slots vn hv8
  have e2 : (X.getD (n - 2).toNat (⟨0, 0, 0⟩, 0)).2 = X[(n - 2).toNat].2 := by simp [List.getD, hX]
  rw [e2] at cL
  clear e2 hget hone
  unfold nv
  dsimp only
  have hBF := hR.lt
  go_enter Tryz.func77, Tryz.ntmps77
  go_wp2
  have hx := HoldsN.new w ⟨(vn : Int), xl, xh⟩
  dsimp only at hx
  have hb : Below w.heap.size w (w.alloc (.cells #[.int .i64 (vn : Int), .int .i64 xl, .int .i64 xh] 69)) := by go_grown
  replace hR := hR.below hb
  have hK := Keeps.of_below hb (footC b FA FT (.slice (some ⟨g, 0, none⟩) X.length cap))
  generalize w.alloc (.cells #[.int .i64 (vn : Int), .int .i64 xl, .int .i64 xh] 69) = W at *
  have c18 := fun u : Sub W => (hR.sub u).cell.2.2
  have x0 := fun u : Sub W => (HoldsN.sub hx u).cells.1
  have x1 := fun u : Sub W => (HoldsN.sub hx u).cells.2.1
  have x2 := fun u : Sub W => (HoldsN.sub hx u).cells.2.2
  dsimp only at x0 x1 x2
  replace cL := Lib.hid cL
  refine wp_region_quiet_tail (C := fun w' => ∃ u : Sub W, w' = u.1) 9 (by kernel_rfl) (by kernel_rfl) (InSub.drew W) ?_
  simp only [List.take_succ_cons, List.take_zero]
  iterate 9 (go_big_quiet_step (fail))
  refine wpQuiet_nil ?_
  clear c18 x0 x1 x2
  intro w' hw'
  obtain ⟨u, rfl⟩ := hw'
  have hR5 := hR.sub u
  have hx5 := HoldsN.sub hx u
  have hk5 := hK.and (Keeps.of_below u.2 _)
  clear hR hK hx
  generalize u.1 = W5 at *
  obtain ⟨q0, q1, q2, q3⟩ := placeX hR5.places (n - 2).toNat hX
  have y0 := hR5.places.free ((n - 2).toNat * 4)
  have y1 := hR5.places.free ((n - 2).toNat * 4 + 1)
  have y2 := hR5.places.free ((n - 2).toNat * 4 + 2)
  obtain ⟨hR6, hk6⟩ := hR5.putNode hX ⟨(vn : Int), xl, xh⟩
  have hx6 := hx5.keep hk6 (fun e => by have := hBF _ e; omega)
  replace hk6 := hk5.and hk6
  dsimp only at hR6 hk6 hx6
  have HR6 := Lib.hid hR6
  have HK6 := Lib.hid hk6
  have HX6 := Lib.hid hx6
  clear hR5 hx5 hk5 hR6 hk6 hx6 q3
  simp only [List.drop_succ_cons, List.drop_zero]
  apply wpList_step
  intro K1 hK1
  go_simp
  apply hK1
  clear hK1 q0 q1 q2 y0 y1 y2
  rw [chain_nodeC]
  have hR := HR6.out
  have hK := HK6.out
  have hx := HX6.out
  clear HR6 HK6 HX6
  generalize W5.setCells g ((n - 2).toNat * 4) [.int .i64 (vn : Int), .int .i64 xl, .int .i64 xh] = W6 at *
  refine wpList_nil ?_
  have x0 := fun u : Sub W6 => (HoldsN.sub hx u).cells.1
  have x1 := fun u : Sub W6 => (HoldsN.sub hx u).cells.2.1
  have x2 := fun u : Sub W6 => (HoldsN.sub hx u).cells.2.2
  dsimp only at x0 x1 x2
  have ct := fun u : Sub W6 => (hR.sub u).table vn hv8
  go_wp2
  refine wp_region_quiet_tail (C := fun w' => ∃ u : Sub W6, w' = u.1) 12 (by kernel_rfl) (by kernel_rfl) (InSub.drew W6) ?_
  simp only [List.take_succ_cons, List.take_zero]
  iterate 12 (go_big_quiet_step (fail))
  refine wpQuiet_nil ?_
  clear x0 x1 x2 ct
  intro w' hw'
  obtain ⟨u, rfl⟩ := hw'
  have hR7 := hR.sub u
  have hx7 := HoldsN.sub hx u
  have hk7 := hK.and (Keeps.of_below u.2 _)
  clear hR hK hx
  generalize u.1 = W7 at *
  have HP := uniqPutS (hR7.tab vn hv8) tok (by omega) xl xh n
  rw [hput] at HP
  simp only [List.drop_succ_cons, List.drop_zero]
  apply wpList_step
  intro K1 hK1
  go_simp
  refine HP.mono ?_
  rintro e W8 ⟨rfl, FT', hU, hKU, hWU⟩
  clear HP
  obtain ⟨hR8, hK8, hW8⟩ := hR7.setTab hv8 hU hKU hWU
  have hx8 := hx7.keep hK8 (fun e => by have := hBF _ e; omega)
  have hsz := hk7.size
  have hKf := hk7.and hK8
  have hWf : Within w (footC b FA FT (.slice (some ⟨g, 0, none⟩) X.length cap)) (footC b FA (upd FT vn FT') (.slice (some ⟨g, 0, none⟩) X.length cap)) := fun k hk => (hW8 k hk).imp id (fun h => by omega)
  clear hR7 hx7 hk7 hU hKU hWU hK8 hW8
  apply hK1
  clear hK1
  refine wpList_nil ?_
  have hlX : (X.set (n - 2).toNat (⟨(vn : Int), xl, xh⟩, X[(n - 2).toNat].2)).length = X.length := List.length_set ..
  have hC : CoAt W8 b (footC b FA (upd FT vn FT') (.slice (some ⟨g, 0, none⟩) X.length cap)) (s.setNd n ⟨(vn : Int), xl, xh⟩) R f := ⟨bA, FA, bT, upd FT vn FT', _, _, _, rfl, hR8, cL.out⟩
  have HH := coHang hC okn ⟨(vn : Int), xl, xh⟩ 1 hlo hhi hf (.inl rfl)
  unfold nv at HH
  dsimp only at HH
  obtain ⟨x0, x1, x2⟩ := hx8.cells
  dsimp only at x0 x1 x2
  clear hR8 hC hx8 cL tok
  go_wp2_with fail
  refine HH.mono ?_
  rintro e W9 ⟨rfl, hC9, hK9⟩
  clear HH
  go_wp2
  exact bodyPost_end (v := .tuple #[]) (by simp [results, Tryz.results77, go_sem]) rfl ⟨rfl, _, hC9.congr fun m => by omega, hKf.trans hK9 hWf, hWf⟩
end

end Go.Proofs.YtipocmbplcdmjaaGreatDoor

/-
  Walks of the code's store: obtain, Mk.
-/
namespace Go.Proofs.YtipocmbplcdmjaaGreatDoor
open Go Go.RowKit

section
variable {w w' : World} {b bA : Nat} {FA F : Nat → Prop} {bT : Nat → Nat} {FT : Nat → Nat → Prop} {v v' : Value} {o : Nat → Int} {ar : AS} {X X' : List (Nd × Int)} {tabs : Nat → TS} {s : MS} {R : List Int} {f : Int → Int}

theorem appendX {ops : Array Oper} {rest : List Oper} {o : Oper} {a : Act} {w : World} {Q : Exit → Act → World → Prop} (hgd : o.guard = none) (s x : Operand)
    (ho : o.op = .call { callee := .builtin .append, args := #[s, x], argTypes := #[76, 76] })
    (v y : Value) (l k : List (Nd × Int)) (hs : a.eval s = v) (hown : Owns encX w v l) (hx : a.eval x = y) (hsrc : Reads encX w y k) (hn : l.length + k.length ≤ 1000000)
    (h : ∀ v' w', Owns encX w' v' (l ++ k) → w.grownBy w' v.ownBlock → (v'.ownBlock = v.ownBlock ∨ v'.ownBlock = some w.heap.size) → wpList Tryz.prog ops Q rest (a.put o.dst v') w') : wpList Tryz.prog ops Q (o :: rest) a w :=
  wpList_append_owns encX hgd s x ho v y l k hs hown hx hsrc hn h
theorem oneX (w : World) (b : Nat) (hb : b = w.heap.size := by rfl) : Reads encX (w.alloc (.cells #[.int .i64 0, .int .i64 0, .int .i64 0, .int .i64 0] 91)) (.slice (some ⟨b, 0, none⟩) 1 1) [(⟨0, 0, 0⟩, 0)] := Reads.one encX w _ _ rfl b hb

/-- The places have grown, and are stored anew. -/
theorem CoR.grown (h : CoR w b bA FA bT FT v o ar X tabs) (hO : Owns encX w' v' X') (hg : w.grownBy w' v.ownBlock) (hat : v'.ownBlock = v.ownBlock ∨ v'.ownBlock = some w.heap.size) :
    CoR (w'.setCell ⟨b, 18, none⟩ v') b bA FA bT FT v' o ar X' tabs ∧ Keeps (footC b FA FT v) w (w'.setCell ⟨b, 18, none⟩ v') ∧ Within w (footC b FA FT v) (footC b FA FT v') := by
  have hK1 : Keeps (fun k => v.ownBlock = some k) w w' := Keeps.of_grown hg fun k hk => hk
  have hK2 := Keeps.of_setCell (fun k => k = b) w' ⟨b, 18, none⟩ v' rfl
  have hlb := row_lt h.row
  have hown : ∀ k, v'.ownBlock = some k → v.ownBlock = some k ∨ w.heap.size ≤ k := fun k hk => hat.imp (fun e => e.symm.trans hk) (fun e => by rw [e] at hk; injection hk with hk; omega)
  have hb : v'.ownBlock ≠ some b := fun e => (hown b e).elim h.apart1 (fun h => by omega)
  have hrow : w'.heap[b]? = some (rowC ar.most o bA bT v) := (hK1.block b hlb h.apart1).trans h.row
  refine ⟨⟨(heap_setCell_same w' b 18 _ _ v' hrow).trans rfl, ?_, fun i hi => ?_, hO.keep hK2 fun g hg e => hb (e ▸ hg), hb, fun k hk => ⟨(h.apart2 k hk).1, fun e => ?_⟩, fun i hi k hk => ⟨(h.apart3 i hi k hk).1, fun e => ?_, (h.apart3 i hi k hk).2.2⟩, h.apart4⟩, ?_, ?_⟩
  · exact (h.ar.keep hK1 fun k hk => (h.apart2 k hk).2).keep hK2 fun k hk e => (h.apart2 k hk).1 e
  · exact ((h.tab i hi).keep hK1 fun k hk => (h.apart3 i hi k hk).2.1).keep hK2 fun k hk e => (h.apart3 i hi k hk).1 e
  · exact (hown k e).elim (h.apart2 k hk).2 (fun h1 => by have := h.ar.lt k hk; omega)
  · exact (hown k e).elim (h.apart3 i hi k hk).2.1 (fun h1 => by have := (h.tab i hi).lt k hk; omega)
  · exact (hK1.mono fun k hk => .inr (.inl hk)).and (hK2.mono fun k hk => .inl hk)
  · rintro k (e | e | e | e)
    · exact .inl (.inl e)
    · exact (hown k e).imp (fun h => .inr (.inl h)) id
    · exact .inl (.inr (.inr (.inl e)))
    · exact .inl (.inr (.inr (.inr e)))

theorem CoR.grownRow (h : CoR w b bA FA bT FT v o ar X tabs) (hg : w.grownBy w' v.ownBlock) : w'.heap[b]? = some (rowC ar.most o bA bT v) :=
  ((Keeps.of_grown (F := fun k => v.ownBlock = some k) hg fun _ hk => hk).block b (row_lt h.row) h.apart1).trans h.row

theorem MS.Base.takeS (h : s.Base) (hf : s.ar.T.length ≠ s.ar.most) (x : Nd) : (s.takeS x).Base := by
  obtain ⟨h0, _, _, h3⟩ := h.took hf
  refine ⟨h.ar.take, ?_⟩
  unfold MS.takeS
  rcases h3 with ⟨e, e2⟩ | ⟨e, e2⟩
  · simp [e, e2]
  · have e3 : ¬ s.ar.takeN = s.N.length := by omega
    simp [e3, e2]

set_option maxRecDepth 100000 in
set_option maxHeartbeats 4000000 in
theorem coObtain (h : CoAt w b F s R s.refs) (ok : s.Okb R) (cl : s.Closed) (hR : ∀ n ∈ R, s.has n = true) (vn : Nat) (hv : vn < 8) (lo hi : Int) (blo : s.behind lo (vn : Int) = true) (bhi : s.behind hi (vn : Int) = true) :
    Calls Tryz.prog 68 #[pv b, .int .i64 (vn : Int), .int .i64 lo, .int .i64 hi] w fun e w' => e = .returned (.tuple #[.int .i64 (s.mk (vn : Int) lo hi R).1, errV (s.mk (vn : Int) lo hi R).2.1]) ∧ ∃ F', CoAt w' b F' (s.mk (vn : Int) lo hi R).2.2 R (s.mk (vn : Int) lo hi R).2.2.refs ∧ Keeps F w w' ∧ Within w F F' := by
  have okb := ok.toBase
  have hfew := okb.few
  generalize hr : s.mk (vn : Int) lo hi R = r
  unfold MS.mk at hr
  rw [if_neg (show ¬ ((vn : Int) < 0 ∨ 7 < (vn : Int) ∨ s.behind lo (vn : Int) = false ∨ s.behind hi (vn : Int) = false) by rw [blo, bhi]; simp; omega)] at hr
  have hv8 : (vn : Int) < 8 := by omega
  go_enter Tryz.func68, Tryz.ntmps68
  by_cases hlh : lo = hi
  · rw [if_pos hlh] at hr
    subst hr
    have hb : (lo == hi) = true := by rw [beq_iff_eq]; exact hlh
    replace hlh := Lib.hid hlh
    go_wp2
    go_ret2
    exact ⟨rfl, F, h, Keeps.refl _ _, Within.refl _ _⟩
  rw [if_neg hlh] at hr
  have hb : (lo == hi) = false := by rw [beq_eq_false_iff_ne]; exact hlh
  obtain ⟨bA, FA, bT, FT, v, X, tabs, rfl, hC, c⟩ := h
  have ct := hC.table vn hv
  have tsl := c.slots vn hv
  have HG := uniqGetS (hC.tab vn hv) (c.ok vn hv) (by omega) lo hi
  rcases c.get ok hv lo hi with ⟨n, hf, hg⟩ | ⟨hf, hg⟩
  · rw [hf] at hr
    dsimp only at hr
    subst hr
    rw [hg] at HG
    dsimp only at HG
    have H0 := Lib.hid hC
    have hcc := Lib.hid c
    clear hC hlh hf c ct hg
    have ct := H0.out.table vn hv
    go_wp2_with fail
    refine HG.mono ?_
    rintro e w1 ⟨rfl, hb1⟩
    clear HG ct
    go_wp2
    go_ret2
    exact ⟨rfl, _, ⟨bA, FA, bT, FT, v, X, tabs, rfl, H0.out.below hb1, hcc.out⟩, Keeps.of_below hb1 _, Within.refl _ _⟩
  · rw [hf] at hr
    dsimp only at hr
    rw [hg] at HG
    dsimp only at HG
    clear hg
    replace hlh := Lib.hid hlh
    replace hf := Lib.hid hf
    by_cases hfull : s.ar.T.length = s.ar.most
    · have e2 := (AS.Ok.take_full hfull).2.1
      obtain ⟨e1, _, e3⟩ := AS.Ok.take_full hfull
      rw [e2, if_pos (by decide)] at hr
      subst hr
      have H0 := Lib.hid hC
      have hcc := Lib.hid c
      clear hC c ct hfull
      have ct := H0.out.table vn hv
      go_wp2_with fail
      refine HG.mono ?_
      rintro e w1 ⟨rfl, hb1⟩
      clear HG ct
      have hC1 := H0.out.below hb1
      have c9 := hC1.cell.2.1
      have HT := arenaTakeS hC1.ar okb.ar
      rw [e1, e2, e3] at HT
      replace hC1 := Lib.hid hC1
      unfold errV at HT
      simp only [show ¬ (2 : Int) = 0 by decide, if_false] at HT
      clear H0
      go_wp2_with fail
      refine HT.mono ?_
      rintro e w2 ⟨rfl, FA', hA, hK, hW⟩
      clear HT c9
      obtain ⟨hC2, hK2, hW2⟩ := hC1.out.setAr hA rfl hK hW
      clear hA hK hW hC1
      replace hC2 := Lib.hid hC2
      go_wp2
      go_ret2
      exact ⟨rfl, _, ⟨bA, FA', bT, FT, v, X, tabs, rfl, hC2.out, hcc.out⟩, (Keeps.of_below hb1 _).and hK2, fun k hk => (hW2 k hk).imp id (fun h => Nat.le_trans hb1.size h)⟩
    · have e2 : s.ar.takeE = 0 := by simp [AS.takeE, hfull]
      rw [e2, if_neg (by decide)] at hr
      subst hr
      obtain ⟨t0, t1, t2, t3⟩ := okb.took hfull
      have hmost : s.ar.take.most = s.ar.most := by
        rcases last_or_nil s.ar.B with hb | ⟨l, n, hb⟩
        · rw [(AS.Ok.take_new hfull hb).2.2]
        · rw [(AS.Ok.take_again hfull hb).2.2]
      have hlX := c.len
      have hnew : s.has (s.ar.takeN + 2) = false := Bool.eq_false_iff.2 fun e => by
        have := (okb.range e).2.2
        rw [show s.ar.takeN + 2 - 2 = s.ar.takeN by omega] at this
        exact t1 this
      have hnR : s.ar.takeN + 2 ∉ R := fun e => by rw [hR _ e] at hnew; cases hnew
      obtain ⟨z, hcz⟩ := c.take okb hfull (fun e => okb.refs_new cl (by omega))
      have okt := okb.takeS hfull z
      have hthas := (okb.takeS_has hfull z (s.ar.takeN + 2)).2 (.inr rfl)
      have hmono : ∀ n, s.has n = true → (s.takeS z).has n = true := fun n hn => (okb.takeS_has hfull z n).2 (.inl hn)
      have htlo := MS.there_mono hmono (MS.behind_there blo)
      have hthi := MS.there_mono hmono (MS.behind_there bhi)
      have hone : ∀ m, (s.takeS z).has m = true → m ∉ (s.ar.takeN + 2) :: R → (s.takeS z).nd m ≠ ⟨(vn : Int), lo, hi⟩ := fun m hm hmR => by
        simp only [List.mem_cons, not_or] at hmR
        have h1 := ((okb.takeS_has hfull z m).1 hm).resolve_right hmR.1
        rw [okb.takeS_old hfull z h1]
        exact MS.find_none okb hf.out h1 hmR.2
      have hbnd : ∀ m, -100000 ≤ s.refs m ∧ s.refs m ≤ 100000 := fun m => by
        have := s.refs_nonneg m; have := okb.refs_le m; omega
      have hset := MS.takeS_setNd (s := s) (z := z) (x := ⟨(vn : Int), lo, hi⟩) okb hfull
      have hrefs := okb.refs_takeS hfull ⟨(vn : Int), lo, hi⟩
      have HL := fun {w b F} (h : CoAt w b F (s.takeS z) ((s.ar.takeN + 2) :: R) s.refs) => coLay h okt hthas hnR ⟨(vn : Int), lo, hi⟩ (by constructor <;> dsimp only <;> omega) htlo hthi hone hbnd
      unfold nv at HL
      dsimp only at HL
      have H0 := Lib.hid hC
      have har := okb.ar
      clear hC c ct hone hmono htlo hthi t1 t2 okt hthas hbnd hnew hnR
      have ct := H0.out.table vn hv
      go_wp2_with fail
      refine HG.mono ?_
      rintro e w1 ⟨rfl, hb1⟩
      clear HG ct
      have hC1 := H0.out.below hb1
      have c9 := hC1.cell.2.1
      have HT := arenaTakeS hC1.ar har
      rw [e2] at HT
      replace hC1 := Lib.hid hC1
      unfold errV at HT
      simp only [if_true] at HT
      have hTr : s.ar.takeN + 2 ≤ 20002 := by rcases t3 with ⟨h, _⟩ | ⟨h, _⟩ <;> omega
      generalize hTN : s.ar.takeN = N at *
      clear H0
      replace hTN := Lib.hid hTN
      go_wp2_with fail
      refine HT.mono ?_
      rintro e w2 ⟨rfl, FA', hA, hK, hW⟩
      clear HT c9
      obtain ⟨hC2, hK2, hW2⟩ := hC1.out.setAr hA hmost hK hW
      clear hA hK hW hC1
      have hKw := (Keeps.of_below hb1 _).and hK2
      have hWw : Within w (footC b FA FT v) (footC b FA' FT v) := fun k hk => (hW2 k hk).imp id (fun h => Nat.le_trans hb1.size h)
      clear hK2 hW2 hb1
      obtain ⟨a, cp, e5⟩ := hC2.form
      rw [hlX] at e5
      subst e5
      have c18 := hC2.cell.2.2
      by_cases hnl : N = (s.N.length : Int)
      · rw [if_pos hnl] at hcz
        have hnb : (N == (s.N.length : Int)) = true := by rw [beq_iff_eq]; exact hnl
        replace hnl := Lib.hid hnl
        have hbA : Below w2.heap.size w2 (w2.alloc (.cells #[.int .i64 0, .int .i64 0, .int .i64 0, .int .i64 0] 91)) := by go_grown
        have hsrc := oneX w2 w2.heap.size rfl
        have c18' := c18
        replace hC2 := hC2.below hbA
        have hKw2 := hKw.and (Keeps.of_below hbA _)
        have hsz := hKw2.size
        clear hKw hbA
        have c18 := hC2.cell.2.2
        have hX0 := hC2.places
        have hln : X.length + [((⟨0, 0, 0⟩, 0) : Nd × Int)].length ≤ 1000000 := by simp; omega
        replace hC2 := Lib.hid hC2
        have hL1 : (X ++ [((⟨0, 0, 0⟩, 0) : Nd × Int)]).length = s.N.length + 1 := by simp [hlX]
        go_wp2_with (at_builtin; refine appendX rfl (.tmp 55) (.tmp 57) rfl _ _ X [(⟨0, 0, 0⟩, 0)] rfl hX0 rfl hsrc hln ?_; intro v' w3 hown3 hgr hat; have hrow3 := hC2.out.grownRow hgr; obtain ⟨g4, c4, e4, _, _⟩ := hown3.some (by simp); rw [hL1] at e4; subst e4; have c18n : w3.cell? ⟨b, 18, none⟩ = some (.slice a s.N.length cp) := (by rw [cell_of_row _ _ _ _ _ _ hrow3]; rfl); have z18 : w3.frozen? ⟨b, 18, none⟩ = false := frozen_of_row _ _ _ _ _ hrow3; clear hrow3)
        obtain ⟨hC3, hK3, hW3⟩ := hC2.out.grown hown3 hgr hat
        have hKf := hKw2.trans hK3 hWw
        have hWf := hWw.trans hW3 hsz
        refine (HL ⟨bA, FA', bT, FT, _, _, tabs, rfl, hC3, hcz⟩).mono ?_
        rintro e w4 ⟨rfl, F4, hC4, hK4, hW4⟩
        rw [hset] at hC4
        have hWl := hWf.trans hW4 hKf.size
        have hKl := hKf.trans hK4 hWf
        clear hC3 hK3 hW3 hKf hWf hK4 hW4 hKw2 hcz HL hsrc hX0 hown3 hgr hat c18 c18' c18n z18 hC2
        go_wp2
        go_ret2
        exact ⟨by rw [← hTN.out]; rfl, F4, hC4.congr fun m => (hrefs m).symm, hKl, hWl⟩
      · rw [if_neg hnl] at hcz
        have hnb : (N == (s.N.length : Int)) = false := by rw [beq_eq_false_iff_ne]; exact hnl
        replace hnl := Lib.hid hnl
        have hHL := HL ⟨bA, FA', bT, FT, _, _, tabs, rfl, hC2, hcz⟩
        clear hC2 HL hcz
        go_wp2_with fail
        refine hHL.mono ?_
        rintro e w4 ⟨rfl, F4, hC4, hK4, hW4⟩
        rw [hset] at hC4
        have hWl := hWw.trans hW4 hKw.size
        have hKl := hKw.trans hK4 hWw
        clear hK4 hW4 hKw hWw hHL c18
        go_wp2
        go_ret2
        exact ⟨by rw [← hTN.out]; rfl, F4, hC4.congr fun m => (hrefs m).symm, hKl, hWl⟩

set_option maxRecDepth 100000 in
theorem coMust (h : CoAt w b F s R s.refs) (ok : s.Okb R) (cl : s.Closed) (hR : ∀ n ∈ R, s.has n = true) (vn : Nat) (hv : vn < 8) (lo hi : Int) (blo : s.behind lo (vn : Int) = true) (bhi : s.behind hi (vn : Int) = true) :
    Calls Tryz.prog 76 #[pv b, .int .i64 (vn : Int), .int .i64 lo, .int .i64 hi] w fun e w' => e = .returned (.int .i64 (s.mk (vn : Int) lo hi R).1) ∧ ∃ F', CoAt w' b F' (s.mk (vn : Int) lo hi R).2.2 R (s.mk (vn : Int) lo hi R).2.2.refs ∧ Keeps F w w' ∧ Within w F F' := by
  have HO := coObtain h ok cl hR vn hv lo hi blo bhi
  generalize s.mk (vn : Int) lo hi R = r at *
  clear h
  go_enter Tryz.func76, Tryz.ntmps76
  go_wp2_with fail
  refine HO.mono ?_
  rintro e w1 ⟨rfl, F1, hC, hK, hW⟩
  clear HO
  go_wp2
  go_ret
  exact ⟨rfl, F1, hC, hK, hW⟩

set_option maxRecDepth 100000 in
set_option maxHeartbeats 1000000 in
theorem coMk (h : CoAt w b F s [] s.refs) (ok : s.Ok) (v lo hi : Int) (hlo : lo ≤ 9223372036854775807 ∧ -9223372036854775808 ≤ lo) (hhi : hi ≤ 9223372036854775807 ∧ -9223372036854775808 ≤ hi) :
    Calls Tryz.prog 39 #[pv b, .int .i64 v, .int .i64 lo, .int .i64 hi] w fun e w' => e = .returned (.tuple #[.int .i64 (s.mk v lo hi []).1, errV (s.mk v lo hi []).2.1]) ∧ ∃ F', CoAt w' b F' (s.mk v lo hi []).2.2 [] (s.mk v lo hi []).2.2.refs ∧ Keeps F w w' ∧ Within w F F' := by
  have okb := ok.toBase
  generalize hr : s.mk v lo hi [] = r
  have HL := permLevel s.o v w
  have HFl := fun W (hb : Below w.heap.size w W) => coFits (h.below hb) okb lo (levO s.o v) v hlo rfl
  have HFh := fun W (hb : Below w.heap.size w W) => coFits (h.below hb) okb hi (levO s.o v) v hhi rfl
  have hrg := levO_range s.o v
  have hvr : 0 ≤ levO s.o v ↔ 0 ≤ v ∧ v ≤ 7 := by
    constructor
    · intro h0
      rcases levO_cases s.o v with ⟨h1, _⟩ | ⟨j, h1, h2, h3, _⟩
      · omega
      · have := mayO_range ok.order h2; omega
    · rintro ⟨h0, h7⟩
      obtain ⟨n, rfl⟩ := Int.eq_ofNat_of_zero_le h0
      exact levO_nonneg.2 (mayO_iff.1 ok.order n (by omega))
  have hbad : (v < 0 ∨ 7 < v ∨ s.behind lo v = false ∨ s.behind hi v = false) → r = (0, 1, s) := fun hc => by
    rw [← hr]; unfold MS.mk; rw [if_pos hc]
  have HO := fun {w F} (h : CoAt w b F s [] s.refs) (vn : Nat) (hv : vn < 8) (blo : s.behind lo (vn : Int) = true) (bhi : s.behind hi (vn : Int) = true) => coObtain h (ok.okb []) ok.closed (fun _ h => by cases h) vn hv lo hi blo bhi
  have H0 := Lib.hid h
  obtain ⟨bA, FA, bT, FT, vv, X, tabs, rfl, hR, c⟩ := h
  obtain ⟨c1, c2, c3, c4, c5, c6, c7, c8⟩ := hR.order
  simp only [ov] at HL
  clear hR c
  go_enter Tryz.func39, Tryz.ntmps39
  by_cases hl : levO s.o v < 0
  · have hr1 := hbad (by have := mt hvr.2 (by omega); omega)
    subst hr1
    generalize levO s.o v = L at *
    clear HFl HFh HO hvr hbad
    go_wp2_with fail
    refine HL.mono ?_
    rintro e w1 ⟨rfl, hb1⟩
    clear HL c1 c2 c3 c4 c5 c6 c7 c8
    go_wp2
    go_ret2
    exact ⟨rfl, _, H0.out.below hb1, Keeps.of_below hb1 _, Within.refl _ _⟩
  · have hv8 := hvr.1 (by omega)
    obtain ⟨vn, rfl⟩ := Int.eq_ofNat_of_zero_le hv8.1
    cases blo : s.behind lo (vn : Int)
    · have hr1 := hbad (.inr (.inr (.inl blo)))
      subst hr1
      rw [blo] at HFl
      generalize levO s.o (vn : Int) = L at *
      clear HFh HO hvr hbad hv8 blo
      go_wp2_with fail
      refine HL.mono ?_
      rintro e w1 ⟨rfl, hb1⟩
      clear HL c1 c2 c3 c4 c5 c6 c7 c8
      go_wp2_with fail
      refine (HFl _ hb1).mono ?_
      rintro e w2 ⟨rfl, hb2⟩
      replace hb1 := hb1.trans (hb2.mono hb1.size)
      clear HFl hb2
      go_wp2
      go_ret2
      exact ⟨rfl, _, H0.out.below hb1, Keeps.of_below hb1 _, Within.refl _ _⟩
    · cases bhi : s.behind hi (vn : Int)
      · have hr1 := hbad (.inr (.inr (.inr bhi)))
        subst hr1
        rw [blo] at HFl
        rw [bhi] at HFh
        generalize levO s.o (vn : Int) = L at *
        clear HO hvr hbad hv8 blo bhi
        go_wp2_with fail
        refine HL.mono ?_
        rintro e w1 ⟨rfl, hb1⟩
        clear HL c1 c2 c3 c4 c5 c6 c7 c8
        go_wp2_with fail
        refine (HFl _ hb1).mono ?_
        rintro e w2 ⟨rfl, hb2⟩
        replace hb1 := hb1.trans (hb2.mono hb1.size)
        clear HFl hb2
        go_wp2_with fail
        refine (HFh _ hb1).mono ?_
        rintro e w2 ⟨rfl, hb2⟩
        replace hb1 := hb1.trans (hb2.mono hb1.size)
        clear HFh hb2
        go_wp2
        go_ret2
        exact ⟨rfl, _, H0.out.below hb1, Keeps.of_below hb1 _, Within.refl _ _⟩
      · rw [blo] at HFl
        rw [bhi] at HFh
        have HO1 := fun {w F} (h : CoAt w b F s [] s.refs) => HO h vn (by omega) blo bhi
        rw [hr] at HO1
        generalize levO s.o (vn : Int) = L at *
        clear HO hvr hbad hv8 blo bhi hr
        go_wp2_with fail
        refine HL.mono ?_
        rintro e w1 ⟨rfl, hb1⟩
        clear HL c1 c2 c3 c4 c5 c6 c7 c8
        go_wp2_with fail
        refine (HFl _ hb1).mono ?_
        rintro e w2 ⟨rfl, hb2⟩
        replace hb1 := hb1.trans (hb2.mono hb1.size)
        clear HFl hb2
        go_wp2_with fail
        refine (HFh _ hb1).mono ?_
        rintro e w2 ⟨rfl, hb2⟩
        replace hb1 := hb1.trans (hb2.mono hb1.size)
        clear HFh hb2
        go_wp2_with fail
        refine (HO1 (H0.out.below hb1)).mono ?_
        rintro e w3 ⟨rfl, F3, hC, hK, hW⟩
        clear HO1 H0
        go_wp2
        go_ret2
        exact ⟨rfl, F3, hC, (Keeps.of_below hb1 _).and hK, fun k hk => (hW k hk).imp id (fun h => Nat.le_trans hb1.size h)⟩
end

end Go.Proofs.YtipocmbplcdmjaaGreatDoor
