/-
  Texts of this proof, one behind the other: RefS2, Plain, RefS3, StoreH, Pure, Eff.
-/
import Derived.Test.YtipocmbplcdmjaaGreatDoorG6
import Derived.Deep.RegionLaw
import Derived.Test.YtipocmbplcdmjaaGreatDoorG1
import Derived.OwnWalk
import Derived.Test.YtipocmbplcdmjaaGreatDoorG3
import Derived.Test.YtipocmbplcdmjaaGreatDoorG2
import Derived.Lib.Hide
/-
  The document's store: Mk.
-/
namespace Go.Proofs.YtipocmbplcdmjaaGreatDoor
open Go Go.RowKit

/-- Two nodes compared. -/
theorem run_eql_nodes (a0 a1 a2 b0 b1 b2 : Int) (c : Bool) (hc : decide ((⟨a0, a1, a2⟩ : Nd) = ⟨b0, b1, b2⟩) = c) (w : World) : (binOp .eql 69 (.agg #[.int .i64 a0, .int .i64 a1, .int .i64 a2]) (.agg #[.int .i64 b0, .int .i64 b1, .int .i64 b2])).run Tryz.prog w = .ok (.bool c) w := by
  have hq : ∀ (w : World) (a b : Int), (Op.equalIn 9999 3 (.int .i64 a) (.int .i64 b)).run Tryz.prog w = .ok (a == b) w := fun w a b => run_equalIn_int w 9998 _ _ _ _ _ Tryz.underlying3
  rw [← hc, run_eql_struct, run_equalIn_agg w 9999 _ _ _ (by kernel_rfl) (by kernel_rfl)]
  by_cases h : a0 = b0
  · by_cases k : a1 = b1
    · by_cases m : a2 = b2
      · simp [Op.eqFields, part, go_sem, hq, h, k, m]
      · simp [Op.eqFields, part, go_sem, hq, h, k, m]
    · simp [Op.eqFields, part, go_sem, hq, h, k]
  · simp [Op.eqFields, part, go_sem, hq, h]

set_option maxRecDepth 100000 in
theorem refSIn (l : List Int) (n : Int) (v : Value) (w : World) (hv : Reads encI w v l) (_hl : l.length ≤ 1000000) :
    Calls Tryz.prog 80 #[v, .int .i64 n] w fun e w' => e = .returned (.bool (l.contains n)) ∧ w = w' := by
  have hcd : l.contains n = decide (n ∈ l) := by simp
  rw [hcd]
  clear hcd
  obtain ⟨a, cap, rfl⟩ := hv.form
  go_enter Tryz.func80, Tryz.ntmps80
  go_wp2
  go_loop [5] (fun i => ∃ k : Nat, k ≤ l.length ∧ i = .int .i64 k ∧ Hid (n ∉ l.take k)) (fun i => l.length - (intOf i).toNat)
  case atStart => exact ⟨0, Nat.zero_le _, rfl, by simp [Hid]⟩
  case round =>
    obtain ⟨k, hk, rfl, hn⟩ := hrel
    by_cases hlt : k < l.length
    · obtain ⟨ad, rfl, hc⟩ := hv.intAt k hlt
      obtain ⟨hy, hno⟩ := in_step hlt hn.out
      have hk0 : (0 : Int) ≤ (k : Int) := by omega
      have hk1 : (k : Int) < (l.length : Int) := by omega
      generalize l[k] = x at *
      by_cases hx : x = n
      · have hxb : (x == n) = true := by rw [beq_iff_eq]; exact hx
        have HY := Lib.hid (hy hx)
        clear hx hy hno hv
        go_wp2
        go_ret
        exact ⟨by rw [decide_eq_true HY.out]; rfl, rfl⟩
      · have hxb : (x == n) = false := by rw [beq_eq_false_iff_ne]; exact hx
        have HN := Lib.hid (hno hx)
        clear hx hy hno hv hn
        go_wp2
        exact ⟨⟨k + 1, by omega, by go_num, HN.out⟩, by simp [intOf]; omega⟩
    · clear hv
      go_wp2
      go_ret
      exact ⟨by rw [decide_eq_false (fun e => hn.out (by rw [List.take_of_length_le (by omega)]; exact e))]; rfl, rfl⟩

section
variable {w w' : World} {b bA : Nat} {FA FA' : Nat → Prop} {v v' : Value} {s : MS}

/-- The arena within it went on. -/
theorem RefSR.arena (h : RefSR w b bA FA v s) {a : AS} (hA : RefAt w' bA FA' a) (hK : Keeps FA w w') (hW : Within w FA FA') :
    RefSR w' b bA FA' v { s with ar := a } ∧ Keeps (footS b FA v) w w' ∧ Within w (footS b FA v) (footS b FA' v) := by
  have hlt := h.lt
  refine ⟨⟨(hK.block b (hlt b (.inl rfl)) h.apart1).trans h.row, hA, h.nodes.keep hK h.apart, fun e => ?_, h.apart2, fun g hg e => ?_⟩, hK.mono fun k hk => .inr (.inl hk), ?_⟩
  · rcases hW b e with e | e
    · exact h.apart1 e
    · have := hlt b (.inl rfl); omega
  · rcases hW g e with e | e
    · exact h.apart g hg e
    · have := hlt g (.inr (.inr hg)); omega
  · rintro k (rfl | hk | hk)
    · exact .inl (.inl rfl)
    · exact (hW k hk).imp (fun h => .inr (.inl h)) id
    · exact .inl (.inr (.inr hk))

/-- Behind an append the new slice is stored. -/
theorem RefSR.appNodes (h : RefSR w b bA FA v s) {l : List Nd} (ho : Owns encN w' v' l) (hg : w.grownBy w' v.ownBlock) (hat : v'.ownBlock = v.ownBlock ∨ v'.ownBlock = some w.heap.size) :
    w'.cell? ⟨b, 1, none⟩ = some v ∧ w'.frozen? ⟨b, 1, none⟩ = false ∧ RefSR (w'.setCell ⟨b, 1, none⟩ v') b bA FA v' { s with N := l } ∧ Keeps (footS b FA v) w (w'.setCell ⟨b, 1, none⟩ v') ∧ Within w (footS b FA v) (footS b FA v') := by
  have hlt := h.lt
  have hb0 := hlt b (.inl rfl)
  have hrow := (hg.block b hb0 (fun e => h.apart2 e.symm)).trans h.row
  have hb1 : v'.ownBlock ≠ some b := fun e => by
    rcases hat with hat | hat
    · exact h.apart2 (hat ▸ e)
    · rw [hat] at e; injection e; omega
  have hap : ∀ g, v'.ownBlock = some g → ¬ FA g := fun g hg1 e => by
    rcases hat with hat | hat
    · exact h.apart g (hat ▸ hg1) e
    · have := hlt g (.inr (.inl e)); rw [hat] at hg1; injection hg1; omega
  have hK : Keeps (footS b FA v) w (w'.setCell ⟨b, 1, none⟩ v') := (Keeps.of_grown hg (fun k hk => .inr (.inr hk))).and (Keeps.of_setCell _ _ ⟨b, 1, none⟩ _ (.inl rfl))
  refine ⟨by rw [cell_of_row _ _ _ _ _ _ hrow]; rfl, frozen_of_row _ _ _ _ _ hrow, ⟨heap_setCell_same w' b 1 _ _ v' hrow, ?_, ho.block fun g hg => Below.heap_setCell _ _ _ _ (fun e => hb1 (by rw [hg, e])), h.apart1, hb1, hap⟩, hK, ?_⟩
  · exact (h.ar.keep (Keeps.of_grown (F := fun k => v.ownBlock = some k) hg (fun k hk => hk)) fun k hk e => h.apart k e hk).keep (Keeps.of_setCell (fun k => k = b) _ ⟨b, 1, none⟩ _ rfl) fun k hk e => h.apart1 (e ▸ hk)
  · rintro k (rfl | hk | hk)
    · exact .inl (.inl rfl)
    · exact .inl (.inr (.inl hk))
    · rcases hat with hat | hat
      · exact .inl (.inr (.inr (hat ▸ hk)))
      · rw [hat] at hk; injection hk with hk; exact .inr (by omega)

/-- A node written. -/
theorem RefSR.putNode {g c n : Nat} (h : RefSR w b bA FA (.slice (some ⟨g, 0, none⟩) n c) s) (hn : n = s.N.length) {i : Nat} (hi : i < s.N.length) (x : Nd) :
    RefSR (w.setCells g (i * 3) [.int .i64 x.var, .int .i64 x.lo, .int .i64 x.hi]) b bA FA (.slice (some ⟨g, 0, none⟩) n c) { s with N := s.N.set i x } ∧ Keeps (footS b FA (.slice (some ⟨g, 0, none⟩) n c)) w (w.setCells g (i * 3) [.int .i64 x.var, .int .i64 x.lo, .int .i64 x.hi]) := by
  subst hn
  have hne : g ≠ b := fun e => h.apart2 (by rw [e]; rfl)
  have ho := owns_putCells h.nodes hi x
  refine ⟨⟨?_, ?_, ?_, h.apart1, h.apart2, h.apart⟩, Keeps.of_setCells _ g (.inr (.inr rfl)) _ _ _⟩
  · rw [heap_setCells_other _ _ _ _ (fun e => hne e.symm)]; exact h.row
  · exact h.ar.keep (Keeps.of_setCells (fun k => k = g) g rfl _ _ _) fun k hk e => h.apart g rfl (e ▸ hk)
  · exact ho
theorem chain_node (W : World) (g o : Nat) (a b c : Value) : ((W.setCell ⟨g, o, none⟩ a).setCell ⟨g, o + 1, none⟩ b).setCell ⟨g, o + 2, none⟩ c = W.setCells g o [a, b, c] := rfl
end

/-- What Mk comes to. -/
def MkPost (w : World) (b : Nat) (F : Nat → Prop) (r : Int × Int × MS) (e : Ending) (w' : World) : Prop :=
  e = .returned (.tuple #[.int .i64 r.1, .int .i64 r.2.1]) ∧ ∃ F', RefSAt w' b F' r.2.2 ∧ Keeps F w w' ∧ Within w F F'

set_option maxRecDepth 100000 in
set_option maxHeartbeats 4000000 in
/-- What may not be; what is both sides. -/
theorem refSmk_arg {w : World} {b : Nat} {F : Nat → Prop} {s : MS} (h : RefSAt w b F s) (ok : s.Base) (v lo hi : Int) (hlo : lo ≤ 9223372036854775807) (hhi : hi ≤ 9223372036854775807) (vb : Value)
    (hc : v < 0 ∨ 7 < v ∨ s.behind lo v = false ∨ s.behind hi v = false) :
    Calls Tryz.prog 51 #[.pointer (some ⟨b, 0, none⟩), .int .i64 v, .int .i64 lo, .int .i64 hi, vb] w (MkPost w b F (0, 1, s)) := by
  have H1 := refSBehind h ok lo v hlo
  have H2 := fun W (hb : Below w.heap.size w W) => refSBehind (h.below hb) ok hi v hhi
  have hend : ∀ w', Below w.heap.size w w' → ∃ F', RefSAt w' b F' s ∧ Keeps F w w' ∧ Within w F F' := fun w' hb => ⟨F, h.below hb, Keeps.of_below hb _, Within.refl _ _⟩
  unfold MkPost
  clear h
  go_enter Tryz.func51, Tryz.ntmps51
  by_cases h0 : v < 0
  · clear H1 H2 hc
    go_wp2
    go_ret2
    exact ⟨rfl, hend _ (Below.refl _ _)⟩
  by_cases h7 : 7 < v
  · clear H1 H2 hc
    go_wp2
    go_ret2
    exact ⟨rfl, hend _ (Below.refl _ _)⟩
  cases e1 : s.behind lo v
  · rw [e1] at H1
    clear H2 hc
    go_wp2_with fail
    refine H1.mono ?_
    rintro e w1 ⟨rfl, hb1⟩
    go_wp2
    go_ret2
    exact ⟨rfl, hend _ hb1⟩
  · rw [e1] at H1
    have e2 : s.behind hi v = false := by
      rcases hc with hc | hc | hc | hc
      · exact absurd hc h0
      · exact absurd hc h7
      · rw [e1] at hc; cases hc
      · exact hc
    rw [e2] at H2
    clear hc
    go_wp2_with fail
    refine H1.mono ?_
    rintro e w1 ⟨rfl, hb1⟩
    go_wp2_with fail
    refine (H2 _ hb1).mono ?_
    rintro e w2 ⟨rfl, hb2⟩
    go_wp2
    go_ret2
    exact ⟨rfl, hend _ (hb1.trans (hb2.mono hb1.size))⟩

set_option maxRecDepth 100000 in
set_option maxHeartbeats 4000000 in
theorem refSmk_same {w : World} {b : Nat} {F : Nat → Prop} {s : MS} (h : RefSAt w b F s) (ok : s.Base) (v lo : Int) (hlo : lo ≤ 9223372036854775807) (vb : Value)
    (h0 : 0 ≤ v) (h7 : v ≤ 7) (e1 : s.behind lo v = true) :
    Calls Tryz.prog 51 #[.pointer (some ⟨b, 0, none⟩), .int .i64 v, .int .i64 lo, .int .i64 lo, vb] w (MkPost w b F (lo, 0, s)) := by
  have H1 := refSBehind h ok lo v hlo
  have H2 := fun W (hb : Below w.heap.size w W) => refSBehind (h.below hb) ok lo v hlo
  have hend : ∀ w', Below w.heap.size w w' → ∃ F', RefSAt w' b F' s ∧ Keeps F w w' ∧ Within w F F' := fun w' hb => ⟨F, h.below hb, Keeps.of_below hb _, Within.refl _ _⟩
  unfold MkPost
  rw [e1] at H1 H2
  clear h e1
  go_enter Tryz.func51, Tryz.ntmps51
  go_wp2_with fail
  refine H1.mono ?_
  rintro e w1 ⟨rfl, hb1⟩
  go_wp2_with fail
  refine (H2 _ hb1).mono ?_
  rintro e w2 ⟨rfl, hb2⟩
  go_wp2
  go_ret2
  exact ⟨rfl, hend _ (hb1.trans (hb2.mono hb1.size))⟩

set_option maxRecDepth 100000 in
set_option maxHeartbeats 8000000 in
/-- One that there is, or a new one. -/
theorem refSmk_find {w : World} {b : Nat} {F : Nat → Prop} {s : MS} (h : RefSAt w b F s) (ok : s.Base) (v lo hi : Int) (hlo : lo ≤ 9223372036854775807) (hhi : hi ≤ 9223372036854775807) (but : List Int) (vb : Value) (hvb : Reads encI w vb but) (hbl : but.length ≤ 1000000)
    (h0 : 0 ≤ v) (h7 : v ≤ 7) (e1 : s.behind lo v = true) (e2 : s.behind hi v = true) (hne : lo ≠ hi) (r : Int × Int × MS)
    (hr : r = match s.find ⟨v, lo, hi⟩ but with | some n => (n, 0, s) | none => if s.ar.takeE ≠ 0 then (0, s.ar.takeE, s) else (s.ar.takeN + 2, 0, s.takeS ⟨v, lo, hi⟩)) :
    Calls Tryz.prog 51 #[.pointer (some ⟨b, 0, none⟩), .int .i64 v, .int .i64 lo, .int .i64 hi, vb] w (MkPost w b F r) := by
  have H1 := refSBehind h ok lo v hlo
  have H2 := fun W (hb : Below w.heap.size w W) => refSBehind (h.below hb) ok hi v hhi
  have hfew := ok.few
  unfold MkPost
  rw [e1] at H1
  rw [e2] at H2
  clear e1 e2
  have hneb : (lo == hi) = false := by rw [beq_eq_false_iff_ne]; exact hne
  go_enter Tryz.func51, Tryz.ntmps51
  go_wp2_with fail
  refine H1.mono ?_
  rintro e w1 ⟨rfl, hb1⟩
  clear H1
  go_wp2_with fail
  refine (H2 _ hb1).mono ?_
  rintro e w2 ⟨rfl, hb2⟩
  have hb := hb1.trans (hb2.mono hb1.size)
  clear H2 hb1 hb2 hne
  go_wp2
  have hx := HoldsN.new w2 ⟨v, lo, hi⟩
  have hgx : w.heap.size ≤ w2.heap.size := hb.size
  replace hb := hb.alloc hb.size (.cells #[.int .i64 v, .int .i64 lo, .int .i64 hi] 69)
  dsimp only at hx
  generalize w2.alloc (.cells #[.int .i64 v, .int .i64 lo, .int .i64 hi] 69) = W at *
  generalize w2.heap.size = B at *
  go_loopw [13] (fun i wr => ∃ k : Nat, k ≤ s.N.length ∧ i = .int .i64 ((k : Int) + 2) ∧ HoldsN wr B ⟨v, lo, hi⟩ ∧ Below w.heap.size w wr ∧ Hid ((numsTo k).find? (fun n => decide (s.nd n = ⟨v, lo, hi⟩) && s.has n && !(but.contains n)) = none)) (fun i _ => s.N.length + 2 - (intOf i).toNat)
  case atStart => exact ⟨0, Nat.zero_le _, rfl, hx, hb, Lib.hid rfl⟩
  case round =>
    obtain ⟨k, hk, rfl, hx, hb, hn⟩ := hrel
    by_cases hlt : k < s.N.length
    · obtain ⟨hy, hno⟩ := numsTo_find hlt hn.out
      have hN := MS.nd_get k hlt
      have HHas : ∀ u : Sub wr, Calls Tryz.prog 56 #[.pointer (some ⟨b, 0, none⟩), .int .i64 ((k : Int) + 2)] u.1 (fun e w'' => e = .returned (.bool (s.has ((k : Int) + 2))) ∧ ∃ x : Sub wr, w'' = x.1) := fun u => subSame (refSHas ((h.below hb).sub u) ok _ (by omega))
      have HIn : ∀ u : Sub wr, Calls Tryz.prog 80 #[vb, .int .i64 ((k : Int) + 2)] u.1 (fun e w'' => e = .returned (.bool (but.contains ((k : Int) + 2))) ∧ ∃ x : Sub wr, w'' = x.1) := fun u => subSame (refSIn but _ _ _ (hvb.keep (hb.trans (u.2.mono hb.size))) hbl)
      obtain ⟨bA, FA, vN, rfl, hR⟩ := h
      obtain ⟨g, cN, rfl, _, _⟩ := hR.nodes.some (by omega)
      have hR0 := Lib.hid hR
      replace hR := hR.below hb
      have c1 := fun u : Sub wr => (hR.sub u).cells.2
      have d0 := fun u : Sub wr => (nodeAt (hR.sub u).nodes k hlt).1
      have d1 := fun u : Sub wr => (nodeAt (hR.sub u).nodes k hlt).2.1
      have d2 := fun u : Sub wr => (nodeAt (hR.sub u).nodes k hlt).2.2
      have x0 := fun u : Sub wr => (hx.sub u).cells.1
      have x1 := fun u : Sub wr => (hx.sub u).cells.2.1
      have x2 := fun u : Sub wr => (hx.sub u).cells.2.2
      have cl := hR.cells.2
      dsimp only at x0 x1 x2
      have hk0 : (0 : Int) ≤ (k : Int) := by omega
      have hk1 : (k : Int) < (s.N.length : Int) := by omega
      rw [hN] at hy hno
      clear hN hR
      generalize s.N[k] = y at *
      obtain ⟨y0, y1, y2⟩ := y
      dsimp only at d0 d1 d2 hy hno
      generalize hhv : s.has ((k : Int) + 2) = hv at *
      generalize hcv : but.contains ((k : Int) + 2) = cv at *
      by_cases he : (⟨y0, y1, y2⟩ : Nd) = ⟨v, lo, hi⟩
      · have hq := run_eql_nodes y0 y1 y2 v lo hi true (decide_eq_true he)
        cases hv
        · have hnext := Lib.hid (hno (by simp))
          clear hy hno he hn HIn
          go_wp2
          refine wp_region_quiet_all (C := fun w' => ∃ u : Sub wr, w' = u.1) (by kernel_rfl) (by kernel_rfl) (InSub.drew wr) ?_
          iterate 13 (go_big_quiet_step (fail))
          go_big_quiet_step (exact HHas _)
          iterate 2 (go_big_quiet_step (fail))
          iterate 4 go_big_quiet_skip
          go_big_quiet_step (fail)
          refine wpQuiet_nil ?_
          clear HHas c1 d0 d1 d2 x0 x1 x2 cl hq
          intro w' hw'
          obtain ⟨u, rfl⟩ := hw'
          replace hx := hx.sub u
          replace hb := hb.trans (u.2.mono hb.size)
          generalize u.1 = W1 at *
          go_wp2
          exact ⟨⟨k + 1, by omega, by go_num, hx, hb, hnext⟩, by simp [intOf]; omega⟩
        · cases cv
          · have hhit := Lib.hid (hy (by rw [decide_eq_true he]; rfl))
            clear hy hno he hn
            go_wp2
            refine wp_region_quiet_all (C := fun w' => ∃ u : Sub wr, w' = u.1) (by kernel_rfl) (by kernel_rfl) (InSub.drew wr) ?_
            iterate 13 (go_big_quiet_step (fail))
            go_big_quiet_step (exact HHas _)
            iterate 4 (go_big_quiet_step (fail))
            go_big_quiet_step (exact HIn _)
            iterate 2 (go_big_quiet_step (fail))
            refine wpQuiet_nil ?_
            clear HHas HIn c1 d0 d1 d2 x0 x1 x2 cl hq
            intro w' hw'
            obtain ⟨u, rfl⟩ := hw'
            replace hx := hx.sub u
            replace hb := hb.trans (u.2.mono hb.size)
            generalize u.1 = W1 at *
            go_wp2
            go_ret2
            have hfd : s.find ⟨v, lo, hi⟩ but = some ((k : Int) + 2) := hhit.out
            rw [hfd] at hr
            subst hr
            exact ⟨rfl, _, ⟨bA, FA, _, rfl, hR0.out.below hb⟩, Keeps.of_below hb _, Within.refl _ _⟩
          · have hnext := Lib.hid (hno (by simp))
            clear hy hno he hn
            go_wp2
            refine wp_region_quiet_all (C := fun w' => ∃ u : Sub wr, w' = u.1) (by kernel_rfl) (by kernel_rfl) (InSub.drew wr) ?_
            iterate 13 (go_big_quiet_step (fail))
            go_big_quiet_step (exact HHas _)
            iterate 4 (go_big_quiet_step (fail))
            go_big_quiet_step (exact HIn _)
            iterate 2 (go_big_quiet_step (fail))
            refine wpQuiet_nil ?_
            clear HHas HIn c1 d0 d1 d2 x0 x1 x2 cl hq
            intro w' hw'
            obtain ⟨u, rfl⟩ := hw'
            replace hx := hx.sub u
            replace hb := hb.trans (u.2.mono hb.size)
            generalize u.1 = W1 at *
            go_wp2
            exact ⟨⟨k + 1, by omega, by go_num, hx, hb, hnext⟩, by simp [intOf]; omega⟩
      · have hq := run_eql_nodes y0 y1 y2 v lo hi false (decide_eq_false he)
        have hnext := Lib.hid (hno (by rw [decide_eq_false he]; rfl))
        clear hy hno he hn HIn HHas
        go_wp2
        refine wp_region_quiet_all (C := fun w' => ∃ u : Sub wr, w' = u.1) (by kernel_rfl) (by kernel_rfl) (InSub.drew wr) ?_
        iterate 11 (go_big_quiet_step (fail))
        iterate 3 go_big_quiet_skip
        iterate 2 (go_big_quiet_step (fail))
        iterate 4 go_big_quiet_skip
        go_big_quiet_step (fail)
        refine wpQuiet_nil ?_
        clear c1 d0 d1 d2 x0 x1 x2 cl hq
        intro w' hw'
        obtain ⟨u, rfl⟩ := hw'
        replace hx := hx.sub u
        replace hb := hb.trans (u.2.mono hb.size)
        generalize u.1 = W1 at *
        go_wp2
        exact ⟨⟨k + 1, by omega, by go_num, hx, hb, hnext⟩, by simp [intOf]; omega⟩
    · obtain rfl : k = s.N.length := by omega
      have hnone : s.find ⟨v, lo, hi⟩ but = none := hn.out
      rw [hnone] at hr
      dsimp only at hr
      clear hn hvb hbl hnone
      obtain ⟨bA, FA, vN, rfl, hR⟩ := h
      have hB0 : ¬ FA B := fun e => by have := hR.lt B (.inr (.inl e)); omega
      have hlt0 := hR.lt
      replace hR := hR.below hb
      have cl := hR.cells
      obtain ⟨aN, cN, rfl⟩ := hR.form
      go_wp2_with fail
      refine (refTakeS hR.ar ok.ar).mono ?_
      rintro e W1 ⟨rfl, FA1, hA1, hK1, hW1⟩
      obtain ⟨hR1, hk1, hw1⟩ := hR.arena hA1 hK1 hW1
      have hB1 : ¬ footS b FA1 (.slice aN s.N.length cN) B := fun e => by
        rcases hw1 B e with e | e
        · have := hlt0 B e; omega
        · have := hx.lt; omega
      replace hx := hx.keep hK1 hB0
      have HK := (Keeps.of_below hb (footS b FA (.slice aN s.N.length cN))).trans hk1 (Within.refl _ _)
      have HW := (Within.refl w (footS b FA (.slice aN s.N.length cN))).trans hw1 hb.size
      clear cl hR hA1 hK1 hW1 hB0 hk1 hw1 hlt0 hb
      by_cases hf : s.ar.T.length = s.ar.most
      · obtain ⟨f1, f2, f3⟩ := AS.Ok.take_full hf
        rw [f2] at hr
        simp only [ne_eq, show ¬ ((2 : Int) = 0) by decide, not_false_eq_true, if_true] at hr
        rw [f1, f2]
        rw [f3] at hR1
        clear hf f1 f2 f3
        go_wp2
        go_ret2
        subst hr
        exact ⟨rfl, _, ⟨bA, FA1, _, rfl, hR1⟩, HK, HW⟩
      · have f2 : s.ar.takeE = 0 := by simp [AS.takeE, hf]
        obtain ⟨g1, _, _, g2⟩ := ok.took hf
        rw [f2] at hr
        simp only [ne_eq, not_true_eq_false, if_false] at hr
        rw [f2]
        obtain ⟨K, hK⟩ := Int.eq_ofNat_of_zero_le g1
        have hs : s.takeS ⟨v, lo, hi⟩ = { s with ar := s.ar.take, N := if s.ar.takeN = s.N.length then s.N ++ [⟨v, lo, hi⟩] else s.N.set s.ar.takeN.toNat ⟨v, lo, hi⟩ } := rfl
        rw [hs, hK] at hr
        rw [hK] at g2 ⊢
        clear hs g1 hK hf f2
        have cl := hR1.cells
        by_cases hKl : K = s.N.length
        · subst hKl
          have c1 := cl.2
          obtain ⟨x0, x1, x2⟩ := hx.cells
          have z1 := hR1.free 1
          have hwA : Below W1.heap.size W1 ((W1.alloc (.cells #[.int .i64 v, .int .i64 lo, .int .i64 hi] 69)).drew) := by go_grown
          have hRA := Lib.hid (hR1.below hwA)
          have c1A := hRA.out.cells.2
          have hsrc : Reads encN ((W1.alloc (.cells #[.int .i64 v, .int .i64 lo, .int .i64 hi] 69)).drew) (.slice (some ⟨W1.heap.size, 0, none⟩) 1 1) [⟨v, lo, hi⟩] := Reads.one encN W1 ⟨v, lo, hi⟩ _ rfl _ rfl
          have hlen : s.N.length + [(⟨v, lo, hi⟩ : Nd)].length ≤ 1000000 := by simp; omega
          have hxA := Lib.hid (hx.below hwA)
          dsimp only at x0 x1 x2
          rw [if_pos rfl] at hr
          have HR := Lib.hid hr
          clear cl hR1 hx hr
          go_wp2
          go_region_law (refine step_append_owns encN rfl (.tmp 98) (.tmp 100) rfl _ _ s.N [⟨v, lo, hi⟩] rfl hRA.out.nodes rfl hsrc (Nat.succ_pos _) hlen ?_; intro v' w4 hown hgr hat; obtain ⟨q1, z1, hR2, hk2, hw2⟩ := hRA.out.appNodes hown hgr hat; obtain ⟨a4, c4, e4, _⟩ := hown.form; subst e4)
          all_goals
            have hB2 : HoldsN (w4.setCell ⟨b, 1, none⟩ (.slice a4 (s.N ++ [(⟨v, lo, hi⟩ : Nd)]).length c4)) B ⟨v, lo, hi⟩ := hxA.out.keep hk2 hB1
            replace hR2 : RefSR _ _ _ _ _ _ := hR2
            rw [List.length_append, List.length_singleton] at hB2 hR2 hk2 hw2
            have HK2 := Lib.hid ((HK.trans ((Keeps.of_below hwA _).trans hk2 (Within.refl _ _)) HW))
            have HW2 := Lib.hid (HW.trans ((Within.refl _ _).trans hw2 hwA.size) HK.size)
            clear hown hgr hat hk2 hw2 q1 z1 hxA hRA hsrc hlen hwA c1A x0 x1 x2 c1
            generalize w4.setCell ⟨b, 1, none⟩ (.slice a4 (s.N.length + 1) c4) = W4 at *
            obtain ⟨g5, c5, e5, _, _⟩ := hR2.nodes.some (by simp)
            injection e5 with e6 e7 e8
            subst e6
            subst e8
            clear e7
            have c5f := fun u : Sub W4 => (hR2.sub u).cells.2
            have x5 := fun u : Sub W4 => (hB2.sub u).cells.1
            have x6 := fun u : Sub W4 => (hB2.sub u).cells.2.1
            have x7 := fun u : Sub W4 => (hB2.sub u).cells.2.2
            dsimp only at x5 x6 x7
            have hI0 : (0 : Int) ≤ ((s.N.length : Nat) : Int) := by omega
            have hI1 : ((s.N.length : Nat) : Int) < ((s.N.length + 1 : Nat) : Int) := by omega
            have HRR := Lib.hid hR2
            clear hR2 hB2
            go_wp2
            refine wp_region_quiet_tail (C := fun w' => ∃ u : Sub W4, w' = u.1) 7 (by kernel_rfl) (by kernel_rfl) (InSub.drew W4) ?_
            simp only [List.take_succ_cons, List.take_zero]
            iterate 7 (go_big_quiet_step (fail))
            refine wpQuiet_nil ?_
            clear c5f x5 x6 x7
            intro w' hw'
            obtain ⟨u, rfl⟩ := hw'
            have hR5 := HRR.out.sub u
            have hk5 := Keeps.of_below u.2 (footS b FA1 (.slice (some ⟨g5, 0, none⟩) (s.N.length + 1) c4))
            clear HRR
            generalize u.1 = W5 at *
            obtain ⟨q0, q1, q2⟩ := nodeAt hR5.nodes s.N.length (by simp)
            have y0 := hR5.nodes.free (s.N.length * 3)
            have y1 := hR5.nodes.free (s.N.length * 3 + 1)
            have y2 := hR5.nodes.free (s.N.length * 3 + 2)
            obtain ⟨hR6, hk6⟩ := hR5.putNode (by simp) (i := s.N.length) (by simp) ⟨v, lo, hi⟩
            dsimp only at hk6
            have HK6 := Lib.hid (HK2.out.trans (hk5.and hk6) HW2.out)
            have HR6 := Lib.hid hR6
            clear hR5 hk5 hk6 hR6
            simp only [List.drop_succ_cons, List.drop_zero]
            apply wpList_step
            intro K1 hK1
            go_simp
            apply hK1
            clear hK1 q0 q1 q2 y0 y1 y2
            rw [chain_node]
            generalize W5.setCells g5 (s.N.length * 3) [.int .i64 v, .int .i64 lo, .int .i64 hi] = W6 at *
            refine wpList_nil ?_
            go_wp2
            go_ret2
            rw [HR.out]
            refine ⟨rfl, _, ⟨bA, FA1, _, rfl, ?_⟩, HK6.out, HW2.out⟩
            have := HR6.out
            simp only [List.set_append_right _ _ (Nat.le_refl _), Nat.sub_self, List.set_cons_zero] at this
            exact this
        · have hKlt : K < s.N.length := by omega
          have hKb : ((K : Int) == (s.N.length : Int)) = false := by rw [beq_eq_false_iff_ne]; omega
          have e1 : ¬ (K : Int) = (s.N.length : Int) := by omega
          rw [if_neg e1, Int.toNat_natCast] at hr
          obtain ⟨g5, c5, e5, _, _⟩ := hR1.nodes.some (show 0 < s.N.length by omega)
          injection e5 with e6 e7 e8
          subst e6
          subst e8
          clear e7
          have c1 := cl.2
          have HR := Lib.hid hr
          clear g2 e1 cl hr
          go_wp2
          clear c1
          have c5f := fun u : Sub W1 => (hR1.sub u).cells.2
          have x5 := fun u : Sub W1 => (hx.sub u).cells.1
          have x6 := fun u : Sub W1 => (hx.sub u).cells.2.1
          have x7 := fun u : Sub W1 => (hx.sub u).cells.2.2
          dsimp only at x5 x6 x7
          have hI0 : (0 : Int) ≤ ((K : Nat) : Int) := by omega
          have hI1 : ((K : Nat) : Int) < ((s.N.length : Nat) : Int) := by omega
          have HRR := Lib.hid hR1
          clear hR1 hx
          go_wp2
          refine wp_region_quiet_tail (C := fun w' => ∃ u : Sub W1, w' = u.1) 7 (by kernel_rfl) (by kernel_rfl) (InSub.drew W1) ?_
          simp only [List.take_succ_cons, List.take_zero]
          iterate 7 (go_big_quiet_step (fail))
          refine wpQuiet_nil ?_
          clear c5f x5 x6 x7
          intro w' hw'
          obtain ⟨u, rfl⟩ := hw'
          have hR5 := HRR.out.sub u
          have hk5 := Keeps.of_below u.2 (footS b FA1 (.slice (some ⟨g5, 0, none⟩) (s.N.length) cN))
          clear HRR
          generalize u.1 = W5 at *
          obtain ⟨q0, q1, q2⟩ := nodeAt hR5.nodes K (by exact hKlt)
          have y0 := hR5.nodes.free (K * 3)
          have y1 := hR5.nodes.free (K * 3 + 1)
          have y2 := hR5.nodes.free (K * 3 + 2)
          obtain ⟨hR6, hk6⟩ := hR5.putNode rfl (i := K) (by exact hKlt) ⟨v, lo, hi⟩
          dsimp only at hk6
          have HK6 := Lib.hid (HK.trans (hk5.and hk6) HW)
          have HR6 := Lib.hid hR6
          clear hR5 hk5 hk6 hR6
          simp only [List.drop_succ_cons, List.drop_zero]
          apply wpList_step
          intro K1 hK1
          go_simp
          apply hK1
          clear hK1 q0 q1 q2 y0 y1 y2
          rw [chain_node]
          generalize W5.setCells g5 (K * 3) [.int .i64 v, .int .i64 lo, .int .i64 hi] = W6 at *
          refine wpList_nil ?_
          go_wp2
          go_ret2
          rw [HR.out]
          exact ⟨rfl, _, ⟨bA, FA1, _, rfl, HR6.out⟩, HK6.out, HW⟩

/-- All of it. -/
theorem refSmk {w : World} {b : Nat} {F : Nat → Prop} {s : MS} (h : RefSAt w b F s) (ok : s.Base) (v lo hi : Int) (hlo : lo ≤ 9223372036854775807) (hhi : hi ≤ 9223372036854775807) (but : List Int) (vb : Value) (hvb : Reads encI w vb but) (hbl : but.length ≤ 1000000) :
    Calls Tryz.prog 51 #[.pointer (some ⟨b, 0, none⟩), .int .i64 v, .int .i64 lo, .int .i64 hi, vb] w (MkPost w b F (s.mk v lo hi but)) := by
  by_cases hc : v < 0 ∨ 7 < v ∨ s.behind lo v = false ∨ s.behind hi v = false
  · have e : s.mk v lo hi but = (0, 1, s) := by unfold MS.mk; rw [if_pos hc]
    rw [e]
    exact refSmk_arg h ok v lo hi hlo hhi vb hc
  · have hc' := hc
    simp only [not_or, Bool.not_eq_false] at hc
    by_cases hl : lo = hi
    · subst hl
      have e : s.mk v lo lo but = (lo, 0, s) := by unfold MS.mk; rw [if_neg hc', if_pos rfl]
      rw [e]
      exact refSmk_same h ok v lo hlo vb (by omega) (by omega) hc.2.2.1
    · refine refSmk_find h ok v lo hi hlo hhi but vb hvb hbl (by omega) (by omega) hc.2.2.1 hc.2.2.2 hl _ ?_
      unfold MS.mk
      rw [if_neg hc', if_neg hl]
      rfl

set_option maxRecDepth 100000 in
theorem refSMk {w : World} {b : Nat} {F : Nat → Prop} {s : MS} (h : RefSAt w b F s) (ok : s.Base) (v lo hi : Int) (hlo : lo ≤ 9223372036854775807) (hhi : hi ≤ 9223372036854775807) :
    Calls Tryz.prog 43 #[.pointer (some ⟨b, 0, none⟩), .int .i64 v, .int .i64 lo, .int .i64 hi] w (MkPost w b F (s.mk v lo hi [])) := by
  have H := refSmk h ok v lo hi hlo hhi [] (.slice none 0 0) (.inl ⟨rfl, rfl⟩) (Nat.zero_le _)
  generalize s.mk v lo hi [] = r at *
  clear h
  unfold MkPost at *
  go_enter Tryz.func43, Tryz.ntmps43
  go_wp2_with fail
  refine H.mono ?_
  rintro e w1 ⟨rfl, hF⟩
  go_wp2
  go_ret2
  exact ⟨rfl, hF⟩

end Go.Proofs.YtipocmbplcdmjaaGreatDoor

/-
  The document's plain order.
-/
namespace Go.Proofs.YtipocmbplcdmjaaGreatDoor
open Go Go.RowKit

set_option maxRecDepth 100000 in
theorem refPlain (w : World) : Calls Tryz.prog 57 #[] w fun e w' => e = .returned (.agg #[.int .i64 0, .int .i64 1, .int .i64 2, .int .i64 3, .int .i64 4, .int .i64 5, .int .i64 6, .int .i64 7]) ∧ Below w.heap.size w w' := by
  go_enter Tryz.func57, Tryz.ntmps57
  go_wp2
  exact bodyPost_ret (ret_holdsO Tryz.results57 rfl (o := plainO) (HoldsO.new w plainO w.heap.size)) rfl ⟨rfl, by go_grown⟩

end Go.Proofs.YtipocmbplcdmjaaGreatDoor

/-
  The document's store: New, Free, Swap.
-/
namespace Go.Proofs.YtipocmbplcdmjaaGreatDoor
open Go Go.RowKit

set_option maxRecDepth 100000 in
set_option maxHeartbeats 1000000 in
theorem refSNew (most : Int) (w : World) (h0 : 0 ≤ most) :
    Calls Tryz.prog 25 #[.int .i64 most] w fun e w' => ∃ b, e = .returned (.pointer (some ⟨b, 0, none⟩)) ∧ (∃ F, RefSAt w' b F (MS.none most.toNat) ∧ ∀ k, F k → w.heap.size ≤ k) ∧ Below w.heap.size w w' := by
  go_enter Tryz.func25, Tryz.ntmps25
  go_wp2_with fail
  have hA := heap_alloc_new w (.cells #[.int .i64 most, .slice none 0 0, .slice none 0 0, .int .i64 0] 100)
  have hb : Below w.heap.size w (w.alloc (.cells #[.int .i64 most, .slice none 0 0, .slice none 0 0, .int .i64 0] 100)) := by go_grown
  generalize w.alloc (.cells #[.int .i64 most, .slice none 0 0, .slice none 0 0, .int .i64 0] 100) = W at *
  have hWl : w.heap.size < W.heap.size := row_lt hA
  refine (refPlain _).mono ?_
  rintro e w1 ⟨rfl, hb1⟩
  replace hA := (hb1.block _ hWl).trans hA
  have hb2 := hb.trans (hb1.mono hb.size)
  have hl1 : w.heap.size < w1.heap.size := row_lt hA
  go_wp2
  go_ret
  refine ⟨w1.heap.size, rfl, ⟨_, ⟨w.heap.size, foot2 w.heap.size (.slice .none 0 0) (.slice .none 0 0), .slice .none 0 0, rfl, heap_alloc_new _ _, ⟨.slice .none 0 0, .slice .none 0 0, rfl, ?_, Owns.nil _ _, Owns.nil _ _, (fun h => by cases h), (fun h => by cases h), (fun g h => by cases h)⟩, Owns.nil _ _, ?_, (fun h => by cases h), (fun g h => by cases h)⟩, ?_⟩, hb2.alloc hb2.size _⟩
  · rw [heap_alloc_old _ _ hl1, hA]
    simp only [MS.none, Int.toNat_of_nonneg h0]
    rfl
  · rintro (e | e | e)
    · omega
    · cases e
    · cases e
  · rintro k (rfl | (rfl | e | e) | e)
    · omega
    · exact Nat.le_refl _
    · cases e
    · cases e
    · cases e

end Go.Proofs.YtipocmbplcdmjaaGreatDoor

/-
  Helpers of walks of a store.
-/
namespace Go.Proofs.YtipocmbplcdmjaaGreatDoor
open Go Go.RowKit

/-- A slice from a place on. -/
theorem Reads.drop {P : Program} {α : Type} {E : Enc P α} {w : World} {ad : Addr} {n cap : Nat} {l : List α} (h : Reads E w (.slice (.some ad) n cap) l) (hn : n = l.length) (i : Nat) (hi : i ≤ n) (c : Nat) : Reads E w (.slice (.some (ad.add (i * E.size))) (n - i) c) (l.drop i) := by
  subst hn
  rcases h with ⟨h, _⟩ | ⟨ad', cap', hv, hc⟩
  · cases h
  · injection hv with h1 h2 h3
    cases h1
    refine .inr ⟨_, c, by rw [List.length_drop], fun j u hj => ?_⟩
    have e : E.all l = E.all (l.take i) ++ E.all (l.drop i) := by rw [← E.all_append, List.take_append_drop]
    have e2 : (E.all (l.take i)).length = i * E.size := by rw [E.all_length, List.length_take, Nat.min_eq_left hi]
    have h4 := hc (i * E.size + j) u (by rw [e, List.getElem?_append_right (by rw [e2]; omega), e2, Nat.add_sub_cancel_left]; exact hj)
    rw [show (ad.add (i * E.size)).add j = ad.add (i * E.size + j) by unfold Addr.add; by_cases h1 : i * E.size = 0 <;> by_cases h2 : j = 0 <;> simp [h1, h2, Nat.add_assoc]]
    exact h4

theorem chain_order (W : World) (g : Nat) (p0 p1 p2 p3 p4 p5 p6 p7 : Value) : (((((((W.setCell ⟨g, 2, none⟩ p0).setCell ⟨g, 3, none⟩ p1).setCell ⟨g, 4, none⟩ p2).setCell ⟨g, 5, none⟩ p3).setCell ⟨g, 6, none⟩ p4).setCell ⟨g, 7, none⟩ p5).setCell ⟨g, 8, none⟩ p6).setCell ⟨g, 9, none⟩ p7 = W.setCells g 2 [p0, p1, p2, p3, p4, p5, p6, p7] := rfl
theorem swapLit7 (o : Nat → Int) (l : Int) : ov (swapO o l) = .agg #[.int .i64 (swapO o l 0), .int .i64 (swapO o l 1), .int .i64 (swapO o l 2), .int .i64 (swapO o l 3), .int .i64 (swapO o l 4), .int .i64 (swapO o l 5), .int .i64 (swapO o l 6), .int .i64 (swapO o l 7)] := rfl

/-- A node stored in a variable. -/
theorem HoldsN.put {w : World} {b : Nat} {x : Nd} (h : HoldsN w b x) (y : Nd) : HoldsN (((w.setCell ⟨b, 0, none⟩ (.int .i64 y.var)).setCell ⟨b, 1, none⟩ (.int .i64 y.lo)).setCell ⟨b, 2, none⟩ (.int .i64 y.hi)) b y := by
  have r0 := heap_setCell_same _ b 0 _ _ (.int .i64 y.var) h
  have r1 := heap_setCell_same _ b 1 _ _ (.int .i64 y.lo) r0
  have r2 := heap_setCell_same _ b 2 _ _ (.int .i64 y.hi) r1
  refine Eq.trans r2 ?_
  simp
theorem HoldsN.free {w : World} {b : Nat} {x : Nd} (h : HoldsN w b x) (j : Nat) : w.frozen? ⟨b, j, none⟩ = false := frozen_of_row _ _ _ _ _ h
theorem MS.Base.deep_le {s : MS} (ok : s.Base) {l : Nat} {p : Int} (h : s.deep l p) : p ≤ 20001 := by
  rcases h with h | ⟨h, _⟩
  · omega
  · exact (ok.has_le h).2

/-- What changes. -/
def MS.chg (s : MS) (x y : Int) (n : Int) : Bool := decide ((s.nd n).var = x) && (s.isOf (s.nd n).lo y || s.isOf (s.nd n).hi y)
theorem filter_take {α : Type} (p : α → Bool) (l : List α) (i : Nat) (hi : i < l.length) : (p l[i] = true → (l.take (i + 1)).filter p = (l.take i).filter p ++ [l[i]]) ∧ (p l[i] = false → (l.take (i + 1)).filter p = (l.take i).filter p) := by
  rw [List.take_succ_eq_append_getElem hi, List.filter_append]
  exact ⟨fun h => by simp [h], fun h => by simp [h]⟩

end Go.Proofs.YtipocmbplcdmjaaGreatDoor

/-
  A region whose order is open: operations that read no memory come first, in whatever order they stand; those behind them come one after another. One walk serves every order. Nothing of the program is read here.
-/
namespace Go.Proofs.YtipocmbplcdmjaaGreatDoor
open Go Go.RowKit

section
variable {P : Program} {ops : Array Oper} {md : Region.Mode}

/-- The operations 'qs' come up one after another, and nothing else. -/
def seqIdxB (md : Region.Mode) (ops : Array Oper) : List Nat → Array Bool → Bool
  | [], ls => (Region.ready md ops ls).isEmpty
  | k :: qs, ls => decide (Region.ready md ops ls = [k]) && seqIdxB md ops qs (ls.setIfInBounds k true)

/-- Ahead of them 'ps' may be taken, in this order. -/
def pureIdxB (md : Region.Mode) (ops : Array Oper) (qs : List Nat) : List Nat → Array Bool → Bool
  | [], ls => seqIdxB md ops qs ls
  | i :: ps, ls => (Region.ready md ops ls).contains i && Region.free md ops ls i && pureIdxB md ops qs ps (ls.setIfInBounds i true)

/-- All operations of these numbers. -/
def opsAt (ops : Array Oper) (l : List Nat) : List Oper := l.filterMap fun i => ops[i]?

/-- Operations that read no memory, one after another. -/
def wpPure (P : Program) (ops : Array Oper) (K : Act → Prop) : List Oper → Act → Prop
  | [], a => K a
  | o :: l, a => ∃ v, Yields P ops o v a ∧ wpPure P ops K l (a.put o.dst v)

theorem wpPure_nil {K : Act → Prop} {a : Act} (h : K a) : wpPure P ops K [] a := h
theorem wpPure_cons {K : Act → Prop} {o : Oper} {l : List Oper} {a : Act} {v : Value} (hw : Region.wanted o (yielded ops a.tmps) = true) (hr : ∀ w, (execOp a.eval o).run P w = .ok (.value v) w) (h : wpPure P ops K l (a.put o.dst v)) : wpPure P ops K (o :: l) a :=
  ⟨v, .inl ⟨hw, hr⟩, h⟩

/-- A panic does not look at what these operations leave. -/
def panicsBy (Q : Exit → Act → World → Prop) : List Oper → Prop
  | [] => True
  | o :: l => (∀ c v a w, Q (.panic c) (Act.put a o.dst v) w → Q (.panic c) a w) ∧ panicsBy Q l

theorem panicsBy_nil {Q : Exit → Act → World → Prop} : panicsBy Q [] := trivial
theorem panicsBy_cons {Q : Exit → Act → World → Prop} {o : Oper} {l : List Oper} (h : ∀ c v a w, Q (.panic c) (Act.put a o.dst v) w → Q (.panic c) a w) (k : panicsBy Q l) : panicsBy Q (o :: l) := ⟨h, k⟩

theorem wpAny_of_seqIdx {Q : Exit → Act → World → Prop} : ∀ (qs : List Nat) (ls : Array Bool) (a : Act) (w : World), (∀ q ∈ qs, q < ops.size) → seqIdxB md ops qs ls = true → wpList P ops Q (opsAt ops qs) a w → wpAny P md ops Q qs.length ls a w
  | [], _, _, _, _, hB, h => ⟨by simpa [seqIdxB] using hB, h⟩
  | k :: qs, ls, a, w, hq, hB, h => by
    obtain ⟨o, ho⟩ : ∃ o, ops[k]? = some o := ⟨_, Array.getElem?_eq_getElem (hq k (List.mem_cons_self))⟩
    have e : opsAt ops (k :: qs) = o :: opsAt ops qs := by simp [opsAt, ho]
    rw [e] at h
    simp only [seqIdxB, Bool.and_eq_true, decide_eq_true_eq] at hB
    refine ⟨fun h1 => (by rw [hB.1] at h1; cases h1), fun i hi => ?_⟩
    rw [hB.1] at hi
    have hik : i = k := by simpa using hi
    subst hik
    have hw : wpOp P ops Q i (wpList P ops Q (opsAt ops qs)) a w := by unfold wpOp; simp only [ho]; exact h
    exact wpOp_mono (fun a' w' h' => wpAny_of_seqIdx qs _ a' w' (fun q h => hq q (List.mem_cons_of_mem _ h)) hB.2 h') hw

theorem wpAny_of_pure {Q : Exit → Act → World → Prop} (hsel : Region.noSelect ops = true) {qs : List Nat} (hq : ∀ q ∈ qs, q < ops.size) {w : World} :
    ∀ (ps : List Nat) (ls : Array Bool) (a : Act), panicsBy Q (opsAt ops ps) → (∀ p ∈ ps, p < ops.size) → pureIdxB md ops qs ps ls = true → wpPure P ops (fun a' => wpList P ops Q (opsAt ops qs) a' w) (opsAt ops ps) a → wpAny P md ops Q (ps.length + qs.length) ls a w
  | [], ls, a, _, _, hB, h => by
    simp only [List.length_nil, Nat.zero_add]
    exact wpAny_of_seqIdx qs ls a w hq hB h
  | i :: ps, ls, a, hQ, hp, hB, h => by
    obtain ⟨o, ho⟩ : ∃ o, ops[i]? = some o := ⟨_, Array.getElem?_eq_getElem (hp i (List.mem_cons_self))⟩
    have e : opsAt ops (i :: ps) = o :: opsAt ops ps := by simp [opsAt, ho]
    rw [e] at h hQ
    obtain ⟨v, hy, hk⟩ := h
    simp only [pureIdxB, Bool.and_eq_true] at hB
    rw [List.length_cons, Nat.add_right_comm]
    exact wpAny_take ho hsel hB.1.2 hB.1.1 (fun c a w => hQ.1 c v a w) hy (wpAny_of_pure hsel hq ps _ _ hQ.2 (fun p h => hp p (List.mem_cons_of_mem _ h)) hB.2 hk)

end

end Go.Proofs.YtipocmbplcdmjaaGreatDoor

/-
  A region whose order is open: its first operations are quiet in a class of worlds; then one comes that waits for all of them, whatever it does; those behind it read no memory, in whatever order they stand. Nothing of the program is read here.
-/
namespace Go.Proofs.YtipocmbplcdmjaaGreatDoor
open Go Go.RowKit

section
variable {P : Program} {ops : Array Oper} {md : Region.Mode} {C : World → Prop}

/-- Each operation of the tail, but the first, waits for one of the tail. -/
def chainW (md : Region.Mode) (ops : Array Oper) (n : Nat) : Bool :=
  (List.range ops.size).all fun t => decide (t ≤ n) || (List.range t).any fun e => decide (n ≤ e) && Region.waitsFor md ops t e

theorem tailWaitsW {n k0 : Nat} (hs : sinkFrom md ops k0 n = true) (hc : chainW md ops n = true) : TailWaits md ops n k0 := by
  intro ls inv i hk hi hun t ht hr
  obtain ⟨_, ot, hot, hall⟩ := mem_ready.1 hr
  have hts : t < ops.size := (Array.getElem?_eq_some_iff.1 hot).1
  rcases Nat.lt_or_ge n t with hlt | hge
  · have h1 := List.all_eq_true.1 hc t (List.mem_range.2 hts)
    rw [decide_eq_false (by omega), Bool.false_or] at h1
    obtain ⟨e0, he0, h2⟩ := List.any_eq_true.1 h1
    rw [Bool.and_eq_true, decide_eq_true_eq] at h2
    have he1 := List.mem_range.1 he0
    obtain ⟨o', ho', e, he, hb, hon⟩ := Region.waitsFor_spec h2.2
    obtain rfl : o' = ot := Option.some.inj (ho'.symm.trans hot)
    have h3 := hall e he hb
    rw [hon, getD_both (inv.tail e0 (by omega) (by omega))] at h3
    exact Bool.noConfusion h3
  · obtain rfl : t = n := by omega
    have key : ∀ d i, t - i ≤ d → k0 ≤ i → i < t → ls.getD i true = false → False := by
      intro d
      induction d with
      | zero => intro i h1 _ h3; omega
      | succ d ih =>
        intro i h1 h2 h3 hun
        have h4 := List.all_eq_true.1 hs i (List.mem_range.2 h3)
        rw [decide_eq_false (by omega), Bool.false_or] at h4
        obtain ⟨j, hj, hj2⟩ := List.any_eq_true.1 h4
        rw [Bool.and_eq_true, decide_eq_true_eq] at hj2
        have hjt := List.mem_range.1 hj
        obtain ⟨oj, hoj, e, he, hb, hon⟩ := Region.waitsFor_spec hj2.2
        rcases Nat.lt_or_ge j t with hjl | hjg
        · cases hl : ls.getD j false with
          | true =>
            have h5 := inv.closed j oj hoj hl e he hb
            rw [hon, getD_both hun] at h5
            exact Bool.noConfusion h5
          | false => exact ih j (by omega) (by omega) hjl (getD_in (by rw [inv.size]; omega) hl)
        · obtain rfl : j = t := by omega
          obtain rfl : oj = ot := Option.some.inj (hoj.symm.trans hot)
          have h5 := hall e he hb
          rw [hon, getD_both hun] at h5
          exact Bool.noConfusion h5
    exact key (t - i) i (Nat.le_refl _) hk hi hun

/-- Behind the head: the one, then the others. -/
def tailE (md : Region.Mode) (ops : Array Oper) (n : Nat) (ls : Array Bool) : Bool :=
  decide (Region.ready md ops ls = [n]) && pureIdxB md ops [] (List.range' (n + 1) (ops.size - (n + 1))) (ls.setIfInBounds n true)
def lexHeadE (md : Region.Mode) (ops : Array Oper) (n : Nat) : Nat → Nat → Array Bool → Bool
  | 0, _, ls => tailE md ops n ls
  | f + 1, k, ls => (Region.ready md ops ls).contains k && Region.free md ops ls k && lexHeadE md ops n f (k + 1) (ls.setIfInBounds k true)

theorem headQ.lexE {n k0 : Nat} {G : Act → Prop} (hsel : Region.noSelect ops = true) (ht : TailWaits md ops n k0) (l : List Oper) :
    ∀ (k : Nat) (ls : Array Bool) (a : Act), k0 ≤ k → (∀ j, j < l.length → l[j]? = ops[k + j]?) → k + l.length = n → HeadInv md ops n ls →
      lexHeadE md ops n l.length k ls = true → wpQuiet P ops C G l a →
      headQ P md ops C n (fun ls' a' => tailE md ops n ls' = true ∧ G a') l.length ls a := by
  induction l with
  | nil =>
    intro k ls a _ _ hk _ hB h
    exact ⟨hB, h⟩
  | cons o l ih =>
    intro k ls a hk0 hl hk inv hB h
    have h0 : ops[k]? = some o := (hl 0 (Nat.succ_pos _)).symm
    simp only [List.length_cons, lexHeadE, Bool.and_eq_true] at hB hk
    have hkn : k < n := by omega
    have hr : k ∈ Region.ready md ops ls := by simpa using hB.1.1
    obtain ⟨v, hy, hK⟩ := yieldsIn_of_qOp (K := wpQuiet P ops C G l) h0 (by unfold qOp; rw [h0]; exact h)
    refine headQ.first h0 (Region.noSelect_spec hsel) ht hk0 hkn (fun ls' _ hL j hj => ?_) l.length ls a inv (Region.free_spec h0 hB.1.2) hr hy ?_
    · have h1 := hL.1
      simp only [tailE, Bool.and_eq_true, decide_eq_true_eq] at h1
      rw [h1.1] at hj
      have : j = n := by simpa using hj
      omega
    refine ih (k + 1) _ _ (by omega) (fun j hj => ?_) (by omega) (inv.set hr hkn) hB.2 hK
    have := hl (j + 1) (Nat.succ_lt_succ hj)
    rw [Nat.add_right_comm, Nat.add_assoc]
    simpa using this

/-- The closed conditions of the rule. -/
def effB (md : Region.Mode) (ops : Array Oper) (n : Nat) : Bool :=
  Region.noSelect ops && decide (n < ops.size) && sinkFrom md ops 0 n && chainW md ops n && lexHeadE md ops n n 0 (Array.replicate ops.size false)

theorem opsAt_range (l : List Oper) : ∀ (m n : Nat), n + m = l.length → opsAt l.toArray (List.range' n m) = l.drop n := by
  intro m
  induction m with
  | zero => intro n h; simp [opsAt, List.drop_of_length_le (show l.length ≤ n by omega)]
  | succ m ih =>
    intro n h
    have h1 := ih (n + 1) (by omega)
    rw [List.range'_succ, List.drop_eq_getElem_cons (by omega : n < l.length)]
    unfold opsAt at *
    rw [List.filterMap_cons, h1]
    simp [show n < l.length by omega]

/-- THE RULE. -/
theorem wp_region_quiet_effect {id : Nat} {Q : Exit → Act → World → Prop} {a : Act} {w : World} {l : List Oper} (n : Nat) (on : Oper) (hon : l[n]? = some on) (hm : P.follows .mixedOrders = true) (hB : effB .any l.toArray n = true)
    (hC : C { w with drawn := w.drawn + 1 }) (hQ : panicsBy Q (l.drop (n + 1)))
    (h : wpQuiet P l.toArray C (fun a' => ∀ w', C w' → ∀ K : Act → World → Prop, Hid (∀ a w, wpPure P l.toArray (fun a'' => Q .normal a'' w) (l.drop (n + 1)) a → K a w) →
      if Region.wanted on (yielded l.toArray a'.tmps) = true then Oper.wp P on a' w' K Q else K (a'.put on.dst undef) w') (l.take n) a) : (Code.region id l.toArray true).wp P Q a w := by
  simp only [effB, Bool.and_eq_true, decide_eq_true_eq] at hB
  obtain ⟨⟨⟨⟨hsel, hn⟩, hs⟩, hc⟩, hlex⟩ := hB
  have hn' : n < l.length := by simpa using hn
  have ht : (l.take n).length = n := by rw [List.length_take]; omega
  have inv0 : HeadInv .any l.toArray n (Array.replicate l.toArray.size false) :=
    ⟨by simp, fun j oj _ hl => by rw [getD_replicate_false] at hl; exact Bool.noConfusion hl, fun t _ h2 => getD_in (by simpa using h2) (getD_replicate_false _ _)⟩
  have H := headQ.lexE (md := .any) (k0 := 0) hsel (tailWaitsW hs hc) (l.take n) 0 _ a (Nat.zero_le _) (fun j hj => by rw [ht] at hj; simp [hj]) (by omega) inv0 (by rw [ht]; exact hlex) h
  refine wp_region_any hm ?_
  have hop : opsAt l.toArray (List.range' (n + 1) (l.toArray.size - (n + 1))) = l.drop (n + 1) := opsAt_range l _ _ (by simp; omega)
  have R := headQ.any (Q := Q) (g := l.toArray.size - n) (fun ls a' w' hw hL => by
    obtain ⟨hT, hG⟩ := hL
    simp only [tailE, Bool.and_eq_true, decide_eq_true_eq] at hT
    have hG' := hG w' hw
    rw [show l.toArray.size - n = (l.toArray.size - (n + 1)) + 1 by omega]
    refine ⟨fun h1 => (by rw [hT.1] at h1; cases h1), fun i hi => ?_⟩
    rw [hT.1] at hi
    have hin : i = n := by simpa using hi
    subst hin
    refine wpOp_step (by simpa using hon) fun K hK => hG' K (Lib.hid fun a2 w2 h2 => hK a2 w2 ?_)
    have := wpAny_of_pure (md := .any) (Q := Q) (w := w2) hsel (qs := []) (fun _ h => by cases h) (List.range' (i + 1) (l.toArray.size - (i + 1))) (ls.setIfInBounds i true) a2 (by rw [hop]; exact hQ) (fun p hp => by
      have := List.mem_range'_1.1 hp
      omega) hT.2 (by rw [hop]; exact h2)
    simpa using this) _ _ _ _ hC H
  rwa [ht, Nat.add_sub_cancel' (Nat.le_of_lt hn)] at R
end

end Go.Proofs.YtipocmbplcdmjaaGreatDoor
