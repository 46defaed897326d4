/-
  Texts of this proof, one behind the other: Plays17.
-/
import Derived.Test.YtpdkcdehbpbheaaG7
import Derived.Test.YtpdkcdehbpbheaaG8
import Derived.Deep.CutRange
/-
  LedgerPlays: the walk.
-/
namespace Go.Proofs.Ytpdkcdehbpbheaa
open Go Go.RowKit

/-- The code's ledger and the document's, apart from each other and from all that stood in w0. -/
structure R17 (w0 : World) (b m g : Nat) (c : Int) (fc fr : LF) (w : World) : Prop where
  lc : LdC w b c fc
  lr : RfL w m g c fr
  lowB : w0.heap.size ≤ b
  lowG : w0.heap.size ≤ g
  bm : b ≠ m
  bg : b ≠ g
  below : Below w0.heap.size w0 w

section
variable {w0 w w' : World} {b m g : Nat} {c : Int} {fc fr f' : LF}

theorem R17.sub (h : R17 w0 b m g c fc fr w) (hb : Below w.heap.size w w') : R17 w0 b m g c fc fr w' :=
  ⟨h.lc.below hb, h.lr.below hb, h.lowB, h.lowG, h.bm, h.bg, h.below.trans (hb.mono h.below.size)⟩
theorem R17.code (h : R17 w0 b m g c fc fr w) (s : LdC w' b c f') (hK : Keeps (only b) w w') : R17 w0 b m g c f' fr w' :=
  ⟨s, h.lr.keep hK (fun k hk e => hk.elim (fun x => h.bm (e.symm.trans x)) (fun x => h.bg (e.symm.trans x))), h.lowB, h.lowG, h.bm, h.bg, h.below.trans (hK.below h.below.size fun k hk => by rw [hk]; exact h.lowB)⟩
theorem R17.doc (h : R17 w0 b m g c fc fr w) (s : RfL w' m g c f') (hK : Keeps (only g) w w') : R17 w0 b m g c fc f' w' :=
  ⟨h.lc.keep hK (fun e => h.bg e), s, h.lowB, h.lowG, h.bm, h.bg, h.below.trans (hK.below h.below.size fun k hk => by rw [hk]; exact h.lowG)⟩
end

set_option maxRecDepth 100000 in
set_option maxHeartbeats 16000000 in
theorem ledgerPlays (c : Int) (l : List Dl) (t : Int) (v : Value) (w : World) (hv : Reads encDl w v l) (_hl : l.length ≤ maxLen) (hwf : ∀ d ∈ l, (Lit.int .i64 d.what).wf = true ∧ (Lit.int .i64 d.tenant).wf = true ∧ (Lit.int .i64 d.quota).wf = true) (ht : (Lit.int .i64 t).wf = true) :
    Calls Try.prog 3 #[.int .i64 c, v, .int .i64 t] w fun e w' => e = .returned (.bool true) ∧ Below w.heap.size w w' := by
  obtain ⟨a, cap, rfl⟩ := hv.form
  go_enter Try.func3, Try.ntmps3
  go_wp2_with fail
  refine (up17 _).mono ?_
  rintro e w1 ⟨rfl, hb1⟩
  by_cases hcap : 0 ≤ c ∧ c ≤ 10000
  · obtain ⟨h0, h1⟩ := hcap
    have hn0 : ¬ c < 0 := by omega
    have hn1 : ¬ 10000 < c := by omega
    go_wp2_with fail
    refine (ledNew c w1 h0 h1).mono ?_
    rintro e w2 ⟨b, rfl, hlb, s, hb2⟩
    by_cases hlen : l.length ≤ 200
    · have hl4 : ¬ 200 < (l.length : Int) := by omega
      go_wp2_with fail
      refine (refLNew c w2).mono ?_
      rintro e w3 ⟨m, g, rfl, hlm, hlg, s', hb3⟩
      have hb23 := hb1.trans (hb2.mono hb1.size)
      have hs1 := hb1.size
      have hs2 := hb2.size
      have hblt := s.lt
      have L0 : R17 w b m g c LF.zero LF.zero w3 := ⟨s.below hb3, s', by omega, by omega, by omega, by omega, hb23.trans (hb3.mono hb23.size)⟩
      have ok0 := LF.Ok.zero h0 h1
      replace L0 := Lib.hid L0
      have HV := Lib.hid hv
      clear s s' hb1 hb2 hb3 hb23 hs1 hs2 hblt hlb hlm hlg hv
      go_wp2
      go_loopw [10] (fun i wr => ∃ (k : Nat) (f : LF), i = .int .i64 k ∧ k ≤ l.length ∧ f.Ok c ∧ R17 w b m g c f f wr) (fun i _ => l.length - (intOf i).toNat)
      case atStart => exact ⟨0, _, rfl, by omega, ok0, L0.out⟩
      case round =>
        clear L0 ok0
        obtain ⟨k, f, rfl, hk, ok, R⟩ := hrel
        by_cases hlt : k < l.length
        · have hk0 : (0 : Int) ≤ (k : Int) := by omega
          have hk1 : (k : Int) < (l.length : Int) := by omega
          obtain ⟨ad, rfl, q0, q1, q2⟩ := (HV.out.keep R.below).dlAt k hlt
          have hwk := hwf _ (List.getElem_mem hlt)
          generalize l[k] = d at *
          obtain ⟨What, T, Q⟩ := d
          simp only at q0 q1 q2 hwk
          obtain ⟨g0, g1, g2⟩ := hwk
          have hbV : Below wr.heap.size wr (wr.alloc (.cells #[.int .i64 What, .int .i64 T, .int .i64 Q] 29)) := by go_grown
          have hx : HoldsDl (wr.alloc (.cells #[.int .i64 What, .int .i64 T, .int .i64 Q] 29)) wr.heap.size ⟨What, T, Q⟩ := heap_alloc_new _ _
          have R1 := R.sub hbV
          have nb : wr.heap.size ≠ b := by have := R.lc.lt; omega
          have ng : wr.heap.size ≠ g := by have := R.lr.ltg; omega
          clear R hbV
          have R1 := Lib.hid R1
          have pk3 := fun V => lawPick What 3 V (by decide) (by decide) g0
          generalize What % 3 = p at *
          go_upto_region 14 with (fail)
          generalize wr.alloc (.cells #[.int .i64 What, .int .i64 T, .int .i64 Q] 29) = V at *
          generalize hbx : wr.heap.size = bx at *
          have hxw := hx.what
          dsimp only at hxw
          go_wp2_with fail
          refine (pk3 _).mono ?_
          rintro e wx ⟨rfl, rfl⟩
          clear pk3 hxw
          go_upto_if 58 with (fail)
          go_cut [12, 13] from 45 to 127 (fun s12 s13 wc => ∃ (E : Int) (f' : LF), s12 = .int .i64 E ∧ s13 = .int .i64 E ∧ f'.Ok c ∧ R17 w b m g c f' f' wc)
          case first =>
            by_cases p2 : p = 2
            · subst p2
              have GV := ledLeave R1.out.lc T
              have GR := fun W (hb : RfL W m g c f) => refLLeave hb T
              have hE := f.leE_bounds T
              have ok2 := ok.le T
              generalize f.leE T = E at *
              generalize f.le T = f2 at *
              have hxn := hx.tenant
              dsimp only at hxn
              go_wp2_with fail
              refine GV.mono ?_
              rintro e w5 ⟨rfl, s5, hK5⟩
              have R2 := Lib.hid (R1.out.code s5 hK5)
              have hxn5 := (hx.keep hK5 nb).tenant
              dsimp only at hxn5
              clear GV R1 s5 hK5 hx hxn
              go_wp2_with fail
              refine (lawCode E w5 hE.1 hE.2).mono ?_
              rintro e w7 ⟨rfl, rfl⟩
              go_wp2_with fail
              refine (GR _ R2.out.lr).mono ?_
              rintro e w6 ⟨rfl, s6, hK6⟩
              have R3 := Lib.hid (R2.out.doc s6 hK6)
              clear GR R2 s6 hK6 hxn5
              go_wp2
              go_meet
              case rel => exact ⟨E, f2, rfl, rfl, ok2, R3.out⟩
            · have q2 : (p == 2) = false := beq_eq_false_iff_ne.2 p2
              have GV := ledAdmit R1.out.lc ok T Q
              have GR := fun W (hb : RfL W m g c f) => refLAdmit hb ok T Q
              have hE := f.adE_bounds c T Q
              have ok2 := ok.ad T Q
              generalize f.adE c T Q = E at *
              generalize f.ad c T Q = f2 at *
              have hxn := hx.tenant
              have hxq := hx.quota
              dsimp only at hxn hxq
              go_wp2_with fail
              refine GV.mono ?_
              rintro e w5 ⟨rfl, s5, hK5⟩
              have R2 := Lib.hid (R1.out.code s5 hK5)
              have hxn5 := (hx.keep hK5 nb).tenant
              have hxq5 := (hx.keep hK5 nb).quota
              dsimp only at hxn5 hxq5
              clear GV R1 s5 hK5 hx hxn hxq
              go_wp2_with fail
              refine (lawCode E w5 hE.1 hE.2).mono ?_
              rintro e w7 ⟨rfl, rfl⟩
              go_wp2_with fail
              refine (GR _ R2.out.lr).mono ?_
              rintro e w6 ⟨rfl, s6, hK6⟩
              have R3 := Lib.hid (R2.out.doc s6 hK6)
              clear GR R2 s6 hK6 hxn5 hxq5
              go_wp2
              go_meet
              case rel => exact ⟨E, f2, rfl, rfl, ok2, R3.out⟩
          case rest =>
          obtain ⟨E, f2, rfl, rfl, ok2, R2⟩ := hcut
          clear hx R1 ok
          have HQ := ledQuota R2.lc t
          have HI := refLIs R2.lr t
          have HL : ∀ u : Sub wc, Calls Try.prog 16 #[.pointer (some ⟨b, 0, none⟩)] u.1 fun e w'' => e = .returned (.int .i64 (f2.left c)) ∧ ∃ x : Sub wc, w'' = x.1 := fun u => subBelow (ledLeft (R2.lc.below u.2) ok2)
          have HM : ∀ u : Sub wc, Calls Try.prog 17 #[.pointer (some ⟨m, 0, none⟩)] u.1 fun e w'' => e = .returned (.int .i64 (f2.left c)) ∧ ∃ x : Sub wc, w'' = x.1 := fun u => subSame ((refLLeft (R2.lr.below u.2) ok2).mono fun _ _ ⟨h1, h2⟩ => ⟨h1, h2.symm⟩)
          have HR := Lib.hid R2
          have eL : (f2.left c != f2.left c) = false := bne_self_eq_false _
          have eE : (E != E) = false := bne_self_eq_false _
          by_cases hi : f2.isAt t = true
          · obtain ⟨ht2, h02⟩ := LF.isAt_iff.1 hi
            obtain ⟨n, hn, rfl⟩ : ∃ n : Nat, n < 8 ∧ t = (n : Int) + 1 := ⟨(t - 1).toNat, by omega, by omega⟩
            have hP : ∀ u : Sub wc, Calls Try.prog 8 #[.int .i64 ((n : Int) + 1), .int .i64 9] u.1 fun e w'' => e = .returned (.int .i64 ((n : Int) + 1)) ∧ ∃ x : Sub wc, w'' = x.1 := fun u => by
              have := lawPick ((n : Int) + 1) 9 u.1 (by decide) (by decide) ht
              rw [Int.emod_eq_of_lt (by omega) (by omega)] at this
              exact subSame this
            have cM : ∀ u : Sub wc, u.1.cell? ⟨m, 1, none⟩ = some (.slice (some ⟨g, 0, none⟩) 9 9) := fun u => (R2.lr.below u.2).cell.2
            have cQ : ∀ u : Sub wc, u.1.cell? ⟨g, n + 1, none⟩ = some (.int .i64 (f2.quota ((n : Int) + 1))) := fun u => by
              rw [(R2.lr.below u.2).cells (n + 1) (by omega), f2.quota_amt ht2, show ((n : Int) + 1).toNat = n + 1 by omega, amtOf_pos (by rw [show ((n : Int) + 1).toNat = n + 1 by omega] at h02; exact h02)]
            rw [hi] at HQ HI
            have eQ : (f2.quota ((n : Int) + 1) != f2.quota ((n : Int) + 1)) = false := bne_self_eq_false _
            have hn1 : (n : Int) < 8 := by omega
            have hn0 : (0 : Int) ≤ (n : Int) := by omega
            clear R2 h02 ht2 ht
            generalize f2.quota ((n : Int) + 1) = q at *
            generalize f2.left c = L at *
            go_wp2_with fail
            refine HQ.mono ?_
            rintro e w4 ⟨rfl, rfl⟩
            clear HQ
            go_wp2_with fail
            refine HI.mono ?_
            rintro e w4 ⟨rfl, rfl⟩
            clear HI
            go_wp2
            refine wp_region_quiet_all (C := fun w' => ∃ u : Sub w4, w' = u.1) (by kernel_rfl) (by kernel_rfl) (InSub.drew w4) ?_
            iterate 5 (go_big_quiet_step (fail))
            go_big_quiet_step (exact HL _)
            iterate 1 (go_big_quiet_step (fail))
            go_big_quiet_step (exact HM _)
            iterate 16 (go_big_quiet_step (fail))
            go_big_quiet_step (exact hP _)
            iterate 9 (go_big_quiet_step (fail))
            iterate 2 go_big_quiet_skip
            iterate 2 (go_big_quiet_step (fail))
            refine wpQuiet_nil ?_
            clear cM cQ HL HM hP
            intro w' hw'
            obtain ⟨u, rfl⟩ := hw'
            go_wp2
            exact ⟨⟨k + 1, f2, by go_num, by omega, ok2, HR.out.sub u.2⟩, by simp [intOf]; omega⟩
          · rw [f2.quota_no hi, Bool.eq_false_iff.2 hi] at HQ
            rw [Bool.eq_false_iff.2 hi] at HI
            clear R2 hi ht
            generalize f2.left c = L at *
            go_wp2_with fail
            refine HQ.mono ?_
            rintro e w4 ⟨rfl, rfl⟩
            clear HQ
            go_wp2_with fail
            refine HI.mono ?_
            rintro e w4 ⟨rfl, rfl⟩
            clear HI
            go_wp2
            refine wp_region_quiet_all (C := fun w' => ∃ u : Sub w4, w' = u.1) (by kernel_rfl) (by kernel_rfl) (InSub.drew w4) ?_
            iterate 5 (go_big_quiet_step (fail))
            go_big_quiet_step (exact HL _)
            iterate 1 (go_big_quiet_step (fail))
            go_big_quiet_step (exact HM _)
            iterate 10 (go_big_quiet_step (fail))
            iterate 10 go_big_quiet_skip
            iterate 10 (go_big_quiet_step (fail))
            refine wpQuiet_nil ?_
            clear HL HM
            intro w' hw'
            obtain ⟨u, rfl⟩ := hw'
            go_wp2
            exact ⟨⟨k + 1, f2, by go_num, by omega, ok2, HR.out.sub u.2⟩, by simp [intOf]; omega⟩
        · obtain rfl : k = l.length := by omega
          have hbl := R.below
          clear R HV hwf
          go_wp2
          go_ret
          exact ⟨rfl, hbl⟩
    · have hl4 : 200 < (l.length : Int) := by omega
      have hb := hb1.trans (hb2.mono hb1.size)
      clear s hv hwf hb1 hb2
      go_wp2
      go_ret
      exact ⟨rfl, hb⟩
  · clear hv hwf
    go_wp2_with fail
    refine (ledNone c w1 hcap).mono ?_
    rintro e w2 ⟨rfl, rfl⟩
    by_cases h0 : c < 0
    · go_wp2
      go_ret
      exact ⟨rfl, hb1⟩
    · have h8 : 10000 < c := by omega
      clear hcap
      go_wp2
      go_ret
      exact ⟨rfl, hb1⟩

end Go.Proofs.Ytpdkcdehbpbheaa
