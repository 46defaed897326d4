/-
  Texts of this proof, one behind the other: Keeps17.
-/
import Derived.Test.YtpdkcdehbpbheaaG7
import Derived.Deep.CutRange
/-
  LedgerKeeps: the walk.
-/
namespace Go.Proofs.Ytpdkcdehbpbheaa
open Go Go.RowKit

/-- A ledger apart from all that stood in w0. -/
structure S17 (w0 : World) (b : Nat) (c : Int) (f : LF) (w : World) : Prop where
  lc : LdC w b c f
  lowB : w0.heap.size ≤ b
  below : Below w0.heap.size w0 w

section
variable {w0 w w' : World} {b : Nat} {c : Int} {f f' : LF}

theorem S17.sub (h : S17 w0 b c f w) (hb : Below w.heap.size w w') : S17 w0 b c f w' :=
  ⟨h.lc.below hb, h.lowB, h.below.trans (hb.mono h.below.size)⟩
theorem S17.code (h : S17 w0 b c f w) (s : LdC w' b c f') (hK : Keeps (only b) w w') : S17 w0 b c f' w' :=
  ⟨s, h.lowB, h.below.trans (hK.below h.below.size fun k hk => by rw [hk]; exact h.lowB)⟩
end

theorem errVn {E : Int} (h : ¬ E = 0) : errV E = .iface 51 (.int .i64 E) := if_neg h

set_option maxRecDepth 100000 in
set_option maxHeartbeats 16000000 in
theorem ledgerKeeps (c : Int) (l : List Dl) (v : Value) (w : World) (hv : Reads encDl w v l) (_hl : l.length ≤ maxLen) (hwf : ∀ d ∈ l, (Lit.int .i64 d.what).wf = true ∧ (Lit.int .i64 d.tenant).wf = true ∧ (Lit.int .i64 d.quota).wf = true) :
    Calls Try.prog 4 #[.int .i64 c, v] w fun e w' => e = .returned (.bool true) ∧ Below w.heap.size w w' := by
  obtain ⟨a, cap, rfl⟩ := hv.form
  go_enter Try.func4, Try.ntmps4
  go_wp2_with fail
  refine (up17 _).mono ?_
  rintro e w1 ⟨rfl, hb1⟩
  by_cases hcap : 0 ≤ c ∧ c ≤ 10000
  · obtain ⟨h0, h1⟩ := hcap
    have hn0 : ¬ c < 0 := by omega
    have hn1 : ¬ 10000 < c := by omega
    go_wp2_with fail
    refine (ledNew c w1 h0 h1).mono ?_
    rintro e w2 ⟨b, rfl, hlb, s, hb2⟩
    by_cases hlen : l.length ≤ 200
    · have hl4 : ¬ 200 < (l.length : Int) := by omega
      have hb12 := hb1.trans (hb2.mono hb1.size)
      have hs1 := hb1.size
      have L0 : S17 w b c LF.zero w2 := ⟨s, by omega, hb12⟩
      have ok0 := LF.Ok.zero h0 h1
      replace L0 := Lib.hid L0
      have HV := Lib.hid hv
      clear s hb1 hb2 hb12 hs1 hlb hv
      go_wp2
      go_loopw [7] (fun i wr => ∃ (k : Nat) (f : LF), i = .int .i64 k ∧ k ≤ l.length ∧ f.Ok c ∧ S17 w b c f wr) (fun i _ => l.length - (intOf i).toNat)
      case atStart => exact ⟨0, _, rfl, by omega, ok0, L0.out⟩
      case round =>
        clear L0 ok0
        obtain ⟨k, f, rfl, hk, ok, R⟩ := hrel
        by_cases hlt : k < l.length
        · have hk0 : (0 : Int) ≤ (k : Int) := by omega
          have hk1 : (k : Int) < (l.length : Int) := by omega
          obtain ⟨ad, rfl, q0, q1, q2⟩ := (HV.out.keep R.below).dlAt k hlt
          have hwk := hwf _ (List.getElem_mem hlt)
          generalize l[k] = d at *
          obtain ⟨What, T, Q⟩ := d
          simp only at q0 q1 q2 hwk
          obtain ⟨g0, g1, g2⟩ := hwk
          have hbV : Below wr.heap.size wr (wr.alloc (.cells #[.int .i64 What, .int .i64 T, .int .i64 Q] 29)) := by go_grown
          have hx : HoldsDl (wr.alloc (.cells #[.int .i64 What, .int .i64 T, .int .i64 Q] 29)) wr.heap.size ⟨What, T, Q⟩ := heap_alloc_new _ _
          have R1 := R.sub hbV
          have nb : wr.heap.size ≠ b := by have := R.lc.lt; omega
          clear R hbV
          have HL0 := ledLeft R1.lc ok
          have HQ0 := fun W (h : LdC W b c f) => ledQuota h T
          have R1 := Lib.hid R1
          have pk3 := fun V => lawPick What 3 V (by decide) (by decide) g0
          generalize What % 3 = p at *
          go_upto_region 9 with (fail)
          generalize wr.alloc (.cells #[.int .i64 What, .int .i64 T, .int .i64 Q] 29) = V at *
          generalize hbx : wr.heap.size = bx at *
          have hLb := ok.left
          have hQ0 := f.quota_nonneg T
          have hQ1 := ok.quota T
          have hlq := Lib.hid (f.le_left c T)
          have hlE : Hid (f.leE T = if f.isAt T = true then 0 else 4) := Lib.hid rfl
          have hqn := Lib.hid (f.quota_no (t := T))
          have hadL : Hid (f.adE c T Q = 0 → (f.ad c T Q).left c = f.left c - Q) := Lib.hid LF.ad_left
          have hadS : Hid (¬ f.adE c T Q = 0 → f.ad c T Q = f) := Lib.hid LF.ad_same
          have hadZ : Hid (f.adE c T Q = 0 → 0 ≤ Q ∧ Q ≤ f.left c ∧ f.isAt T = false) := Lib.hid fun h => by
            obtain ⟨_, a0, _, a1, a2⟩ := LF.adE_zero h
            exact ⟨a0, a2, a1⟩
          go_wp2_with fail
          refine HL0.mono ?_
          rintro e w3 ⟨rfl, hb3⟩
          have R2 := Lib.hid (R1.out.sub hb3)
          have hx2 := hx.below hb3
          have hxn2 := hx2.tenant
          dsimp only at hxn2
          clear HL0 R1 hx hb3
          go_wp2_with fail
          refine (HQ0 _ R2.out.lc).mono ?_
          rintro e w4 ⟨rfl, rfl⟩
          clear HQ0 hxn2
          have hxw := hx2.what
          dsimp only at hxw
          go_wp2_with fail
          refine (pk3 _).mono ?_
          rintro e wx ⟨rfl, rfl⟩
          clear pk3 hxw
          go_upto_if 70 with (fail)
          go_cut [10, 11] from 48 to 144 (fun s10 s11 wc => ∃ (x : Int) (y : Bool) (f' : LF), s10 = .int .i64 x ∧ s11 = .bool y ∧ f'.Ok c ∧ S17 w b c f' wc)
          case first =>
            by_cases p2 : p = 2
            · subst p2
              have GV := ledLeave R2.out.lc T
              have ok2 := ok.le T
              have hxn := hx2.tenant
              dsimp only at hxn
              have HL2 := fun W (h : LdC W b c (f.le T)) => ledLeft h ok2
              have hle := hlE.out
              by_cases hi : f.isAt T = true
              · rw [if_pos hi] at hle
                rw [hle, show errV 0 = .nilIface from rfl] at GV
                rw [hi]
                have eq1 : (f.le T).left c = f.left c + f.quota T := hlq.out
                have eq2 : (f.left c + f.quota T != f.left c + f.quota T) = false := bne_self_eq_false _
                rw [eq1] at HL2
                clear hlq hlE hqn hadL hadS hadZ hle hi eq1
                generalize f.left c = L at *
                generalize f.quota T = q at *
                generalize f.le T = f2 at *
                go_wp2_with fail
                refine GV.mono ?_
                rintro e w5 ⟨rfl, s5, hK5⟩
                have R3 := Lib.hid (R2.out.code s5 hK5)
                clear GV R2 s5 hK5 hx2 hxn
                go_wp2_with fail
                refine (HL2 _ R3.out.lc).mono ?_
                rintro e w6 ⟨rfl, hb6⟩
                have R4 := Lib.hid (R3.out.sub hb6)
                clear HL2 R3 hb6
                go_wp2
                go_meet
                case rel => exact ⟨_, _, f2, rfl, rfl, ok2, R4.out⟩
              · rw [if_neg hi] at hle
                rw [hle, show errV 4 = .iface 51 (.int .i64 4) from rfl] at GV
                rw [Bool.eq_false_iff.2 hi]
                have eq0 := hqn.out hi
                have eq1 : (f.le T).left c = f.left c := by rw [hlq.out, eq0, Int.add_zero]
                have eq2 : (f.left c != f.left c) = false := bne_self_eq_false _
                rw [eq1] at HL2
                rw [eq0]
                clear hlq hlE hqn hadL hadS hadZ hle hi eq1 eq0 hQ0 hQ1
                generalize f.left c = L at *
                generalize f.le T = f2 at *
                go_wp2_with fail
                refine GV.mono ?_
                rintro e w5 ⟨rfl, s5, hK5⟩
                have R3 := Lib.hid (R2.out.code s5 hK5)
                clear GV R2 s5 hK5 hx2 hxn
                go_wp2_with fail
                refine (HL2 _ R3.out.lc).mono ?_
                rintro e w6 ⟨rfl, hb6⟩
                have R4 := Lib.hid (R3.out.sub hb6)
                clear HL2 R3 hb6
                go_wp2
                go_meet
                case rel => exact ⟨_, _, f2, rfl, rfl, ok2, R4.out⟩
            · have q2 : (p == 2) = false := beq_eq_false_iff_ne.2 p2
              have GV := ledAdmit R2.out.lc ok T Q
              have ok2 := ok.ad T Q
              have hxn := hx2.tenant
              have hxq := hx2.quota
              dsimp only at hxn hxq
              have HL2 : ∀ (W : World) (u : Sub W), LdC W b c (f.ad c T Q) → Calls Try.prog 16 #[.pointer (some ⟨b, 0, none⟩)] u.1 fun e w'' => e = .returned (.int .i64 ((f.ad c T Q).left c)) ∧ ∃ x : Sub W, w'' = x.1 := fun W u h => subBelow (ledLeft (h.below u.2) ok2)
              by_cases hE : f.adE c T Q = 0
              · rw [hE, show errV 0 = .nilIface from rfl] at GV
                obtain ⟨z0, z1, z2⟩ := hadZ.out hE
                rw [hadL.out hE] at HL2
                rw [z2]
                have eq2 : (f.left c - Q != f.left c - Q) = false := bne_self_eq_false _
                clear hlq hlE hqn hadL hadS hadZ hE z2
                generalize f.left c = L at *
                generalize f.ad c T Q = f2 at *
                go_wp2_with fail
                refine GV.mono ?_
                rintro e w5 ⟨rfl, s5, hK5⟩
                have R3 := Lib.hid (R2.out.code s5 hK5)
                have hx5 := hx2.keep hK5 nb
                have cq : ∀ u : Sub w5, u.1.cell? ⟨bx, 2, none⟩ = some (.int .i64 Q) := fun u => (hx5.below u.2).quota
                have HL := fun u : Sub w5 => HL2 w5 u s5
                clear GV R2 s5 hK5 hx2 hxn hxq hx5 HL2
                go_wp2
                refine wp_region_quiet_all (C := fun w' => ∃ u : Sub w5, w' = u.1) (by kernel_rfl) (by kernel_rfl) (InSub.drew w5) ?_
                iterate 4 (go_big_quiet_step (fail))
                go_big_quiet_step (exact HL _)
                iterate 10 (go_big_quiet_step (fail))
                iterate 4 go_big_quiet_skip
                iterate 5 (go_big_quiet_step (fail))
                iterate 2 go_big_quiet_skip
                iterate 2 (go_big_quiet_step (fail))
                refine wpQuiet_nil ?_
                clear HL cq
                intro w' hw'
                obtain ⟨u, rfl⟩ := hw'
                go_wp2
                go_meet
                case rel => exact ⟨_, _, f2, rfl, rfl, ok2, R3.out.sub u.2⟩
              · rw [errVn hE] at GV
                rw [hadS.out hE] at HL2 GV ok2
                have eq2 : (f.left c != f.left c) = false := bne_self_eq_false _
                clear hlq hlE hqn hadL hadS hadZ
                generalize f.left c = L at *
                generalize f.adE c T Q = E at *
                generalize f.isAt T = I at *
                go_wp2_with fail
                refine GV.mono ?_
                rintro e w5 ⟨rfl, s5, hK5⟩
                have R3 := Lib.hid (R2.out.code s5 hK5)
                have HL := fun u : Sub w5 => HL2 w5 u s5
                clear GV R2 s5 hK5 hx2 hxn hxq HL2
                cases I with
                | false =>
                  go_wp2
                  refine wp_region_quiet_all (C := fun w' => ∃ u : Sub w5, w' = u.1) (by kernel_rfl) (by kernel_rfl) (InSub.drew w5) ?_
                  iterate 3 (go_big_quiet_step (fail))
                  iterate 7 go_big_quiet_skip
                  iterate 6 (go_big_quiet_step (fail))
                  go_big_quiet_step (exact HL _)
                  iterate 7 (go_big_quiet_step (fail))
                  iterate 2 go_big_quiet_skip
                  iterate 2 (go_big_quiet_step (fail))
                  refine wpQuiet_nil ?_
                  clear HL
                  intro w' hw'
                  obtain ⟨u, rfl⟩ := hw'
                  go_wp2
                  go_meet
                  case rel => exact ⟨_, _, f, rfl, rfl, ok, R3.out.sub u.2⟩
                | true =>
                  go_wp2
                  refine wp_region_quiet_all (C := fun w' => ∃ u : Sub w5, w' = u.1) (by kernel_rfl) (by kernel_rfl) (InSub.drew w5) ?_
                  iterate 3 (go_big_quiet_step (fail))
                  iterate 7 go_big_quiet_skip
                  iterate 6 (go_big_quiet_step (fail))
                  go_big_quiet_step (exact HL _)
                  iterate 11 (go_big_quiet_step (fail))
                  refine wpQuiet_nil ?_
                  clear HL
                  intro w' hw'
                  obtain ⟨u, rfl⟩ := hw'
                  go_wp2
                  go_meet
                  case rel => exact ⟨_, _, f, rfl, rfl, ok, R3.out.sub u.2⟩
          case rest =>
          obtain ⟨x10, y11, f2, rfl, rfl, ok2, R3⟩ := hcut
          clear hlq hlE hqn hadL hadS hadZ hLb hQ0 hQ1 R2 ok hx2
          have HQ := fun n : Nat => fun (h : n < 8) => ledQuota R3.lc ((n : Int) + 1)
          have HL := fun W (hb : Below wc.heap.size wc W) => ledLeft (R3.lc.below hb) ok2
          have HP := fun n (h : n ≤ 8) => ok2.part h
          have hLb := ok2.left
          have HE : Hid (f2.sum 8 + f2.left c = c) := Lib.hid (by unfold LF.left; omega)
          have HS : ∀ n, n < 8 → Hid (f2.sum n + f2.quota ((n : Int) + 1) = f2.sum (n + 1)) ∧ 0 ≤ f2.quota ((n : Int) + 1) ∧ f2.quota ((n : Int) + 1) ≤ 10000 := fun n hn => ⟨Lib.hid (by rw [f2.quota_amt (by omega), LF.sum_succ, show ((n : Int) + 1).toNat = n + 1 by omega]), f2.quota_nonneg _, ok2.quota _⟩
          have R3 := Lib.hid R3
          go_wp2
          go_loop [14, 15] (fun x i => ∃ n : Nat, n ≤ 8 ∧ x = .int .i64 (f2.sum n) ∧ i = .int .i64 ((n : Int) + 1)) (fun _ i => 9 - (intOf i).toNat)
          case atStart => exact ⟨0, by omega, rfl, rfl⟩
          case round =>
            obtain ⟨n, hn, rfl, rfl⟩ := hrel
            by_cases hn8 : n < 8
            · have hq := HQ n hn8
              obtain ⟨hs, hs0, hs1⟩ := HS n hn8
              have hp := HP n (by omega)
              have hn1 : (n : Int) < 8 := by omega
              have hn0 : (0 : Int) ≤ (n : Int) := by omega
              clear HQ HS HP HL HE hLb
              obtain ⟨pp0, pp1, _, _⟩ := hp
              generalize f2.quota ((n : Int) + 1) = q at *
              go_wp2_with fail
              refine hq.mono ?_
              rintro e w7 ⟨rfl, rfl⟩
              clear hq
              go_wp2
              exact ⟨⟨n + 1, by omega, by rw [← hs.out], by go_num⟩, by simp [intOf]; omega⟩
            · obtain rfl : n = 8 := by omega
              have hp := HP 8 (by omega)
              obtain ⟨pp0, pp1, _, _⟩ := hp
              clear HQ HS HP
              have eC := HE.out
              have eC2 : (f2.sum 8 + f2.left c != c) = false := by rw [eC]; exact bne_self_eq_false _
              clear HE eC
              generalize f2.sum 8 = S at *
              generalize f2.left c = L at *
              go_wp2_with fail
              refine (HL _ (Below.refl _ _)).mono ?_
              rintro e w8 ⟨rfl, hb8⟩
              go_wp2_with fail
              refine (HL _ hb8).mono ?_
              rintro e w9 ⟨rfl, hb9⟩
              have R4 := Lib.hid (R3.out.sub (hb8.trans (hb9.mono hb8.size)))
              clear HL R3 hb8 hb9
              go_wp2
              exact ⟨⟨k + 1, f2, by go_num, by omega, ok2, R4.out⟩, by simp [intOf]; omega⟩
        · obtain rfl : k = l.length := by omega
          have hbl := R.below
          clear R HV hwf
          go_wp2
          go_ret
          exact ⟨rfl, hbl⟩
    · have hl4 : 200 < (l.length : Int) := by omega
      have hb := hb1.trans (hb2.mono hb1.size)
      clear s hv hwf hb1 hb2
      go_wp2
      go_ret
      exact ⟨rfl, hb⟩
  · clear hv hwf
    go_wp2_with fail
    refine (ledNone c w1 hcap).mono ?_
    rintro e w2 ⟨rfl, rfl⟩
    by_cases h0 : c < 0
    · have h0' : ¬ 0 ≤ c := by omega
      go_wp2
      go_ret
      exact ⟨rfl, hb1⟩
    · have h8 : 10000 < c := by omega
      have h8' : decide (c ≤ 10000) = false := decide_eq_false (by omega)
      clear hcap
      go_wp2
      go_ret
      exact ⟨rfl, hb1⟩

end Go.Proofs.Ytpdkcdehbpbheaa
