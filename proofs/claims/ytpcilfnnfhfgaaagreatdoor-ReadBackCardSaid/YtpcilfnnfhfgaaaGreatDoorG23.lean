/-
  Texts of this proof, one behind the other: ReadN, Tells8, Math3d, Up8, RefNodes.
-/
import Derived.Test.YtpcilfnnfhfgaaaGreatDoorG10
import Derived.Test.YtpcilfnnfhfgaaaGreatDoorG18
import Derived.Test.YtpcilfnnfhfgaaaGreatDoorG22
import Derived.Test.YtpcilfnnfhfgaaaGreatDoorG21
import Derived.Test.YtpcilfnnfhfgaaaGreatDoorG15
import Derived.Test.YtpcilfnnfhfgaaaGreatDoorG14
import Derived.Carry
/-
  Nodes of bowerlaw00: nodes of a model's store, by any numbers.
-/
namespace Go.Proofs.YtpcilfnnfhfgaaaGreatDoor
open Go Go.RowKit

/-- Nodes by any numbers. -/
def MS.picks (s : MS) (l : List Int) : List Int := l.map fun n => s.pick n (decide (n < 0))
theorem MS.Base.picks_le {s : MS} (ok : s.Base) {l : List Int} (h : ∀ n ∈ l, n ≤ 9223372036854775807) : ∀ n ∈ s.picks l, n ≤ 9223372036854775807 := by
  intro n hn
  obtain ⟨m, hm, rfl⟩ := List.mem_map.1 hn
  exact ok.pick_le (h m hm)
theorem MS.Base.picks_ge {s : MS} (ok : s.Base) {l : List Int} (h : ∀ n ∈ l, -9223372036854775808 ≤ n) : ∀ n ∈ s.picks l, -9223372036854775808 ≤ n := by
  intro n hn
  obtain ⟨m, hm, rfl⟩ := List.mem_map.1 hn
  exact ok.pick_ge (h m hm)
theorem MS.picks_step {s : MS} {l : List Int} {k : Nat} (hk : k < l.length) : s.picks (l.take (k + 1)) = s.picks (l.take k) ++ [s.pick l[k] (decide (l[k] < 0))] := by
  unfold MS.picks
  rw [List.take_succ_eq_append_getElem hk, List.map_append]
  rfl
theorem MS.picks_length (s : MS) (l : List Int) : (s.picks l).length = l.length := by simp [MS.picks]

set_option maxRecDepth 100000 in
set_option maxHeartbeats 2000000 in
theorem lawNodes {w : World} {b : Nat} {F : Nat → Prop} {s : MS} (h : RefSAt w b F s) (ok : s.Base) (l : List Int) (v : Value) (hv : Reads encI w v l) (hl : l.length ≤ 100000) (hwf : ∀ n ∈ l, (Lit.int .i64 n).wf = true) :
    Calls Tryz.prog 18 #[.pointer (some ⟨b, 0, none⟩), v] w fun e w' => ∃ v', e = .returned v' ∧ WRel w (s.picks l) v' w' := by
  obtain ⟨a, cap, rfl⟩ := hv.form
  have HP := fun wr (hb : Below w.heap.size w wr) (n : Int) (hn : (Lit.int .i64 n).wf = true) => lawNode (h.below hb) ok n (decide (n < 0)) hn
  clear h
  go_enter Tryz.func18, Tryz.ntmps18
  go_wp2
  go_loopw [5, 6] (fun vo i wr => ∃ k : Nat, k ≤ l.length ∧ i = .int .i64 k ∧ WRel w (s.picks (l.take k)) vo wr) (fun _ i _ => l.length - (intOf i).toNat)
  case atStart => exact ⟨0, Nat.zero_le _, rfl, Owns.nil _ _, (fun g h => by cases h), Below.refl _ _⟩
  case round =>
    obtain ⟨k, hk, rfl, R⟩ := hrel
    by_cases hlt : k < l.length
    · obtain ⟨ad, rfl, _⟩ := (hv.keep R.below).intAt k hlt
      have hc : ∀ u : Sub wr, u.1.cell? (ad.add k) = some (.int .i64 l[k]) := fun u => by
        obtain ⟨ad', e, h⟩ := (hv.keep (R.below.trans (u.2.mono R.below.size))).intAt k hlt
        cases e
        exact h
      have HS := MS.picks_step (s := s) hlt
      have hln := MS.picks_length s (l.take k)
      rw [List.length_take] at hln
      have hw := hwf _ (List.getElem_mem hlt)
      have HN := fun u : Sub wr => HP u.1 (R.below.trans (u.2.mono R.below.size)) _ hw
      generalize l[k] = x at *
      generalize s.pick x (decide (x < 0)) = y at *
      generalize s.picks (l.take k) = out at *
      replace HS := Lib.hid HS
      have hk0 : (0 : Int) ≤ (k : Int) := by omega
      have hk1 : (k : Int) < (l.length : Int) := by omega
      clear hv HP hwf hw
      go_wp2
      refine wp_region_move_tail (C := fun w' => ∃ u : Sub wr, w' = u.1) 11 (.tmp 5) rfl rfl (by kernel_rfl) (by kernel_rfl) (fun _ _ _ _ h => h) (InSub.drew wr) ?_
      simp only [List.take_succ_cons, List.take_zero, List.drop_succ_cons, List.drop_zero, Act.put, Act.eval, List.setIfInBounds_toArray, List.set_cons_zero, List.set_cons_succ]
      iterate 10 (go_big_quiet_step (fail))
      go_big_quiet_step (exact sub_below (HN _))
      refine wpQuiet_nil ?_
      intro w' hw'
      obtain ⟨u, rfl⟩ := hw'
      have hb5 := R.below.trans (u.2.mono R.below.size)
      have hO := R.own.block (w' := u.1) fun g hg => u.2.block g (R.own.lt g hg)
      have hnew := R.new
      clear HN hc
      generalize u.1 = w5 at *
      have hA := hO.alloc (.cells #[.int .i64 y] 3)
      have hsrc := oneI w5 y w5.heap.size rfl
      have hl2 : out.length + [y].length ≤ 1000000 := by simp; omega
      go_wp2_with (at_builtin; refine appendI rfl (.tmp 13) (.tmp 25) rfl _ _ out [y] rfl hA rfl hsrc hl2 ?_; intro v' w2 hown hgr hat)
      refine ⟨⟨k + 1, by omega, by go_num, by rw [HS.out]; exact hown, fun g hg => ?_, ?_⟩, by simp [intOf]; omega⟩
      · rcases hat with hat | hat
        · exact hnew g (hat ▸ hg)
        · rw [hat] at hg; injection hg with hg; have := hb5.size; simp at hg; omega
      · exact (hb5.alloc hb5.size _).grown hgr (by have := hb5.size; simp; omega) hnew
    · clear hv HP hwf
      go_wp2
      go_ret
      refine ⟨_, rfl, ?_⟩
      rw [List.take_of_length_le (by omega)] at R
      exact R

end Go.Proofs.YtpcilfnnfhfgaaaGreatDoor

/-
  ReadTells over the contracts.
-/
namespace Go.Proofs.YtpcilfnnfhfgaaaGreatDoor
open Go Go.RowKit
attribute [local go_sem] run_eql_fv run_neq_fv run_neq_fv1 run_guard_fv run_guard_fv1

theorem MS.Base.reach_len {s : MS} (ok : s.Base) (roots : List Int) : (s.reach roots).length ≤ 20000 := by
  have h1 : s.all.length ≤ 20000 := Nat.le_trans (numsTo_filter_length s.has s.N.length) ok.few
  have h2 : (s.reach roots).length ≤ s.all.length := by unfold MS.reach; exact List.length_filter_le _ _
  omega

set_option maxRecDepth 100000 in
set_option maxHeartbeats 8000000 in
theorem readTells' {StAt : World → Nat → (Nat → Prop) → MS → Prop} (H : StoreC StAt) (R : ReadC StAt) (hUp : ∀ W, LowW W → Calls Tryz.prog 6 #[] W fun e w' => e = .returned (.bool true) ∧ Below W.heap.size W w')
    (most : Int) (l : List D7) (n : Int) (raw : Bool) (x : Int) (roots : List Int) (v vr : Value) (w : World) (hL : LowW w) (hv : Reads encD7 w v l) (_hl : l.length ≤ maxLen) (hwf : ∀ d ∈ l, d.good) (hn : (Lit.int .i64 n).wf = true)
    (hr : Reads encI w vr roots) (_hrl : roots.length ≤ maxLen) (hrw : ∀ r ∈ roots, (Lit.int .i64 r).wf = true) :
    Calls Tryz.prog 3 #[.int .i64 most, v, .int .i64 n, .bool raw, .int .i64 x, vr] w fun e w' => e = .returned (.bool true) ∧ Below w.heap.size w w' := by
  obtain ⟨a, cap, rfl⟩ := hv.form
  obtain ⟨ar, cr, rfl⟩ := hr.form
  go_enter Tryz.func3, Tryz.ntmps3
  go_wp2_with fail
  refine (hUp _ hL).mono ?_
  rintro e w1 ⟨rfl, hb1⟩
  by_cases hmost : 0 ≤ most ∧ most ≤ 20000
  · obtain ⟨h0, h1⟩ := hmost
    go_wp2_with fail
    refine (lawBegin H most _ h0 h1).mono ?_
    rintro e w2 ⟨bA, bM, FA, FM, rfl, P⟩
    have ok := MS.none_ok most.toNat (by omega)
    generalize MS.none most.toNat = s at *
    by_cases hlen : l.length ≤ 100
    · have hl3 : ¬ 100 < (l.length : Int) := by omega
      by_cases hr50 : roots.length ≤ 50
      · have hr3 : ¬ 50 < (roots.length : Int) := by omega
        replace hv := Lib.hid hv
        replace hr := Lib.hid hr
        replace P := Lib.hid P
        replace ok := Lib.hid ok
        go_wp2
        go_loopw [16] (fun i wr => ∃ (j : Nat) (s : MS) (FA FM : Nat → Prop), j ≤ l.length ∧ i = .int .i64 j ∧ s.Ok ∧ P2 StAt w1 bA bM FA FM s s wr) (fun i _ => l.length - (intOf i).toNat)
        case atStart => exact ⟨0, s, _, _, Nat.zero_le _, rfl, ok.out, P.out⟩
        case round =>
          clear P ok
          obtain ⟨j, s, FA, FM, hj, rfl, ok, P⟩ := hrel
          by_cases hlt : j < l.length
          · have hk0 : (0 : Int) ≤ (j : Int) := by omega
            have hk1 : (j : Int) < (l.length : Int) := by omega
            obtain ⟨ad, rfl, q0, q1, q2, q3, q4⟩ := deedAt7 (hv.out.keep (hb1.trans (P.below.mono hb1.size))) j hlt
            have hwk := hwf _ (List.getElem_mem hlt)
            generalize l[j] = d at *
            obtain ⟨What, A, B, C, raw'⟩ := d
            obtain ⟨g0, g1, g2, g3⟩ := hwk
            dsimp only at q0 q1 q2 q3 q4 g0 g1 g2 g3
            have HD := lawDo H P ok What A B C raw' g0 g1 g2 g3
            clear P
            go_wp2_with fail
            refine HD.mono ?_
            rintro e w3 ⟨rfl, S, FA1, FM1, ok1, P1⟩
            clear HD ok q0 q1 q2 q3 q4
            go_wp2
            exact ⟨⟨j + 1, S, FA1, FM1, by omega, by go_num, ok1, P1⟩, by simp [intOf]; omega⟩
          · obtain rfl : j = l.length := by omega
            have hb := hb1.trans (P.below.mono hb1.size)
            have hLr := hL.keep hb
            replace hr := hr.out.keep hb
            clear hv hwf hL hb1
            have HN := lawNode P.m ok.toBase n raw hn
            have hp := ok.toBase.pick_le (n := n) (raw := raw) (le_of_wf hn)
            have hp2 := ok.toBase.pick_ge (n := n) (raw := raw) (ge_of_wf hn)
            generalize s.pick n raw = m at *
            replace P := Lib.hid P
            replace hr := Lib.hid hr
            go_wp2_with fail
            refine HN.mono ?_
            rintro e w3 ⟨rfl, hb3⟩
            replace P := Lib.hid (P.out.keep H hb3)
            replace hr := Lib.hid (hr.out.keep hb3)
            replace hLr := hLr.keep hb3
            replace hb := hb.trans (hb3.mono hb.size)
            clear HN hb3
            have HT := refSTable ok 8 m _ P.out.m (ok.dep_le _) hp
            go_wp2_with fail
            refine HT.mono ?_
            rintro e w4 ⟨rfl, hb4⟩
            replace P := Lib.hid (P.out.keep H hb4)
            replace hr := Lib.hid (hr.out.keep hb4)
            replace hLr := hLr.keep hb4
            replace hb := hb.trans (hb4.mono hb.size)
            clear HT hb4
            generalize hF : s.tab m = f at *
            simp only [fv]
            go_wp2_with fail
            have hbV : Below w4.heap.size w4 (w4.alloc (.cells #[.int .u64 (wd f 0), .int .u64 (wd f 1), .int .u64 (wd f 2), .int .u64 (wd f 3)] 35)) := (Below.refl w4.heap.size w4).alloc (Nat.le_refl _) _
            have h0 : Holds (w4.alloc (.cells #[.int .u64 (wd f 0), .int .u64 (wd f 1), .int .u64 (wd f 2), .int .u64 (wd f 3)] 35)) w4.heap.size f := Holds.new w4 f _ rfl
            replace P := Lib.hid (P.out.keep H hbV)
            replace hr := Lib.hid (hr.out.keep hbV)
            replace hLr := hLr.keep hbV
            replace hb := hb.trans (hbV.mono hb.size)
            clear hbV
            generalize w4.alloc (.cells #[.int .u64 (wd f 0), .int .u64 (wd f 1), .int .u64 (wd f 2), .int .u64 (wd f 3)] 35) = V at *
            have c0 : ∀ u : Sub V, u.1.cell? ⟨w4.heap.size, 0, none⟩ = some (.int .u64 (wd f 0)) := fun u => (h0.sub u).cells.1
            have c1 : ∀ u : Sub V, u.1.cell? ⟨w4.heap.size, 1, none⟩ = some (.int .u64 (wd f 1)) := fun u => (h0.sub u).cells.2.1
            have c2 : ∀ u : Sub V, u.1.cell? ⟨w4.heap.size, 2, none⟩ = some (.int .u64 (wd f 2)) := fun u => (h0.sub u).cells.2.2.1
            have c3 : ∀ u : Sub V, u.1.cell? ⟨w4.heap.size, 3, none⟩ = some (.int .u64 (wd f 3)) := fun u => (h0.sub u).cells.2.2.2
            generalize w4.heap.size = b4 at *
            have C1 := fun u : Sub V => R.table (hLr.keep u.2) (P.out.keep H u.2).a ok m ⟨hp, hp2⟩
            have C2 := fun u : Sub V => R.value (hLr.keep u.2) (P.out.keep H u.2).a ok m x ⟨hp, hp2⟩
            have C3 := fun u : Sub V => R.count (hLr.keep u.2) (P.out.keep H u.2).a ok m ⟨hp, hp2⟩
            have C4 := fun u : Sub V => R.support (hLr.keep u.2) (P.out.keep H u.2).a ok m ⟨hp, hp2⟩
            rw [hF] at C1 C2 C3 C4
            refine wp_region_quiet_all (C := fun w' => ∃ u : Sub V, w' = u.1) (by kernel_rfl) (by kernel_rfl) (InSub.drew V) ?_
            iterate 2 (go_big_quiet_step (fail))
            go_big_quiet_step (exact sub_below (C1 _))
            iterate 3 (go_big_quiet_step (fail))
            iterate 3 (go_big_quiet_step (fail))
            go_big_quiet_step (exact sub_below (C2 _))
            iterate 2 (go_big_quiet_step (fail))
            go_big_quiet_step (exact sub_below (refAt f x _))
            iterate 3 (go_big_quiet_step (fail))
            iterate 2 (go_big_quiet_step (fail))
            go_big_quiet_step (exact sub_below (C3 _))
            go_big_quiet_step (fail)
            go_big_quiet_step (exact sub_below (refCount f _))
            iterate 3 (go_big_quiet_step (fail))
            iterate 2 (go_big_quiet_step (fail))
            go_big_quiet_step (exact sub_below (C4 _))
            go_big_quiet_step (fail)
            go_big_quiet_step (exact sub_below (refSupport f _))
            iterate 2 (go_big_quiet_step (fail))
            refine wpQuiet_nil ?_
            clear c0 c1 c2 c3 C1 C2 C3 C4
            intro w' hw'
            obtain ⟨u, rfl⟩ := hw'
            replace P := P.out.keep H u.2
            replace hr := hr.out.keep u.2
            replace hLr := hLr.keep u.2
            replace hb := hb.trans (u.2.mono hb.size)
            clear h0
            generalize u.1 = w5 at *
            have hrw' : ∀ r ∈ roots, r ≤ 9223372036854775807 := fun r h => le_of_wf (hrw r h)
            have HNs := lawNodes P.m ok.toBase roots _ hr (by omega) hrw
            have hpk := ok.toBase.picks_le hrw'
            have hrg : ∀ r ∈ roots, -9223372036854775808 ≤ r := fun r h => ge_of_wf (hrw r h)
            have hpg := ok.toBase.picks_ge hrg
            have hpl := MS.picks_length s roots
            generalize s.picks roots = sm at *
            replace P := Lib.hid P
            replace hr := Lib.hid hr
            go_wp2_with fail
            refine HNs.mono ?_
            rintro e w6 ⟨v6, rfl, R6⟩
            replace P := Lib.hid (P.out.keep H R6.below)
            replace hr := Lib.hid (hr.out.keep R6.below)
            replace hb := hb.trans (R6.below.mono hb.size)
            have rs := Lib.hid R6.own.reads
            clear R6 HNs
            have HA := R.reach P.out.a ok sm _ rs.out (by omega) (fun r h => ⟨hpk r h, hpg r h⟩)
            go_wp2_with fail
            refine HA.mono ?_
            rintro e w7 ⟨v7, rfl, R7⟩
            replace P := Lib.hid (P.out.keep H R7.below)
            replace hr := Lib.hid (hr.out.keep R7.below)
            replace rs := Lib.hid (rs.out.keep R7.below)
            replace hb := hb.trans (R7.below.mono hb.size)
            have x7 := Lib.hid R7.own.reads
            clear R7 HA
            have HB := refSReach P.out.m ok sm _ rs.out (by omega) hpk
            go_wp2_with fail
            refine HB.mono ?_
            rintro e w8 ⟨v8, rfl, R8⟩
            replace P := Lib.hid (P.out.keep H R8.below)
            replace hr := Lib.hid (hr.out.keep R8.below)
            replace rs := Lib.hid (rs.out.keep R8.below)
            replace hb := hb.trans (R8.below.mono hb.size)
            replace x7 := Lib.hid (x7.out.keep R8.below)
            have x8 := Lib.hid R8.own.reads
            clear R8 HB
            have HC := lawInts (s.reach sm) v7 v8 _ x7.out x8.out (by have := ok.toBase.reach_len sm; omega)
            go_wp2_with fail
            refine HC.mono ?_
            rintro e w9 ⟨rfl, hb9⟩
            replace P := Lib.hid (P.out.keep H hb9)
            replace hr := Lib.hid (hr.out.keep hb9)
            replace rs := Lib.hid (rs.out.keep hb9)
            replace hb := hb.trans (hb9.mono hb.size)
            clear hb9 HC x7 x8
            have HA := R.reach P.out.a ok roots _ hr.out (by omega) (fun r h => ⟨hrw' r h, hrg r h⟩)
            go_wp2_with fail
            refine HA.mono ?_
            rintro e w7 ⟨v7, rfl, R7⟩
            replace P := Lib.hid (P.out.keep H R7.below)
            replace hr := Lib.hid (hr.out.keep R7.below)
            replace rs := Lib.hid (rs.out.keep R7.below)
            replace hb := hb.trans (R7.below.mono hb.size)
            have x7 := Lib.hid R7.own.reads
            clear R7 HA
            have HB := refSReach P.out.m ok roots _ hr.out (by omega) hrw'
            go_wp2_with fail
            refine HB.mono ?_
            rintro e w8 ⟨v8, rfl, R8⟩
            replace P := Lib.hid (P.out.keep H R8.below)
            replace hr := Lib.hid (hr.out.keep R8.below)
            replace rs := Lib.hid (rs.out.keep R8.below)
            replace hb := hb.trans (R8.below.mono hb.size)
            replace x7 := Lib.hid (x7.out.keep R8.below)
            have x8 := Lib.hid R8.own.reads
            clear R8 HB
            have HC := lawInts (s.reach roots) v7 v8 _ x7.out x8.out (by have := ok.toBase.reach_len roots; omega)
            go_wp2_with fail
            refine HC.mono ?_
            rintro e w9 ⟨rfl, hb9⟩
            replace P := Lib.hid (P.out.keep H hb9)
            replace hr := Lib.hid (hr.out.keep hb9)
            replace rs := Lib.hid (rs.out.keep hb9)
            replace hb := hb.trans (hb9.mono hb.size)
            clear hb9 HC x7 x8
            go_wp2
            go_ret
            exact ⟨rfl, hb⟩
      · have hr3 : 50 < (roots.length : Int) := by omega
        go_wp2
        go_ret
        exact ⟨rfl, hb1.trans (P.below.mono hb1.size)⟩
    · have hl3 : 100 < (l.length : Int) := by omega
      go_wp2
      go_ret
      exact ⟨rfl, hb1.trans (P.below.mono hb1.size)⟩
  · have hm : most < 0 ∨ 20000 < most := by omega
    go_wp2_with fail
    refine (lawBegin_no H most _ hm).mono ?_
    rintro e w2 ⟨rfl, hb2⟩
    have hb := hb1.trans (hb2.mono hb1.size)
    go_wp2
    go_ret
    exact ⟨rfl, hb⟩

end Go.Proofs.YtpcilfnnfhfgaaaGreatDoor

/-
  Plain mathematics of layer 3: how many nodes there are, reckoned.
-/
namespace Go.Proofs.YtpcilfnnfhfgaaaGreatDoor
open Go Go.RowKit

/-- The reckoning, with so many steps at most. -/
def nrun (o : Nat → Int) : Nat → List Fn → List Fn → Nat → Option Nat
  | 0, _, _, _ => none
  | d + 1, out, work, k =>
    match work[k]? with
    | none => some out.length
    | some f =>
      if f ∈ work.take k then nrun o d out work (k + 1)
      else if supF f = 0 then nrun o d out work (k + 1)
      else if 0 ≤ topF f o then nrun o d (out ++ [f]) (work ++ [cofAny f (topF f o) false, cofAny f (topF f o) true]) (k + 1)
      else nrun o d (out ++ [f]) work (k + 1)

theorem nrun_ok {l : List Fn} {o : Nat → Int} (d : Nat) : ∀ {out work : List Fn} {k n : Nat}, NInv l o out work k → nrun o d out work k = some n → IsSize l o n := by
  induction d with
  | zero => intro out work k n _ h; cases h
  | succ d ih =>
    intro out work k n h hr
    simp only [nrun] at hr
    split at hr
    · rename_i hk
      have := h.done (by have := List.getElem?_eq_none_iff.1 hk; omega)
      rwa [Option.some.inj hr] at this
    · rename_i f hf
      obtain ⟨hk, rfl⟩ := List.getElem?_eq_some_iff.1 hf
      split at hr
      · rename_i hin; exact ih (h.seen hk hin) hr
      · rename_i hin
        split at hr
        · rename_i hs; exact ih (h.const hk hs) hr
        · rename_i hs
          split at hr
          · rename_i ht; exact ih (h.node hk hin hs ht) hr
          · rename_i ht; exact ih (h.leaf hk hin hs ht) hr

theorem size_by {l : List Fn} {o : Nat → Int} {n : Nat} (d : Nat) (h : nrun o d [] l 0 = some n) : sizeF l o = n := sizeF_eq (nrun_ok d (NInv.start l o) h)

/-- The example's function. -/
def exX : Fn := 0x6666666666666666666666666666666666666666666666666666666666666666#256
theorem exX_eq : (varAny 0 ^^^ varAny 1) = exX := by decide +kernel
theorem exX_top : topF exX (fun i => if i = 0 then 7 else if i = 1 then 1 else 0) = 1 := by decide +kernel
theorem exX_size : sizeF [exX] (fun i => (i : Int)) = 3 := size_by 8 (by decide +kernel)
theorem one_size : sizeF [BitVec.allOnes 256] (fun i => (i : Int)) = 0 := size_by 3 (by decide +kernel)

end Go.Proofs.YtpcilfnnfhfgaaaGreatDoor

/-
  The document's example of layer 8, over the contracts.
-/
namespace Go.Proofs.YtpcilfnnfhfgaaaGreatDoor
open Go Go.RowKit
attribute [local go_sem] run_eql_fv run_eql_fv1 run_neq_fv run_neq_fv1 run_guard_fv run_guard_fv1

/-- The example's function. -/
def x08 : Fn := 0x8888888888888888888888888888888888888888888888888888888888888888#256
theorem x08_eq : (varAny 0 &&& varAny 1) = x08 := by decide +kernel
theorem x08_size : sizeF [x08] plainO = 2 := size_by 8 (by decide +kernel)
theorem x08_at3 : atF x08 3 = true := by decide +kernel
theorem x08_at2 : atF x08 2 = false := by decide +kernel
theorem x08_cnt : cntF x08 256 = 64 := by decide +kernel
theorem x08_sup : supF x08 = 3 := by decide +kernel

theorem up8_cells {x y : World} {B : Nat} {f : Fn} (h : x.cell? ⟨B, 0, none⟩ = some (.int .u64 (wd f 0)) ∧ x.cell? ⟨B, 1, none⟩ = some (.int .u64 (wd f 1)) ∧ x.cell? ⟨B, 2, none⟩ = some (.int .u64 (wd f 2)) ∧ x.cell? ⟨B, 3, none⟩ = some (.int .u64 (wd f 3))) (hb : Below x.heap.size x y) : y.cell? ⟨B, 0, none⟩ = some (.int .u64 (wd f 0)) ∧ y.cell? ⟨B, 1, none⟩ = some (.int .u64 (wd f 1)) ∧ y.cell? ⟨B, 2, none⟩ = some (.int .u64 (wd f 2)) ∧ y.cell? ⟨B, 3, none⟩ = some (.int .u64 (wd f 3)) := by
  obtain ⟨h1, h2, h3, h4⟩ := h
  exact ⟨by rw [hb.cell (block_lt_of_cell h1)]; exact h1, by rw [hb.cell (block_lt_of_cell h2)]; exact h2, by rw [hb.cell (block_lt_of_cell h3)]; exact h3, by rw [hb.cell (block_lt_of_cell h4)]; exact h4⟩
theorem MS.Ok.there_le {s : MS} (ok : s.Ok) {n : Int} (h : s.there n = true) : n ≤ 9223372036854775807 := by
  rcases MS.there_cases h with ⟨h1, _⟩ | h1
  · rcases h1 with rfl | rfl <;> omega
  · have := ok.toBase.has_le h1; omega

theorem Holds.keepK {w w' : World} {b : Nat} {f : Fn} {F : Nat → Prop} (h : Holds w b f) (K : Keeps F w w') (hb : ¬ F b) (hl : b < w.heap.size) : Holds w' b f := by
  unfold Holds; rw [K.block b hl hb]; exact h

set_option maxRecDepth 100000 in
set_option maxHeartbeats 8000000 in
theorem up08 {StAt : World → Nat → (Nat → Prop) → MS → Prop} (H : StoreC StAt) (R : ReadC StAt) (w : World) (hL : LowW w) : Calls Tryz.prog 6 #[] w fun e w' => e = .returned (.bool true) ∧ Below w.heap.size w w' := by
  go_enter Tryz.func6, Tryz.ntmps6
  go_wp2_with fail
  refine (H.new 5 w (by decide) (by decide)).mono ?_
  rintro e w1 ⟨b, rfl, ⟨F, hA, hF⟩, hb⟩
  rw [show (5 : Int).toNat = 5 from rfl] at hA
  go_wp2_with fail
  refine (refVar 0 _).mono ?_
  rintro e w2 ⟨rfl, hb1⟩
  replace hb := hb.trans (hb1.mono hb.size)
  replace hA := H.below hA hb1
  clear hb1
  go_wp2_with fail
  refine (refVar 1 _).mono ?_
  rintro e w3 ⟨rfl, hb1⟩
  replace hb := hb.trans (hb1.mono hb.size)
  replace hA := H.below hA hb1
  clear hb1
  go_wp2_with fail
  refine (refAnd (varAny 0) (varAny 1) _).mono ?_
  rw [x08_eq]
  rintro e w4 ⟨rfl, hb1⟩
  replace hb := hb.trans (hb1.mono hb.size)
  replace hA := H.below hA hb1
  clear hb1
  have hbV : Below w4.heap.size w4 (w4.alloc (.cells #[.int .u64 (wd x08 0), .int .u64 (wd x08 1), .int .u64 (wd x08 2), .int .u64 (wd x08 3)] 35)) := (Below.refl w4.heap.size w4).alloc (Nat.le_refl _) _
  have h0 : Holds (w4.alloc (.cells #[.int .u64 (wd x08 0), .int .u64 (wd x08 1), .int .u64 (wd x08 2), .int .u64 (wd x08 3)] 35)) w4.heap.size x08 := Holds.new w4 x08 _ rfl
  have hB0 : w.heap.size ≤ w4.heap.size := hb.size
  have hBF := H.lt hA
  replace hb := hb.trans (hbV.mono hb.size)
  replace hA := H.below hA hbV
  clear hbV
  simp only [fv]
  obtain ⟨c0, c1, c2, c3⟩ := h0.cells
  go_wp2_with fail
  generalize w4.alloc (.cells #[.int .u64 (wd x08 0), .int .u64 (wd x08 1), .int .u64 (wd x08 2), .int .u64 (wd x08 3)] 35) = V at *
  have X := MS.bld_empty (most := 5) (by decide) (o := plainO) plainO_may x08 (by rw [x08_size]; decide)
  have ok := MS.none_ok 5 (by decide)
  have hlow : ∀ k, F k → 0 < k := fun k hk => Nat.lt_of_lt_of_le hL.pos (hF k hk)
  have B := R.build (hL.keep hb) hlow hA ok x08
  rw [show MS.empty 5 plainO = MS.none 5 from rfl] at X
  generalize MS.bld 8 (MS.none 5) x08 = r at *
  obtain ⟨n, e, s⟩ := r
  dsimp only at X B
  obtain ⟨rfl, ok1, ho1, _, ht, htab, hno, hlen⟩ := X
  rw [x08_size] at hlen
  simp only [fv, errV0] at B
  refine B.mono ?_
  rintro e w5 ⟨rfl, F5, hA5, hK, hW⟩
  have h5 : Holds w5 w4.heap.size x08 := h0.keepK hK (fun h => Nat.lt_irrefl _ (hBF _ h)) h0.lt
  have hF5 : ∀ k, F5 k → w.heap.size ≤ k := fun k hk => (hW k hk).elim (hF k) (fun h => Nat.le_trans hb.size h)
  replace hb := hb.trans (hK.below hb.size hF)
  clear B hA h0 hK hW hF hBF hlow ok c0 c1 c2 c3
  generalize w4.heap.size = B at *
  obtain ⟨c0, c1, c2, c3⟩ := h5.cells
  have hn := ok1.toBase.there_i64 ht
  have hreach : s.reach [n] = s.all := ok1.reach_all ht (fun m hm => by rw [htab, ho1]; exact hno m hm)
  have K1 := fun x (hx : Below w5.heap.size w5 x) => H.live (H.below hA5 hx) ok1
  have K2 := fun x (hx : Below w5.heap.size w5 x) => R.table (hL.keep (hb.trans (hx.mono hb.size))) (H.below hA5 hx) ok1 n hn
  have K3 := fun x (hx : Below w5.heap.size w5 x) => R.value (hL.keep (hb.trans (hx.mono hb.size))) (H.below hA5 hx) ok1 n 3 hn
  have K4 := fun x (hx : Below w5.heap.size w5 x) => R.value (hL.keep (hb.trans (hx.mono hb.size))) (H.below hA5 hx) ok1 n 2 hn
  have K5 := fun x (hx : Below w5.heap.size w5 x) => R.count (hL.keep (hb.trans (hx.mono hb.size))) (H.below hA5 hx) ok1 n hn
  have K6 := fun x (hx : Below w5.heap.size w5 x) => R.support (hL.keep (hb.trans (hx.mono hb.size))) (H.below hA5 hx) ok1 n hn
  have K7 : ∀ x (v : Value), Below w5.heap.size w5 x → Reads encI x v [n] → Calls Tryz.prog 20 #[.pointer (some ⟨b, 0, none⟩), v] x fun e w' => ∃ a c, e = .returned (.slice a 2 c) ∧ Below x.heap.size x w' := fun x v hx hr => (R.reach (H.below hA5 hx) ok1 [n] v hr (by simp) (fun r hr => by rw [List.mem_singleton.1 hr]; exact hn)).mono fun e w' ⟨v', he, hw⟩ => by
    obtain ⟨a, c, hv, _⟩ := hw.own.form
    rw [hreach, hlen] at hv
    exact ⟨a, c, by rw [he, hv], hw.below⟩
  rw [hlen] at K1
  rw [htab] at K2 K3 K4 K5 K6
  rw [x08_at3] at K3
  rw [x08_at2] at K4
  rw [x08_cnt] at K5
  rw [x08_sup] at K6
  replace K1 := Lib.hid K1
  replace K2 := Lib.hid K2
  replace K3 := Lib.hid K3
  replace K4 := Lib.hid K4
  replace K5 := Lib.hid K5
  replace K6 := Lib.hid K6
  replace K7 := Lib.hid K7
  clear hreach hlen htab hno ok1 ht ho1 hA5 hF5 h5
  generalize x08 = ff at *
  have b0 := (Below.refl w5.heap.size w5).drew
  have hS0 : w5.drew.cell? ⟨B, 0, none⟩ = some (.int .u64 (wd ff 0)) ∧ w5.drew.cell? ⟨B, 1, none⟩ = some (.int .u64 (wd ff 1)) ∧ w5.drew.cell? ⟨B, 2, none⟩ = some (.int .u64 (wd ff 2)) ∧ w5.drew.cell? ⟨B, 3, none⟩ = some (.int .u64 (wd ff 3)) := up8_cells ⟨c0, c1, c2, c3⟩ b0
  clear c0 c1 c2 c3
  go_wp2
  go_region_held3 (fun w' => w'.cell? ⟨B, 0, none⟩ = some (.int .u64 (wd ff 0)) ∧ w'.cell? ⟨B, 1, none⟩ = some (.int .u64 (wd ff 1)) ∧ w'.cell? ⟨B, 2, none⟩ = some (.int .u64 (wd ff 2)) ∧ w'.cell? ⟨B, 3, none⟩ = some (.int .u64 (wd ff 3))) (first | assumption)
    (first
      | (go_at_call 29; refine (K1.out _ b0).mono ?_; rintro e W1 ⟨rfl, R1⟩; have b1 := b0.trans (R1.mono b0.size); have hS1 := up8_cells hS0 R1)
      | (go_at_call 11; refine (K2.out _ b1).mono ?_; rintro e W2 ⟨rfl, R2⟩; have b2 := b1.trans (R2.mono b1.size); have hS2 := up8_cells hS1 R2)
      | (go_at_call 12; refine (K4.out _ b3).mono ?_; rintro e W4 ⟨rfl, R4⟩; have b4 := b3.trans (R4.mono b3.size); have hS4 := up8_cells hS3 R4)
      | (go_at_call 12; refine (K3.out _ b2).mono ?_; rintro e W3 ⟨rfl, R3⟩; have b3 := b2.trans (R3.mono b2.size); have hS3 := up8_cells hS2 R3)
      | (go_at_call 14; refine (K5.out _ b4).mono ?_; rintro e W5 ⟨rfl, R5⟩; have b5 := b4.trans (R5.mono b4.size); have hS5 := up8_cells hS4 R5)
      | (go_at_call 16; refine (K6.out _ b5).mono ?_; rintro e W6 ⟨rfl, R6⟩; have b6 := b5.trans (R6.mono b5.size); have hS6 := up8_cells hS5 R6; have b7 := b6.alloc b6.size (.cells #[.int .i64 n] 3); have hS7 := up8_cells hS6 ((Below.refl _ _).alloc (Nat.le_refl _) (.cells #[.int .i64 n] 3)))
      | (go_at_call 20; refine (K7.out _ _ b7 (oneI W6 n W6.heap.size rfl)).mono ?_; rintro e W8 ⟨aa, cc, rfl, R8⟩; have b8 := b7.trans (R8.mono b7.size); have hS8 := up8_cells hS7 R8))
  go_wp2
  go_ret
  exact ⟨rfl, hb.trans (b8.mono hb.size)⟩

end Go.Proofs.YtpcilfnnfhfgaaaGreatDoor

/-
  Walk of the document's Nodes and Size.
-/
namespace Go.Proofs.YtpcilfnnfhfgaaaGreatDoor
open Go Go.RowKit Go.Maps

/-- 1 at those that were looked at. -/
def seenM (l : List Fn) (f : Fn) : Int := if f ∈ l then 1 else 0

/-- At the loop's head of Nodes. -/
structure NRel (w : World) (l : List Fn) (o : Nat → Int) (out work : List Fn) (k : Nat) (vo vw : Value) (wr : World) : Prop where
  inv : NInv l o out work k
  hout : OwnsF wr (w.heap.size + 1 + 1) vo out
  hwork : OwnsF wr (w.heap.size + 1 + 1) vw work
  apart : ∀ g, vo.ownBlock = some g → vw.ownBlock ≠ some g
  ord : HoldsO wr w.heap.size o
  map : IMap encF 3 wr (w.heap.size + 1) k (seenM (work.take k))
  below : Below w.heap.size w wr
  room : w.heap.size + 1 + 1 ≤ wr.heap.size

theorem ownsF_empty (w : World) (b : Nat) (hb : b = w.heap.size := by simp) : OwnsF (w.alloc (.cells #[] 35)) b (.slice (some ⟨b, 0, none⟩) 0 0) [] := by
  subst hb
  exact ⟨rfl, .inr ⟨w.heap.size, 0, #[], rfl, Nat.le_refl _, heap_alloc_new _ _, Nat.le_refl _, by unfold maxLen; omega, rfl, rfl⟩⟩

theorem below_grown {B : Nat} {a w w' : World} {row : Option Nat} (h : Below B a w) (hg : w.grownBy w' row) (hB : B ≤ w.heap.size) (hr : ∀ k, row = some k → B ≤ k) : Below B a w' := h.grown hg hB hr

/-- Within a round of Nodes: what the call's own variables hold. -/
structure NSt (w : World) (o : Nat → Int) (bf : Nat) (f : Fn) (out work : List Fn) (vo vw : Value) (n : Nat) (m : Fn → Int) (W : World) : Prop where
  hf : Holds W bf f
  hout : OwnsF W (w.heap.size + 1 + 1) vo out
  hwork : OwnsF W (w.heap.size + 1 + 1) vw work
  ord : HoldsO W w.heap.size o
  map : IMap encF 3 W (w.heap.size + 1) n m
  below : Below w.heap.size w W
  room : w.heap.size + 1 + 1 ≤ bf
  apart : ∀ g, vo.ownBlock = some g → vw.ownBlock ≠ some g
  farO : vo.ownBlock ≠ some bf
  farW : vw.ownBlock ≠ some bf

theorem NSt.keep {w : World} {o : Nat → Int} {bf : Nat} {f : Fn} {out work : List Fn} {vo vw : Value} {n : Nat} {m : Fn → Int} {W W' : World} (h : NSt w o bf f out work vo vw n m W) (hb : Below W.heap.size W W') : NSt w o bf f out work vo vw n m W' :=
  ⟨h.hf.keep hb h.hf.lt, h.hout.keep hb (Nat.le_refl _), h.hwork.keep hb (Nat.le_refl _), h.ord.keep hb h.ord.lt, h.map.keep hb h.map.lt, h.below.trans (hb.mono h.below.size), h.room, h.apart, h.farO, h.farW⟩

theorem NSt.size {w : World} {o : Nat → Int} {bf : Nat} {f : Fn} {out work : List Fn} {vo vw : Value} {n : Nat} {m : Fn → Int} {W : World} (h : NSt w o bf f out work vo vw n m W) : w.heap.size + 1 + 1 < W.heap.size := by
  have := h.hf.lt; have := h.room; omega

theorem NSt.start {w : World} {l : List Fn} {o : Nat → Int} {out work : List Fn} {k : Nat} {vo vw : Value} {wr : World} (R : NRel w l o out work k vo vw wr) (f : Fn) :
    NSt w o wr.heap.size f out work vo vw k (seenM (work.take k)) (wr.alloc (.cells #[.int .u64 (wd f 0), .int .u64 (wd f 1), .int .u64 (wd f 2), .int .u64 (wd f 3)] 35)) :=
  ⟨Holds.new _ _ _, R.hout.alloc _, R.hwork.alloc _, R.ord.alloc _, R.map.alloc _, R.below.alloc R.below.size _, R.room, R.apart,
    fun e => by have := (R.hout.lt _ e).2; omega, fun e => by have := (R.hwork.lt _ e).2; omega⟩

theorem NSt.put {w : World} {o : Nat → Int} {bf : Nat} {f : Fn} {out work : List Fn} {vo vw : Value} {n : Nat} {m : Fn → Int} {W W' : World} (h : NSt w o bf f out work vo vw n m W) {m' : Fn → Int}
    (hM : IMap encF 3 W' (w.heap.size + 1) (n + 1) m') (hg : W.grownBy W' (some (w.heap.size + 1))) : NSt w o bf f out work vo vw (n + 1) m' W' := by
  have hr := h.room
  refine ⟨?_, h.hout.grown hg (fun g hb e => ?_), h.hwork.grown hg (fun g hb e => ?_), ?_, hM, h.below.grown hg (by have := h.size; omega) (fun j hj => by cases hj; omega), h.room, h.apart, h.farO, h.farW⟩
  · unfold Holds; rw [hg.block bf h.hf.lt (fun e => by cases e; omega)]; exact h.hf
  · cases e; have := (h.hout.lt _ hb).1; omega
  · cases e; have := (h.hwork.lt _ hb).1; omega
  · unfold HoldsO; rw [hg.block _ h.ord.lt (fun e => by injection e with e; omega)]; exact h.ord

theorem NSt.outApp {w : World} {o : Nat → Int} {bf : Nat} {f : Fn} {out work : List Fn} {vo vw : Value} {n : Nat} {m : Fn → Int} {W W' : World} (h : NSt w o bf f out work vo vw n m W) {vo' : Value} {out' : List Fn}
    (hown : OwnsF W' (w.heap.size + 1 + 1) vo' out') (hg : W.grownBy W' vo.ownBlock) (hat : vo'.ownBlock = vo.ownBlock ∨ vo'.ownBlock = some W.heap.size) : NSt w o bf f out' work vo' vw n m W' := by
  have hr := h.room
  have hlow : ∀ j, vo.ownBlock = some j → w.heap.size + 1 + 1 ≤ j := fun j hj => (h.hout.lt j hj).1
  refine ⟨?_, hown, h.hwork.grown hg (fun g hb e => h.apart g e hb), ?_, h.map.grown hg (fun e => by have := hlow _ e.symm; omega), h.below.grown hg (by have := h.size; omega) (fun j hj => by have := hlow j hj; omega), h.room, fun g e1 e2 => ?_, fun e => ?_, h.farW⟩
  · unfold Holds; rw [hg.block bf h.hf.lt (fun e => h.farO e.symm)]; exact h.hf
  · unfold HoldsO; rw [hg.block _ h.ord.lt (fun e => by have := hlow _ e.symm; omega)]; exact h.ord
  · rcases hat with hat | hat
    · rw [hat] at e1; exact h.apart g e1 e2
    · rw [hat] at e1; cases e1; have := (h.hwork.lt _ e2).2; omega
  · rcases hat with hat | hat
    · rw [hat] at e; exact h.farO e
    · rw [hat] at e; cases e; have := h.hf.lt; omega

theorem NSt.workApp {w : World} {o : Nat → Int} {bf : Nat} {f : Fn} {out work : List Fn} {vo vw : Value} {n : Nat} {m : Fn → Int} {W W' : World} (h : NSt w o bf f out work vo vw n m W) {vw' : Value} {work' : List Fn}
    (hown : OwnsF W' (w.heap.size + 1 + 1) vw' work') (hg : W.grownBy W' vw.ownBlock) (hat : vw'.ownBlock = vw.ownBlock ∨ vw'.ownBlock = some W.heap.size) : NSt w o bf f out work' vo vw' n m W' := by
  have hr := h.room
  have hlow : ∀ j, vw.ownBlock = some j → w.heap.size + 1 + 1 ≤ j := fun j hj => (h.hwork.lt j hj).1
  refine ⟨?_, h.hout.grown hg (fun g hb e => h.apart g hb e), hown, ?_, h.map.grown hg (fun e => by have := hlow _ e.symm; omega), h.below.grown hg (by have := h.size; omega) (fun j hj => by have := hlow j hj; omega), h.room, fun g e1 e2 => ?_, h.farO, fun e => ?_⟩
  · unfold Holds; rw [hg.block bf h.hf.lt (fun e => h.farW e.symm)]; exact h.hf
  · unfold HoldsO; rw [hg.block _ h.ord.lt (fun e => by have := hlow _ e.symm; omega)]; exact h.ord
  · rcases hat with hat | hat
    · rw [hat] at e2; exact h.apart g e1 e2
    · rw [hat] at e2; cases e2; have := (h.hout.lt _ e1).2; omega
  · rcases hat with hat | hat
    · rw [hat] at e; exact h.farW e
    · rw [hat] at e; cases e; have := h.hf.lt; omega

theorem NSt.rel {w : World} {l : List Fn} {o : Nat → Int} {bf : Nat} {f : Fn} {out work : List Fn} {vo vw : Value} {n : Nat} {m : Fn → Int} {W : World} (h : NSt w o bf f out work vo vw n m W) (hi : NInv l o out work n) (hm : m = seenM (work.take n)) : NRel w l o out work n vo vw W :=
  ⟨hi, h.hout, h.hwork, h.apart, h.ord, hm ▸ h.map, h.below, by have := h.size; omega⟩

theorem seen_snoc (l : List Fn) (f : Fn) : (fun z => if z = f then 1 else seenM l z) = seenM (l ++ [f]) := by
  funext z
  unfold seenM
  by_cases h : z = f
  · rw [if_pos h, if_pos (List.mem_append_right _ (List.mem_singleton.2 h))]
  · rw [if_neg h]
    by_cases h2 : z ∈ l
    · rw [if_pos h2, if_pos (List.mem_append_left _ h2)]
    · rw [if_neg h2, if_neg (fun e => (List.mem_append.1 e).elim h2 (fun e => h (List.mem_singleton.1 e)))]

theorem slice_two (w : World) (f g : Fn) (b : Nat) (hb : b = w.heap.size := by simp) : SliceF (w.alloc (.cells #[.int .u64 (wd f 0), .int .u64 (wd f 1), .int .u64 (wd f 2), .int .u64 (wd f 3), .int .u64 (wd g 0), .int .u64 (wd g 1), .int .u64 (wd g 2), .int .u64 (wd g 3)] 35)) (.slice (some ⟨b, 0, none⟩) 2 2) [f, g] := by
  subst hb
  refine .inr ⟨⟨w.heap.size, 0, none⟩, 2, rfl, fun j u hj => ?_⟩
  have hj8 : j < 8 := by
    rcases Nat.lt_or_ge j 8 with h | h
    · exact h
    · rw [List.getElem?_eq_none (by simpa [cellsL] using h)] at hj; cases hj
  rw [show (⟨w.heap.size, 0, none⟩ : Addr).add j = ⟨w.heap.size, j, none⟩ by simp [Addr.add]; omega, cell_of_row _ _ _ _ _ _ (heap_alloc_new _ _)]
  rcases (by omega : j = 0 ∨ j = 1 ∨ j = 2 ∨ j = 3 ∨ j = 4 ∨ j = 5 ∨ j = 6 ∨ j = 7) with rfl | rfl | rfl | rfl | rfl | rfl | rfl | rfl <;> simpa [cellsL] using hj

theorem slice_one (w : World) (f : Fn) (b : Nat) (hb : b = w.heap.size := by simp) : SliceF (w.alloc (.cells #[.int .u64 (wd f 0), .int .u64 (wd f 1), .int .u64 (wd f 2), .int .u64 (wd f 3)] 35)) (.slice (some ⟨b, 0, none⟩) 1 1) [f] := by
  subst hb
  refine .inr ⟨⟨w.heap.size, 0, none⟩, 1, rfl, fun j u hj => ?_⟩
  have hj4 : j < 4 := by
    rcases Nat.lt_or_ge j 4 with h | h
    · exact h
    · rw [List.getElem?_eq_none (by simpa [cellsL] using h)] at hj; cases hj
  rw [show (⟨w.heap.size, 0, none⟩ : Addr).add j = ⟨w.heap.size, j, none⟩ by simp [Addr.add]; omega, cell_fv w f _ j hj4]
  rcases (by omega : j = 0 ∨ j = 1 ∨ j = 2 ∨ j = 3) with rfl | rfl | rfl | rfl <;> simpa [cellsL] using hj

set_option maxRecDepth 100000 in
set_option maxHeartbeats 2000000 in
theorem refNodes (l : List Fn) (o : Nat → Int) (v : Value) (w : World) (hv : SliceF w v l) (hl : l.length ≤ 40) :
    Calls Tryz.prog 71 #[v, ov o] w fun e w' => ∃ v' out, e = .returned v' ∧ OwnsF w' (w.heap.size + 1 + 1) v' out ∧ IsSize l o out.length ∧ Below w.heap.size w w' := by
  have hmm := @run_makeMap Tryz.prog
  have hown0 : OwnsF (((w.alloc (.cells #[.int .i64 (o 0), .int .i64 (o 1), .int .i64 (o 2), .int .i64 (o 3), .int .i64 (o 4), .int .i64 (o 5), .int .i64 (o 6), .int .i64 (o 7)] 62)).alloc (.map #[] 0)).alloc (.cells #[] 35)) (w.heap.size + 1 + 1) (.slice (some ⟨w.heap.size + 1 + 1, 0, none⟩) 0 0) [] := ownsF_empty _ _
  have hb0 : Below w.heap.size w (((w.alloc (.cells #[.int .i64 (o 0), .int .i64 (o 1), .int .i64 (o 2), .int .i64 (o 3), .int .i64 (o 4), .int .i64 (o 5), .int .i64 (o 6), .int .i64 (o 7)] 62)).alloc (.map #[] 0)).alloc (.cells #[] 35)) := by go_grown
  have hsl0 : SliceF (((w.alloc (.cells #[.int .i64 (o 0), .int .i64 (o 1), .int .i64 (o 2), .int .i64 (o 3), .int .i64 (o 4), .int .i64 (o 5), .int .i64 (o 6), .int .i64 (o 7)] 62)).alloc (.map #[] 0)).alloc (.cells #[] 35)) v l := hv.keep hb0 (Nat.le_refl _)
  have hord0 : HoldsO (((w.alloc (.cells #[.int .i64 (o 0), .int .i64 (o 1), .int .i64 (o 2), .int .i64 (o 3), .int .i64 (o 4), .int .i64 (o 5), .int .i64 (o 6), .int .i64 (o 7)] 62)).alloc (.map #[] 0)).alloc (.cells #[] 35)) w.heap.size o := ((HoldsO.new _ _ _).alloc _).alloc _
  have hmap0 : IMap encF 3 (((w.alloc (.cells #[.int .i64 (o 0), .int .i64 (o 1), .int .i64 (o 2), .int .i64 (o 3), .int .i64 (o 4), .int .i64 (o 5), .int .i64 (o 6), .int .i64 (o 7)] 62)).alloc (.map #[] 0)).alloc (.cells #[] 35)) (w.heap.size + 1) 0 (fun _ => 0) := by
    have h := IMap.made encF 3 (w.alloc (.cells #[.int .i64 (o 0), .int .i64 (o 1), .int .i64 (o 2), .int .i64 (o 3), .int .i64 (o 4), .int .i64 (o 5), .int .i64 (o 6), .int .i64 (o 7)] 62))
    rw [show (w.alloc (.cells #[.int .i64 (o 0), .int .i64 (o 1), .int .i64 (o 2), .int .i64 (o 3), .int .i64 (o 4), .int .i64 (o 5), .int .i64 (o 6), .int .i64 (o 7)] 62)).heap.size = w.heap.size + 1 by simp] at h
    exact h.alloc _
  have hr0 : w.heap.size + 1 + 1 ≤ (((w.alloc (.cells #[.int .i64 (o 0), .int .i64 (o 1), .int .i64 (o 2), .int .i64 (o 3), .int .i64 (o 4), .int .i64 (o 5), .int .i64 (o 6), .int .i64 (o 7)] 62)).alloc (.map #[] 0)).alloc (.cells #[] 35)).heap.size := by simp
  simp only [ov]
  go_enter Tryz.func71, Tryz.ntmps71
  go_wp2_with (at_builtin; refine appendF rfl (.tmp 12) (.tmp 13) rfl (w.heap.size + 1 + 1) _ v [] l rfl hown0 rfl hsl0 (by simp; omega) hr0 ?_; intro v1 w1 hown1 hgr1 hat1)
  have hrel0 : NRel w l o [] l 0 (.slice none 0 0) v1 w1 := by
    have hbk : ∀ j, (Value.slice (some ⟨w.heap.size + 1 + 1, 0, none⟩) 0 0).ownBlock = some j → w.heap.size + 1 + 1 ≤ j := fun j hj => by cases hj; exact Nat.le_refl _
    have hs1 := hgr1.size
    refine ⟨NInv.start l o, OwnsF.nil _ _, by simpa using hown1, (fun g hg => by cases hg), ?_, ?_, ?_, by omega⟩
    · unfold HoldsO; rw [hgr1.block _ (by omega) (fun e => by have := hbk _ e.symm; omega)]; exact hord0
    · have h := hmap0.grown hgr1 (fun e => by have := hbk _ e.symm; omega)
      have e0 : seenM (l.take 0) = fun _ => 0 := by funext f; simp [seenM]
      rw [e0]; exact h
    · exact hb0.grown hgr1 (by omega) (fun j hj => by have := hbk j hj; omega)
  clear hown0 hb0 hsl0 hord0 hmap0 hr0 hown1 hgr1 hat1 hv hmm
  go_loopw [5, 7, 8] (fun vo vw i wr => ∃ out work k, i = .int .i64 ((k : Nat) : Int) ∧ NRel w l o out work k vo vw wr) (fun _ _ i _ => 511 * l.length - (intOf i).toNat)
  case atStart => exact ⟨[], l, 0, rfl, hrel0⟩
  case round =>
    clear hrel0
    obtain ⟨out, work, k, rfl, R⟩ := hrel
    have hlen := R.inv.len
    have holen := R.inv.out_len
    by_cases hlt : k < work.length
    · obtain ⟨g, cap, cc, rfl, hcap⟩ : ∃ g cap, ∃ c0 : ∀ j, j < 4 → wr.cell? ⟨g, k * 4 + j, none⟩ = some (.int .u64 (wd work[k] j)), u7 = .slice (some ⟨g, 0, none⟩) work.length cap ∧ work.length ≤ cap := by
        obtain ⟨h1, ⟨rfl, h2⟩ | ⟨g, cap, cur, rfl, hr⟩⟩ := R.hwork
        · omega
        · refine ⟨g, cap, fun j hj => ?_, rfl, hr.2.2.1⟩
          rw [World.ownsRow.cellAt (w := wr) (base := w.heap.size + 1 + 1) (e := 35) (size := 4) (n := work.length) (cap := cap) (xs := cellsL work) ⟨h1, .inr ⟨g, cap, cur, rfl, hr⟩⟩ (k * 4 + j) (by omega)]
          exact cellsL_get work k hlt j hj
      have q0 : wr.cell? ⟨g, k * 4, none⟩ = some (.int .u64 (wd work[k] 0)) := cc 0 (by decide)
      have q1 := cc 1 (by decide)
      have q2 := cc 2 (by decide)
      have q3 := cc 3 (by decide)
      clear cc
      have hk0 : (0 : Int) ≤ (k : Int) := by omega
      have hk1 : (k : Int) < (work.length : Int) := by omega
      have hnk : k < 511 * l.length := by omega
      have stepSeen := R.inv.seen hlt
      have stepConst := R.inv.const hlt
      have stepLeaf := R.inv.leaf hlt
      have stepNode := R.inv.node hlt
      have htake := take_one hlt
      generalize work[k] = f at *
      have HS := Lib.hid stepSeen
      have HC := Lib.hid stepConst
      have HL := Lib.hid stepLeaf
      have HN := Lib.hid stepNode
      have HT := Lib.hid htake
      clear stepSeen stepConst stepLeaf stepNode htake
      have hM := R.map.alloc (.cells #[.int .u64 (wd f 0), .int .u64 (wd f 1), .int .u64 (wd f 2), .int .u64 (wd f 3)] 35)
      have hlook : (Instr.lookup 135 (.map (some (w.heap.size + 1))) (.agg #[.int .u64 (wd f 0), .int .u64 (wd f 1), .int .u64 (wd f 2), .int .u64 (wd f 3)]) false).run Tryz.prog (wr.alloc (.cells #[.int .u64 (wd f 0), .int .u64 (wd f 1), .int .u64 (wd f 2), .int .u64 (wd f 3)] 35)) = .ok (.int .i64 (seenM (work.take k) f)) (wr.alloc (.cells #[.int .u64 (wd f 0), .int .u64 (wd f 1), .int .u64 (wd f 2), .int .u64 (wd f 3)] 35)) := hM.look Tryz.underlying135 Tryz.underlying3 (zeroI _) f
      by_cases hin : f ∈ work.take k
      · have e1 : seenM (work.take k) f = 1 := if_pos hin
        rw [e1] at hlook
        clear e1
        go_wp2_with fail
        have e2 : seenM (work.take (k + 1)) = seenM (work.take k) := by
          funext z
          rw [HT.out]
          unfold seenM
          by_cases hz : z ∈ work.take k
          · rw [if_pos (List.mem_append_left _ hz), if_pos hz]
          · rw [if_neg (fun h => (List.mem_append.1 h).elim hz (fun h => hz (by rw [List.mem_singleton.1 h]; exact hin))), if_neg hz]
        exact ⟨⟨out, work, k + 1, by go_num, ⟨HS.out hin, R.hout.alloc _, R.hwork.alloc _, R.apart, R.ord.alloc _, by rw [e2]; exact IMap.le hM, R.below.alloc R.below.size _, by have := R.room; simp; omega⟩⟩, by simp [intOf]; omega⟩
      · have e1 : seenM (work.take k) f = 0 := if_neg hin
        rw [e1] at hlook
        clear e1
        have hkm : k < maxLen := by unfold maxLen; omega
        have S := NSt.start R f
        clear R
        go_wp2_with (at_mapUpdate; refine IMap.put hM Tryz.underlying135 Tryz.underlying3 hkm rfl (.tmp 29) (.tmp 30) (.const (.int .i64 1)) rfl f 1 (by decide) rfl rfl rfl ?_; intro w2 hM2 hgr2; replace S := S.put hM2 hgr2; clear hM2 hgr2 hM hlook q0 q1 q2 q3; obtain ⟨c0, c1, c2, c3⟩ := S.hf.cells)
        clear c0 c1 c2 c3
        refine (refSupport f _).mono ?_
        rintro e w3 ⟨rfl, hb3⟩
        replace S := S.keep hb3
        clear hb3 w2
        have hbf : wr.heap.size < w3.heap.size := S.hf.lt
        by_cases hsup : supF f = 0
        · rw [hsup]
          go_wp2
          exact ⟨⟨out, work, k + 1, by go_num, S.rel (HC.out hsup) (by rw [HT.out]; exact seen_snoc _ _)⟩, by simp [intOf]; omega⟩
        · have hsb : (((supF f : Nat) : Int) == 0) = false := by rw [beq_eq_false_iff_ne]; omega
          obtain ⟨c0, c1, c2, c3⟩ := S.hf.cells
          have hsl := slice_one w3 f w3.heap.size rfl
          have S4 := S.keep ((Below.refl w3.heap.size w3).alloc (Nat.le_refl _) (.cells #[.int .u64 (wd f 0), .int .u64 (wd f 1), .int .u64 (wd f 2), .int .u64 (wd f 3)] 35))
          have hol := HL.out hin hsup
          have hon := HN.out hin hsup
          have hro : out.length + 1 ≤ 1000000 := by omega
          have hrm := S4.size
          go_wp2_with (at_builtin; refine appendF rfl (.tmp 34) (.tmp 36) rfl (w.heap.size + 1 + 1) _ _ out [f] rfl S4.hout rfl hsl hro (Nat.le_of_lt hrm) ?_; intro v5 w5 hown5 hgr5 hat5; replace S4 := S4.outApp hown5 hgr5 hat5; clear hown5 hgr5 hat5 hsl c0 c1 c2 c3 S; obtain ⟨c0, c1, c2, c3⟩ := S4.hf.cells; have o0 := S4.ord.cell 0 (by decide); have o1 := S4.ord.cell 1 (by decide); have o2 := S4.ord.cell 2 (by decide); have o3 := S4.ord.cell 3 (by decide); have o4 := S4.ord.cell 4 (by decide); have o5 := S4.ord.cell 5 (by decide); have o6 := S4.ord.cell 6 (by decide); have o7 := S4.ord.cell 7 (by decide))
          clear c0 c1 c2 c3 o0 o1 o2 o3 o4 o5 o6 o7
          refine (refTop f o _).mono ?_
          rintro e w6 ⟨rfl, hb6⟩
          have S := S4.keep hb6
          clear hb6 S4 hrm hbf
          by_cases htop : 0 ≤ topF f o
          · replace hon := hon htop
            clear hol HL HN HC HS
            generalize topF f o = t at *
            have c0 : ∀ u : Sub w6, u.1.cell? ⟨wr.heap.size, 0, none⟩ = some (.int .u64 (wd f 0)) := fun u => (S.hf.sub u).cells.1
            have c1 : ∀ u : Sub w6, u.1.cell? ⟨wr.heap.size, 1, none⟩ = some (.int .u64 (wd f 1)) := fun u => (S.hf.sub u).cells.2.1
            have c2 : ∀ u : Sub w6, u.1.cell? ⟨wr.heap.size, 2, none⟩ = some (.int .u64 (wd f 2)) := fun u => (S.hf.sub u).cells.2.2.1
            have c3 : ∀ u : Sub w6, u.1.cell? ⟨wr.heap.size, 3, none⟩ = some (.int .u64 (wd f 3)) := fun u => (S.hf.sub u).cells.2.2.2
            go_wp2
            refine wp_region_move_tail (C := fun w' => ∃ u : Sub w6, w' = u.1) 6 (.tmp 7) rfl rfl (by kernel_rfl) (by kernel_rfl) (fun _ _ _ _ h => h) (InSub.drew w6) ?_
            simp only [List.take_succ_cons, List.take_zero, List.drop_succ_cons, List.drop_zero, Act.put, Act.eval, List.setIfInBounds_toArray, List.set_cons_zero, List.set_cons_succ]
            iterate 2 (go_big_quiet_step (fail))
            go_big_quiet_step (exact sub_below (refCof f t false _))
            iterate 2 (go_big_quiet_step (fail))
            go_big_quiet_step (exact sub_below (refCof f t true _))
            refine wpQuiet_nil ?_
            clear c0 c1 c2 c3
            intro w' hw'
            obtain ⟨u, rfl⟩ := hw'
            replace S := S.keep u.2
            generalize u.1 = w7 at *
            clear u w6
            generalize cofAny f t false = p at *
            generalize cofAny f t true = q at *
            have hsl := slice_two w7 p q w7.heap.size rfl
            replace S := S.keep ((Below.refl w7.heap.size w7).alloc (Nat.le_refl _) (.cells #[.int .u64 (wd p 0), .int .u64 (wd p 1), .int .u64 (wd p 2), .int .u64 (wd p 3), .int .u64 (wd q 0), .int .u64 (wd q 1), .int .u64 (wd q 2), .int .u64 (wd q 3)] 35))
            have hrm := S.size
            have hrw : work.length + 2 ≤ 1000000 := by omega
            simp only [fv]
            go_wp2_with (at_builtin; refine appendF rfl (.tmp 43) (.tmp 50) rfl (w.heap.size + 1 + 1) _ _ work [p, q] rfl S.hwork rfl hsl hrw (Nat.le_of_lt hrm) ?_; intro v8 w8 hown8 hgr8 hat8)
            replace S := S.workApp hown8 hgr8 hat8
            exact ⟨⟨out ++ [f], work ++ [p, q], k + 1, by go_num, S.rel hon (by rw [List.take_append_of_le_length (by omega), HT.out]; exact seen_snoc _ _)⟩, by simp [intOf]; omega⟩
          · replace hol := hol (by omega)
            clear hon HL HN HC HS
            go_wp2
            exact ⟨⟨out ++ [f], work, k + 1, by go_num, S.rel hol (by rw [HT.out]; exact seen_snoc _ _)⟩, by simp [intOf]; omega⟩
    · obtain ⟨a, cap, rfl⟩ : ∃ a cap, u7 = .slice a work.length cap := by
        obtain ⟨h1, ⟨rfl, h2⟩ | ⟨g, cap, cur, rfl, hr⟩⟩ := R.hwork
        · exact ⟨none, 0, by rw [h2]⟩
        · exact ⟨_, _, rfl⟩
      go_wp2
      go_ret
      exact ⟨u5, out, rfl, R.hout, R.inv.done hlt, R.below⟩

end Go.Proofs.YtpcilfnnfhfgaaaGreatDoor
