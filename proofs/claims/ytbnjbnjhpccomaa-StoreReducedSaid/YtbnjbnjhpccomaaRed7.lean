/-
  StoreReduced: the walk.
-/
import Derived.Test.YtbnjbnjhpccomaaFun7
namespace Go.Proofs.Ytbnjbnjhpccomaa
open Go Go.RowKit
attribute [local go_sem] run_equal_same' run_eql_same run_neq_same run_guard_order

theorem MS.swap_two (s : MS) {l : Int} (h0 : 0 ≤ l) (h6 : l ≤ 6) : (s.swap l).1 = 0 ∨ s.swap l = (2, s) := by
  unfold MS.swap
  rw [if_neg (by omega)]
  dsimp only
  split
  · exact .inr rfl
  · exact .inl rfl

set_option maxRecDepth 100000 in
set_option maxHeartbeats 16000000 in
theorem storeReduced' {StAt : World → Nat → (Nat → Prop) → MS → Prop} (H : StoreC StAt) (most : Int) (l : List D7) (level row : Int) (v : Value) (w : World) (hv : Reads encD7 w v l) (_hl : l.length ≤ maxLen) (hwf : ∀ d ∈ l, d.good) (wL : (Lit.int .i64 level).wf = true) (wR : (Lit.int .i64 row).wf = true) :
    Calls Try.prog 4 #[.int .i64 most, v, .int .i64 level, .int .i64 row] w fun e w' => e = .returned (.bool true) ∧ Below w.heap.size w w' := by
  obtain ⟨a, cap, rfl⟩ := hv.form
  go_enter Try.func4, Try.ntmps4
  go_wp2_with fail
  refine (up07 H _).mono ?_
  rintro e w1 ⟨rfl, hb1⟩
  by_cases hmost : 0 ≤ most ∧ most ≤ 20000
  · obtain ⟨h0, h1⟩ := hmost
    go_wp2_with fail
    refine (lawBegin H most _ h0 h1).mono ?_
    rintro e w2 ⟨bA, bM, FA, FM, rfl, P⟩
    have ok := MS.none_ok most.toNat (by omega)
    generalize MS.none most.toNat = s at *
    by_cases hlen : l.length ≤ 150
    · have hl3 : ¬ 150 < (l.length : Int) := by omega
      replace hv := Lib.hid hv
      replace P := Lib.hid P
      replace ok := Lib.hid ok
      go_wp2
      go_loopw [12] (fun i wr => ∃ (k : Nat) (s : MS) (FA FM : Nat → Prop), k ≤ l.length ∧ i = .int .i64 k ∧ s.Ok ∧ P2 StAt w1 bA bM FA FM s s wr) (fun i _ => l.length - (intOf i).toNat)
      case atStart => exact ⟨0, s, _, _, Nat.zero_le _, rfl, ok.out, P.out⟩
      case round =>
        clear P ok
        obtain ⟨k, s, FA, FM, hk, rfl, ok, P⟩ := hrel
        by_cases hlt : k < l.length
        · have hk0 : (0 : Int) ≤ (k : Int) := by omega
          have hk1 : (k : Int) < (l.length : Int) := by omega
          obtain ⟨ad, rfl, q0, q1, q2, q3, q4⟩ := deedAt7 (hv.out.keep (hb1.trans (P.below.mono hb1.size))) k hlt
          have hwk := hwf _ (List.getElem_mem hlt)
          generalize l[k] = d at *
          obtain ⟨What, A, B, C, raw⟩ := d
          obtain ⟨g0, g1, g2, g3⟩ := hwk
          dsimp only at q0 q1 q2 q3 q4 g0 g1 g2 g3
          have HD := lawDo H P ok What A B C raw g0 g1 g2 g3
          clear P
          go_wp2_with fail
          refine HD.mono ?_
          rintro e w3 ⟨rfl, S, FA1, FM1, ok1, P1⟩
          clear HD ok q0 q1 q2 q3 q4
          go_wp2
          exact ⟨⟨k + 1, S, FA1, FM1, by omega, by go_num, ok1, P1⟩, by simp [intOf]; omega⟩
        · obtain rfl : k = l.length := by omega
          have hA := P.a
          have lowA : ∀ k, FA k → w.heap.size ≤ k := fun k hk => Nat.le_trans hb1.size (P.lowA k hk)
          have hbw := hb1.trans (P.below.mono hb1.size)
          have hal : s.all.length ≤ 20000 := Nat.le_trans (numsTo_filter_length s.has s.N.length) ok.toBase.few
          clear P hv hb1 hlt hk
          go_wp2_with fail
          refine (H.all hA ok).mono ?_
          rintro e w3 ⟨vA, rfl, RA⟩
          obtain ⟨aA, cA, rfl, _⟩ := RA.own.form
          have hA3 := H.below hA RA.below
          go_wp2_with fail
          refine (H.order hA3 ok).mono ?_
          rintro e w4 ⟨rfl, hb4⟩
          simp only [ov]
          go_wp2
          have hO := HoldsO.new w4 s.o w4.heap.size rfl
          have hb5 : Below w3.heap.size w3 (w4.alloc (.cells #[.int .i64 (s.o 0), .int .i64 (s.o 1), .int .i64 (s.o 2), .int .i64 (s.o 3), .int .i64 (s.o 4), .int .i64 (s.o 5), .int .i64 (s.o 6), .int .i64 (s.o 7)] 36)) := hb4.alloc hb4.size _
          generalize w4.alloc (.cells #[.int .i64 (s.o 0), .int .i64 (s.o 1), .int .i64 (s.o 2), .int .i64 (s.o 3), .int .i64 (s.o 4), .int .i64 (s.o 5), .int .i64 (s.o 6), .int .i64 (s.o 7)] 36) = W0 at *
          have hnewO : ¬ FA w4.heap.size := fun e => by have := H.lt hA _ e; have := RA.below.size; have := hb4.size; omega
          generalize w4.heap.size = bO at *
          have hA0 := H.below hA3 hb5
          have hAll := RA.own.reads.keep hb5
          have hOwn := RA.own.block (w' := W0) fun g hg => hb5.block g (RA.own.lt g hg)
          have hnewA : ∀ g, (Value.slice aA s.all.length cA).ownBlock = some g → ¬ FA g := fun g hg e => by have := RA.new g hg; have := H.lt hA g e; omega
          have hbw0 := hbw.trans ((RA.below.trans (hb5.mono RA.below.size)).mono hbw.size)
          clear hA hA3 RA hb4 hb5 hbw
          have hnd := List.pairwise_iff_getElem.1 s.all_nodup
          go_loopw [15] (fun i wr => ∃ k : Nat, k ≤ s.all.length ∧ i = .int .i64 k ∧ Below W0.heap.size W0 wr) (fun i _ => s.all.length - (intOf i).toNat)
          case atStart => exact ⟨0, Nat.zero_le _, rfl, Below.refl _ _⟩
          case round =>
            obtain ⟨k, hk, rfl, hb⟩ := hrel
            by_cases hlt : k < s.all.length
            · obtain ⟨ad, rfl, hc⟩ := (hAll.keep hb).intAt k hlt
              have hhas : s.has s.all[k] = true := ok.toBase.mem_all.1 (List.getElem_mem hlt)
              generalize hn : s.all[k] = n at *
              have hle := ok.toBase.has_le hhas
              have hunl := ok.unlike n hhas
              have hvar := ok.var n hhas
              have hblo := ok.lo n hhas
              have hbhi := ok.hi n hhas
              have hk0 : (0 : Int) ≤ (k : Int) := by omega
              have hk1 : (k : Int) < (s.all.length : Int) := by omega
              have HN := H.node (H.below hA0 hb) ok n (by omega)
              simp only [nodeV, hhas, if_true, nv] at HN
              have hone : ∀ m, s.has m = true → m ≠ n → s.nd m ≠ s.nd n := fun m hm hne e => hne (ok.one m n hm hhas e)
              generalize s.nd n = x at *
              obtain ⟨x0, x1, x2⟩ := x
              dsimp only at HN hunl hvar hblo hbhi
              have hub : (x1 == x2) = false := by rw [beq_eq_false_iff_ne]; exact hunl
              have hv0 : ¬ x0 < 0 := by omega
              have hv7 : ¬ 7 < x0 := by omega
              go_wp2_with fail
              refine HN.mono ?_
              rintro e w5 ⟨rfl, hb5⟩
              have hb6 := hb.trans ((hb5.alloc hb5.size (.cells #[.int .i64 x0, .int .i64 x1, .int .i64 x2] 39)).mono hb.size)
              have hX := HoldsN.new w5 ⟨x0, x1, x2⟩
              have z := hX.cells
              dsimp only at z hX
              obtain ⟨z0, z1, z2⟩ := z
              clear HN hb5 hc
              replace hunl := Lib.hid hunl
              go_wp2
              clear z0 z1 z2
              generalize w5.alloc (.cells #[.int .i64 x0, .int .i64 x1, .int .i64 x2] 39) = W5 at *
              generalize w5.heap.size = bX at *
              go_loopw [18] (fun i wr => ∃ m : Nat, m ≤ k ∧ i = .int .i64 m ∧ Below W5.heap.size W5 wr) (fun i _ => k - (intOf i).toNat)
              case atStart => exact ⟨0, Nat.zero_le _, rfl, Below.refl _ _⟩
              case round =>
                obtain ⟨m, hm, rfl, hbm⟩ := hrel
                by_cases hltm : m < k
                · have hbW := hb6.trans (hbm.mono hb6.size)
                  obtain ⟨ad', e', hc⟩ := (hAll.keep hbW).intAt m (by omega)
                  cases e'
                  have hhas2 : s.has s.all[m] = true := ok.toBase.mem_all.1 (List.getElem_mem (by omega))
                  have hne := hnd m k (by omega) hlt hltm
                  rw [hn] at hne
                  generalize s.all[m] = n2 at *
                  have hle2 := ok.toBase.has_le hhas2
                  have hm0 : (0 : Int) ≤ (m : Int) := by omega
                  have hm1 : (m : Int) < (s.all.length : Int) := by omega
                  have hmk : (m : Int) < (k : Int) := by omega
                  have HN := H.node (H.below hA0 hbW) ok n2 (by omega)
                  simp only [nodeV, hhas2, if_true, nv] at HN
                  have hone2 := hone n2 hhas2 hne
                  generalize s.nd n2 = y at *
                  obtain ⟨y0, y1, y2⟩ := y
                  dsimp only at HN
                  have hq := run_eql_nodes x0 x1 x2 y0 y1 y2 false (decide_eq_false (fun e => hone2 e.symm))
                  clear hone2 hone hne
                  go_wp2_with fail
                  refine HN.mono ?_
                  rintro e w6 ⟨rfl, hb7⟩
                  have hX6 := hX.below (hbm.trans (hb7.mono hbm.size))
                  have hb8 := hbm.trans ((hb7.alloc hb7.size (.cells #[.int .i64 y0, .int .i64 y1, .int .i64 y2] 39)).mono hbm.size)
                  have hX7 : HoldsN (w6.alloc (.cells #[.int .i64 y0, .int .i64 y1, .int .i64 y2] 39)) bX ⟨x0, x1, x2⟩ := hX6.keep (Keeps.of_alloc noBlock _ _) (fun h => h)
                  have z := hX7.cells
                  have zz := (HoldsN.new w6 ⟨y0, y1, y2⟩).cells
                  dsimp only at z zz
                  obtain ⟨z0, z1, z2⟩ := z
                  obtain ⟨u0, u1, u2⟩ := zz
                  clear HN hb7 hc hX6 hX7
                  go_wp2
                  exact ⟨⟨m + 1, by omega, by go_num, hb8⟩, by simp [intOf]; omega⟩
                · obtain rfl : m = k := by omega
                  clear hone hnd
                  have hX1 := hX.below hbm
                  have hbW := hb6.trans (hbm.mono hb6.size)
                  have z := hX1.cells
                  dsimp only at z
                  obtain ⟨z0, z1, z2⟩ := z
                  go_wp2
                  have hS := World.ownsRow_lit (base := 0) (e := 3) (size := 1) wr #[.int .i64 x1, .int .i64 x2] 2 (Nat.zero_le _) (by unfold maxLen; omega) rfl
                  have hS' : Owns encI (wr.alloc (.cells #[.int .i64 x1, .int .i64 x2] 3)) (.slice (some ⟨wr.heap.size, 0, none⟩) 2 2) [x1, x2] := hS
                  have hX2 : HoldsN (wr.alloc (.cells #[.int .i64 x1, .int .i64 x2] 3)) bX ⟨x0, x1, x2⟩ := hX1.keep (Keeps.of_alloc noBlock _ _) (fun h => h)
                  have hbV := hbW.alloc hbW.size (.cells #[.int .i64 x1, .int .i64 x2] 3)
                  clear hS hX1 z0 z1 z2 hbW
                  generalize wr.alloc (.cells #[.int .i64 x1, .int .i64 x2] 3) = W8 at *
                  generalize wr.heap.size = bS at *
                  replace hnd := trivial
                  go_loopw [22] (fun i wr => ∃ j : Nat, j ≤ 2 ∧ i = .int .i64 j ∧ Below W8.heap.size W8 wr) (fun i _ => 2 - (intOf i).toNat)
                  case atStart => exact ⟨0, Nat.zero_le _, rfl, Below.refl _ _⟩
                  case round =>
                    obtain ⟨j, hj, rfl, hbj⟩ := hrel
                    by_cases hltj : j < 2
                    · have hj0 : (0 : Int) ≤ (j : Int) := by omega
                      have hj1 : (j : Int) < 2 := by omega
                      have hjl : j < [x1, x2].length := hltj
                      have hbeh : s.behind [x1, x2][j] x0 = true := by
                        rcases (by omega : j = 0 ∨ j = 1) with rfl | rfl
                        · exact hblo
                        · exact hbhi
                      have hSc : ∀ V, Below W8.heap.size W8 V → V.cell? ⟨bS, j, none⟩ = some (.int .i64 [x1, x2][j]) := fun V hV => by
                        have := (hS'.block (w' := V) fun g hg => hV.block g (hS'.lt g hg)).intAt j hjl
                        exact this
                      generalize [x1, x2][j] = zz at *
                      have hzle := ok.toBase.behind_le hbeh
                      have s1 := hSc _ hbj
                      have hbW := hbV.trans (hbj.mono hbV.size)
                      have HN := H.node (H.below hA0 hbW) ok zz (by omega)
                      unfold nodeV nv at HN
                      have hLx := fun U => refLevel s.o x0 U
                      simp only [ov] at hLx
                      cases hzh : s.has zz
                      · simp only [hzh, Bool.false_eq_true, if_false] at HN
                        have hz01 : zz = 0 ∨ zz = 1 := by
                          rcases MS.behind_cases hbeh with h | ⟨h, _⟩
                          · exact h
                          · rw [hzh] at h; cases h
                        clear hLx
                        go_wp2_with fail
                        refine HN.mono ?_
                        rintro e w9 ⟨rfl, hb9⟩
                        have hb10 := hbj.trans ((hb9.alloc hb9.size (.cells #[.int .i64 0, .int .i64 0, .int .i64 0] 39)).mono hbj.size)
                        clear HN hb9
                        go_wp2
                        generalize w9.alloc (.cells #[.int .i64 0, .int .i64 0, .int .i64 0] 39) = W10 at *
                        have s2 := fun u : Sub W10 => hSc _ (hb10.trans (u.2.mono hb10.size))
                        clear s1
                        rcases hz01 with rfl | rfl
                        · refine wp_region_quiet_all (C := fun w' => ∃ u : Sub W10, w' = u.1) (by kernel_rfl) (by kernel_rfl) (InSub.drew W10) ?_
                          iterate 10 (go_big_quiet_step (fail))
                          iterate 5 go_big_quiet_skip
                          iterate 4 (go_big_quiet_step (fail))
                          iterate 9 go_big_quiet_skip
                          iterate 2 (go_big_quiet_step (fail))
                          refine wpQuiet_nil ?_
                          intro w' hw'
                          obtain ⟨u, rfl⟩ := hw'
                          have hb11 := hb10.trans (u.2.mono hb10.size)
                          go_wp2
                          exact ⟨⟨j + 1, by omega, by go_num, hb11⟩, by simp [intOf]; omega⟩
                        · refine wp_region_quiet_all (C := fun w' => ∃ u : Sub W10, w' = u.1) (by kernel_rfl) (by kernel_rfl) (InSub.drew W10) ?_
                          iterate 19 (go_big_quiet_step (fail))
                          iterate 9 go_big_quiet_skip
                          iterate 2 (go_big_quiet_step (fail))
                          refine wpQuiet_nil ?_
                          intro w' hw'
                          obtain ⟨u, rfl⟩ := hw'
                          have hb11 := hb10.trans (u.2.mono hb10.size)
                          go_wp2
                          exact ⟨⟨j + 1, by omega, by go_num, hb11⟩, by simp [intOf]; omega⟩
                      · simp only [hzh, if_true] at HN
                        have hlev : levO s.o x0 < levO s.o (s.nd zz).var := by
                          rcases MS.behind_cases hbeh with h | ⟨_, h⟩
                          · rcases h with rfl | rfl <;> cases hzh
                          · exact h
                        generalize s.nd zz = y at *
                        obtain ⟨y0, y1, y2⟩ := y
                        dsimp only at HN hlev
                        have hLy := fun U => refLevel s.o y0 U
                        simp only [ov] at hLy
                        generalize levO s.o x0 = lx at *
                        generalize levO s.o y0 = ly at *
                        have hlb : ¬ ly ≤ lx := by omega
                        go_wp2_with fail
                        refine HN.mono ?_
                        rintro e w9 ⟨rfl, hb9⟩
                        have hb10 := hbj.trans ((hb9.alloc hb9.size (.cells #[.int .i64 y0, .int .i64 y1, .int .i64 y2] 39)).mono hbj.size)
                        have hY := HoldsN.new w9 ⟨y0, y1, y2⟩
                        dsimp only at hY
                        clear HN hb9
                        go_wp2
                        generalize w9.alloc (.cells #[.int .i64 y0, .int .i64 y1, .int .i64 y2] 39) = W10 at *
                        generalize w9.heap.size = bY at *
                        have hbZ := hbV.trans (hb10.mono hbV.size)
                        have hO10 := (hO.keep hbZ hO.lt)
                        have hX10 := hX2.below hb10
                        have c := fun u : Sub W10 => (hO10.sub u).cell
                        have c0 := fun u => c u 0 (by decide)
                        have c1 := fun u => c u 1 (by decide)
                        have c2 := fun u => c u 2 (by decide)
                        have c3 := fun u => c u 3 (by decide)
                        have c4 := fun u => c u 4 (by decide)
                        have c5 := fun u => c u 5 (by decide)
                        have c6 := fun u => c u 6 (by decide)
                        have c7 := fun u => c u 7 (by decide)
                        have xx0 := fun u : Sub W10 => (hX10.sub u).cells.1
                        have yy0 := fun u : Sub W10 => (hY.sub u).cells.1
                        dsimp only at xx0 yy0
                        clear c s1
                        refine wp_region_quiet_all (C := fun w' => ∃ u : Sub W10, w' = u.1) (by kernel_rfl) (by kernel_rfl) (InSub.drew W10) ?_
                        iterate 3 (go_big_quiet_step (fail))
                        iterate 5 go_big_quiet_skip
                        iterate 2 (go_big_quiet_step (fail))
                        iterate 5 go_big_quiet_skip
                        iterate 7 (go_big_quiet_step (fail))
                        go_big_quiet_step (exact subBelow (hLy _))
                        iterate 3 (go_big_quiet_step (fail))
                        go_big_quiet_step (exact subBelow (hLx _))
                        iterate 3 (go_big_quiet_step (fail))
                        refine wpQuiet_nil ?_
                        clear c0 c1 c2 c3 c4 c5 c6 c7 xx0 yy0
                        intro w' hw'
                        obtain ⟨u, rfl⟩ := hw'
                        have hb11 := hb10.trans (u.2.mono hb10.size)
                        go_wp2
                        exact ⟨⟨j + 1, by omega, by go_num, hb11⟩, by simp [intOf]; omega⟩
                    · obtain rfl : j = 2 := by omega
                      have hbW := hbV.trans (hbj.mono hbV.size)
                      go_wp2
                      exact ⟨⟨m + 1, by omega, by go_num, hbW⟩, by simp [intOf]; omega⟩
            · obtain rfl : k = s.all.length := by omega
              have hb0 := hb
              clear hnd hk hlt
              have hxr0 := Int.emod_nonneg row (show (256 : Int) ≠ 0 by decide)
              have hxr1 := Int.emod_lt_of_pos row (show (0 : Int) < 256 by decide)
              have HR := fun U => lawPick row 256 U (by decide) (by decide) wR
              generalize row % 256 = x at *
              have hA1 := H.below hA0 hb0
              have hAll1 := hAll.keep hb0
              have hOwn1 := hOwn.block (w' := wr) fun g hg => hb0.block g (hOwn.lt g hg)
              have hO1 := hO.keep hb0 hO.lt
              have hbw1 := hbw0.trans (hb0.mono hbw0.size)
              have hFlt : ∀ k, FA k → k < wr.heap.size := H.lt hA1
              clear hA0 hAll hOwn hO hbw0 hb hb0
              go_wp2_with fail
              refine (HR _).mono ?_
              rintro e wx ⟨rfl, rfl⟩
              clear HR
              go_wp2
              go_loopw [25, 26] (fun vo i wz => ∃ k : Nat, k ≤ s.all.length ∧ i = .int .i64 k ∧ Owns encB wz vo ((s.all.take k).map (s.val (rowBit x))) ∧ (∀ g, vo.ownBlock = some g → wr.heap.size ≤ g) ∧ Below wr.heap.size wr wz) (fun _ i _ => s.all.length - (intOf i).toNat)
              case atStart => exact ⟨0, Nat.zero_le _, rfl, Owns.nil _ _, (fun g h => by cases h), Below.refl _ _⟩
              case round =>
                obtain ⟨k, hk, rfl, hOB, hNB, hb⟩ := hrel
                by_cases hlt : k < s.all.length
                · obtain ⟨ad, rfl, hc⟩ := (hAll1.keep hb).intAt k hlt
                  have hhas : s.has s.all[k] = true := ok.toBase.mem_all.1 (List.getElem_mem hlt)
                  have hstep : (s.all.take (k + 1)).map (s.val (rowBit x)) = (s.all.take k).map (s.val (rowBit x)) ++ [s.val (rowBit x) s.all[k]] := by rw [List.take_succ_eq_append_getElem hlt, List.map_append]; rfl
                  generalize s.all[k] = n at *
                  have hth : s.there n = true := by simp [MS.there, hhas]
                  have HF := lawFunction H (H.below hA1 hb) ok n hth x hxr0 (by omega)
                  generalize s.val (rowBit x) n = V at *
                  have hk0 : (0 : Int) ≤ (k : Int) := by omega
                  have hk1 : (k : Int) < (s.all.length : Int) := by omega
                  have hln : ((s.all.take k).map (s.val (rowBit x))).length + [V].length ≤ 1000000 := by simp; omega
                  replace hstep := Lib.hid hstep
                  go_wp2_with fail
                  refine HF.mono ?_
                  rintro e w5 ⟨rfl, hb5⟩
                  have hOB5 := (hOB.block (w' := w5) fun g hg => hb5.block g (hOB.lt g hg)).alloc (.cells #[.bool V] 4)
                  have hsrc := oneB w5 V w5.heap.size rfl
                  have hb6 := (hb.trans (hb5.mono hb.size)).alloc (hb.trans (hb5.mono hb.size)).size (.cells #[.bool V] 4)
                  have hsz5 := (hb.trans (hb5.mono hb.size)).size
                  clear HF hb5 hc hOB
                  go_wp2_with (at_builtin; refine appendB rfl (.tmp 181) (.tmp 189) rfl _ _ ((s.all.take k).map (s.val (rowBit x))) [V] rfl hOB5 rfl hsrc hln ?_; intro v' w7 hown hgr hat)
                  refine ⟨⟨k + 1, by omega, by go_num, by rw [hstep.out]; exact hown, fun g hg => ?_, ?_⟩, by simp [intOf]; omega⟩
                  · rcases hat with hat | hat
                    · exact hNB g (hat ▸ hg)
                    · rw [hat] at hg; injection hg with hg; simp at hg; omega
                  · exact hb6.grown hgr (by simp; omega) hNB
                · obtain rfl : k = s.all.length := by omega
                  rw [List.take_length] at hOB
                  have hA2 := H.below hA1 hb
                  have hOwn2 := hOwn1.block (w' := wr) fun g hg => hb.block g (hOwn1.lt g hg)
                  have hO2 := hO1.keep hb hO1.lt
                  have hbw2 := hbw1.trans (hb.mono hbw1.size)
                  have hNF := fun g hg (e : FA g) => Nat.lt_irrefl g (Nat.lt_of_lt_of_le (hFlt g e) (hNB g hg))
                  obtain ⟨aB, cB, eB, _⟩ := hOB.form
                  rw [List.length_map] at eB
                  subst eB
                  have hl0 := Int.emod_nonneg level (show (7 : Int) ≠ 0 by decide)
                  have hl1 := Int.emod_lt_of_pos level (show (0 : Int) < 7 by decide)
                  have HR := fun U => lawPick level 7 U (by decide) (by decide) wL
                  generalize level % 7 = lv at *
                  clear hA1 hAll1 hOwn1 hO1 hbw1 hb hNB hFlt hlt hk
                  go_wp2_with fail
                  refine (HR _).mono ?_
                  rintro e wx ⟨rfl, rfl⟩
                  clear HR
                  go_wp2_with fail
                  refine (H.swap hA2 ok lv).mono ?_
                  rintro e W9 ⟨rfl, FA9, hA9, hK9, _⟩
                  have htwo : (s.swap lv).1 = 0 ∨ ((s.swap lv).1 = 2 ∧ (s.swap lv).2 = s) := by
                    rcases s.swap_two hl0 (show lv ≤ 6 by omega) with h | h
                    · exact .inl h
                    · exact .inr ⟨by rw [h], by rw [h]⟩
                  have ok9 := ok.swapped lv
                  have hhas9 := fun n (hn : s.has n = true) => ok.swap_has lv hn
                  have hval9 := fun n (hn : s.there n = true) => ok.swap_val lv (rowBit x) hn
                  have hOwn9 := hOwn2.keep hK9 hnewA
                  have hOB9 := hOB.keep hK9 hNF
                  have hO9 : HoldsO W9 bO s.o := by
                    have hOlt := hO2.lt
                    unfold HoldsO at *
                    rw [hK9.block bO hOlt hnewO]
                    exact hO2
                  have hbw9 := hbw2.trans (hK9.below hbw2.size lowA)
                  clear hA2 hOwn2 hOB hO2 hbw2 hK9 hnewA hNF hnewO lowA
                  generalize hE : (s.swap lv).1 = E at *
                  generalize hS : (s.swap lv).2 = s9 at *
                  replace htwo := Lib.hid htwo
                  clear hE hS hl0 hl1
                  go_wp2
                  go_loopw [28] (fun i wz => ∃ k : Nat, k ≤ s.all.length ∧ i = .int .i64 k ∧ Below W9.heap.size W9 wz) (fun i _ => s.all.length - (intOf i).toNat)
                  case atStart => exact ⟨0, Nat.zero_le _, rfl, Below.refl _ _⟩
                  case round =>
                    obtain ⟨k, hk, rfl, hb⟩ := hrel
                    by_cases hlt : k < s.all.length
                    · obtain ⟨ad, rfl, hc⟩ := (hOwn9.reads.keep hb).intAt k hlt
                      have hkB : k < (s.all.map (s.val (rowBit x))).length := by rw [List.length_map]; exact hlt
                      obtain ⟨adB, rfl, _⟩ : ∃ adB, aB = some adB ∧ True := by
                        have hr := hOB9.reads
                        rw [← List.length_map (f := s.val (rowBit x))] at hr
                        obtain ⟨adB, e, _⟩ := hr.at k hkB
                        exact ⟨adB, e, trivial⟩
                      have hBc : ∀ V, Below W9.heap.size W9 V → V.cell? (adB.add k) = some (.bool (s.val (rowBit x) s.all[k])) := fun V hV => by
                        have hr := (hOB9.block (w' := V) fun g hg => hV.block g (hOB9.lt g hg)).reads
                        rw [← List.length_map (f := s.val (rowBit x))] at hr
                        obtain ⟨ad2, e, hcc⟩ := hr.at k hkB
                        cases e
                        have := hcc 0 (by decide)
                        simpa [encB] using this
                      have hIc : ∀ V, Below W9.heap.size W9 V → V.cell? (ad.add k) = some (.int .i64 s.all[k]) := fun V hV => by
                        obtain ⟨ad2, e, hcc⟩ := (hOwn9.reads.keep hV).intAt k hlt
                        cases e
                        exact hcc
                      have hhas : s.has s.all[k] = true := ok.toBase.mem_all.1 (List.getElem_mem hlt)
                      generalize s.all[k] = n at *
                      have hle := ok.toBase.has_le hhas
                      have h9 := hhas9 n hhas
                      have hth : s.there n = true := by simp [MS.there, hhas]
                      have hth9 : s9.there n = true := by simp [MS.there, h9]
                      have hvv := hval9 n hth
                      have HF := fun V (hV : Below W9.heap.size W9 V) => lawFunction H (H.below hA9 hV) ok9 n hth9 x hxr0 (by omega)
                      rw [hvv] at HF
                      generalize s.val (rowBit x) n = V0 at *
                      have hk0 : (0 : Int) ≤ (k : Int) := by omega
                      have hk1 : (k : Int) < (s.all.length : Int) := by omega
                      have HN := H.node (H.below hA9 hb) ok9 n (by omega)
                      simp only [nodeV, h9, if_true, nv] at HN
                      generalize s9.nd n = y at *
                      obtain ⟨y0, y1, y2⟩ := y
                      dsimp only at HN
                      clear hvv hth hth9 h9 hhas
                      go_wp2_with fail
                      refine HN.mono ?_
                      rintro e w5 ⟨rfl, hb5⟩
                      have hb6 := hb.trans ((hb5.alloc hb5.size (.cells #[.int .i64 y0, .int .i64 y1, .int .i64 y2] 39)).mono hb.size)
                      clear HN hb5 hc
                      go_wp2
                      generalize w5.alloc (.cells #[.int .i64 y0, .int .i64 y1, .int .i64 y2] 39) = W10 at *
                      have i1 := fun u : Sub W10 => hIc _ (hb6.trans (u.2.mono hb6.size))
                      have b1 := fun u : Sub W10 => hBc _ (hb6.trans (u.2.mono hb6.size))
                      have f1 := fun u : Sub W10 => HF _ (hb6.trans (u.2.mono hb6.size))
                      refine wp_region_quiet_all (C := fun w' => ∃ u : Sub W10, w' = u.1) (by kernel_rfl) (by kernel_rfl) (InSub.drew W10) ?_
                      iterate 9 (go_big_quiet_step (fail))
                      go_big_quiet_step (exact subBelow (f1 _))
                      iterate 6 (go_big_quiet_step (fail))
                      refine wpQuiet_nil ?_
                      clear i1 b1 f1
                      intro w' hw'
                      obtain ⟨u, rfl⟩ := hw'
                      have hb7 := hb6.trans (u.2.mono hb6.size)
                      go_wp2
                      exact ⟨⟨k + 1, by omega, by go_num, hb7⟩, by simp [intOf]; omega⟩
                    · obtain rfl : k = s.all.length := by omega
                      have hA10 := H.below hA9 hb
                      have hOr := hOwn9.reads.keep hb
                      have hbw10 := hbw9.trans (hb.mono hbw9.size)
                      have hO10 := hO9.keep hb hO9.lt
                      clear hA9 hOwn9 hOB9 hO9 hbw9 hb hhas9 hval9 hlt hk
                      rcases htwo.out with rfl | ⟨rfl, rfl⟩
                      · rw [errV0]
                        clear htwo hOr hO10 hA10
                        go_wp2
                        refine wp_region_quiet_all (C := fun w' => ∃ u : Sub wr, w' = u.1) (by kernel_rfl) (by kernel_rfl) (InSub.drew wr) ?_
                        iterate 5 (go_big_quiet_step (fail))
                        iterate 16 go_big_quiet_skip
                        iterate 3 (go_big_quiet_step (fail))
                        refine wpQuiet_nil ?_
                        intro w' hw'
                        obtain ⟨u, rfl⟩ := hw'
                        have hbw11 := hbw10.trans (u.2.mono hbw10.size)
                        go_wp2
                        go_ret
                        exact ⟨rfl, hbw11⟩
                      · clear htwo ok9
                        have hb0 : Below wr.heap.size wr wr.drew := (Below.refl wr.heap.size wr).drew
                        have hAd := H.below hA10 hb0
                        have hOd := hO10.keep hb0 hO10.lt
                        have hRd := hOr.keep hb0
                        have hbd := hbw10.trans (hb0.mono hbw10.size)
                        have hE2 : errV 2 = .iface 77 (.int .i64 2) := rfl
                        have HC := fun U => lawCode 2 U (by decide) (by decide)
                        rw [hE2] at HC
                        rw [hE2]
                        go_wp2
                        have hS0 := And.intro (hOd.cell 0 (by decide)) (And.intro (hOd.cell 1 (by decide)) (And.intro (hOd.cell 2 (by decide)) (And.intro (hOd.cell 3 (by decide)) (And.intro (hOd.cell 4 (by decide)) (And.intro (hOd.cell 5 (by decide)) (And.intro (hOd.cell 6 (by decide)) (hOd.cell 7 (by decide))))))))
                        replace hAd := Lib.hid hAd
                        replace hRd := Lib.hid hRd
                        replace hOd := Lib.hid hOd
                        replace H := Lib.hid H
                        replace HC := Lib.hid HC
                        clear hA10 hOr hO10 hb0
                        go_region_held3 (fun w' => w'.cell? ⟨bO, 0, none⟩ = some (.int .i64 (s9.o 0)) ∧ w'.cell? ⟨bO, 1, none⟩ = some (.int .i64 (s9.o 1)) ∧ w'.cell? ⟨bO, 2, none⟩ = some (.int .i64 (s9.o 2)) ∧ w'.cell? ⟨bO, 3, none⟩ = some (.int .i64 (s9.o 3)) ∧
                          w'.cell? ⟨bO, 4, none⟩ = some (.int .i64 (s9.o 4)) ∧ w'.cell? ⟨bO, 5, none⟩ = some (.int .i64 (s9.o 5)) ∧ w'.cell? ⟨bO, 6, none⟩ = some (.int .i64 (s9.o 6)) ∧ w'.cell? ⟨bO, 7, none⟩ = some (.int .i64 (s9.o 7))) (first | assumption)
                          (first
                            | (go_at_call 17; refine (HC.out _).mono ?_; rintro e V1 ⟨rfl, rfl⟩)
                            | (go_at_call 11; refine (H.out.order hAd.out ok).mono ?_; rintro e V2 ⟨rfl, R2⟩; have hA2 := Lib.hid (H.out.below hAd.out R2); have hb2 := hbd.trans (R2.mono hbd.size); have hR2 := Lib.hid (hRd.out.keep R2); have hO2 := Lib.hid (hOd.out.keep R2 hOd.out.lt); have hS2 := And.intro (hO2.out.cell 0 (by decide)) (And.intro (hO2.out.cell 1 (by decide)) (And.intro (hO2.out.cell 2 (by decide)) (And.intro (hO2.out.cell 3 (by decide)) (And.intro (hO2.out.cell 4 (by decide)) (And.intro (hO2.out.cell 5 (by decide)) (And.intro (hO2.out.cell 6 (by decide)) (hO2.out.cell 7 (by decide)))))))); simp only [ov])
                            | (go_at_call 10; refine (H.out.all hA2.out ok).mono ?_; rintro e V3 ⟨v3, rfl, R3⟩; have hb3 := hb2.trans (R3.below.mono hb2.size); have hR3 := Lib.hid (hR2.out.keep R3.below); have hO3 := Lib.hid (hO2.out.keep R3.below hO2.out.lt); have hS3 := And.intro (hO3.out.cell 0 (by decide)) (And.intro (hO3.out.cell 1 (by decide)) (And.intro (hO3.out.cell 2 (by decide)) (And.intro (hO3.out.cell 3 (by decide)) (And.intro (hO3.out.cell 4 (by decide)) (And.intro (hO3.out.cell 5 (by decide)) (And.intro (hO3.out.cell 6 (by decide)) (hO3.out.cell 7 (by decide)))))))))
                            | (go_at_call 18; refine (lawInts s9.all v3 _ _ R3.own.reads hR3.out (by omega)).mono ?_; rintro e V4 ⟨rfl, R4⟩; have hb4 := hb3.trans (R4.mono hb3.size); have hO4 := Lib.hid (hO3.out.keep R4 hO3.out.lt); have hS4 := And.intro (hO4.out.cell 0 (by decide)) (And.intro (hO4.out.cell 1 (by decide)) (And.intro (hO4.out.cell 2 (by decide)) (And.intro (hO4.out.cell 3 (by decide)) (And.intro (hO4.out.cell 4 (by decide)) (And.intro (hO4.out.cell 5 (by decide)) (And.intro (hO4.out.cell 6 (by decide)) (hO4.out.cell 7 (by decide))))))))))
                        go_wp2
                        go_ret
                        exact ⟨rfl, hb4⟩
    · have hl3 : 150 < (l.length : Int) := by omega
      have hn0 : ¬ most < 0 := by omega
      have hn1 : ¬ 20000 < most := by omega
      go_wp2
      go_ret
      refine ⟨?_, hb1.trans (P.below.mono hb1.size)⟩
      show Ending.returned (.bool (!decide (most < 0) && !decide (20000 < most))) = _
      rw [decide_eq_false (by omega), decide_eq_false (by omega)]
      rfl
  · have hm : most < 0 ∨ 20000 < most := by omega
    go_wp2_with fail
    refine (lawBegin_no H most _ hm).mono ?_
    rintro e w2 ⟨rfl, hb2⟩
    have hb := hb1.trans (hb2.mono hb1.size)
    rcases hm with hm | hm
    · go_wp2
      go_ret
      exact ⟨rfl, hb⟩
    · have hm0 : ¬ most < 0 := by omega
      go_wp2
      go_ret
      exact ⟨rfl, hb⟩

end Go.Proofs.Ytbnjbnjhpccomaa
