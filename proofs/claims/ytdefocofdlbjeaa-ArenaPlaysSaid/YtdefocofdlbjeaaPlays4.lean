/-
  ArenaPlays: the walk.
-/
import Derived.Test.YtdefocofdlbjeaaUp4
namespace Go.Proofs.Ytdefocofdlbjeaa
open Go Go.RowKit

/-- Both arenas, apart from each other and from all that stood in w0. -/
structure PR (w0 : World) (bA bM : Nat) (FA FM : Nat → Prop) (sA sM : AS) (W : World) : Prop where
  a : ArenaAt W bA FA sA
  m : RefAt W bM FM sM
  apart : ∀ k, FA k → ¬ FM k
  lowA : ∀ k, FA k → w0.heap.size ≤ k
  lowM : ∀ k, FM k → w0.heap.size ≤ k
  below : Below w0.heap.size w0 W

section
variable {w0 W W' : World} {bA bM : Nat} {FA FM FA' FM' : Nat → Prop} {sA sM s' : AS}

theorem PR.keep (h : PR w0 bA bM FA FM sA sM W) (hb : Below W.heap.size W W') : PR w0 bA bM FA FM sA sM W' :=
  ⟨h.a.below hb, h.m.below hb, h.apart, h.lowA, h.lowM, h.below.trans (hb.mono h.below.size)⟩

theorem PR.arena (h : PR w0 bA bM FA FM sA sM W) (hA : ArenaAt W' bA FA' s') (hK : Keeps FA W W') (hW : Within W FA FA') : PR w0 bA bM FA' FM s' sM W' :=
  ⟨hA, h.m.keep hK (fun k h1 h2 => h.apart k h2 h1), fun k h1 h2 => (hW k h1).elim (fun h3 => h.apart k h3 h2) (fun h3 => by have := h.m.lt k h2; omega),
    fun k h1 => (hW k h1).elim (h.lowA k) (fun h3 => Nat.le_trans h.below.size h3), h.lowM, h.below.trans (hK.below h.below.size h.lowA)⟩

theorem PR.ref (h : PR w0 bA bM FA FM sA sM W) (hM : RefAt W' bM FM' s') (hK : Keeps FM W W') (hW : Within W FM FM') : PR w0 bA bM FA FM' sA s' W' :=
  ⟨h.a.keep hK (fun k h1 h2 => h.apart k h1 h2), hM, fun k h1 h2 => (hW k h2).elim (fun h3 => h.apart k h1 h3) (fun h3 => by have := h.a.lt k h1; omega),
    h.lowA, fun k h1 => (hW k h1).elim (h.lowM k) (fun h3 => Nat.le_trans h.below.size h3), h.below.trans (hK.below h.below.size h.lowM)⟩

theorem PR.sub (h : PR w0 bA bM FA FM sA sM W) (u : Sub W) : PR w0 bA bM FA FM sA sM u.1 := h.keep u.2
end

/-- A deed's cells. -/
def encD : Enc Try.prog (Int × Int) where
  slice := 22
  elem := 31
  size := 2
  bytes := 16
  cells d := [.int .i64 d.1, .int .i64 d.2]
  zero := .agg #[.int .i64 0, .int .i64 0]
  und := Try.underlying22
  info := info_of _ _ _ _ _ (by kernel_rfl)
  zsize := rfl
  pos := by decide
  few := by decide
  len _ := rfl
  one d u h := by
    rcases List.mem_cons.1 h with rfl | h
    · rfl
    · cases List.mem_singleton.1 h; rfl

theorem Reads.deedAt {w : World} {a : Option Addr} {cap : Nat} {l : List (Int × Int)} (h : Reads encD w (.slice a l.length cap) l) (i : Nat) (hi : i < l.length) : ∃ ad, a = some ad ∧ w.cell? (ad.add (i * 2)) = some (.int .i64 l[i].1) ∧ w.cell? ⟨(ad.add (i * 2)).block, (ad.add (i * 2)).off + 1, none⟩ = some (.int .i64 l[i].2) := by
  obtain ⟨ad, rfl, H⟩ := h.at i hi
  have h0 := H 0 (by decide)
  have h1 := H 1 (by decide)
  refine ⟨ad, rfl, by simpa [encD] using h0, ?_⟩
  simp only [encD] at h1
  rw [← Addr.add_add, Addr.add, if_neg (by omega)] at h1
  simpa using h1

/-- At the loop's head. -/
structure LRel (w : World) (n : Nat) (k : Nat) (bA bM : Nat) (s : AS) (W : World) : Prop where
  le : k ≤ n
  ok : s.Ok
  ex : ∃ FA FM, PR w bA bM FA FM s s W

set_option maxRecDepth 100000 in
set_option maxHeartbeats 8000000 in
theorem arenaPlays (most : Int) (l : List (Int × Int)) (v : Value) (w : World) (hv : Reads encD w v l) (_hl : l.length ≤ maxLen) (hwf : ∀ d ∈ l, (Lit.int .i64 d.1).wf = true ∧ (Lit.int .i64 d.2).wf = true) :
    Calls Try.prog 3 #[.int .i64 most, v] w fun e w' => e = .returned (.bool true) ∧ Below w.heap.size w w' := by
  obtain ⟨a, cap, rfl⟩ := hv.form
  go_enter Try.func3, Try.ntmps3
  go_wp2_with fail
  refine (up04 _).mono ?_
  rintro e w1 ⟨rfl, hb1⟩
  by_cases hmost : 0 ≤ most ∧ most ≤ 20000
  · obtain ⟨h0, h1⟩ := hmost
    have hn0 : ¬ most < 0 := by omega
    have hn1 : ¬ 20000 < most := by omega
    go_wp2_with fail
    refine (arenaNewS most _ h0 h1).mono ?_
    rintro e w2 ⟨rfl, ⟨FA, hA, hFA⟩, hb2⟩
    by_cases hlen : l.length ≤ 300
    · have hl3 : ¬ 300 < (l.length : Int) := by omega
      have R0 : PR w w1.heap.size w2.heap.size FA (foot2 w2.heap.size (.slice none 0 0) (.slice none 0 0)) ⟨most.toNat, 0, [], []⟩ ⟨most.toNat, 0, [], []⟩ (w2.alloc (.cells #[.int .i64 most, .slice none 0 0, .slice none 0 0, .int .i64 0] 29)) := by
        refine ⟨hA.below ((Below.refl _ _).alloc (Nat.le_refl _) _), ⟨_, _, rfl, ⟨?_, Owns.nil _ _, Owns.nil _ _, (fun h => by cases h), (fun h => by cases h), (fun _ h => by cases h)⟩⟩, ?_, fun k hk => Nat.le_trans hb1.size (hFA k hk), ?_, (hb1.trans (hb2.mono hb1.size)).alloc (hb1.trans (hb2.mono hb1.size)).size _⟩
        · rw [heap_alloc_new]; simp only [Int.toNat_of_nonneg h0]; rfl
        · rintro k hk (rfl | h | h)
          · have := hA.lt _ hk; omega
          · cases h
          · cases h
        · rintro k (rfl | h | h)
          · exact (hb1.trans (hb2.mono hb1.size)).size
          · cases h
          · cases h
      have HV := Lib.hid hv
      have L0 := Lib.hid (show LRel w l.length 0 w1.heap.size w2.heap.size ⟨most.toNat, 0, [], []⟩ _ from ⟨Nat.zero_le _, AS.new_ok _ (by omega), _, _, R0⟩)
      clear R0 hA hFA hv hb1 hb2
      generalize w1.heap.size = bA at *
      go_wp2
      generalize w2.heap.size = bM at *
      go_loopw [8] (fun i wr => ∃ (k : Nat) (s : AS), i = .int .i64 k ∧ LRel w l.length k bA bM s wr) (fun i _ => l.length - (intOf i).toNat)
      case atStart => exact ⟨0, _, rfl, L0.out⟩
      case round =>
        clear L0
        obtain ⟨k, s, rfl, hk, ok, FA, FM, R⟩ := hrel
        by_cases hlt : k < l.length
        · have hk0 : (0 : Int) ≤ (k : Int) := by omega
          have hk1 : (k : Int) < (l.length : Int) := by omega
          obtain ⟨ad, rfl, q0, q1⟩ := (HV.out.keep R.below).deedAt k hlt
          have hwk := hwf _ (List.getElem_mem hlt)
          generalize l[k] = d at *
          obtain ⟨What, N⟩ := d
          simp only at q0 q1 hwk
          go_wp2_with fail
          refine (lawPick What 4 _ (by decide) (by decide) hwk.1).mono ?_
          rintro e wx ⟨rfl, rfl⟩
          rcases (by omega : What % 4 = 0 ∨ What % 4 = 1 ∨ What % 4 = 2 ∨ What % 4 = 3) with hp | hp | hp | hp
          · rw [hp]
            go_wp2_with fail
            refine (arenaTakeS R.a ok).mono ?_
            rintro e W1 ⟨rfl, FA1, hA1, hK1, hW1⟩
            have R1 := R.arena hA1 hK1 hW1
            clear R hA1 hK1 hW1
            go_wp2_with fail
            refine (refTakeS R1.m ok).mono ?_
            rintro e W2 ⟨rfl, FM1, hM1, hK1, hW1⟩
            have R2 := R1.ref hM1 hK1 hW1
            clear R1 hM1 hK1 hW1
            have okt := ok.take
            have hE : 0 ≤ s.takeE ∧ s.takeE ≤ 8 := by unfold AS.takeE; split <;> decide
            go_wp2_with fail
            refine (lawCode _ _ hE.1 hE.2).mono ?_
            rintro e wx ⟨rfl, rfl⟩
            generalize s.takeE = E at *
            generalize s.takeN = X at *
            generalize s.take = S at *
            go_wp2

            -- the look behind the deed
            have hMany : ∀ u : Sub W2, Calls Try.prog 13 #[.pointer (some ⟨bA, 0, none⟩)] u.1 (fun e w'' => e = .returned (.int .i64 S.T.length) ∧ ∃ x : Sub W2, w'' = x.1) := fun u => subBelow (arenaManyS (R2.sub u).a okt)
            have hHas : ∀ u : Sub W2, Calls Try.prog 14 #[.pointer (some ⟨bA, 0, none⟩), .int .i64 N] u.1 (fun e w'' => e = .returned (.bool (decide (N ∈ S.T))) ∧ ∃ x : Sub W2, w'' = x.1) := fun u => subSame (arenaHasS (R2.sub u).a okt N)
            have hRef : ∀ u : Sub W2, Calls Try.prog 15 #[.pointer (some ⟨bM, 0, none⟩), .int .i64 N] u.1 (fun e w'' => e = .returned (.bool (decide (N ∈ S.T))) ∧ ∃ x : Sub W2, w'' = x.1) := fun u => subSame (refHasS (R2.sub u).m okt N)
            obtain ⟨v1, v2, _, hRR⟩ := R2.m
            have cT : ∀ u : Sub W2, u.1.cell? ⟨bM, 1, none⟩ = some v1 := fun u => (hRR.keep (F := noBlock) (Keeps.of_below u.2 _) (fun _ _ h => h)).cells.2.1
            obtain ⟨a1, k1, _, _, rfl, _⟩ := hRR.forms
            clear hRR
            generalize decide (N ∈ S.T) = hasN at *
            refine wp_region_quiet_all (C := fun w' => ∃ u : Sub W2, w' = u.1) (by kernel_rfl) (by kernel_rfl) (InSub.drew W2) ?_
            iterate 5 (go_big_quiet_step (fail))
            go_big_quiet_step (exact hMany _)
            iterate 10 (go_big_quiet_step (fail))
            go_big_quiet_step (exact hHas _)
            iterate 2 (go_big_quiet_step (fail))
            go_big_quiet_step (exact hRef _)
            iterate 2 (go_big_quiet_step (fail))
            refine wpQuiet_nil ?_
            clear cT hMany hHas hRef
            intro w' hw'
            obtain ⟨u, rfl⟩ := hw'
            have R3 := R2.sub u
            clear R2
            generalize u.1 = W3 at *
            go_wp2
            exact ⟨⟨k + 1, S, by go_num, ⟨by omega, okt, _, _, R3⟩⟩, by simp [intOf]; omega⟩
          · rw [hp]
            go_wp2_with fail
            refine (arenaTakeS R.a ok).mono ?_
            rintro e W1 ⟨rfl, FA1, hA1, hK1, hW1⟩
            have R1 := R.arena hA1 hK1 hW1
            clear R hA1 hK1 hW1
            go_wp2_with fail
            refine (refTakeS R1.m ok).mono ?_
            rintro e W2 ⟨rfl, FM1, hM1, hK1, hW1⟩
            have R2 := R1.ref hM1 hK1 hW1
            clear R1 hM1 hK1 hW1
            have okt := ok.take
            have hE : 0 ≤ s.takeE ∧ s.takeE ≤ 8 := by unfold AS.takeE; split <;> decide
            go_wp2_with fail
            refine (lawCode _ _ hE.1 hE.2).mono ?_
            rintro e wx ⟨rfl, rfl⟩
            generalize s.takeE = E at *
            generalize s.takeN = X at *
            generalize s.take = S at *
            go_wp2

            -- the look behind the deed
            have hMany : ∀ u : Sub W2, Calls Try.prog 13 #[.pointer (some ⟨bA, 0, none⟩)] u.1 (fun e w'' => e = .returned (.int .i64 S.T.length) ∧ ∃ x : Sub W2, w'' = x.1) := fun u => subBelow (arenaManyS (R2.sub u).a okt)
            have hHas : ∀ u : Sub W2, Calls Try.prog 14 #[.pointer (some ⟨bA, 0, none⟩), .int .i64 N] u.1 (fun e w'' => e = .returned (.bool (decide (N ∈ S.T))) ∧ ∃ x : Sub W2, w'' = x.1) := fun u => subSame (arenaHasS (R2.sub u).a okt N)
            have hRef : ∀ u : Sub W2, Calls Try.prog 15 #[.pointer (some ⟨bM, 0, none⟩), .int .i64 N] u.1 (fun e w'' => e = .returned (.bool (decide (N ∈ S.T))) ∧ ∃ x : Sub W2, w'' = x.1) := fun u => subSame (refHasS (R2.sub u).m okt N)
            obtain ⟨v1, v2, _, hRR⟩ := R2.m
            have cT : ∀ u : Sub W2, u.1.cell? ⟨bM, 1, none⟩ = some v1 := fun u => (hRR.keep (F := noBlock) (Keeps.of_below u.2 _) (fun _ _ h => h)).cells.2.1
            obtain ⟨a1, k1, _, _, rfl, _⟩ := hRR.forms
            clear hRR
            generalize decide (N ∈ S.T) = hasN at *
            refine wp_region_quiet_all (C := fun w' => ∃ u : Sub W2, w' = u.1) (by kernel_rfl) (by kernel_rfl) (InSub.drew W2) ?_
            iterate 5 (go_big_quiet_step (fail))
            go_big_quiet_step (exact hMany _)
            iterate 10 (go_big_quiet_step (fail))
            go_big_quiet_step (exact hHas _)
            iterate 2 (go_big_quiet_step (fail))
            go_big_quiet_step (exact hRef _)
            iterate 2 (go_big_quiet_step (fail))
            refine wpQuiet_nil ?_
            clear cT hMany hHas hRef
            intro w' hw'
            obtain ⟨u, rfl⟩ := hw'
            have R3 := R2.sub u
            clear R2
            generalize u.1 = W3 at *
            go_wp2
            exact ⟨⟨k + 1, S, by go_num, ⟨by omega, okt, _, _, R3⟩⟩, by simp [intOf]; omega⟩
          · rw [hp]
            go_wp2_with fail
            refine (arenaGiveS R.a ok N).mono ?_
            rintro e W1 ⟨rfl, FA1, hA1, hK1, hW1⟩
            have R1 := R.arena hA1 hK1 hW1
            clear R hA1 hK1 hW1
            have hE : 0 ≤ s.giveE N ∧ s.giveE N ≤ 8 := by unfold AS.giveE; split <;> decide
            go_wp2_with fail
            refine (lawCode _ _ hE.1 hE.2).mono ?_
            rintro e wx ⟨rfl, rfl⟩
            go_wp2_with fail
            refine (refGiveS R1.m ok N).mono ?_
            rintro e W2 ⟨rfl, FM1, hM1, hK1, hW1⟩
            have R2 := R1.ref hM1 hK1 hW1
            clear R1 hM1 hK1 hW1
            have okt := ok.give N
            generalize s.giveE N = E at *
            generalize s.give N = S at *
            go_wp2

            -- the look behind the deed
            have hMany : ∀ u : Sub W2, Calls Try.prog 13 #[.pointer (some ⟨bA, 0, none⟩)] u.1 (fun e w'' => e = .returned (.int .i64 S.T.length) ∧ ∃ x : Sub W2, w'' = x.1) := fun u => subBelow (arenaManyS (R2.sub u).a okt)
            have hHas : ∀ u : Sub W2, Calls Try.prog 14 #[.pointer (some ⟨bA, 0, none⟩), .int .i64 N] u.1 (fun e w'' => e = .returned (.bool (decide (N ∈ S.T))) ∧ ∃ x : Sub W2, w'' = x.1) := fun u => subSame (arenaHasS (R2.sub u).a okt N)
            have hRef : ∀ u : Sub W2, Calls Try.prog 15 #[.pointer (some ⟨bM, 0, none⟩), .int .i64 N] u.1 (fun e w'' => e = .returned (.bool (decide (N ∈ S.T))) ∧ ∃ x : Sub W2, w'' = x.1) := fun u => subSame (refHasS (R2.sub u).m okt N)
            obtain ⟨v1, v2, _, hRR⟩ := R2.m
            have cT : ∀ u : Sub W2, u.1.cell? ⟨bM, 1, none⟩ = some v1 := fun u => (hRR.keep (F := noBlock) (Keeps.of_below u.2 _) (fun _ _ h => h)).cells.2.1
            obtain ⟨a1, k1, _, _, rfl, _⟩ := hRR.forms
            clear hRR
            generalize decide (N ∈ S.T) = hasN at *
            refine wp_region_quiet_all (C := fun w' => ∃ u : Sub W2, w' = u.1) (by kernel_rfl) (by kernel_rfl) (InSub.drew W2) ?_
            iterate 5 (go_big_quiet_step (fail))
            go_big_quiet_step (exact hMany _)
            iterate 10 (go_big_quiet_step (fail))
            go_big_quiet_step (exact hHas _)
            iterate 2 (go_big_quiet_step (fail))
            go_big_quiet_step (exact hRef _)
            iterate 2 (go_big_quiet_step (fail))
            refine wpQuiet_nil ?_
            clear cT hMany hHas hRef
            intro w' hw'
            obtain ⟨u, rfl⟩ := hw'
            have R3 := R2.sub u
            clear R2
            generalize u.1 = W3 at *
            go_wp2
            exact ⟨⟨k + 1, S, by go_num, ⟨by omega, okt, _, _, R3⟩⟩, by simp [intOf]; omega⟩
          · rw [hp]
            by_cases hpos : 0 < s.T.length
            · obtain ⟨v1, v2, hFM, hRR⟩ := R.m
              obtain ⟨g, kc, rfl, hc1, hc2⟩ := hRR.taken.some hpos
              have c1 := hRR.cells.2.1
              have cT : ∀ u : Sub wr, u.1.cell? ⟨bM, 1, none⟩ = some (.slice (some ⟨g, 0, none⟩) s.T.length kc) := fun u => (hRR.keep (F := noBlock) (Keeps.of_below u.2 _) (fun _ _ h => h)).cells.2.1
              have hsl : s.T.length ≤ 20000 := by have := ok.len; have := ok.nextLe; have := ok.mostLe; omega
              obtain ⟨J, hJ⟩ : ∃ J : Nat, N % (s.T.length : Int) = J := Int.eq_ofNat_of_zero_le (Int.emod_nonneg N (by omega))
              have hJl : J < s.T.length := by have := Int.emod_lt_of_pos N (show (0 : Int) < (s.T.length : Int) by omega); omega
              have hPick : ∀ u : Sub wr, Calls Try.prog 7 #[.int .i64 N, .int .i64 s.T.length] u.1 (fun e w'' => e = .returned (.int .i64 J) ∧ ∃ x : Sub wr, w'' = x.1) := fun u => subSame (by
                have h := lawPick N s.T.length u.1 (by omega) (by omega) hwk.2
                rwa [hJ] at h)
              have cX : ∀ u : Sub wr, u.1.cell? ⟨g, J, none⟩ = some (.int .i64 s.T[J]) := fun u => (hRR.keep (F := noBlock) (Keeps.of_below u.2 _) (fun _ _ h => h)).taken.intAt J hJl
              have hJ0 : (0 : Int) ≤ (J : Int) := by omega
              have hJ1 : (J : Int) < (s.T.length : Int) := by omega
              have hposI : (0 : Int) < (s.T.length : Int) := by omega
              clear hRR hJ hFM
              generalize s.T[J] = N2 at *
              go_wp2
              refine wp_region_quiet_all (C := fun w' => ∃ u : Sub wr, w' = u.1) (by kernel_rfl) (by kernel_rfl) (InSub.drew wr) ?_
              iterate 10 (go_big_quiet_step (fail))
              go_big_quiet_step (exact hPick _)
              iterate 3 (go_big_quiet_step (fail))
              refine wpQuiet_nil ?_
              clear cT hPick cX c1
              intro w' hw'
              obtain ⟨u, rfl⟩ := hw'
              replace R := R.sub u
              generalize u.1 = W0 at *
              go_wp2_with fail
              refine (arenaGiveS R.a ok N2).mono ?_
              rintro e W1 ⟨rfl, FA1, hA1, hK1, hW1⟩
              have R1 := R.arena hA1 hK1 hW1
              clear R hA1 hK1 hW1
              have hE : 0 ≤ s.giveE N2 ∧ s.giveE N2 ≤ 8 := by unfold AS.giveE; split <;> decide
              go_wp2_with fail
              refine (lawCode _ _ hE.1 hE.2).mono ?_
              rintro e wx ⟨rfl, rfl⟩
              go_wp2_with fail
              refine (refGiveS R1.m ok N2).mono ?_
              rintro e W2 ⟨rfl, FM1, hM1, hK1, hW1⟩
              have R2 := R1.ref hM1 hK1 hW1
              clear R1 hM1 hK1 hW1
              have okt := ok.give N2
              generalize s.giveE N2 = E at *
              generalize s.give N2 = S at *
              go_wp2

              -- the look behind the deed
              have hMany : ∀ u : Sub W2, Calls Try.prog 13 #[.pointer (some ⟨bA, 0, none⟩)] u.1 (fun e w'' => e = .returned (.int .i64 S.T.length) ∧ ∃ x : Sub W2, w'' = x.1) := fun u => subBelow (arenaManyS (R2.sub u).a okt)
              have hHas : ∀ u : Sub W2, Calls Try.prog 14 #[.pointer (some ⟨bA, 0, none⟩), .int .i64 N2] u.1 (fun e w'' => e = .returned (.bool (decide (N2 ∈ S.T))) ∧ ∃ x : Sub W2, w'' = x.1) := fun u => subSame (arenaHasS (R2.sub u).a okt N2)
              have hRef : ∀ u : Sub W2, Calls Try.prog 15 #[.pointer (some ⟨bM, 0, none⟩), .int .i64 N2] u.1 (fun e w'' => e = .returned (.bool (decide (N2 ∈ S.T))) ∧ ∃ x : Sub W2, w'' = x.1) := fun u => subSame (refHasS (R2.sub u).m okt N2)
              obtain ⟨v1, v2, _, hRR⟩ := R2.m
              have cT : ∀ u : Sub W2, u.1.cell? ⟨bM, 1, none⟩ = some v1 := fun u => (hRR.keep (F := noBlock) (Keeps.of_below u.2 _) (fun _ _ h => h)).cells.2.1
              obtain ⟨a1, k1, _, _, rfl, _⟩ := hRR.forms
              clear hRR
              generalize decide (N2 ∈ S.T) = hasN at *
              refine wp_region_quiet_all (C := fun w' => ∃ u : Sub W2, w' = u.1) (by kernel_rfl) (by kernel_rfl) (InSub.drew W2) ?_
              iterate 5 (go_big_quiet_step (fail))
              go_big_quiet_step (exact hMany _)
              iterate 10 (go_big_quiet_step (fail))
              go_big_quiet_step (exact hHas _)
              iterate 2 (go_big_quiet_step (fail))
              go_big_quiet_step (exact hRef _)
              iterate 2 (go_big_quiet_step (fail))
              refine wpQuiet_nil ?_
              clear cT hMany hHas hRef
              intro w' hw'
              obtain ⟨u, rfl⟩ := hw'
              have R3 := R2.sub u
              clear R2
              generalize u.1 = W3 at *
              go_wp2
              exact ⟨⟨k + 1, S, by go_num, ⟨by omega, okt, _, _, R3⟩⟩, by simp [intOf]; omega⟩
            · obtain ⟨v1, v2, hFM, hRR⟩ := R.m
              have c1 := hRR.cells.2.1
              obtain ⟨a1, k1, _, _, rfl, _⟩ := hRR.forms
              have hz : s.T.length = 0 := by omega
              rw [hz] at c1
              clear hRR hFM
              go_wp2
              clear c1
              -- the look behind the deed
              have hMany : ∀ u : Sub wr, Calls Try.prog 13 #[.pointer (some ⟨bA, 0, none⟩)] u.1 (fun e w'' => e = .returned (.int .i64 s.T.length) ∧ ∃ x : Sub wr, w'' = x.1) := fun u => subBelow (arenaManyS (R.sub u).a ok)
              have hHas : ∀ u : Sub wr, Calls Try.prog 14 #[.pointer (some ⟨bA, 0, none⟩), .int .i64 N] u.1 (fun e w'' => e = .returned (.bool (decide (N ∈ s.T))) ∧ ∃ x : Sub wr, w'' = x.1) := fun u => subSame (arenaHasS (R.sub u).a ok N)
              have hRef : ∀ u : Sub wr, Calls Try.prog 15 #[.pointer (some ⟨bM, 0, none⟩), .int .i64 N] u.1 (fun e w'' => e = .returned (.bool (decide (N ∈ s.T))) ∧ ∃ x : Sub wr, w'' = x.1) := fun u => subSame (refHasS (R.sub u).m ok N)
              obtain ⟨v1, v2, _, hRR⟩ := R.m
              have cT : ∀ u : Sub wr, u.1.cell? ⟨bM, 1, none⟩ = some v1 := fun u => (hRR.keep (F := noBlock) (Keeps.of_below u.2 _) (fun _ _ h => h)).cells.2.1
              obtain ⟨a1, k1, _, _, rfl, _⟩ := hRR.forms
              clear hRR
              generalize decide (N ∈ s.T) = hasN at *
              refine wp_region_quiet_all (C := fun w' => ∃ u : Sub wr, w' = u.1) (by kernel_rfl) (by kernel_rfl) (InSub.drew wr) ?_
              iterate 5 (go_big_quiet_step (fail))
              go_big_quiet_step (exact hMany _)
              iterate 10 (go_big_quiet_step (fail))
              go_big_quiet_step (exact hHas _)
              iterate 2 (go_big_quiet_step (fail))
              go_big_quiet_step (exact hRef _)
              iterate 2 (go_big_quiet_step (fail))
              refine wpQuiet_nil ?_
              clear cT hMany hHas hRef
              intro w' hw'
              obtain ⟨u, rfl⟩ := hw'
              have R3 := R.sub u
              clear R
              generalize u.1 = W3 at *
              go_wp2
              exact ⟨⟨k + 1, s, by go_num, ⟨by omega, ok, _, _, R3⟩⟩, by simp [intOf]; omega⟩
        · go_wp2
          go_ret
          exact ⟨rfl, R.below⟩
    · have hl3 : 300 < (l.length : Int) := by omega
      clear hA hFA
      go_wp2
      go_ret
      exact ⟨rfl, hb1.trans (hb2.mono hb1.size)⟩
  · by_cases h0 : most < 0
    · go_wp2_with fail
      refine (arenaNo most _ (.inl h0)).mono ?_
      rintro e w2 ⟨rfl, rfl⟩
      go_wp2
      go_ret
      exact ⟨rfl, hb1⟩
    · have h1 : 20000 < most := by omega
      go_wp2_with fail
      refine (arenaNo most _ (.inr h1)).mono ?_
      rintro e w2 ⟨rfl, rfl⟩
      go_wp2
      go_ret
      exact ⟨rfl, hb1⟩

end Go.Proofs.Ytdefocofdlbjeaa
