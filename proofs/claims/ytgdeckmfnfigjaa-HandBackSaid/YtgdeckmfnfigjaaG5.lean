/-
  Texts of this proof, one behind the other: HandK.
-/
import Derived.Test.YtgdeckmfnfigjaaG4
/-
  HandBack.
-/
namespace Go.Proofs.Ytgdeckmfnfigjaa
open Go Go.RowKit

/-- Of another handle of the same tenant: its number, and whether it is the same. -/
theorem other_cases (t s g o m : Int) (h : mayH t s g) : packN t o m = 0 ∨ (o = s ∧ m = g) ∨ (((packN t o m : Nat) : Int) != 0) = true ∧ (((packN t s g : Nat) : Int) == ((packN t o m : Nat) : Int)) = false ∧ (o = s ∧ (g == m) = false ∨ (s == o) = false) := by
  by_cases h' : mayH t o m
  · by_cases e : packN t s g = packN t o m
    · obtain ⟨a, b⟩ := packN_inj h h' e
      exact .inr (.inl ⟨a.symm, b.symm⟩)
    · refine .inr (.inr ⟨by rw [bne_iff_ne]; have := packN_ne h'; omega, by rw [beq_eq_false_iff_ne]; omega, ?_⟩)
      by_cases hs : s = o
      · refine .inl ⟨hs.symm, ?_⟩
        rw [beq_eq_false_iff_ne]
        rintro rfl
        rw [hs] at e
        exact e rfl
      · exact .inr (beq_eq_false_iff_ne.2 hs)
  · exact .inl (packN_no h')

set_option maxRecDepth 100000 in
set_option maxHeartbeats 4000000 in
/-- The handle asked for is there. -/
theorem handBack_yes (t s g o m : Int) (h : Nat) (hh : h < 18446744073709551616) (k : Int) (w : World) (hyes : mayH t s g) :
    Calls Try.prog 4 #[.int .i64 t, .int .i64 s, .int .i64 g, .int .i64 o, .int .i64 m, .int .u64 h, .int .i64 k] w fun e w' => e = .returned (.bool true) ∧ w = w' := by
  have hN := handPack t s g w
  have hn0 := packN_ne hyes
  have hn1 := packN_lt t s g
  have hUN := handUnpack (packN t s g) hn1 w
  obtain ⟨u1, u2, u3, u4⟩ := up_yes hyes
  rw [u1, u2, u3, u4] at hUN
  have hO := other_cases t s g o m hyes
  have hM := handPack t o m w
  have hT : ∀ x : Nat, x ≠ packN t s g → upB x = false ∨ upB x = true ∧ ((upT x != t) = true ∨ (upT x != t) = false ∧ ((upS x != s) = true ∨ (upS x != s) = false ∧ (upG x != g) = true)) := by
    intro x hx
    cases hb : upB x with
    | false => exact .inl rfl
    | true =>
      refine .inr ⟨rfl, ?_⟩
      by_cases e1 : upT x = t
      · by_cases e2 : upS x = s
        · refine .inr ⟨by rw [e1]; exact bne_self_eq_false _, .inr ⟨by rw [e2]; exact bne_self_eq_false _, ?_⟩⟩
          rw [bne_iff_ne]
          intro e3
          have := pack_up hb
          rw [e1, e2, e3] at this
          exact hx this.symm
        · exact .inr ⟨by rw [e1]; exact bne_self_eq_false _, .inl (bne_iff_ne.2 e2)⟩
      · exact .inl (bne_iff_ne.2 e1)
  unfold mayH at hyes
  generalize hPn : packN t s g = n at *
  have kn : ((n : Int) != 0) = true := by rw [bne_iff_ne]; omega
  clear hn0 u1 u2 u3 u4
  have hU := handUnpack h hh w
  have hB := fun hb => pack_up (h := h) hb
  have hQ := handPack (upT h) (upS h) (upG h) w
  generalize upT h = a at *
  generalize upS h = b at *
  generalize upG h = c at *
  generalize upB h = d at *
  generalize packN a b c = q at *
  have hq : d = false ∨ d = true ∧ ((q : Int) != (h : Int)) = false := by
    cases d with
    | false => exact .inl rfl
    | true => exact .inr ⟨rfl, by rw [hB rfl]; exact bne_self_eq_false _⟩
  clear hB hh
  have hk : decide (k < 0) = true ∨ decide (k < 0) = false ∧ decide (63 < k) = true ∨ ∃ j : Nat, k = j ∧ j < 64 := by
    by_cases h1 : k < 0
    · exact .inl (decide_eq_true h1)
    · by_cases h2 : 63 < k
      · exact .inr (.inl ⟨decide_eq_false h1, decide_eq_true h2⟩)
      · exact .inr (.inr ⟨k.toNat, by omega, by omega⟩)
  have g1 : decide (1 ≤ t) = true := decide_eq_true hyes.1
  have g2 : decide (t ≤ 8) = true := decide_eq_true hyes.2.1
  have g3 : decide (0 ≤ s) = true := decide_eq_true hyes.2.2.1
  have g4 : decide (s ≤ 15) = true := decide_eq_true hyes.2.2.2.1
  have g5 : decide (0 ≤ g) = true := decide_eq_true hyes.2.2.2.2.1
  have g6 : decide (g ≤ 15) = true := decide_eq_true hyes.2.2.2.2.2
  clear hyes
  replace hUN := Lib.hid hUN
  replace hU := Lib.hid hU
  replace hQ := Lib.hid hQ
  replace hT := Lib.hid hT
  replace hk := Lib.hid hk
  replace hq := Lib.hid hq
  replace hO := Lib.hid hO
  replace hn1 := Lib.hid hn1
  replace hPn := Lib.hid hPn
  go_enter Try.func4, Try.ntmps4
  go_wp2_with fail
  refine (up15 _).mono ?_
  rintro e w1 ⟨rfl, rfl⟩
  go_wp2_with fail
  refine hN.mono ?_
  rintro e w' ⟨rfl, rfl⟩
  clear hN
  go_wp2_with fail
  refine hUN.out.mono ?_
  rintro e w' ⟨rfl, rfl⟩
  clear hUN
  go_wp2_with fail
  refine hM.mono ?_
  rintro e w' ⟨rfl, rfl⟩
  clear hM
  replace hO := hO.out
  rcases hO with hO | ⟨rfl, rfl⟩ | ⟨hO1, hO2, ⟨rfl, hO3⟩ | hO3⟩
  all_goals first | (rw [hO]; clear hO) | rw [hPn.out] | generalize packN t o m = M at *
  all_goals go_wp2_with fail
  all_goals
    refine hU.out.mono ?_
    rintro e w' ⟨rfl, rfl⟩
    clear hU hPn
    rcases hq.out with rfl | ⟨rfl, hq1⟩
  all_goals clear hq
  all_goals rcases hk.out with hk1 | ⟨hk1, hk2⟩ | ⟨j, rfl, hj⟩
  all_goals clear hk
  all_goals try (have hj1 : decide ((j : Int) < 0) = false := decide_eq_false (by omega); have hj2 : decide (63 < (j : Int)) = false := decide_eq_false (by omega))
  all_goals go_wp2_with fail
  all_goals try (refine hQ.out.mono ?_; rintro e w' ⟨rfl, rfl⟩; go_wp2_with fail)
  all_goals clear hQ
  all_goals try (go_ret; exact ⟨rfl, rfl⟩)
  all_goals
    obtain ⟨hX1, hX2⟩ := turn_bit n j hn1.out hj
    have hX := handUnpack _ hX2 w
    replace hT := hT.out _ hX1
    rw [xor_bit n j hn1.out hj]
    clear hX1 hX2 hn1
    generalize n ^^^ 2 ^ j = X at *
    generalize upT X = x at *
    generalize upS X = y at *
    generalize upG X = z at *
    generalize upB X = v at *
    refine hX.mono ?_
    rintro e w' ⟨rfl, rfl⟩
    clear hX
    rcases hT with rfl | ⟨rfl, hT1 | ⟨hT1, hT2 | ⟨hT2, hT3⟩⟩⟩
  all_goals go_wp2_with fail
  all_goals go_ret
  all_goals exact ⟨rfl, rfl⟩

set_option maxRecDepth 100000 in
set_option maxHeartbeats 4000000 in
/-- The handle asked for isn't there. -/
theorem handBack_no (t s g o m : Int) (h : Nat) (hh : h < 18446744073709551616) (k : Int) (w : World) (hno : ¬ mayH t s g) :
    Calls Try.prog 4 #[.int .i64 t, .int .i64 s, .int .i64 g, .int .i64 o, .int .i64 m, .int .u64 h, .int .i64 k] w fun e w' => e = .returned (.bool true) ∧ w = w' := by
  have hN := handPack t s g w
  rw [packN_no hno] at hN
  have hU0 : Calls Try.prog 6 #[.int .u64 0] w fun e w' => e = .returned (.tuple #[.int .i64 0, .int .i64 0, .int .i64 0, .bool false]) ∧ w = w' := by
    have h0 := handUnpack 0 (by decide) w
    obtain ⟨a, b, c, d⟩ := up_isnt isH_zero
    rw [a, b, c, d] at h0
    exact h0
  have hM := handPack t o m w
  generalize packN t o m = M at hM
  have hU := handUnpack h hh w
  have hB := fun hb => pack_up (h := h) hb
  have hQ := handPack (upT h) (upS h) (upG h) w
  generalize upT h = a at *
  generalize upS h = b at *
  generalize upG h = c at *
  generalize upB h = d at *
  generalize packN a b c = q at *
  unfold mayH at hno
  have hq : d = false ∨ d = true ∧ ((q : Int) != (h : Int)) = false := by
    cases d with
    | false => exact .inl rfl
    | true => exact .inr ⟨rfl, by rw [hB rfl]; exact bne_self_eq_false _⟩
  clear hB hh
  replace hU0 := Lib.hid hU0
  replace hU := Lib.hid hU
  replace hM := Lib.hid hM
  replace hQ := Lib.hid hQ
  rcases hq with rfl | ⟨rfl, hq⟩
  all_goals
    go_enter Try.func4, Try.ntmps4
    go_wp2_with fail
    refine (up15 _).mono ?_
    rintro e w1 ⟨rfl, rfl⟩
    go_wp2_with fail
    refine hN.mono ?_
    rintro e w' ⟨rfl, rfl⟩
    clear hN
    go_wp2_with fail
  all_goals try (have hg : decide (g ≤ 15) = false := decide_eq_false (by omega))
  all_goals
    refine hU0.out.mono ?_
    rintro e w' ⟨rfl, rfl⟩
    clear hU0
    go_wp2_with fail
  all_goals try (exfalso; omega)
  all_goals
    refine hM.out.mono ?_
    rintro e w' ⟨rfl, rfl⟩
    clear hM
    go_wp2_with fail
    refine hU.out.mono ?_
    rintro e w' ⟨rfl, rfl⟩
    clear hU
    go_wp2_with fail
  all_goals try (refine hQ.out.mono ?_; rintro e w' ⟨rfl, rfl⟩; clear hQ; go_wp2_with fail)
  all_goals go_ret
  all_goals exact ⟨rfl, rfl⟩

theorem handBack (t s g o m : Int) (h : Nat) (k : Int) (w : World) (hh : h < 18446744073709551616) :
    Calls Try.prog 4 #[.int .i64 t, .int .i64 s, .int .i64 g, .int .i64 o, .int .i64 m, .int .u64 h, .int .i64 k] w fun e w' => e = .returned (.bool true) ∧ Below w.heap.size w w' := by
  have hs := Below.refl w.heap.size w
  by_cases hm : mayH t s g
  · exact (handBack_yes t s g o m h hh k w hm).mono fun _ _ ⟨he, hw⟩ => ⟨he, hw ▸ hs⟩
  · exact (handBack_no t s g o m h hh k w hm).mono fun _ _ ⟨he, hw⟩ => ⟨he, hw ▸ hs⟩

end Go.Proofs.Ytgdeckmfnfigjaa
