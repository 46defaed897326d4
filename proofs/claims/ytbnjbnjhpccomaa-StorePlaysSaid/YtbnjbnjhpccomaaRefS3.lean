/-
  The document's store: New, Free, Swap.
-/
import Derived.Test.YtbnjbnjhpccomaaRefS2
namespace Go.Proofs.Ytbnjbnjhpccomaa
open Go Go.RowKit

/-- The plain order. -/
def plainO : Nat → Int := fun i => (i : Int)
theorem plainO_may : mayO plainO = true := by decide +kernel

set_option maxRecDepth 100000 in
theorem refPlain (w : World) : Calls Try.prog 43 #[] w fun e w' => e = .returned (.agg #[.int .i64 0, .int .i64 1, .int .i64 2, .int .i64 3, .int .i64 4, .int .i64 5, .int .i64 6, .int .i64 7]) ∧ Below w.heap.size w w' := by
  go_enter Try.func43, Try.ntmps43
  go_wp2
  exact bodyPost_ret (ret_holdsO Try.results43 rfl (o := plainO) (HoldsO.new w plainO w.heap.size)) rfl ⟨rfl, by go_grown⟩

/-- A store of none. -/
def MS.none (most : Nat) : MS := ⟨⟨most, 0, [], []⟩, [], plainO⟩
theorem MS.none_ok (most : Nat) (h : most ≤ 20000) : (MS.none most).Ok := MS.Ok.new most h plainO plainO_may

set_option maxRecDepth 100000 in
set_option maxHeartbeats 1000000 in
theorem refSNew (most : Int) (w : World) (h0 : 0 ≤ most) :
    Calls Try.prog 22 #[.int .i64 most] w fun e w' => ∃ b, e = .returned (.pointer (some ⟨b, 0, none⟩)) ∧ (∃ F, RefSAt w' b F (MS.none most.toNat) ∧ ∀ k, F k → w.heap.size ≤ k) ∧ Below w.heap.size w w' := by
  go_enter Try.func22, Try.ntmps22
  go_wp2_with fail
  have hA := heap_alloc_new w (.cells #[.int .i64 most, .slice none 0 0, .slice none 0 0, .int .i64 0] 83)
  have hb : Below w.heap.size w (w.alloc (.cells #[.int .i64 most, .slice none 0 0, .slice none 0 0, .int .i64 0] 83)) := by go_grown
  generalize w.alloc (.cells #[.int .i64 most, .slice none 0 0, .slice none 0 0, .int .i64 0] 83) = W at *
  have hWl : w.heap.size < W.heap.size := row_lt hA
  refine (refPlain _).mono ?_
  rintro e w1 ⟨rfl, hb1⟩
  replace hA := (hb1.block _ hWl).trans hA
  have hb2 := hb.trans (hb1.mono hb.size)
  have hl1 : w.heap.size < w1.heap.size := row_lt hA
  go_wp2
  go_ret
  refine ⟨w1.heap.size, rfl, ⟨_, ⟨w.heap.size, foot2 w.heap.size (.slice .none 0 0) (.slice .none 0 0), .slice .none 0 0, rfl, heap_alloc_new _ _, ⟨.slice .none 0 0, .slice .none 0 0, rfl, ?_, Owns.nil _ _, Owns.nil _ _, (fun h => by cases h), (fun h => by cases h), (fun g h => by cases h)⟩, Owns.nil _ _, ?_, (fun h => by cases h), (fun g h => by cases h)⟩, ?_⟩, hb2.alloc hb2.size _⟩
  · rw [heap_alloc_old _ _ hl1, hA]
    simp only [MS.none, Int.toNat_of_nonneg h0]
    rfl
  · rintro (e | e | e)
    · omega
    · cases e
    · cases e
  · rintro k (rfl | (rfl | e | e) | e)
    · omega
    · exact Nat.le_refl _
    · cases e
    · cases e
    · cases e

set_option maxRecDepth 100000 in
set_option maxHeartbeats 4000000 in
theorem refSFree {w : World} {b : Nat} {F : Nat → Prop} {s : MS} (h : RefSAt w b F s) (ok : s.Base) (n : Int) (hn : n ≤ 9223372036854775807) :
    Calls Try.prog 27 #[.pointer (some ⟨b, 0, none⟩), .int .i64 n] w fun e w' => e = .returned (.int .i64 (s.free n).1) ∧ ∃ F', RefSAt w' b F' (s.free n).2 ∧ Keeps F w w' ∧ Within w F F' := by
  have hfew := ok.few
  have H := refSHas h ok n hn
  generalize hr : s.free n = r
  cases hh : s.has n
  · have e : s.free n = (1, s) := by unfold MS.free; rw [if_pos (.inl hh)]
    rw [e] at hr
    subst hr
    rw [hh] at H
    go_enter Try.func27, Try.ntmps27
    go_wp2_with fail
    refine H.mono ?_
    rintro e w1 ⟨rfl, rfl⟩
    go_wp2
    go_ret
    exact ⟨rfl, F, h, Keeps.refl _ _, Within.refl _ _⟩
  · rw [hh] at H
    have h2 := (ok.range hh).1
    go_enter Try.func27, Try.ntmps27
    go_wp2_with fail
    refine H.mono ?_
    rintro e w1 ⟨rfl, rfl⟩
    clear H
    go_wp2
    go_loop [5] (fun i => ∃ k : Nat, k ≤ s.N.length ∧ i = .int .i64 ((k : Int) + 2) ∧ Hid ((numsTo k).any (fun m => (decide ((s.nd m).lo = n) || decide ((s.nd m).hi = n)) && s.has m) = false)) (fun i => s.N.length + 2 - (intOf i).toNat)
    case atStart => exact ⟨0, Nat.zero_le _, rfl, Lib.hid rfl⟩
    case round =>
      obtain ⟨k, hk, rfl, hno⟩ := hrel
      obtain ⟨bA, FA, vN, rfl, hR⟩ := h
      by_cases hlt : k < s.N.length
      · obtain ⟨hy, hnx⟩ := numsTo_any hlt hno.out
        have hN := MS.nd_get k hlt
        have HHas := refSHas (w := w) (b := b) ⟨bA, FA, vN, rfl, hR⟩ ok ((k : Int) + 2) (by omega)
        obtain ⟨g, cN, rfl, _, _⟩ := hR.nodes.some (by omega)
        have c1 := hR.cells.2
        obtain ⟨d0, d1, d2⟩ := nodeAt hR.nodes k hlt
        have hk0 : (0 : Int) ≤ (k : Int) := by omega
        have hk1 : (k : Int) < (s.N.length : Int) := by omega
        rw [hN] at hy hnx
        have hR0 := Lib.hid hR
        clear hN hR d0
        generalize s.N[k] = y at *
        obtain ⟨y0, y1, y2⟩ := y
        dsimp only at d1 d2 hy hnx
        generalize s.has ((k : Int) + 2) = hv at *
        by_cases e1 : y1 = n
        · have e1b : (y1 == n) = true := by rw [beq_iff_eq]; exact e1
          cases hv
          · have hnext := Lib.hid (hnx (by simp))
            clear hy hnx hno e1 hh hr
            go_wp2_with fail
            refine HHas.mono ?_
            rintro e w2 ⟨rfl, rfl⟩
            clear HHas
            go_wp2
            exact ⟨⟨k + 1, by omega, by go_num, hnext⟩, by simp [intOf]; omega⟩
          · have hhit := Lib.hid (hy (by simp [e1]))
            clear hy hnx hno e1
            go_wp2_with fail
            refine HHas.mono ?_
            rintro e w2 ⟨rfl, rfl⟩
            clear HHas
            go_wp2
            go_ret
            have hl : s.isLow n = true := hhit.out
            have e : s.free n = (1, s) := by unfold MS.free; rw [if_pos (.inr hl)]
            rw [e] at hr
            subst hr
            exact ⟨rfl, _, ⟨bA, FA, _, rfl, hR0.out⟩, Keeps.refl _ _, Within.refl _ _⟩
        · have e1b : (y1 == n) = false := by rw [beq_eq_false_iff_ne]; exact e1
          by_cases e2 : y2 = n
          · have e2b : (y2 == n) = true := by rw [beq_iff_eq]; exact e2
            cases hv
            · have hnext := Lib.hid (hnx (by simp))
              clear hy hnx hno e1 e2 hh hr
              go_wp2_with fail
              refine HHas.mono ?_
              rintro e w2 ⟨rfl, rfl⟩
              clear HHas
              go_wp2
              exact ⟨⟨k + 1, by omega, by go_num, hnext⟩, by simp [intOf]; omega⟩
            · have hhit := Lib.hid (hy (by simp [e2]))
              clear hy hnx hno e1 e2
              go_wp2_with fail
              refine HHas.mono ?_
              rintro e w2 ⟨rfl, rfl⟩
              clear HHas
              go_wp2
              go_ret
              have hl : s.isLow n = true := hhit.out
              have e : s.free n = (1, s) := by unfold MS.free; rw [if_pos (.inr hl)]
              rw [e] at hr
              subst hr
              exact ⟨rfl, _, ⟨bA, FA, _, rfl, hR0.out⟩, Keeps.refl _ _, Within.refl _ _⟩
          · have e2b : (y2 == n) = false := by rw [beq_eq_false_iff_ne]; exact e2
            have hnext := Lib.hid (hnx (by simp [e1, e2]))
            clear hy hnx hno e1 e2 hh hr HHas
            go_wp2
            exact ⟨⟨k + 1, by omega, by go_num, hnext⟩, by simp [intOf]; omega⟩
      · obtain rfl : k = s.N.length := by omega
        have hl : s.isLow n = false := hno.out
        have e : s.free n = (s.ar.giveE (n - 2), { s with ar := s.ar.give (n - 2) }) := by
          unfold MS.free
          rw [if_neg (by simp [hh, hl])]
        rw [e] at hr
        subst hr
        have cl := hR.cells
        obtain ⟨aN, cN, rfl⟩ := hR.form
        clear hno hl e hh
        go_wp2_with fail
        refine (refGiveS hR.ar ok.ar (n - 2)).mono ?_
        rintro e w2 ⟨rfl, FA1, hA1, hK1, hW1⟩
        obtain ⟨hR1, hk1, hw1⟩ := hR.arena hA1 hK1 hW1
        clear cl hR hA1 hK1 hW1
        go_wp2
        go_ret
        exact ⟨rfl, _, ⟨bA, FA1, _, rfl, hR1⟩, hk1, hw1⟩

end Go.Proofs.Ytbnjbnjhpccomaa
