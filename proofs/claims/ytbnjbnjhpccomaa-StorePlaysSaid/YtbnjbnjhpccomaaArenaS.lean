/-
  The code's arena and the document's, by what is taken and what was given back.
-/
import Derived.Test.YtbnjbnjhpccomaaRefA
import Derived.Test.YtbnjbnjhpccomaaHelp
namespace Go.Proofs.Ytbnjbnjhpccomaa
open Go Go.RowKit

/-- At block b, in the blocks F, stands the code's arena in this state. -/
def ArenaAt (w : World) (b : Nat) (F : Nat → Prop) (s : AS) : Prop := ∃ v1 v2, F = foot2 b v1 v2 ∧ ArenaR w b v1 v2 s.most s.flags s.B
/-- The document's. -/
def RefAt (w : World) (b : Nat) (F : Nat → Prop) (s : AS) : Prop := ∃ v1 v2, F = foot2 b v1 v2 ∧ RefR w b v1 v2 s.most s.T s.B s.next

section
variable {w w' : World} {b : Nat} {F G : Nat → Prop} {s : AS}

theorem ArenaAt.lt (h : ArenaAt w b F s) (k : Nat) (hk : F k) : k < w.heap.size := by obtain ⟨v1, v2, rfl, h⟩ := h; exact h.lt k hk
theorem ArenaAt.keep (h : ArenaAt w b F s) (hb : Keeps G w w') (hF : ∀ k, F k → ¬ G k) : ArenaAt w' b F s := by obtain ⟨v1, v2, rfl, h⟩ := h; exact ⟨v1, v2, rfl, h.keep hb hF⟩
theorem ArenaAt.below (h : ArenaAt w b F s) (hb : Below w.heap.size w w') : ArenaAt w' b F s := h.keep (Keeps.of_below hb noBlock) (fun _ _ h => h)
theorem RefAt.lt (h : RefAt w b F s) (k : Nat) (hk : F k) : k < w.heap.size := by obtain ⟨v1, v2, rfl, h⟩ := h; exact h.lt k hk
theorem RefAt.keep (h : RefAt w b F s) (hb : Keeps G w w') (hF : ∀ k, F k → ¬ G k) : RefAt w' b F s := by obtain ⟨v1, v2, rfl, h⟩ := h; exact ⟨v1, v2, rfl, h.keep hb hF⟩
theorem RefAt.below (h : RefAt w b F s) (hb : Below w.heap.size w w') : RefAt w' b F s := h.keep (Keeps.of_below hb noBlock) (fun _ _ h => h)

theorem arenaManyS (h : ArenaAt w b F s) (ok : s.Ok) : Calls Try.prog 42 #[.pointer (some ⟨b, 0, none⟩)] w fun e w' => e = .returned (.int .i64 s.T.length) ∧ Below w.heap.size w w' := by
  obtain ⟨v1, v2, rfl, h⟩ := h
  have hl := ok.len
  have h1 := ok.nextLe
  have h2 := ok.mostLe
  have H := arenaMany h (by rw [s.flags_length]; omega) (by rw [s.flags_length]; omega)
  rwa [s.flags_length, show (s.next : Int) - s.B.length = s.T.length by omega] at H

theorem arenaHasS (h : ArenaAt w b F s) (ok : s.Ok) (n : Int) : Calls Try.prog 52 #[.pointer (some ⟨b, 0, none⟩), .int .i64 n] w fun e w' => e = .returned (.bool (decide (n ∈ s.T))) ∧ w = w' := by
  obtain ⟨v1, v2, rfl, h⟩ := h
  have H := arenaHas h n
  rwa [flagAt, ok.flag] at H

theorem arenaNewS (most : Int) (w : World) (h0 : 0 ≤ most) (h1 : most ≤ 20000) :
    Calls Try.prog 23 #[.int .i64 most] w fun e w' => e = .returned (.pointer (some ⟨w.heap.size, 0, none⟩)) ∧ (∃ F, ArenaAt w' w.heap.size F ⟨most.toNat, 0, [], []⟩ ∧ ∀ k, F k → w.heap.size ≤ k) ∧ Below w.heap.size w w' := by
  refine (arenaNew most w h0 h1).mono fun e w' ⟨he, hR, hb⟩ => ⟨he, ⟨_, ⟨.slice none 0 0, .slice none 0 0, rfl, ?_⟩, ?_⟩, hb⟩
  · simp only [AS.flags, List.range_zero, List.map_nil]
    rwa [Int.toNat_of_nonneg h0]
  · rintro k (rfl | hk | hk)
    · exact Nat.le_refl _
    · cases hk
    · cases hk

theorem arenaTakeS (h : ArenaAt w b F s) (ok : s.Ok) : Calls Try.prog 61 #[.pointer (some ⟨b, 0, none⟩)] w fun e w' => e = .returned (.tuple #[.int .i64 s.takeN, errV s.takeE]) ∧ ∃ F', ArenaAt w' b F' s.take ∧ Keeps F w w' ∧ Within w F F' := by
  obtain ⟨v1, v2, rfl, h⟩ := h
  have hl := ok.len
  have h1 := ok.nextLe
  have h2 := ok.mostLe
  have hfl := s.flags_length
  by_cases hf : s.T.length = s.most
  · obtain ⟨e1, e2, e3⟩ := AS.Ok.take_full hf
    rw [e1, e2, e3]
    refine (arenaTake_full h (by omega) (by omega) (by omega)).mono fun e w' ⟨he, hb⟩ => ⟨he, _, ⟨v1, v2, rfl, h.keep (F := noBlock) (Keeps.of_below hb _) (fun _ _ h => h)⟩, Keeps.of_below hb _, Within.refl _ _⟩
  · rcases last_or_nil s.B with hb | ⟨l, n, hb⟩
    · obtain ⟨e1, e2, e3⟩ := AS.Ok.take_new hf hb
      rw [e1, e2, e3]
      rw [hb] at h
      have H := arenaTake_new h (by omega) (by rw [hb] at hl; simp at hl; omega)
      rw [hfl] at H
      refine H.mono fun e w' ⟨he, v1', v2', hR, hK, hW⟩ => ⟨he, _, ⟨v1', v2', rfl, ?_⟩, hK, hW⟩
      rw [s.flags_new]
      simp only [hb]
      exact hR
    · obtain ⟨e1, e2, e3⟩ := AS.Ok.take_again hf hb
      rw [e1, e2, e3]
      rw [hb] at h
      have hin := (ok.all n).1 (.inr (by rw [hb]; simp))
      have hbl : s.B.length = l.length + 1 := by rw [hb]; simp
      obtain ⟨m, rfl⟩ := Int.eq_ofNat_of_zero_le hin.1
      have hm : m < s.next := by omega
      refine (arenaTake_again h (by omega) (by omega) (by omega) (by omega)).mono fun e w' ⟨he, v1', v2', hR, hK, hW⟩ => ⟨he, _, ⟨v1', v2', rfl, ?_⟩, hK, hW⟩
      rw [s.flags_again m l hm]
      exact hR

theorem arenaGiveS (h : ArenaAt w b F s) (ok : s.Ok) (n : Int) : Calls Try.prog 45 #[.pointer (some ⟨b, 0, none⟩), .int .i64 n] w fun e w' => e = .returned (errV (s.giveE n)) ∧ ∃ F', ArenaAt w' b F' (s.give n) ∧ Keeps F w w' ∧ Within w F F' := by
  obtain ⟨v1, v2, rfl, h⟩ := h
  have hl := ok.len
  have h1 := ok.nextLe
  have h2 := ok.mostLe
  have hfl : flagAt s.flags n = decide (n ∈ s.T) := ok.flag n
  refine (arenaGive h n (by omega)).mono fun e w' ⟨hno, hyes⟩ => ?_
  by_cases hn : n ∈ s.T
  · rw [decide_eq_true hn] at hfl
    obtain ⟨e1, e2⟩ := AS.give_yes hn
    rw [e1, e2]
    obtain ⟨he, v1', v2', hR, hK, hW⟩ := hyes hfl
    refine ⟨he, _, ⟨v1', v2', rfl, ?_⟩, hK, hW⟩
    have hin := (ok.all n).1 (.inl hn)
    obtain ⟨m, rfl⟩ := Int.eq_ofNat_of_zero_le hin.1
    rw [s.flags_give m _ (by omega)]
    exact hR
  · rw [decide_eq_false hn] at hfl
    obtain ⟨e1, e2⟩ := AS.give_no hn
    rw [e1, e2]
    obtain ⟨he, rfl⟩ := hno hfl
    exact ⟨he, _, ⟨v1, v2, rfl, h⟩, Keeps.refl _ _, Within.refl _ _⟩

theorem refTakeS (h : RefAt w b F s) (ok : s.Ok) : Calls Try.prog 67 #[.pointer (some ⟨b, 0, none⟩)] w fun e w' => e = .returned (.tuple #[.int .i64 s.takeN, .int .i64 s.takeE]) ∧ ∃ F', RefAt w' b F' s.take ∧ Keeps F w w' ∧ Within w F F' := by
  obtain ⟨v1, v2, rfl, h⟩ := h
  have hl := ok.len
  have h1 := ok.nextLe
  have h2 := ok.mostLe
  by_cases hf : s.T.length = s.most
  · obtain ⟨e1, e2, e3⟩ := AS.Ok.take_full hf
    rw [e1, e2, e3]
    rw [← hf] at h
    refine (refTake_full h).mono fun e w' ⟨he, hb⟩ => ⟨he, _, ⟨v1, v2, rfl, ?_⟩, Keeps.of_below hb _, Within.refl _ _⟩
    rw [← hf]
    exact h.below hb
  · rcases last_or_nil s.B with hb | ⟨l, n, hb⟩
    · obtain ⟨e1, e2, e3⟩ := AS.Ok.take_new hf hb
      rw [e1, e2, e3]
      rw [hb] at h
      refine (refTake_new h (by omega) (by omega) (by omega) (by omega)).mono fun e w' ⟨he, v1', v2', hR, hK, hW⟩ => ⟨he, _, ⟨v1', v2', rfl, ?_⟩, hK, hW⟩
      simp only [hb]
      exact hR
    · obtain ⟨e1, e2, e3⟩ := AS.Ok.take_again hf hb
      rw [e1, e2, e3]
      have hnd := ok.nodB
      have hbl : s.B.length = l.length + 1 := by rw [hb]; simp
      rw [hb] at h hnd
      exact (refTake_again h (by omega) (by omega) (by omega) hnd).mono fun e w' ⟨he, v1', v2', hR, hK, hW⟩ => ⟨he, _, ⟨v1', v2', rfl, hR⟩, hK, hW⟩

theorem refGiveS (h : RefAt w b F s) (ok : s.Ok) (n : Int) : Calls Try.prog 47 #[.pointer (some ⟨b, 0, none⟩), .int .i64 n] w fun e w' => e = .returned (.int .i64 (s.giveE n)) ∧ ∃ F', RefAt w' b F' (s.give n) ∧ Keeps F w w' ∧ Within w F F' := by
  obtain ⟨v1, v2, rfl, h⟩ := h
  have hl := ok.len
  have h1 := ok.nextLe
  have h2 := ok.mostLe
  by_cases hn : n ∈ s.T
  · obtain ⟨e1, e2⟩ := AS.give_yes hn
    rw [e1, e2]
    exact (refGive_yes h n (by omega) (by omega) hn).mono fun e w' ⟨he, v1', v2', hR, hK, hW⟩ => ⟨he, _, ⟨v1', v2', rfl, hR⟩, hK, hW⟩
  · obtain ⟨e1, e2⟩ := AS.give_no hn
    rw [e1, e2]
    exact (refGive_no h n (by omega) hn).mono fun e w' ⟨he, hw⟩ => ⟨he, _, ⟨v1, v2, rfl, hw ▸ h⟩, hw ▸ Keeps.refl _ _, Within.refl _ _⟩

theorem refHasS (h : RefAt w b F s) (ok : s.Ok) (n : Int) : Calls Try.prog 62 #[.pointer (some ⟨b, 0, none⟩), .int .i64 n] w fun e w' => e = .returned (.bool (decide (n ∈ s.T))) ∧ w = w' := by
  obtain ⟨v1, v2, rfl, h⟩ := h
  have hl := ok.len
  have h1 := ok.nextLe
  have h2 := ok.mostLe
  exact refHas h n (by omega)
end

end Go.Proofs.Ytbnjbnjhpccomaa
