/-
  The code's table of pairs, by its state.
-/
import Derived.Test.YtbnjbnjhpccomaaUniqP
namespace Go.Proofs.Ytbnjbnjhpccomaa
open Go Go.RowKit

/-- At block b, in the blocks F, stands the code's table in this state. -/
def UniqAt (w : World) (b : Nat) (F : Nat → Prop) (s : TS) : Prop := ∃ g cap T, F = (fun k => k = b ∨ k = g) ∧ UniqV w b g cap s.slots s.L.length T ∧ TInv s.slots (homeN s.slots) T s.L

theorem Places.of {n : Nat} (hp : ∃ k, n = 2 ^ k) (h8 : 8 ≤ n) (hM : n ≤ 1000000) : Places n := by
  obtain ⟨k, rfl⟩ := hp
  refine ⟨⟨k, rfl, Nat.le_of_not_lt fun h => ?_⟩, hM, h8⟩
  have : 2 ^ 63 ≤ 2 ^ k := Nat.pow_le_pow_right (by decide) h
  omega

theorem TS.Ok.new : TS.Ok ⟨[], 8⟩ := ⟨List.nodup_nil, by simp, ⟨3, rfl⟩, Nat.le_refl _⟩

theorem TS.put_no {s : TS} {e : Ent} (h : (s.get e.1).2 = true) : s.put e = s := by simp [TS.put, h]
theorem TS.put_yes {s : TS} {e : Ent} (h : (s.get e.1).2 = false) : s.put e = ⟨s.L ++ [e], if s.L.length + 1 > s.slots / 2 then 2 * s.slots else s.slots⟩ := by simp [TS.put, h]

theorem TS.get_cases (s : TS) (ap : Apart s.L) (k : Int × Int) : ((∀ e ∈ s.L, e.1 ≠ k) ∧ s.get k = (0, false)) ∨ ∃ e ∈ s.L, e.1 = k ∧ s.get k = (e.2, true) := by
  by_cases h : ∃ e ∈ s.L, e.1 = k
  · obtain ⟨e, he, rfl⟩ := h
    exact .inr ⟨e, he, rfl, TS.get_yes ap he⟩
  · have h1 : ∀ e ∈ s.L, e.1 ≠ k := fun e he hk => h ⟨e, he, hk⟩
    exact .inl ⟨h1, TS.get_no h1⟩

theorem TS.Ok.put {s : TS} (ok : s.Ok) (e : Ent) : (s.put e).Ok := by
  rcases s.get_cases ok.apart e.1 with ⟨hno, hg⟩ | ⟨x, hx, hxe, hg⟩
  · rw [TS.put_yes (by rw [hg])]
    have h1 := ok.half
    have h2 := ok.least
    obtain ⟨k, hk⟩ := ok.pow
    refine ⟨?_, ?_, ?_, ?_⟩
    · have : Apart (e :: s.L) := by
        simp only [Apart, List.map_cons, List.nodup_cons, List.mem_map, not_exists, not_and]
        exact ⟨fun x hx hk => hno x hx hk, ok.apart⟩
      exact this.perm (by have := List.perm_append_comm (l₁ := [e]) (l₂ := s.L); simpa using this)
    · show 2 * (s.L ++ [e]).length ≤ if s.L.length + 1 > s.slots / 2 then 2 * s.slots else s.slots
      rw [List.length_append]
      simp only [List.length_singleton]
      split <;> omega
    · show ∃ k, (if s.L.length + 1 > s.slots / 2 then 2 * s.slots else s.slots) = 2 ^ k
      split
      · exact ⟨k + 1, by rw [Nat.pow_succ, hk]; omega⟩
      · exact ⟨k, hk⟩
    · show 8 ≤ if s.L.length + 1 > s.slots / 2 then 2 * s.slots else s.slots
      split <;> omega
  · rw [TS.put_no (by rw [hg])]; exact ok

theorem TS.Ok.drop {s : TS} (ok : s.Ok) (k : Int × Int) : (s.drop k).Ok := by
  have h1 := ok.half
  have h2 : (s.L.filter (fun e => e.1 != k)).length ≤ s.L.length := List.length_filter_le _ _
  refine ⟨?_, ?_, ok.pow, ok.least⟩
  · exact ok.apart.sublist (List.Sublist.map _ List.filter_sublist)
  · show 2 * (s.L.filter (fun e => e.1 != k)).length ≤ s.slots
    omega

/-- Their number, and how many places they may need. -/
structure TS.Few (s : TS) (m : Nat) : Prop where
  many : s.L.length ≤ m
  slots : s.slots ≤ 8 + 4 * m

theorem TS.Few.new : TS.Few ⟨[], 8⟩ 0 := ⟨Nat.le_refl _, Nat.le_refl _⟩
theorem TS.Few.mono {s : TS} {m m' : Nat} (h : s.Few m) (hm : m ≤ m') : s.Few m' := ⟨Nat.le_trans h.many hm, by have := h.slots; omega⟩
theorem TS.Few.put {s : TS} {m : Nat} (h : s.Few m) (e : Ent) : (s.put e).Few (m + 1) := by
  have h1 := h.many
  have h2 := h.slots
  unfold TS.put
  split
  · exact h.mono (by omega)
  · refine ⟨?_, ?_⟩
    · show (s.L ++ [e]).length ≤ m + 1
      rw [List.length_append]; simp only [List.length_singleton]; omega
    · show (if s.L.length + 1 > s.slots / 2 then 2 * s.slots else s.slots) ≤ 8 + 4 * (m + 1)
      split <;> omega
theorem TS.Few.drop {s : TS} {m : Nat} (h : s.Few m) (k : Int × Int) : (s.drop k).Few m :=
  ⟨Nat.le_trans (List.length_filter_le _ _) h.many, h.slots⟩

section
variable {w w' : World} {b : Nat} {F G : Nat → Prop} {s : TS}

theorem UniqAt.keep (h : UniqAt w b F s) (hb : Keeps G w w') (hF : ∀ k, F k → ¬ G k) : UniqAt w' b F s := by
  obtain ⟨g, cap, T, rfl, h, H⟩ := h
  exact ⟨g, cap, T, rfl, h.keep hb hF, H⟩
theorem UniqAt.below (h : UniqAt w b F s) (hb : Below w.heap.size w w') : UniqAt w' b F s := h.keep (Keeps.of_below hb noBlock) (fun _ _ h => h)
theorem UniqAt.lt (h : UniqAt w b F s) (k : Nat) (hk : F k) : k < w.heap.size := by
  obtain ⟨g, cap, T, rfl, h, H⟩ := h
  rcases hk with rfl | rfl
  · exact h.ltb
  · exact h.ltg

theorem uniqNewS (w : World) : Calls Try.prog 24 #[] w fun e w' => e = .returned (.pointer (some ⟨w.heap.size + 1, 0, none⟩)) ∧ (∃ F, UniqAt w' (w.heap.size + 1) F ⟨[], 8⟩ ∧ ∀ k, F k → w.heap.size ≤ k) ∧ Below w.heap.size w w' := by
  refine (uniqNew w).mono fun e w' ⟨he, hR, hb⟩ => ⟨he, ⟨_, ⟨w.heap.size, 8, _, rfl, ⟨List.length_replicate, hR⟩, TInv.bare 8 (homeN 8) (fun k => homeN_lt (by decide) k)⟩, ?_⟩, hb⟩
  rintro k (rfl | rfl) <;> omega


theorem uniqGetS (h : UniqAt w b F s) (ok : s.Ok) (hM : s.slots ≤ 1000000) (k1 k2 : Int) : Calls Try.prog 60 #[.pointer (some ⟨b, 0, none⟩), .int .i64 k1, .int .i64 k2] w fun e w' => e = .returned (.tuple #[.int .i64 (s.get (k1, k2)).1, .bool (s.get (k1, k2)).2]) ∧ Below w.heap.size w w' := by
  obtain ⟨g, cap, T, rfl, h, H⟩ := h
  have hl := Places.of ok.pow ok.least hM
  have h1 := ok.half
  have h8 := ok.least
  obtain ⟨c, Fd⟩ := found_exists H.len H.home (by have := H.perm.length_eq; omega) (k1, k2)
  rcases H.search Fd with ⟨h2, h3⟩ | ⟨e, he, hk, h2⟩
  · have := uniqGetV h hl k1 k2 Fd h2
    rwa [TS.get_no h3]
  · have := uniqGetV h hl k1 k2 Fd h2
    have hg := TS.get_yes ok.apart he
    rw [hk] at hg
    rwa [hg]

theorem uniqPutS (h : UniqAt w b F s) (ok : s.Ok) (hM : 2 * s.slots ≤ 1000000) (k1 k2 x : Int) : Calls Try.prog 71 #[.pointer (some ⟨b, 0, none⟩), .int .i64 k1, .int .i64 k2, .int .i64 x] w fun e w' => e = .returned (.bool (s.putB (k1, k2))) ∧ ∃ F', UniqAt w' b F' (s.put ((k1, k2), x)) ∧ Keeps F w w' ∧ Within w F F' := by
  obtain ⟨g, cap, T, rfl, h, H⟩ := h
  have h8 := ok.least
  have hl := Places.of ok.pow ok.least (by omega)
  obtain ⟨k, hk⟩ := ok.pow
  have hl2 := Places.of (n := 2 * s.slots) ⟨k + 1, by rw [Nat.pow_succ, hk]; omega⟩ (by omega) hM
  rcases s.get_cases ok.apart (k1, k2) with ⟨hno, hg⟩ | ⟨e, he, hk, hg⟩
  · rw [TS.put_yes (e := ((k1, k2), x)) (by rw [hg])]
    unfold TS.putB
    rw [hg]
    refine (uniqPutYes h H hl hl2 ok.half k1 k2 x hno).mono fun e w' ⟨he, g', cap', n', T', hn', hv, hT, hK, hg'⟩ => ⟨he, _, ⟨g', cap', T', rfl, ?_, ?_⟩, hK, ?_⟩
    · subst hn'; rw [List.length_append]; exact hv
    · subst hn'; exact hT
    · rintro i (rfl | rfl)
      · exact .inl (.inl rfl)
      · rcases hg' with rfl | hg'
        · exact .inl (.inr rfl)
        · exact .inr hg'
  · rw [TS.put_no (e := ((k1, k2), x)) (by rw [hg])]
    unfold TS.putB
    rw [hg]
    exact (uniqPutNo h H hl ok.half k1 k2 x he hk).mono fun e w' ⟨he, hb⟩ => ⟨he, _, ⟨g, cap, T, rfl, h.below hb, H⟩, Keeps.of_below hb _, Within.refl _ _⟩

theorem uniqDropS (h : UniqAt w b F s) (ok : s.Ok) (hM : s.slots ≤ 1000000) (k1 k2 : Int) : Calls Try.prog 37 #[.pointer (some ⟨b, 0, none⟩), .int .i64 k1, .int .i64 k2] w fun e w' => e = .returned (.bool (s.dropB (k1, k2))) ∧ ∃ F', UniqAt w' b F' (s.drop (k1, k2)) ∧ Keeps F w w' ∧ Within w F F' := by
  obtain ⟨g, cap, T, rfl, h, H⟩ := h
  have hl := Places.of ok.pow ok.least hM
  rcases s.get_cases ok.apart (k1, k2) with ⟨hno, hg⟩ | ⟨e, he, hk, hg⟩
  · have hs : s.drop (k1, k2) = s := by unfold TS.drop; rw [filter_no hno]
    rw [hs]
    unfold TS.dropB
    rw [hg]
    exact (uniqDropNo h H hl ok.half k1 k2 hno).mono fun e w' ⟨he, hb⟩ => ⟨he, _, ⟨g, cap, T, rfl, h.below hb, H⟩, Keeps.of_below hb _, Within.refl _ _⟩
  · have hp := filter_yes ok.apart he
    obtain ⟨⟨e1, e2⟩, e3⟩ := e
    simp only at hk
    injection hk with hk1 hk2
    subst hk1 hk2
    unfold TS.dropB
    rw [hg]
    exact (uniqDropYes h H hl ok.half hp).mono fun r w' ⟨he, T', hv, hT, hK⟩ => ⟨he, _, ⟨g, cap, T', rfl, hv, hT⟩, hK, Within.refl _ _⟩
end

end Go.Proofs.Ytbnjbnjhpccomaa
