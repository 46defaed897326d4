/-
  The document's table by its state; the document's example of layer 5.
-/
import Derived.Test.YtlhpjmeegflmlaaRefU
import Derived.Test.YtlhpjmeegflmlaaHelp
namespace Go.Proofs.Ytlhpjmeegflmlaa
open Go Go.RowKit

/-- At block b, in the blocks F, stands the document's table in this state. -/
def RefUAt (w : World) (b : Nat) (F : Nat → Prop) (s : TS) : Prop := ∃ v, F = foot1 b v ∧ RefUR w b v s.slots s.L

theorem TS.dropB_eq (s : TS) (ap : Apart s.L) (k : Int × Int) : decide ((s.L.filter (fun e => e.1 != k)).length < s.L.length) = s.dropB k := by
  unfold TS.dropB
  rcases s.get_cases ap k with ⟨hno, hg⟩ | ⟨e, he, rfl, hg⟩
  · rw [hg, filter_no hno]; simp
  · rw [hg]
    have := (filter_yes ap he).length_eq
    simp only [List.length_cons] at this
    exact decide_eq_true (by omega)

section
variable {w w' : World} {b : Nat} {F G : Nat → Prop} {s : TS}

theorem RefUAt.keep (h : RefUAt w b F s) (hb : Keeps G w w') (hF : ∀ k, F k → ¬ G k) : RefUAt w' b F s := by obtain ⟨v, rfl, h⟩ := h; exact ⟨v, rfl, h.keep hb hF⟩
theorem RefUAt.below (h : RefUAt w b F s) (hb : Below w.heap.size w w') : RefUAt w' b F s := h.keep (Keeps.of_below hb noBlock) (fun _ _ h => h)
theorem RefUAt.lt (h : RefUAt w b F s) (k : Nat) (hk : F k) : k < w.heap.size := by obtain ⟨v, rfl, h⟩ := h; exact h.lt k hk

theorem refUGetS (h : RefUAt w b F s) (ok : s.Ok) (hl : s.L.length ≤ 100000) (k1 k2 : Int) : Calls Try.prog 9 #[.pointer (some ⟨b, 0, none⟩), .int .i64 k1, .int .i64 k2] w fun e w' => e = .returned (.tuple #[.int .i64 (s.get (k1, k2)).1, .bool (s.get (k1, k2)).2]) ∧ w = w' := by
  obtain ⟨v, rfl, h⟩ := h
  exact refUGet (n := s.slots) h ok.apart hl k1 k2
theorem refUPutS (h : RefUAt w b F s) (ok : s.Ok) (hl : s.L.length ≤ 100000) (hn : s.slots ≤ 1000000) (k1 k2 x : Int) : Calls Try.prog 13 #[.pointer (some ⟨b, 0, none⟩), .int .i64 k1, .int .i64 k2, .int .i64 x] w fun e w' => e = .returned (.bool (s.putB (k1, k2))) ∧ ∃ F', RefUAt w' b F' (s.put ((k1, k2), x)) ∧ Keeps F w w' ∧ Within w F F' := by
  obtain ⟨v, rfl, h⟩ := h
  by_cases hg : (s.get (k1, k2)).2 = true
  · rw [TS.put_no (e := ((k1, k2), x)) hg]
    unfold TS.putB
    rw [hg]
    exact (refUPutNo (n := s.slots) h ok.apart hl k1 k2 x hg).mono fun e w' ⟨he, hw⟩ => ⟨he, _, ⟨v, rfl, hw ▸ h⟩, hw ▸ Keeps.refl _ _, Within.refl _ _⟩
  · have hg : (s.get (k1, k2)).2 = false := by simpa using hg
    rw [TS.put_yes (e := ((k1, k2), x)) hg]
    unfold TS.putB
    rw [hg]
    exact (refUPutYes (n := s.slots) h ok.apart hl hn k1 k2 x hg rfl).mono fun e w' ⟨he, v', hR, hK, hW⟩ => ⟨he, _, ⟨v', rfl, hR⟩, hK, hW⟩
theorem refUDropS (h : RefUAt w b F s) (ok : s.Ok) (hl : s.L.length ≤ 100000) (k1 k2 : Int) : Calls Try.prog 11 #[.pointer (some ⟨b, 0, none⟩), .int .i64 k1, .int .i64 k2] w fun e w' => e = .returned (.bool (s.dropB (k1, k2))) ∧ ∃ F', RefUAt w' b F' (s.drop (k1, k2)) ∧ Keeps F w w' ∧ Within w F F' := by
  obtain ⟨v, rfl, h⟩ := h
  rw [← TS.dropB_eq s ok.apart]
  exact (refUDrop h hl k1 k2).mono fun e w' ⟨he, v', hR, hK, hW⟩ => ⟨he, _, ⟨v', rfl, hR⟩, hK, hW⟩
end

/-- A step of the table: what it tells, and the state then. -/
def StepsU (f : FuncId) (args : Array Value) (w : World) (b : Nat) (F : Nat → Prop) (r : Value) (s : TS) : Prop :=
  Calls Try.prog f args w fun e w' => e = .returned r ∧ ∃ F', UniqAt w' b F' s ∧ Keeps F w w' ∧ Within w F F'

section
variable {w : World} {b : Nat} {F : Nat → Prop}
theorem upu_ok1 : (TS.mk [((1, 2), 9)] 8).Ok := TS.Ok.new.put ((1, 2), 9)
theorem upu_put (h : UniqAt w b F ⟨[], 8⟩) : StepsU 12 #[.pointer (some ⟨b, 0, none⟩), .int .i64 1, .int .i64 2, .int .i64 9] w b F (.bool true) ⟨[((1, 2), 9)], 8⟩ := uniqPutS h TS.Ok.new (by decide) 1 2 9
theorem upu_put2 (h : UniqAt w b F ⟨[((1, 2), 9)], 8⟩) : StepsU 12 #[.pointer (some ⟨b, 0, none⟩), .int .i64 1, .int .i64 2, .int .i64 8] w b F (.bool false) ⟨[((1, 2), 9)], 8⟩ := uniqPutS h upu_ok1 (by decide) 1 2 8
theorem upu_get (h : UniqAt w b F ⟨[((1, 2), 9)], 8⟩) : Calls Try.prog 8 #[.pointer (some ⟨b, 0, none⟩), .int .i64 1, .int .i64 2] w fun e w' => e = .returned (.tuple #[.int .i64 9, .bool true]) ∧ Below w.heap.size w w' := uniqGetS h upu_ok1 (by decide) 1 2
theorem upu_get2 (h : UniqAt w b F ⟨[((1, 2), 9)], 8⟩) : Calls Try.prog 8 #[.pointer (some ⟨b, 0, none⟩), .int .i64 2, .int .i64 1] w fun e w' => e = .returned (.tuple #[.int .i64 0, .bool false]) ∧ Below w.heap.size w w' := uniqGetS h upu_ok1 (by decide) 2 1
theorem upu_many (h : UniqAt w b F ⟨[((1, 2), 9)], 8⟩) : Calls Try.prog 14 #[.pointer (some ⟨b, 0, none⟩)] w fun e w' => e = .returned (.int .i64 1) ∧ w = w' := uniqManyS h
theorem upu_slots (h : UniqAt w b F ⟨[((1, 2), 9)], 8⟩) : Calls Try.prog 15 #[.pointer (some ⟨b, 0, none⟩)] w fun e w' => e = .returned (.int .i64 8) ∧ w = w' := uniqSlotsS h upu_ok1 (by decide)
end

/-- Since w0 the table at b turned, and nothing that stood there. -/
structure UpU (w0 : World) (b : Nat) (s : TS) (w : World) : Prop where
  ex : ∃ F, UniqAt w b F s ∧ ∀ k, F k → w0.heap.size ≤ k
  below : Below w0.heap.size w0 w

theorem UpU.step {w0 w w' : World} {b : Nat} {s' : TS} {F F' : Nat → Prop} (h : Below w0.heap.size w0 w) (hF : ∀ k, F k → w0.heap.size ≤ k) (hA : UniqAt w' b F' s') (hK : Keeps F w w') (hW : Within w F F') : UpU w0 b s' w' :=
  ⟨⟨F', hA, fun k hk => (hW k hk).elim (hF k) (fun e => Nat.le_trans h.size e)⟩, h.trans (hK.below h.size hF)⟩

set_option maxRecDepth 100000 in
set_option maxHeartbeats 4000000 in
theorem up05 (w : World) : Calls Try.prog 5 #[] w fun e w' => e = .returned (.bool true) ∧ Below w.heap.size w w' := by
  go_enter Try.func5, Try.ntmps5
  go_wp2_with fail
  refine (uniqNewS _).mono ?_
  rintro e w1 ⟨rfl, ⟨F, hA, hF⟩, hb⟩
  go_wp2_with fail
  refine Calls.mono (upu_put hA) ?_
  rintro e w2 ⟨rfl, F2, hA2, hK, hW⟩
  have R := UpU.step hb hF hA2 hK hW
  clear hA hF hb hA2 hK hW
  obtain ⟨⟨F, hA, hF⟩, hb⟩ := R
  go_wp2_with fail
  refine Calls.mono (upu_get hA) ?_
  rintro e w3 ⟨rfl, hb2⟩
  replace hA := hA.below hb2
  replace hb := hb.trans (hb2.mono hb.size)
  clear hb2
  go_wp2_with fail
  refine Calls.mono (upu_get2 hA) ?_
  rintro e w4 ⟨rfl, hb2⟩
  replace hA := hA.below hb2
  replace hb := hb.trans (hb2.mono hb.size)
  clear hb2
  go_wp2_with fail
  refine (upu_many hA).mono ?_
  rintro e w5 ⟨rfl, rfl⟩
  go_wp2_with fail
  refine (upu_slots hA).mono ?_
  rintro e w5 ⟨rfl, rfl⟩
  go_wp2_with fail
  refine Calls.mono (upu_put2 hA) ?_
  rintro e w6 ⟨rfl, F3, hA2, hK, hW⟩
  have R := UpU.step hb hF hA2 hK hW
  clear hA hF hb hA2 hK hW
  go_wp2
  go_ret
  exact ⟨rfl, R.below⟩

end Go.Proofs.Ytlhpjmeegflmlaa
