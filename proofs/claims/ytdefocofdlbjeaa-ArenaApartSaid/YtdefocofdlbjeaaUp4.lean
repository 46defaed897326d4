/-
  The document's example of layer 4.
-/
import Derived.Test.YtdefocofdlbjeaaArenaS
namespace Go.Proofs.Ytdefocofdlbjeaa
open Go Go.RowKit

/-- A step of the arena: what it tells, and the state then. -/
def Steps (f : FuncId) (args : Array Value) (w : World) (b : Nat) (F : Nat → Prop) (r : Value) (s : AS) : Prop :=
  Calls Try.prog f args w fun e w' => e = .returned r ∧ ∃ F', ArenaAt w' b F' s ∧ Keeps F w w' ∧ Within w F F'

section
variable {w : World} {b : Nat} {F : Nat → Prop}

theorem up_ok0 : (AS.mk 2 0 [] []).Ok := AS.new_ok 2 (by decide)
theorem up_ok1 : (AS.mk 2 1 [0] []).Ok := up_ok0.take
theorem up_ok2 : (AS.mk 2 2 [0, 1] []).Ok := up_ok1.take
theorem up_ok3 : (AS.mk 2 2 [1] [0]).Ok := up_ok2.give 0
theorem up_ok4 : (AS.mk 2 2 [1, 0] []).Ok := up_ok3.take

theorem up_take0 (h : ArenaAt w b F ⟨2, 0, [], []⟩) : Steps 8 #[.pointer (some ⟨b, 0, none⟩)] w b F (.tuple #[.int .i64 0, .nilIface]) ⟨2, 1, [0], []⟩ := arenaTakeS h up_ok0
theorem up_take1 (h : ArenaAt w b F ⟨2, 1, [0], []⟩) : Steps 8 #[.pointer (some ⟨b, 0, none⟩)] w b F (.tuple #[.int .i64 1, .nilIface]) ⟨2, 2, [0, 1], []⟩ := arenaTakeS h up_ok1
theorem up_take2 (h : ArenaAt w b F ⟨2, 2, [0, 1], []⟩) : Steps 8 #[.pointer (some ⟨b, 0, none⟩)] w b F (.tuple #[.int .i64 0, .iface 49 (.int .i64 2)]) ⟨2, 2, [0, 1], []⟩ := arenaTakeS h up_ok2
theorem up_give (h : ArenaAt w b F ⟨2, 2, [0, 1], []⟩) : Steps 11 #[.pointer (some ⟨b, 0, none⟩), .int .i64 0] w b F .nilIface ⟨2, 2, [1], [0]⟩ := arenaGiveS h up_ok2 0
theorem up_take3 (h : ArenaAt w b F ⟨2, 2, [1], [0]⟩) : Steps 8 #[.pointer (some ⟨b, 0, none⟩)] w b F (.tuple #[.int .i64 0, .nilIface]) ⟨2, 2, [1, 0], []⟩ := arenaTakeS h up_ok3
theorem up_many (h : ArenaAt w b F ⟨2, 2, [1, 0], []⟩) : Calls Try.prog 13 #[.pointer (some ⟨b, 0, none⟩)] w fun e w' => e = .returned (.int .i64 2) ∧ Below w.heap.size w w' := arenaManyS h up_ok4
theorem up_code (w : World) : Calls Try.prog 10 #[.iface 49 (.int .i64 2)] w fun e w' => e = .returned (.int .i64 2) ∧ w = w' := lawCode 2 w (by decide) (by decide)
end

/-- Since w0 the arena at b turned, and nothing that stood there. -/
structure UpR (w0 : World) (b : Nat) (s : AS) (w : World) : Prop where
  ex : ∃ F, ArenaAt w b F s ∧ ∀ k, F k → w0.heap.size ≤ k
  below : Below w0.heap.size w0 w

theorem UpR.step {w0 w w' : World} {b : Nat} {s' : AS} {F F' : Nat → Prop} (h : Below w0.heap.size w0 w) (hF : ∀ k, F k → w0.heap.size ≤ k) (hA : ArenaAt w' b F' s') (hK : Keeps F w w') (hW : Within w F F') : UpR w0 b s' w' :=
  ⟨⟨F', hA, fun k hk => (hW k hk).elim (hF k) (fun e => Nat.le_trans h.size e)⟩, h.trans (hK.below h.size hF)⟩

set_option maxRecDepth 100000 in
set_option maxHeartbeats 4000000 in
theorem up04 (w : World) : Calls Try.prog 5 #[] w fun e w' => e = .returned (.bool true) ∧ Below w.heap.size w w' := by
  go_enter Try.func5, Try.ntmps5
  go_wp2_with fail
  refine (arenaNewS 2 _ (by decide) (by decide)).mono ?_
  rintro e w1 ⟨rfl, ⟨F, hA, hF⟩, hb⟩
  go_wp2_with fail
  refine Calls.mono (up_take0 hA) ?_
  rintro e w2 ⟨rfl, F2, hA2, hK, hW⟩
  have R := UpR.step hb hF hA2 hK hW
  clear hA hF hb hA2 hK hW
  obtain ⟨⟨F, hA, hF⟩, hb⟩ := R
  go_wp2_with fail
  refine Calls.mono (up_take1 hA) ?_
  rintro e w3 ⟨rfl, F3, hA2, hK, hW⟩
  have R := UpR.step hb hF hA2 hK hW
  clear hA hF hb hA2 hK hW
  obtain ⟨⟨F, hA, hF⟩, hb⟩ := R
  go_wp2_with fail
  refine Calls.mono (up_take2 hA) ?_
  rintro e w4 ⟨rfl, F4, hA2, hK, hW⟩
  have R := UpR.step hb hF hA2 hK hW
  clear hA hF hb hA2 hK hW
  obtain ⟨⟨F, hA, hF⟩, hb⟩ := R
  go_wp2_with fail
  refine Calls.mono (up_give hA) ?_
  rintro e w5 ⟨rfl, F5, hA2, hK, hW⟩
  have R := UpR.step hb hF hA2 hK hW
  clear hA hF hb hA2 hK hW
  obtain ⟨⟨F, hA, hF⟩, hb⟩ := R
  go_wp2_with fail
  refine Calls.mono (up_take3 hA) ?_
  rintro e w6 ⟨rfl, F6, hA2, hK, hW⟩
  have R := UpR.step hb hF hA2 hK hW
  clear hA hF hb hA2 hK hW
  obtain ⟨⟨F, hA, hF⟩, hb⟩ := R
  go_wp2_with fail
  refine (up_code _).mono ?_
  rintro e w7 ⟨rfl, rfl⟩
  go_wp2_with fail
  refine (up_many hA).mono ?_
  rintro e w8 ⟨rfl, hb8⟩
  go_wp2
  go_ret
  exact ⟨rfl, hb.trans (hb8.mono hb.size)⟩

end Go.Proofs.Ytdefocofdlbjeaa
