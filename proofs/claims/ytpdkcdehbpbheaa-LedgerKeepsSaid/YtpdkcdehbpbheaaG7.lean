/-
  Texts of this proof, one behind the other: Up17.
-/
import Derived.Test.YtpdkcdehbpbheaaG6
/-
  The document's example of layer 17; a deed.
-/
namespace Go.Proofs.Ytpdkcdehbpbheaa
open Go Go.RowKit

theorem only_below' {w0 w w' : World} {b : Nat} (h : Below w0.heap.size w0 w) (hb : w0.heap.size ≤ b) (hK : Keeps (only b) w w') : Below w0.heap.size w0 w' :=
  h.trans (hK.below h.size (fun k hk => by rw [hk]; exact hb))

def upL1 : LF := LF.zero.ad 5 1 3
def upL2 : LF := upL1.ad 5 2 3
theorem upL1_ok : upL1.Ok 5 := (LF.Ok.zero (by decide) (by decide)).ad 1 3
theorem upL2_ok : upL2.Ok 5 := upL1_ok.ad 2 3

section
variable {w : World} {b : Nat}
theorem up17_1 (s : LdC w b 5 LF.zero) : Calls Try.prog 12 #[.pointer (some ⟨b, 0, none⟩), .int .i64 1, .int .i64 3] w fun e w' => e = .returned .nilIface ∧ LdC w' b 5 upL1 ∧ Keeps (only b) w w' := by
  have h := ledAdmit s (LF.Ok.zero (by decide) (by decide)) 1 3
  rw [show LF.zero.adE 5 1 3 = 0 by decide +kernel] at h
  exact h
theorem up17_2 (s : LdC w b 5 upL1) : Calls Try.prog 12 #[.pointer (some ⟨b, 0, none⟩), .int .i64 2, .int .i64 3] w fun e w' => e = .returned (.iface 51 (.int .i64 2)) ∧ LdC w' b 5 upL2 ∧ Keeps (only b) w w' := by
  have h := ledAdmit s upL1_ok 2 3
  rw [show upL1.adE 5 2 3 = 2 by decide +kernel] at h
  exact h
theorem up17_3 (s : LdC w b 5 upL2) : Calls Try.prog 14 #[.pointer (some ⟨b, 0, none⟩), .int .i64 1] w fun e w' => e = .returned (.tuple #[.int .i64 3, .bool true]) ∧ w = w' := by
  have h := ledQuota s 1
  rw [show upL2.quota 1 = 3 by decide +kernel, show upL2.isAt 1 = true by decide +kernel] at h
  exact h
theorem up17_4 (s : LdC w b 5 upL2) : Calls Try.prog 16 #[.pointer (some ⟨b, 0, none⟩)] w fun e w' => e = .returned (.int .i64 2) ∧ Below w.heap.size w w' := by
  have h := ledLeft s upL2_ok
  rw [show upL2.left 5 = 2 by decide +kernel] at h
  exact h
theorem up17_5 (s : LdC w b 5 upL2) : Calls Try.prog 10 #[.pointer (some ⟨b, 0, none⟩), .int .i64 2] w fun e w' => e = .returned (.iface 51 (.int .i64 4)) ∧ Keeps (only b) w w' := by
  have h := ledLeave s 2
  rw [show upL2.leE 2 = 4 by decide +kernel] at h
  exact h.mono fun _ _ ⟨h1, _, h3⟩ => ⟨h1, h3⟩
theorem up17_6 (w : World) : Calls Try.prog 9 #[.iface 51 (.int .i64 2)] w fun e w' => e = .returned (.int .i64 2) ∧ w = w' := lawCode 2 w (by decide) (by decide)
theorem up17_7 (w : World) : Calls Try.prog 9 #[.iface 51 (.int .i64 4)] w fun e w' => e = .returned (.int .i64 4) ∧ w = w' := lawCode 4 w (by decide) (by decide)
end

set_option maxRecDepth 100000 in
set_option maxHeartbeats 4000000 in
theorem up17 (w : World) : Calls Try.prog 5 #[] w fun e w' => e = .returned (.bool true) ∧ Below w.heap.size w w' := by
  go_enter Try.func5, Try.ntmps5
  go_wp2_with fail
  refine (ledNew 5 w (by decide) (by decide)).mono ?_
  rintro e w1 ⟨b, rfl, hlt, s, hb⟩
  go_wp2_with fail
  refine (up17_1 s).mono ?_
  rintro e w2 ⟨rfl, s1, hK⟩
  replace hb := only_below' hb hlt hK
  clear s hK
  go_wp2_with fail
  refine (up17_2 s1).mono ?_
  rintro e w3 ⟨rfl, s2, hK⟩
  replace hb := only_below' hb hlt hK
  clear s1 hK
  go_wp2_with fail
  refine (up17_3 s2).mono ?_
  rintro e w4 ⟨rfl, rfl⟩
  go_wp2_with fail
  refine (up17_6 w3).mono ?_
  rintro e w7 ⟨rfl, rfl⟩
  go_wp2_with fail
  refine (up17_4 s2).mono ?_
  rintro e w5 ⟨rfl, hb3⟩
  replace s2 := s2.below hb3
  replace hb := hb.trans (hb3.mono hb.size)
  clear hb3
  go_wp2_with fail
  refine (up17_5 s2).mono ?_
  rintro e w6 ⟨rfl, hK⟩
  replace hb := only_below' hb hlt hK
  clear s2 hK
  go_wp2_with fail
  refine (up17_7 w6).mono ?_
  rintro e w7 ⟨rfl, rfl⟩
  go_wp2
  go_ret
  exact ⟨rfl, hb⟩

/-- A deed. -/
structure Dl where
  what : Int
  tenant : Int
  quota : Int
deriving Inhabited

/-- Its cells. -/
def encDl : Enc Try.prog Dl where
  slice := 22
  elem := 29
  size := 3
  bytes := 24
  cells d := [.int .i64 d.what, .int .i64 d.tenant, .int .i64 d.quota]
  zero := .agg #[.int .i64 0, .int .i64 0, .int .i64 0]
  und := Try.underlying22
  info := info_of _ _ _ _ _ (by kernel_rfl)
  zsize := rfl
  pos := by decide
  few := by decide
  len _ := rfl
  one d u h := by
    simp only [List.mem_cons, List.not_mem_nil, or_false] at h
    rcases h with rfl | rfl | rfl <;> rfl

theorem Reads.dlAt {w : World} {a : Option Addr} {cap : Nat} {l : List Dl} (h : Reads encDl w (.slice a l.length cap) l) (i : Nat) (hi : i < l.length) : ∃ ad, a = some ad ∧ w.cell? (ad.add (i * 3)) = some (.int .i64 l[i].what) ∧ w.cell? ⟨(ad.add (i * 3)).block, (ad.add (i * 3)).off + 1, none⟩ = some (.int .i64 l[i].tenant) ∧ w.cell? ⟨(ad.add (i * 3)).block, (ad.add (i * 3)).off + 2, none⟩ = some (.int .i64 l[i].quota) := by
  obtain ⟨ad, rfl, H⟩ := h.at i hi
  have h0 := H 0 (by decide)
  have h1 := H 1 (by decide)
  have h2 := H 2 (by decide)
  refine ⟨ad, rfl, by simpa [encDl] using h0, ?_, ?_⟩
  · simp only [encDl] at h1
    rw [← Addr.add_add, Addr.add, if_neg (by omega)] at h1
    simpa using h1
  · simp only [encDl] at h2
    rw [← Addr.add_add, Addr.add, if_neg (by omega)] at h2
    simpa using h2

/-- A deed in a variable. -/
def HoldsDl (w : World) (b : Nat) (d : Dl) : Prop := w.heap[b]? = some (.cells #[.int .i64 d.what, .int .i64 d.tenant, .int .i64 d.quota] 29 (0, 0))
section
variable {w w' : World} {b : Nat} {d : Dl}
theorem HoldsDl.lt (h : HoldsDl w b d) : b < w.heap.size := (Array.getElem?_eq_some_iff.1 h).1
theorem HoldsDl.keep (h : HoldsDl w b d) {F : Nat → Prop} (hK : Keeps F w w') (hF : ¬ F b) : HoldsDl w' b d := (hK.block b h.lt hF).trans h
theorem HoldsDl.below (h : HoldsDl w b d) (hb : Below w.heap.size w w') : HoldsDl w' b d := (hb.block b h.lt).trans h
theorem HoldsDl.what (h : HoldsDl w b d) : w.cell? ⟨b, 0, none⟩ = some (.int .i64 d.what) := by rw [cell_of_row _ _ _ _ _ _ h]; rfl
theorem HoldsDl.tenant (h : HoldsDl w b d) : w.cell? ⟨b, 1, none⟩ = some (.int .i64 d.tenant) := by rw [cell_of_row _ _ _ _ _ _ h]; rfl
theorem HoldsDl.quota (h : HoldsDl w b d) : w.cell? ⟨b, 2, none⟩ = some (.int .i64 d.quota) := by rw [cell_of_row _ _ _ _ _ _ h]; rfl
end

end Go.Proofs.Ytpdkcdehbpbheaa
