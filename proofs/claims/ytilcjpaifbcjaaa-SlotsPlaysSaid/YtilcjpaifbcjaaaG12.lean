/-
  Texts of this proof, one behind the other: Ints, Same16.
-/
import Derived.Test.YtilcjpaifbcjaaaG4
import Derived.Test.YtilcjpaifbcjaaaG9
import Derived.Test.YtilcjpaifbcjaaaG11
/-
  Two slices of the same numbers are told to be the same.
-/
namespace Go.Proofs.Ytilcjpaifbcjaaa
open Go Go.RowKit

set_option maxRecDepth 100000 in
set_option maxHeartbeats 1000000 in
theorem lawInts (l : List Int) (v v' : Value) (w : World) (hv : Reads encI w v l) (hv' : Reads encI w v' l) (hl : l.length ≤ 1000000) :
    Calls Try.prog 33 #[v, v'] w fun e w' => e = .returned (.int .i64 1) ∧ Below w.heap.size w w' := by
  obtain ⟨a, c, rfl⟩ := hv.form
  obtain ⟨a', c', rfl⟩ := hv'.form
  go_enter Try.func33, Try.ntmps33
  go_wp2
  go_loopw [5] (fun i wr => ∃ k : Nat, k ≤ l.length ∧ i = .int .i64 k ∧ Below w.heap.size w wr) (fun i _ => l.length - (intOf i).toNat)
  case atStart => exact ⟨0, Nat.zero_le _, rfl, Below.refl _ _⟩
  case round =>
    obtain ⟨k, hk, rfl, hb⟩ := hrel
    by_cases hlt : k < l.length
    · obtain ⟨ad, rfl, _⟩ := hv.intAt k hlt
      obtain ⟨ad', rfl, _⟩ := hv'.intAt k hlt
      have x1 : ∀ u : Sub wr, u.1.cell? (ad.add k) = some (.int .i64 l[k]) := fun u => by
        obtain ⟨ad2, e, h⟩ := (hv.keep (hb.trans (u.2.mono hb.size))).intAt k hlt
        cases e; exact h
      have x2 : ∀ u : Sub wr, u.1.cell? (ad'.add k) = some (.int .i64 l[k]) := fun u => by
        obtain ⟨ad2, e, h⟩ := (hv'.keep (hb.trans (u.2.mono hb.size))).intAt k hlt
        cases e; exact h
      have hk0 : (0 : Int) ≤ (k : Int) := by omega
      have hk1 : (k : Int) < (l.length : Int) := by omega
      clear hv hv'
      generalize l[k] = x at *
      go_wp2
      refine wp_region_quiet_all (C := fun w' => ∃ u : Sub wr, w' = u.1) (by kernel_rfl) (by kernel_rfl) (InSub.drew wr) ?_
      iterate 9 (go_big_quiet_step (fail))
      refine wpQuiet_nil ?_
      clear x1 x2
      intro w' hw'
      obtain ⟨u, rfl⟩ := hw'
      go_wp2
      exact ⟨⟨k + 1, by omega, by go_num, hb.trans (u.2.mono hb.size)⟩, by simp [intOf]; omega⟩
    · obtain rfl : k = l.length := by omega
      clear hv hv'
      go_wp2
      go_ret
      exact ⟨rfl, hb⟩

end Go.Proofs.Ytilcjpaifbcjaaa

/-
  Both slots side by side.
-/
namespace Go.Proofs.Ytilcjpaifbcjaaa
open Go Go.RowKit

/-- The code's slots, the document's, and a list of handles told, apart from each other and from all that stood in w0. -/
structure R16 (w0 : World) (b m g : Nat) (t : Int) (fc fr : SF) (vt : Value) (told : List Nat) (w : World) : Prop where
  c : SlC w b t fc
  r : RfS w m g t fr
  own : Owns encU w vt told
  new : ∀ k, vt.ownBlock = some k → w0.heap.size ≤ k ∧ k ≠ b ∧ k ≠ m ∧ k ≠ g
  lowB : w0.heap.size ≤ b
  lowM : w0.heap.size ≤ m
  lowG : w0.heap.size ≤ g
  bm : b ≠ m
  bg : b ≠ g
  below : Below w0.heap.size w0 w

section
variable {w0 w w' : World} {b m g : Nat} {t : Int} {fc fr f' : SF} {vt v' : Value} {told told' : List Nat}

theorem R16.sub (h : R16 w0 b m g t fc fr vt told w) (hb : Below w.heap.size w w') : R16 w0 b m g t fc fr vt told w' :=
  ⟨h.c.below hb, h.r.below hb, h.own.block fun k hk => hb.block k (h.own.lt k hk), h.new, h.lowB, h.lowM, h.lowG, h.bm, h.bg, h.below.trans (hb.mono h.below.size)⟩
theorem R16.code (h : R16 w0 b m g t fc fr vt told w) (s : SlC w' b t f') (hK : Keeps (only b) w w') : R16 w0 b m g t f' fr vt told w' :=
  ⟨s, h.r.keep hK (fun k hk e => hk.elim (fun x => h.bm (e.symm.trans x)) (fun x => h.bg (e.symm.trans x))), h.own.keep hK (fun k hk e => (h.new k hk).2.1 e), h.new, h.lowB, h.lowM, h.lowG, h.bm, h.bg, h.below.trans (hK.below h.below.size fun k hk => by rw [hk]; exact h.lowB)⟩
theorem R16.doc (h : R16 w0 b m g t fc fr vt told w) (s : RfS w' m g t f') (hK : Keeps (only g) w w') : R16 w0 b m g t fc f' vt told w' :=
  ⟨h.c.keep hK (fun e => h.bg e), s, h.own.keep hK (fun k hk e => (h.new k hk).2.2.2 e), h.new, h.lowB, h.lowM, h.lowG, h.bm, h.bg, h.below.trans (hK.below h.below.size fun k hk => by rw [hk]; exact h.lowG)⟩
theorem R16.push (h : R16 w0 b m g t fc fr vt told w) (o : Obj) (hown : Owns encU w' v' told') (hgr : (w.alloc o).grownBy w' vt.ownBlock) (hat : v'.ownBlock = vt.ownBlock ∨ v'.ownBlock = some (w.alloc o).heap.size) : R16 w0 b m g t fc fr v' told' w' := by
  have hK : Keeps (fun k => vt.ownBlock = some k) (w.alloc o) w' := Keeps.of_grown hgr (fun k hk => hk)
  have hA := Keeps.of_alloc (fun k => vt.ownBlock = some k) w o
  have hB := h.below
  have hs := hB.size
  have hc := h.c.lt
  have hm := h.r.ltm
  have hg := h.r.ltg
  have hS : (w.alloc o).heap.size = w.heap.size + 1 := by simp
  refine ⟨(h.c.keep hA (fun e => (h.new _ e).2.1 rfl)).keep hK (fun e => (h.new _ e).2.1 rfl), (h.r.keep hA (fun k hk e => ?_)).keep hK (fun k hk e => ?_), hown, fun k hk => ?_, h.lowB, h.lowM, h.lowG, h.bm, h.bg, (hB.alloc hB.size o).grown hgr (by rw [hS]; omega) (fun k hk => (h.new k hk).1)⟩
  · exact hk.elim (h.new k e).2.2.1 (h.new k e).2.2.2
  · exact hk.elim (h.new k e).2.2.1 (h.new k e).2.2.2
  · rcases hat with hat | hat
    · exact h.new k (hat ▸ hk)
    · rw [hat] at hk
      injection hk with hk
      rw [hS] at hk
      omega

set_option maxRecDepth 100000 in
set_option maxHeartbeats 8000000 in
theorem same16 {f : SF} (s : SlC w b t f) (s' : RfS w m g t f) :
    Calls Try.prog 21 #[.pointer (some ⟨b, 0, none⟩), .pointer (some ⟨m, 0, none⟩)] w fun e w' => e = .returned (.int .i64 1) ∧ Below w.heap.size w w' := by
  have H1 := slotsHandles s
  have H2 := fun W (hb : Below w.heap.size w W) => refSlHandles (s'.below hb)
  have H3 := fun W (hb : Below w.heap.size w W) => slotsVals (s.below hb)
  have H4 := fun W (hb : Below w.heap.size w W) => refSlVals (s'.below hb)
  have H5 := fun W (hb : Below w.heap.size w W) => slotsFree (s.below hb)
  have H6 := fun W (hb : Below w.heap.size w W) => refSlNext (s'.below hb)
  have hl1 : (f.hands t).length ≤ 16 := by unfold SF.hands; rw [List.length_map]; exact f.heldsN_length 16
  have hl2 : f.vals.length ≤ 16 := by unfold SF.vals; rw [List.length_map]; exact f.heldsN_length 16
  have hF : (decide (0 ≤ f.nextI)) = decide (f.next < 16) := by
    unfold SF.nextI
    by_cases hl : f.next < 16
    · rw [if_pos hl, decide_eq_true hl]; exact decide_eq_true (by omega)
    · rw [if_neg hl, decide_eq_false hl]; exact decide_eq_false (by omega)
  have heq : (((f.hands t).length : Int) != ((f.hands t).length : Int)) = false := bne_self_eq_false _
  generalize decide (f.next < 16) = B at *
  generalize f.nextI = X at *
  generalize f.hands t = L at *
  generalize f.vals = V at *
  have hF2 : (!(B == decide (0 ≤ X))) = false := by rw [hF]; simp
  clear s s'
  go_enter Try.func21, Try.ntmps21
  go_wp2_with fail
  refine H1.mono ?_
  rintro e w1 ⟨v1, rfl, R1⟩
  clear H1
  go_wp2_with fail
  refine (H2 w1 R1.below).mono ?_
  rintro e w2 ⟨v2, rfl, R2⟩
  clear H2
  have hb2 := R1.below.trans (R2.below.mono R1.below.size)
  replace R1 := R1.later R2.below
  obtain ⟨a1, c1, rfl, _⟩ := R1.own.form
  obtain ⟨a2, c2, rfl, _⟩ := R2.own.form
  go_wp2_with fail
  refine (H3 w2 hb2).mono ?_
  rintro e w3 ⟨v3, rfl, R3⟩
  have hb3 := hb2.trans (R3.below.mono hb2.size)
  replace R1 := R1.later R3.below
  replace R2 := R2.later R3.below
  clear H3 hb2
  go_wp2_with fail
  refine (H4 w3 hb3).mono ?_
  rintro e w4 ⟨v4, rfl, R4⟩
  have hb4 := hb3.trans (R4.below.mono hb3.size)
  replace R1 := R1.later R4.below
  replace R2 := R2.later R4.below
  replace R3 := R3.later R4.below
  clear H4 hb3
  go_wp2_with fail
  refine (lawInts V v3 v4 w4 R3.own.reads R4.own.reads (by omega)).mono ?_
  rintro e w5 ⟨rfl, hx⟩
  have hb5 := hb4.trans (hx.mono hb4.size)
  replace R1 := R1.later hx
  replace R2 := R2.later hx
  clear hx R3 R4 hb4
  go_wp2_with fail
  refine (H5 w5 hb5).mono ?_
  rintro e w6 ⟨rfl, hx⟩
  have hb6 := hb5.trans (hx.mono hb5.size)
  replace R1 := R1.later hx
  replace R2 := R2.later hx
  clear hx hb5 H5
  go_wp2_with fail
  refine (H6 w6 hb6).mono ?_
  rintro e w7 ⟨rfl, rfl⟩
  clear H6
  have HL := R1.own.reads
  have HM := R2.own.reads
  clear R1 R2 hF
  go_wp2
  go_loopw [7] (fun i wr => ∃ k : Nat, k ≤ L.length ∧ i = .int .i64 k ∧ Below w7.heap.size w7 wr) (fun i _ => L.length - (intOf i).toNat)
  case atStart => exact ⟨0, Nat.zero_le _, rfl, Below.refl _ _⟩
  case round =>
    obtain ⟨k, hk, rfl, hb⟩ := hrel
    by_cases hlt : k < L.length
    · obtain ⟨ad, rfl, _⟩ := HL.natAt k hlt
      obtain ⟨ad', rfl, _⟩ := HM.natAt k hlt
      have x1 : ∀ u : Sub wr, u.1.cell? (ad.add k) = some (.int .u64 L[k]) := fun u => by
        obtain ⟨ad2, e, h⟩ := (HL.keep (hb.trans (u.2.mono hb.size))).natAt k hlt
        cases e; exact h
      have x2 : ∀ u : Sub wr, u.1.cell? (ad'.add k) = some (.int .u64 L[k]) := fun u => by
        obtain ⟨ad2, e, h⟩ := (HM.keep (hb.trans (u.2.mono hb.size))).natAt k hlt
        cases e; exact h
      have hk0 : (0 : Int) ≤ (k : Int) := by omega
      have hk1 : (k : Int) < (L.length : Int) := by omega
      clear HL HM
      generalize L[k] = x at *
      go_wp2
      refine wp_region_quiet_all (C := fun w' => ∃ u : Sub wr, w' = u.1) (by kernel_rfl) (by kernel_rfl) (InSub.drew wr) ?_
      iterate 9 (go_big_quiet_step (fail))
      refine wpQuiet_nil ?_
      clear x1 x2
      intro w' hw'
      obtain ⟨u, rfl⟩ := hw'
      go_wp2
      exact ⟨⟨k + 1, by omega, by go_num, hb.trans (u.2.mono hb.size)⟩, by simp [intOf]; omega⟩
    · obtain rfl : k = L.length := by omega
      clear HL HM
      go_wp2
      go_ret
      exact ⟨rfl, hb6.trans (hb.mono hb6.size)⟩
end

end Go.Proofs.Ytilcjpaifbcjaaa
