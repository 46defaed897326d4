/-
  Texts of this proof, one behind the other: LedC.
-/
import Derived.Test.YtpdkcdehbpbheaaG4
import Derived.Test.YtpdkcdehbpbheaaG3
import Derived.Test.YtpdkcdehbpbheaaG5
import Derived.Deep.MidRow
/-
  The landed package ledger: in memory, and walked.
-/
namespace Go.Proofs.Ytpdkcdehbpbheaa
open Go Go.RowKit

/-- The cells of a ledger. -/
structure LdRow (cs : Array Value) (c : Int) (f : LF) : Prop where
  size : cs.size = 17
  cap : cs[0]? = some (.int .i64 c)
  cell : ∀ i, i < 8 → cs[1 + i * 2]? = some (.bool (decide (0 ≤ f (i + 1)))) ∧ cs[1 + i * 2 + 1]? = some (.int .i64 (amtOf (f (i + 1))))

/-- At block b stands a ledger. -/
def LdC (w : World) (b : Nat) (c : Int) (f : LF) : Prop := ∃ cs, w.heap[b]? = some (.cells cs 50 (0, 0)) ∧ LdRow cs c f

theorem LdRow.set {cs : Array Value} {c : Int} {f : LF} (h : LdRow cs c f) {i : Nat} (hi : i < 8) (x : Int) : LdRow ((cs.setIfInBounds (1 + i * 2) (.bool (decide (0 ≤ x)))).setIfInBounds (1 + i * 2 + 1) (.int .i64 (amtOf x))) c (f.put (i + 1) x) := by
  refine ⟨by simp [h.size], ?_, fun j hj => ?_⟩
  · rw [Array.getElem?_setIfInBounds_ne (by omega), Array.getElem?_setIfInBounds_ne (by omega)]; exact h.cap
  · obtain ⟨h1, h2⟩ := h.cell j hj
    have hs := h.size
    by_cases e : j = i
    · subst e
      rw [LF.put_same, Array.getElem?_setIfInBounds_ne (by omega), Array.getElem?_setIfInBounds_self_of_lt (by omega), Array.getElem?_setIfInBounds_self_of_lt (by simp; omega)]
      exact ⟨rfl, rfl⟩
    · rw [LF.put_other _ _ _ (by omega), Array.getElem?_setIfInBounds_ne (by omega), Array.getElem?_setIfInBounds_ne (by omega), Array.getElem?_setIfInBounds_ne (by omega), Array.getElem?_setIfInBounds_ne (by omega)]
      exact ⟨h1, h2⟩

section
variable {w w' : World} {b : Nat} {c : Int} {f : LF}

theorem LdC.lt (h : LdC w b c f) : b < w.heap.size := by
  obtain ⟨cs, hr, _⟩ := h
  exact (Array.getElem?_eq_some_iff.1 hr).1
theorem LdC.block (h : LdC w b c f) (hb : w'.heap[b]? = w.heap[b]?) : LdC w' b c f := by
  obtain ⟨cs, hr, hc⟩ := h
  exact ⟨cs, hb.trans hr, hc⟩
theorem LdC.below (h : LdC w b c f) (hb : Below w.heap.size w w') : LdC w' b c f := h.block (hb.block b h.lt)
theorem LdC.keep (h : LdC w b c f) {F : Nat → Prop} (hb : Keeps F w w') (hF : ¬ F b) : LdC w' b c f := h.block (hb.block b h.lt hF)
theorem LdC.cap (h : LdC w b c f) : w.cell? ⟨b, 0, none⟩ = some (.int .i64 c) := by
  obtain ⟨cs, hr, hc⟩ := h
  rw [cell_of_row _ _ _ _ _ _ hr, hc.cap]
theorem LdC.cells (h : LdC w b c f) (i : Nat) (hi : i < 8) : w.cell? ⟨b, 1 + i * 2, none⟩ = some (.bool (decide (0 ≤ f (i + 1)))) ∧ w.cell? ⟨b, 1 + i * 2 + 1, none⟩ = some (.int .i64 (amtOf (f (i + 1)))) := by
  obtain ⟨cs, hr, hc⟩ := h
  rw [cell_of_row _ _ _ _ _ _ hr, cell_of_row _ _ _ _ _ _ hr]
  exact hc.cell i hi
theorem LdC.free (h : LdC w b c f) (j : Nat) : w.frozen? ⟨b, j, none⟩ = false := by
  obtain ⟨cs, hr, _⟩ := h
  exact frozen_of_row _ _ _ _ _ hr
theorem LdC.set (h : LdC w b c f) {i : Nat} (hi : i < 8) (x : Int) : LdC ((w.setCell ⟨b, 1 + i * 2, none⟩ (.bool (decide (0 ≤ x)))).setCell ⟨b, 1 + i * 2 + 1, none⟩ (.int .i64 (amtOf x))) b c (f.put (i + 1) x) := by
  obtain ⟨cs, hr, hc⟩ := h
  exact ⟨_, heap_setCell_same _ b _ _ _ _ (heap_setCell_same w b _ _ _ _ hr), hc.set hi x⟩
end

theorem ld_keeps (w : World) (b i : Nat) (u v : Value) : Keeps (only b) w (((w.setCell ⟨b, 1 + i * 2, none⟩ u).setCell ⟨b, 1 + i * 2 + 1, none⟩ v)) :=
  (Keeps.of_setCell (only b) w ⟨b, 1 + i * 2, none⟩ u rfl).and (Keeps.of_setCell (only b) _ ⟨b, 1 + i * 2 + 1, none⟩ v rfl)

theorem LdRow.zero (c : Int) : LdRow #[.int .i64 c, .bool false, .int .i64 0, .bool false, .int .i64 0, .bool false, .int .i64 0, .bool false, .int .i64 0,
    .bool false, .int .i64 0, .bool false, .int .i64 0, .bool false, .int .i64 0, .bool false, .int .i64 0] c LF.zero := by
  refine ⟨rfl, rfl, fun i hi => ?_⟩
  rcases (by omega : i = 0 ∨ i = 1 ∨ i = 2 ∨ i = 3 ∨ i = 4 ∨ i = 5 ∨ i = 6 ∨ i = 7) with rfl | rfl | rfl | rfl | rfl | rfl | rfl | rfl <;> exact ⟨rfl, rfl⟩

set_option maxRecDepth 100000 in
set_option maxHeartbeats 4000000 in
theorem ledNew (c : Int) (w : World) (h0 : 0 ≤ c) (h1 : c ≤ 10000) :
    Calls Try.prog 6 #[.int .i64 c] w fun e w' => ∃ b, e = .returned (.pointer (some ⟨b, 0, none⟩)) ∧ w.heap.size ≤ b ∧ LdC w' b c LF.zero ∧ Below w.heap.size w w' := by
  have hz := Lib.hid (LdRow.zero c)
  go_enter Try.func6, Try.ntmps6
  go_wp2
  go_ret
  exact ⟨_, rfl, Nat.le_refl _, ⟨_, heap_alloc_new _ _, hz.out⟩, (Below.refl _ _).alloc (Nat.le_refl _) _⟩

set_option maxRecDepth 100000 in
set_option maxHeartbeats 4000000 in
theorem ledNone (c : Int) (w : World) (h : ¬ (0 ≤ c ∧ c ≤ 10000)) :
    Calls Try.prog 6 #[.int .i64 c] w fun e w' => e = .returned (.pointer none) ∧ w = w' := by
  by_cases h1 : c < 0
  · go_enter Try.func6, Try.ntmps6
    go_wp2
    go_ret
    exact ⟨rfl, rfl⟩
  · have h8 : 10000 < c := by omega
    clear h
    go_enter Try.func6, Try.ntmps6
    go_wp2
    go_ret
    exact ⟨rfl, rfl⟩

section
variable {w : World} {b : Nat} {c : Int} {f : LF}

set_option maxRecDepth 100000 in
theorem ledTen (t : Int) (w : World) (h1 : 1 ≤ t) (h8 : t ≤ 8) :
    Calls Try.prog 19 #[.int .i64 t] w fun e w' => e = .returned (.bool true) ∧ w = w' := by
  go_enter Try.func19, Try.ntmps19
  go_wp2
  go_ret
  exact ⟨rfl, rfl⟩

set_option maxRecDepth 100000 in
set_option maxHeartbeats 4000000 in
theorem ledHas (s : LdC w b c f) (t : Int) :
    Calls Try.prog 18 #[.pointer (some ⟨b, 0, none⟩), .int .i64 t] w fun e w' => e = .returned (.bool (f.isAt t)) ∧ w = w' := by
  by_cases ht : 1 ≤ t ∧ t ≤ 8
  · obtain ⟨n, hn, rfl⟩ : ∃ n : Nat, n < 8 ∧ t = (n : Int) + 1 := ⟨(t - 1).toNat, by omega, by omega⟩
    obtain ⟨x1, _⟩ := s.cells n hn
    rw [f.isAt_in hn]
    generalize decide (0 ≤ f (n + 1)) = B at *
    obtain ⟨h1, h8⟩ := ht
    have hn1 : (n : Int) < 8 := by omega
    have hn0 : (0 : Int) ≤ (n : Int) := by omega
    clear s
    go_enter Try.func18, Try.ntmps18
    go_wp2
    go_ret
    exact ⟨rfl, rfl⟩
  · rw [f.isAt_no ht]
    clear s
    by_cases h1 : 1 ≤ t
    · have h8 : ¬ t ≤ 8 := fun h8 => ht ⟨h1, h8⟩
      clear ht
      go_enter Try.func18, Try.ntmps18
      go_wp2
      go_ret
      exact ⟨rfl, rfl⟩
    · clear ht
      go_enter Try.func18, Try.ntmps18
      go_wp2
      go_ret
      exact ⟨rfl, rfl⟩

set_option maxRecDepth 100000 in
set_option maxHeartbeats 4000000 in
theorem ledQuota (s : LdC w b c f) (t : Int) :
    Calls Try.prog 14 #[.pointer (some ⟨b, 0, none⟩), .int .i64 t] w fun e w' => e = .returned (.tuple #[.int .i64 (f.quota t), .bool (f.isAt t)]) ∧ w = w' := by
  have H := ledHas s t
  by_cases hi : f.isAt t = true
  · obtain ⟨ht, h0⟩ := LF.isAt_iff.1 hi
    rw [f.quota_amt ht]
    rw [hi] at H ⊢
    obtain ⟨n, hn, rfl⟩ : ∃ n : Nat, n < 8 ∧ t = (n : Int) + 1 := ⟨(t - 1).toNat, by omega, by omega⟩
    rw [show ((n : Int) + 1).toNat = n + 1 by omega]
    obtain ⟨_, x2⟩ := s.cells n hn
    generalize amtOf (f (n + 1)) = q at *
    have hn1 : (n : Int) < 8 := by omega
    have hn0 : (0 : Int) ≤ (n : Int) := by omega
    clear s ht h0 hi
    go_enter Try.func14, Try.ntmps14
    go_wp2_with fail
    refine H.mono ?_
    rintro e w1 ⟨rfl, rfl⟩
    clear H
    go_wp2
    refine bodyPost_ret (results_tmp2 rfl _ _ _) rfl ?_
    exact ⟨rfl, rfl⟩
  · rw [f.quota_no hi]
    rw [Bool.eq_false_iff.2 hi] at H ⊢
    clear s hi
    go_enter Try.func14, Try.ntmps14
    go_wp2_with fail
    refine H.mono ?_
    rintro e w1 ⟨rfl, rfl⟩
    clear H
    go_wp2
    refine bodyPost_ret (results_tmp2 rfl _ _ _) rfl ?_
    exact ⟨rfl, rfl⟩

theorem Try.entrySize : (Try.prog.info? 47).map (·.size) = some 2 := by kernel_rfl
theorem Try.entriesSize : (Try.prog.info? 48).map (·.size) = some 16 := by kernel_rfl

theorem run_sizeOf' {P : Program} {t : TypeId} {n : Nat} (h : (P.info? t).map (·.size) = some n) (w : World) : (sizeOf t).run P w = .ok n w := by
  cases hq : P.info? t with
  | none => simp [hq] at h
  | some i =>
    have hs : i.size = n := by simpa [hq] using h
    simp [sizeOf, typeInfo, hq, hs]

/-- The array as a value. -/
theorem LdC.whole (h : LdC w b c f) : ∃ l : List Value, w.rangeAt b 1 l ∧ l.length = 16 ∧
    ∀ n : Nat, n < 8 → ∀ W, (Instr.index 48 (.agg l.toArray) (.int .i64 (n : Int))).run Try.prog W = .ok (.agg #[.bool (decide (0 ≤ f (n + 1))), .int .i64 (amtOf (f (n + 1)))]) W := by
  obtain ⟨cs, hr, hc⟩ := h
  have hs := hc.size
  refine ⟨cs.toList.drop 1, fun j v hv => ?_, by simp [hs], fun n hn W => ?_⟩
  · rw [cell_of_row _ _ _ _ _ _ hr]
    simpa [Nat.add_comm] using hv
  · have hx : ((cs.toList.drop 1).toArray).extract (n * 2) (n * 2 + 2) = #[.bool (decide (0 ≤ f (n + 1))), .int .i64 (amtOf (f (n + 1)))] := by
      obtain ⟨h1, h2⟩ := hc.cell n hn
      apply Array.ext_getElem?
      intro j
      rw [Array.getElem?_extract]
      have e : ∀ k, ((cs.toList.drop 1).toArray)[k]? = cs[1 + k]? := fun k => by rw [Nat.add_comm]; simp
      by_cases hj : j < 2
      · rw [if_pos (by simp [hs]; omega), e]
        rcases (by omega : j = 0 ∨ j = 1) with rfl | rfl
        · exact h1
        · rw [← Nat.add_assoc]; exact h2
      · rw [if_neg (by omega)]
        exact (Array.getElem?_eq_none (by simp; omega)).symm
    have ha : (isAgg 47).run Try.prog W = .ok true W := by
      unfold isAgg
      rw [Sem.run_bind, run_underlying Try.underlying47 W]
      rfl
    have hn0 : (0 : Int) ≤ (n : Int) ∧ (n : Int) < 8 := by omega
    generalize (cs.toList.drop 1).toArray = ar at hx ⊢
    simp only [Instr.index, asIntOf, part, Sem.run_bind, Sem.run_pure, Result.andThen, run_underlying Try.underlying48, Int.toNat_natCast]
    simp [hn0, ha, hx, run_sizeOf' Try.entrySize, Result.andThen, Sem.run_bind]

set_option maxRecDepth 100000 in
set_option maxHeartbeats 4000000 in
theorem ledLeft (s : LdC w b c f) (ok : f.Ok c) :
    Calls Try.prog 16 #[.pointer (some ⟨b, 0, none⟩)] w fun e w' => e = .returned (.int .i64 (f.left c)) ∧ Below w.heap.size w w' := by
  obtain ⟨ar, hl, hlen, hx⟩ := s.whole
  have hc := s.cap
  have hsz : (Try.prog.info? 48).map (·.size) = some ar.length := by rw [hlen]; exact Try.entriesSize
  unfold LF.left
  clear s
  go_enter Try.func16, Try.ntmps16
  go_wp2_with (refine wpList_load_mid rfl 48 _ rfl b 1 rfl ar _ hl Try.underlying48 rfl hsz ?_)
  go_loopw [3, 14] (fun x i wr => ∃ n : Nat, n ≤ 8 ∧ x = .int .i64 (c - f.sum n) ∧ i = .int .i64 n ∧ Below w.heap.size w wr) (fun _ i _ => 8 - (intOf i).toNat)
  case atStart => exact ⟨0, by omega, by simp [LF.sum_zero], rfl, Below.refl _ _⟩
  case round =>
    obtain ⟨n, hn, rfl, rfl, hb⟩ := hrel
    by_cases hlt : n < 8
    · have hi := hx n hlt
      have hs := Lib.hid (f.sum_succ n)
      have p0 := ok.part (k := n) (by omega)
      have p1 := ok.part (k := n + 1) (by omega)
      have hq0 := amtOf_nonneg (f (n + 1))
      have hq1 := ok.amt (i := n + 1) (by omega) (by omega)
      have hn1 : (n : Int) < 8 := by omega
      have hn0 : (0 : Int) ≤ (n : Int) := by omega
      have hb2 : Below w.heap.size w (wr.alloc (.cells #[.bool (decide (0 ≤ f (n + 1))), .int .i64 (amtOf (f (n + 1)))] 47)) := hb.alloc hb.size _
      clear hx hl ok hc
      generalize decide (0 ≤ f (n + 1)) = B at *
      generalize amtOf (f (n + 1)) = q at *
      generalize f.sum n = S0 at *
      obtain ⟨a0, a1, a2, a3⟩ := p0
      obtain ⟨b0, b1, _, _⟩ := p1
      go_wp2
      exact ⟨⟨n + 1, by omega, by rw [hs.out]; exact congrArg (Value.int .i64) (by omega), by go_num, hb2⟩, by simp [intOf]; omega⟩
    · obtain rfl : n = 8 := by omega
      clear hx hl hc
      go_wp2
      go_ret
      exact ⟨rfl, hb⟩

set_option maxRecDepth 100000 in
set_option maxHeartbeats 4000000 in
theorem ledAdmit (s : LdC w b c f) (ok : f.Ok c) (t q : Int) :
    Calls Try.prog 12 #[.pointer (some ⟨b, 0, none⟩), .int .i64 t, .int .i64 q] w fun e w' => e = .returned (errV (f.adE c t q)) ∧ LdC w' b c (f.ad c t q) ∧ Keeps (only b) w w' := by
  unfold LF.ad
  by_cases ht : 1 ≤ t ∧ t ≤ 8
  · obtain ⟨t1, t8⟩ := ht
    by_cases hq : q < 0
    · have e1 : f.adE c t q = 1 := if_pos (.inr (.inr (.inl hq)))
      rw [e1, if_neg (by decide), show errV 1 = .iface 51 (.int .i64 1) from rfl]
      clear e1 ok
      replace s := Lib.hid s
      go_enter Try.func12, Try.ntmps12
      go_wp2
      go_ret
      exact ⟨rfl, s.out, Keeps.refl _ _⟩
    · by_cases hq2 : 65535 < q
      · have e1 : f.adE c t q = 1 := if_pos (.inr (.inr (.inr hq2)))
        rw [e1, if_neg (by decide), show errV 1 = .iface 51 (.int .i64 1) from rfl]
        clear e1 ok
        replace s := Lib.hid s
        go_enter Try.func12, Try.ntmps12
        go_wp2
        go_ret
        exact ⟨rfl, s.out, Keeps.refl _ _⟩
      · have hno : ¬ (t < 1 ∨ 8 < t ∨ q < 0 ∨ 65535 < q) := by omega
        have H := ledHas s t
        have T := ledTen t w t1 t8
        by_cases hi : f.isAt t = true
        · have e1 : f.adE c t q = 3 := by unfold LF.adE; rw [if_neg hno, if_pos hi]
          rw [e1, if_neg (by decide), show errV 3 = .iface 51 (.int .i64 3) from rfl]
          rw [hi] at H
          clear e1 ok hno hi
          replace s := Lib.hid s
          go_enter Try.func12, Try.ntmps12
          go_wp2_with fail
          refine T.mono ?_
          rintro e w0 ⟨rfl, rfl⟩
          clear T
          go_wp2_with fail
          refine H.mono ?_
          rintro e w1 ⟨rfl, rfl⟩
          clear H
          go_wp2
          go_ret
          exact ⟨rfl, s.out, Keeps.refl _ _⟩
        · rw [Bool.eq_false_iff.2 hi] at H
          have HL := ledLeft s ok
          have hlb := ok.left
          by_cases hf : f.left c < q
          · have e1 : f.adE c t q = 2 := by unfold LF.adE; rw [if_neg hno, if_neg hi, if_pos hf]
            rw [e1, if_neg (by decide), show errV 2 = .iface 51 (.int .i64 2) from rfl]
            clear e1 ok hno hi
            generalize f.left c = L at *
            replace s := Lib.hid s
            go_enter Try.func12, Try.ntmps12
            go_wp2_with fail
            refine T.mono ?_
            rintro e w0 ⟨rfl, rfl⟩
            clear T
            go_wp2_with fail
            refine H.mono ?_
            rintro e w1 ⟨rfl, rfl⟩
            clear H
            go_wp2_with fail
            refine HL.mono ?_
            rintro e w2 ⟨rfl, hb⟩
            clear HL
            go_wp2
            go_ret
            exact ⟨rfl, s.out.below hb, Keeps.of_below hb _⟩
          · have e1 : f.adE c t q = 0 := by unfold LF.adE; rw [if_neg hno, if_neg hi, if_neg hf]
            rw [e1, if_pos rfl, show errV 0 = .nilIface from rfl]
            clear e1 ok hno hi
            obtain ⟨n, hn, rfl⟩ : ∃ n : Nat, n < 8 ∧ t = (n : Int) + 1 := ⟨(t - 1).toNat, by omega, by omega⟩
            rw [show ((n : Int) + 1).toNat = n + 1 by omega]
            generalize f.left c = L at *
            have S := fun W (hb : Below w.heap.size w W) => s.below hb
            clear s
            have hn1 : (n : Int) < 8 := by omega
            have hn0 : (0 : Int) ≤ (n : Int) := by omega
            go_enter Try.func12, Try.ntmps12
            go_wp2_with fail
            refine T.mono ?_
            rintro e w0 ⟨rfl, rfl⟩
            clear T
            go_wp2_with fail
            refine H.mono ?_
            rintro e w1 ⟨rfl, rfl⟩
            clear H
            go_wp2_with fail
            refine HL.mono ?_
            rintro e w2 ⟨rfl, hb⟩
            have s := S _ hb
            clear HL S
            have z0 := s.free (1 + n * 2)
            have z1 := s.free (1 + n * 2 + 1)
            obtain ⟨x0, x1⟩ := s.cells n hn
            have s2 := s.set hn q
            rw [decide_eq_true (by omega : 0 ≤ q), amtOf_pos (by omega : 0 ≤ q)] at s2
            have hK := (Keeps.of_below hb _).and (ld_keeps w2 b n (.bool true) (.int .i64 q))
            replace s2 := Lib.hid s2
            replace hK := Lib.hid hK
            clear s
            generalize decide (0 ≤ f (n + 1)) = B at *
            generalize amtOf (f (n + 1)) = q0 at *
            go_wp2
            go_ret
            exact ⟨rfl, s2.out, hK.out⟩
  · have e1 : f.adE c t q = 1 := if_pos (by omega)
    rw [e1, if_neg (by decide), show errV 1 = .iface 51 (.int .i64 1) from rfl]
    clear e1 ok
    replace s := Lib.hid s
    by_cases h1 : 1 ≤ t
    · have h8 : ¬ t ≤ 8 := fun h8 => ht ⟨h1, h8⟩
      clear ht
      go_enter Try.func12, Try.ntmps12
      go_wp2
      go_ret
      exact ⟨rfl, s.out, Keeps.refl _ _⟩
    · clear ht
      go_enter Try.func12, Try.ntmps12
      go_wp2
      go_ret
      exact ⟨rfl, s.out, Keeps.refl _ _⟩

set_option maxRecDepth 100000 in
set_option maxHeartbeats 4000000 in
theorem ledLeave (s : LdC w b c f) (t : Int) :
    Calls Try.prog 10 #[.pointer (some ⟨b, 0, none⟩), .int .i64 t] w fun e w' => e = .returned (errV (f.leE t)) ∧ LdC w' b c (f.le t) ∧ Keeps (only b) w w' := by
  have H := ledHas s t
  unfold LF.leE LF.le
  by_cases hi : f.isAt t = true
  · obtain ⟨ht, h0⟩ := LF.isAt_iff.1 hi
    rw [if_pos hi, if_pos hi, show errV 0 = .nilIface from rfl]
    rw [hi] at H
    obtain ⟨n, hn, rfl⟩ : ∃ n : Nat, n < 8 ∧ t = (n : Int) + 1 := ⟨(t - 1).toNat, by omega, by omega⟩
    rw [show ((n : Int) + 1).toNat = n + 1 by omega]
    have hn1 : (n : Int) < 8 := by omega
    have hn0 : (0 : Int) ≤ (n : Int) := by omega
    have z0 := s.free (1 + n * 2)
    have z1 := s.free (1 + n * 2 + 1)
    obtain ⟨x0, x1⟩ := s.cells n hn
    have s2 := Lib.hid (s.set hn (-1))
    have hK := Lib.hid (ld_keeps w b n (.bool (decide ((0 : Int) ≤ -1))) (.int .i64 (amtOf (-1))))
    clear s ht h0 hi
    generalize decide (0 ≤ f (n + 1)) = B at *
    generalize amtOf (f (n + 1)) = q0 at *
    go_enter Try.func10, Try.ntmps10
    go_wp2_with fail
    refine H.mono ?_
    rintro e w1 ⟨rfl, rfl⟩
    clear H
    go_wp2
    go_ret
    exact ⟨rfl, s2.out, hK.out⟩
  · rw [if_neg hi, if_neg hi, show errV 4 = .iface 51 (.int .i64 4) from rfl]
    rw [Bool.eq_false_iff.2 hi] at H
    replace s := Lib.hid s
    clear hi
    go_enter Try.func10, Try.ntmps10
    go_wp2_with fail
    refine H.mono ?_
    rintro e w1 ⟨rfl, rfl⟩
    clear H
    go_wp2
    go_ret
    exact ⟨rfl, s.out, Keeps.refl _ _⟩
end

end Go.Proofs.Ytpdkcdehbpbheaa
