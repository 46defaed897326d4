/-
  Texts of this proof, one behind the other: SlotW.
-/
import Derived.Test.YtilcjpaifbcjaaaG6
import Derived.Deep.MidRow
/-
  Walks of package slots: its looks.
-/
namespace Go.Proofs.Ytilcjpaifbcjaaa
open Go Go.RowKit

theorem Try.slotSize : (Try.prog.info? 56).map (·.size) = some 3 := by kernel_rfl
theorem Try.slotsSize : (Try.prog.info? 57).map (·.size) = some 48 := by kernel_rfl

theorem run_sizeOf {P : Program} {t : TypeId} {n : Nat} (h : (P.info? t).map (·.size) = some n) (w : World) : (sizeOf t).run P w = .ok n w := by
  cases hq : P.info? t with
  | none => simp [hq] at h
  | some i =>
    have hs : i.size = n := by simpa [hq] using h
    simp [sizeOf, typeInfo, hq, hs]

/-- The array as a value. -/
theorem SlC.whole {w : World} {b : Nat} {t : Int} {f : SF} (h : SlC w b t f) : ∃ l : List Value, w.rangeAt b 1 l ∧ l.length = 48 ∧
    ∀ n : Nat, n < 16 → ∀ W, (Instr.index 57 (.agg l.toArray) (.int .i64 (n : Int))).run Try.prog W = .ok (.agg #[.bool (f n).held, .int .i64 (f n).gen, .int .i64 (f n).val]) W := by
  obtain ⟨cs, hr, hc⟩ := h
  have hs := hc.size
  refine ⟨cs.toList.drop 1, fun j v hv => ?_, by simp [hs], fun n hn W => ?_⟩
  · rw [cell_of_row _ _ _ _ _ _ hr]
    simpa [Nat.add_comm] using hv
  · have hx : ((cs.toList.drop 1).toArray).extract (n * 3) (n * 3 + 3) = #[.bool (f n).held, .int .i64 (f n).gen, .int .i64 (f n).val] := by
      obtain ⟨h1, h2, h3⟩ := hc.cell n hn
      apply Array.ext_getElem?
      intro j
      rw [Array.getElem?_extract]
      have e : ∀ k, ((cs.toList.drop 1).toArray)[k]? = cs[1 + k]? := fun k => by rw [Nat.add_comm]; simp
      by_cases hj : j < 3
      · rw [if_pos (by simp [hs]; omega), e]
        rcases (by omega : j = 0 ∨ j = 1 ∨ j = 2) with rfl | rfl | rfl
        · exact h1
        · rw [← Nat.add_assoc]; exact h2
        · rw [← Nat.add_assoc]; exact h3
      · rw [if_neg (by omega)]
        exact (Array.getElem?_eq_none (by simp; omega)).symm
    have ha : (isAgg 56).run Try.prog W = .ok true W := by
      unfold isAgg
      rw [Sem.run_bind, run_underlying Try.underlying56 W]
      rfl
    have hn0 : (0 : Int) ≤ (n : Int) ∧ (n : Int) < 16 := by omega
    generalize (cs.toList.drop 1).toArray = ar at hx ⊢
    simp only [Instr.index, asIntOf, part, Sem.run_bind, Sem.run_pure, Result.andThen, run_underlying Try.underlying57, Int.toNat_natCast]
    simp [hn0, ha, hx, run_sizeOf Try.slotSize, Result.andThen, Sem.run_bind]

section
variable {w : World} {b : Nat} {t : Int} {f : SF}

set_option maxRecDepth 100000 in
set_option maxHeartbeats 4000000 in
theorem slotsHandle (h : SlC w b t f) (i : Nat) (hi : i < 16) :
    Calls Try.prog 29 #[.pointer (some ⟨b, 0, none⟩), .int .i64 (i : Int)] w fun e w' => e = .returned (.int .u64 (packN t i (f i).gen)) ∧ Below w.heap.size w w' := by
  have c0 : ∀ u : Sub w, u.1.cell? ⟨b, 0, none⟩ = some (.int .i64 t) := fun u => (h.below u.2).ten
  have c1 : ∀ u : Sub w, u.1.cell? ⟨b, 1 + i * 3 + 1, none⟩ = some (.int .i64 (f i).gen) := fun u => ((h.below u.2).cells i hi).2.1
  have hp : ∀ u : Sub w, Calls Try.prog 37 #[.int .i64 t, .int .i64 (i : Int), .int .i64 (f i).gen] u.1 (fun e w'' => e = .returned (.int .u64 (packN t i (f i).gen)) ∧ ∃ x : Sub w, w'' = x.1) := fun u => subSame (handPack t i (f i).gen u.1)
  have hi0 : (0 : Int) ≤ (i : Int) := by omega
  have hi1 : (i : Int) < 16 := by omega
  clear h
  generalize packN t i (f i).gen = r at *
  generalize (f i).gen = g at *
  go_enter Try.func29, Try.ntmps29
  go_wp2
  refine wp_region_quiet_all (C := fun w' => ∃ u : Sub w, w' = u.1) (by kernel_rfl) (by kernel_rfl) (InSub.drew w) ?_
  iterate 12 (go_big_quiet_step (fail))
  go_big_quiet_step (exact hp _)
  iterate 1 (go_big_quiet_step (fail))
  refine wpQuiet_nil ?_
  clear c0 c1 hp
  intro w' hw'
  obtain ⟨u, rfl⟩ := hw'
  go_wp2
  go_ret
  exact ⟨rfl, u.2⟩

set_option maxRecDepth 100000 in
set_option maxHeartbeats 4000000 in
theorem slotsLeast (h : SlC w b t f) :
    Calls Try.prog 28 #[.pointer (some ⟨b, 0, none⟩)] w fun e w' => e = .returned (.tuple #[.int .i64 (if f.next < 16 then (f.next : Int) else 0), .bool (decide (f.next < 16))]) ∧ Below w.heap.size w w' := by
  obtain ⟨ar, hl, hlen, hx⟩ := h.whole
  have hsz : (Try.prog.info? 57).map (·.size) = some ar.length := by rw [hlen]; exact Try.slotsSize
  generalize hR : (if f.next < 16 then (f.next : Int) else 0) = R
  generalize hB : decide (f.next < 16) = B
  replace hR := Lib.hid hR
  replace hB := Lib.hid hB
  go_enter Try.func28, Try.ntmps28
  go_wp2_with (refine wpList_load_mid rfl 57 _ rfl b 1 rfl ar _ hl Try.underlying57 rfl hsz ?_)
  go_loopw [10] (fun i wr => ∃ n : Nat, n ≤ 16 ∧ i = .int .i64 n ∧ Hid (f.next = firstB (fun i => (f i).may) (16 - n) n) ∧ Below w.heap.size w wr) (fun i _ => 16 - (intOf i).toNat)
  case atStart => exact ⟨0, by omega, rfl, rfl, Below.refl _ _⟩
  case round =>
    obtain ⟨n, hn, rfl, hr, hb⟩ := hrel
    by_cases hlt : n < 16
    · have hs : f.next = if (f n).may = true then n else firstB (fun i => (f i).may) (16 - (n + 1)) (n + 1) := by
        have := hr.out
        rw [show 16 - n = (16 - (n + 1)) + 1 by omega] at this
        exact this
      clear hr
      have hi := hx n hlt
      have hn1 : (n : Int) < 16 := by omega
      have hn0 : (0 : Int) ≤ (n : Int) := by omega
      have hb2 : Below w.heap.size w (wr.alloc (.cells #[.bool (f n).held, .int .i64 (f n).gen, .int .i64 (f n).val] 56)) := hb.alloc hb.size _
      by_cases hm : (f n).may = true
      · rw [if_pos hm] at hs
        have e1 : R = (n : Int) := by rw [← hR.out, hs, if_pos hlt]
        have e2 : B = true := by rw [← hB.out, hs]; exact decide_eq_true hlt
        replace e1 := Lib.hid e1
        replace e2 := Lib.hid e2
        clear hs
        unfold Slo.may at hm
        rw [Bool.and_eq_true, Bool.not_eq_true', decide_eq_true_eq] at hm
        obtain ⟨m1, m2⟩ := hm
        clear hx hl
        generalize (f n).held = h1 at *
        generalize (f n).gen = g1 at *
        generalize (f n).val = v1 at *
        subst m1
        go_wp2
        refine bodyPost_ret (results_tmp2 rfl _ _ _) rfl ?_
        exact ⟨by rw [e1.out, e2.out]; rfl, hb2⟩
      · rw [if_neg hm] at hs
        replace hs := Lib.hid hs
        unfold Slo.may at hm
        clear hx hl
        generalize (f n).held = h1 at *
        generalize (f n).gen = g1 at *
        generalize (f n).val = v1 at *
        cases h1 with
        | true =>
          clear hm
          go_wp2
          exact ⟨⟨n + 1, by omega, by go_num, hs, hb2⟩, by simp [intOf]; omega⟩
        | false =>
          have hg : ¬ g1 ≤ 15 := fun h => hm (by rw [decide_eq_true h]; rfl)
          clear hm
          go_wp2
          exact ⟨⟨n + 1, by omega, by go_num, hs, hb2⟩, by simp [intOf]; omega⟩
    · obtain rfl : n = 16 := by omega
      have hs : f.next = 16 := hr.out
      have e1 : R = 0 := by rw [← hR.out, hs]; rfl
      have e2 : B = false := by rw [← hB.out, hs]; rfl
      replace e1 := Lib.hid e1
      replace e2 := Lib.hid e2
      clear hx hl hr hs
      go_wp2
      refine bodyPost_ret (results_tmp2 rfl _ _ _) rfl ?_
      exact ⟨by rw [e1.out, e2.out]; rfl, hb⟩

set_option maxRecDepth 100000 in
set_option maxHeartbeats 4000000 in
theorem slotsHeld (h : SlC w b t f) :
    Calls Try.prog 27 #[.pointer (some ⟨b, 0, none⟩)] w fun e w' => ∃ v, e = .returned v ∧ NRel encI w (ints f.helds) v w' := by
  obtain ⟨ar, hl, hlen, hx⟩ := h.whole
  have hsz : (Try.prog.info? 57).map (·.size) = some ar.length := by rw [hlen]; exact Try.slotsSize
  clear h
  go_enter Try.func27, Try.ntmps27
  go_wp2_with (refine wpList_load_mid rfl 57 _ rfl b 1 rfl ar _ hl Try.underlying57 rfl hsz ?_)
  go_loopw [3, 10] (fun vo i wr => ∃ n : Nat, n ≤ 16 ∧ i = .int .i64 n ∧ NRel encI w (ints (f.heldsN n)) vo wr) (fun _ i _ => 16 - (intOf i).toNat)
  case atStart => exact ⟨0, by omega, rfl, NRel.start _ (Below.refl _ _)⟩
  case round =>
    obtain ⟨n, hn, rfl, R⟩ := hrel
    by_cases hlt : n < 16
    · have hi := hx n hlt
      have hs := f.heldsN_succ n
      have hll := f.heldsN_length n
      have hn1 : (n : Int) < 16 := by omega
      have hn0 : (0 : Int) ≤ (n : Int) := by omega
      clear hx hl
      generalize (f n).held = h1 at *
      generalize (f n).gen = g1 at *
      generalize (f n).val = v1 at *
      cases h1 with
      | true =>
        have hs2 : ints (f.heldsN (n + 1)) = ints (f.heldsN n) ++ [(n : Int)] := by rw [hs]; exact ints_append _ _
        replace hs2 := Lib.hid hs2
        clear hs
        have R1 := R.later ((Below.refl wr.heap.size wr).alloc (Nat.le_refl _) (.cells #[.bool true, .int .i64 g1, .int .i64 v1] 56))
        have hA := R1.own.alloc (.cells #[.int .i64 (n : Int)] 3)
        have hsrc := oneI (wr.alloc (.cells #[.bool true, .int .i64 g1, .int .i64 v1] 56)) (n : Int) (wr.heap.size + 1) (by simp)
        have hln : (ints (f.heldsN n)).length + [(n : Int)].length ≤ 1000000 := by rw [ints_length]; simp; omega
        go_wp2_with (at_builtin; refine appendI rfl (.tmp 16) (.tmp 18) rfl _ _ (ints (f.heldsN n)) [(n : Int)] rfl hA rfl hsrc hln ?_; intro v' w2 hown hgr hat)
        exact ⟨⟨n + 1, by omega, by go_num, by rw [hs2.out]; exact R1.push _ hown hgr hat⟩, by simp [intOf]; omega⟩
      | false =>
        have hs2 : ints (f.heldsN (n + 1)) = ints (f.heldsN n) := by rw [hs]; simp
        replace hs2 := Lib.hid hs2
        clear hs
        have R1 := R.later ((Below.refl wr.heap.size wr).alloc (Nat.le_refl _) (.cells #[.bool false, .int .i64 g1, .int .i64 v1] 56))
        go_wp2
        exact ⟨⟨n + 1, by omega, by go_num, by rw [hs2.out]; exact R1⟩, by simp [intOf]; omega⟩
    · obtain rfl : n = 16 := by omega
      clear hx hl
      go_wp2
      go_ret
      exact ⟨_, rfl, R⟩

set_option maxRecDepth 100000 in
theorem slotsFree (h : SlC w b t f) :
    Calls Try.prog 35 #[.pointer (some ⟨b, 0, none⟩)] w fun e w' => e = .returned (.bool (decide (f.next < 16))) ∧ Below w.heap.size w w' := by
  have H := slotsLeast h
  generalize decide (f.next < 16) = B at *
  generalize (if f.next < 16 then (f.next : Int) else 0) = R at *
  clear h
  go_enter Try.func35, Try.ntmps35
  go_wp2_with fail
  refine H.mono ?_
  rintro e w' ⟨rfl, hb⟩
  clear H
  go_wp2
  go_ret
  exact ⟨rfl, hb⟩

set_option maxRecDepth 100000 in
set_option maxHeartbeats 4000000 in
theorem slotsFind (s : SlC w b t f) (ok : f.Ok) (h1 : 1 ≤ t) (h8 : t ≤ 8) (h : Nat) (hh : h < 18446744073709551616) :
    Calls Try.prog 23 #[.pointer (some ⟨b, 0, none⟩), .int .u64 h] w fun e w' => e = .returned (.tuple #[.int .i64 (if f.find t h < 16 then (f.find t h : Int) else 0), .bool (decide (f.find t h < 16))]) ∧ Below w.heap.size w w' := by
  have HU := handUnpack h hh w
  generalize hR : (if f.find t h < 16 then (f.find t h : Int) else 0) = R
  generalize hB : decide (f.find t h < 16) = B
  by_cases hi : isH h
  · obtain ⟨u1, u2, u3, u4⟩ := up_is hi
    have hk := hi.2
    rw [u1, u2, u3, u4] at HU
    have hmay : mayH (unT h : Nat) (unS h : Nat) (unG h : Nat) := by
      by_cases hm : mayH (unT h : Nat) (unS h : Nat) (unG h : Nat)
      · exact hm
      · rw [packN_no hm] at hk; exact absurd hk.symm hi.1
    have hn16 : unS h < 16 := by have := hmay.2.2.2.1; omega
    generalize unT h = T at *
    generalize unS h = n at *
    generalize unG h = G at *
    have hn1 : (n : Int) < 16 := by omega
    have hn0 : (0 : Int) ≤ (n : Int) := by omega
    -- the slot of the handle is n, if any
    have key : ∀ j, j < 16 → (f j).held = true → packN t j (f j).gen = h → j = n := fun j hj a e => by
      have hm := ok.mayH h1 h8 hj (ok.held j hj a)
      have e1 := packN_un hm
      have e2 := packN_un hmay
      rw [e] at e1
      rw [hk] at e2
      have := e1.2.2.1.symm.trans e2.2.2.1
      omega
    have hno : ¬ ((f n).held = true ∧ packN t n (f n).gen = h) → R = 0 ∧ B = false := fun hn => by
      have : ¬ f.find t h < 16 := fun hl => by
        obtain ⟨a, e⟩ := SF.find_has hl
        have := key _ hl a e
        rw [this] at a e
        exact hn ⟨a, e⟩
      exact ⟨by rw [← hR, if_neg this], by rw [← hB]; exact decide_eq_false this⟩
    have hyes : (f n).held = true → packN t n (f n).gen = h → R = (n : Int) ∧ B = true := fun a e => by
      have := ok.find_one h1 h8 hn16 a e
      exact ⟨by rw [← hR, this, if_pos hn16], by rw [← hB, this]; exact decide_eq_true hn16⟩
    obtain ⟨c0, _, _⟩ := s.cells n hn16
    have HH := slotsHandle s n hn16
    clear hR hB key hmay hi hk u1 u2 u3 u4 ok hh s
    generalize (f n).held = held at *
    generalize packN t n (f n).gen = H at *
    cases held with
    | false =>
      obtain ⟨rfl, rfl⟩ := hno fun h => Bool.noConfusion h.1
      clear hno hyes HH
      go_enter Try.func23, Try.ntmps23
      go_wp2_with fail
      refine HU.mono ?_
      rintro e w' ⟨rfl, rfl⟩
      clear HU
      go_wp2
      refine bodyPost_ret (results_tmp2 rfl _ _ _) rfl ?_
      exact ⟨rfl, Below.refl _ _⟩
    | true =>
      by_cases he : H = h
      · obtain ⟨rfl, rfl⟩ := hyes rfl he
        have hne : ((H : Int) != (h : Int)) = false := by subst he; exact bne_self_eq_false _
        clear hno hyes he
        go_enter Try.func23, Try.ntmps23
        go_wp2_with fail
        refine HU.mono ?_
        rintro e w' ⟨rfl, rfl⟩
        clear HU
        go_wp2_with fail
        refine HH.mono ?_
        rintro e w2 ⟨rfl, hb⟩
        clear HH
        go_wp2
        refine bodyPost_ret (results_tmp2 rfl _ _ _) rfl ?_
        exact ⟨rfl, hb⟩
      · obtain ⟨rfl, rfl⟩ := hno fun h => he h.2
        have hne : ((H : Int) != (h : Int)) = true := by rw [bne_iff_ne]; omega
        clear hno hyes he
        go_enter Try.func23, Try.ntmps23
        go_wp2_with fail
        refine HU.mono ?_
        rintro e w' ⟨rfl, rfl⟩
        clear HU
        go_wp2_with fail
        refine HH.mono ?_
        rintro e w2 ⟨rfl, hb⟩
        clear HH
        go_wp2
        refine bodyPost_ret (results_tmp2 rfl _ _ _) rfl ?_
        exact ⟨rfl, hb⟩
  · obtain ⟨u1, u2, u3, u4⟩ := up_isnt hi
    rw [u1, u2, u3, u4] at HU
    have hnone : ¬ f.find t h < 16 := fun hl => by
      obtain ⟨a, e⟩ := SF.find_has hl
      have := packN_un (ok.mayH h1 h8 hl (ok.held _ hl a))
      rw [e] at this
      exact hi this.1
    obtain rfl : R = 0 := by rw [← hR, if_neg hnone]
    obtain rfl : B = false := by rw [← hB]; exact decide_eq_false hnone
    clear hR hB hnone hi u1 u2 u3 u4 ok s
    go_enter Try.func23, Try.ntmps23
    go_wp2_with fail
    refine HU.mono ?_
    rintro e w' ⟨rfl, rfl⟩
    clear HU
    go_wp2
    refine bodyPost_ret (results_tmp2 rfl _ _ _) rfl ?_
    exact ⟨rfl, Below.refl _ _⟩
end

end Go.Proofs.Ytilcjpaifbcjaaa
