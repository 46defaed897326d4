/-
  Walks of package uniq: empty.
-/
import Derived.Test.YtbnjbnjhpccomaaUniqD
namespace Go.Proofs.Ytbnjbnjhpccomaa
open Go Go.RowKit

set_option maxRecDepth 100000 in
set_option maxHeartbeats 1000000 in
theorem uniqEmptyV {w : World} {b g cap n : Nat} {many : Int} {T : List (Option Ent)} {L K : List Ent} (h : UniqV w b g cap n many T) (H : TInv n (homeN n) T L) (hl : Places n) {i j : Nat} {e : Ent} (hi : T[i]? = some (some e)) (hj : T[j]? = some none) (hK : L.Perm (e :: K)) :
    Calls Try.prog 55 #[.pointer (some ⟨b, 0, none⟩), .int .i64 i] w fun e w' => e = .returned (.tuple #[]) ∧ ∃ T', UniqV w' b g cap n many T' ∧ TInv n (homeN n) T' K ∧ Keeps (fun k => k = g) w w' := by
  have h8 := hl.least
  have hM := hl.most
  have hin := H.lt hi
  have G := H.gap hi hj hK
  have hA := uniqAfterV h hl i hin
  go_enter Try.func55, Try.ntmps55
  go_wp2_with fail
  refine hA.mono ?_
  clear hA
  rintro e w1 ⟨rfl, rfl⟩
  go_wp2
  go_loopw [1, 4] (fun gp iv wr => ∃ (u q : Nat) (U : List (Option Ent)), gp = .int .i64 u ∧ iv = .int .i64 (onBy n u q) ∧ UniqV wr b g cap n many U ∧ Gap n (homeN n) (U.set u none) K u q j ∧ Keeps (fun k => k = g) w wr) (fun _ iv _ => dist n (intOf iv).toNat j)
  case atStart => exact ⟨i, 1, T, rfl, rfl, h, G, Keeps.refl _ _⟩
  case round =>
    clear h H G hi hj hK hin
    obtain ⟨u, q, U, rfl, rfl, h, G, hk⟩ := hrel
    have hlt := G.at_lt
    have hne := G.at_ne
    have hul := G.ltg
    have hqn := G.lt
    have hdq := dist_onBy hul hqn
    have hjl := G.ltj
    have hg : (U.set u none)[onBy n u q]? = U[onBy n u q]? := List.getElem?_set_ne (fun e => hne e.symm)
    obtain ⟨a, ha⟩ : ∃ a, U[onBy n u q]? = some a := ⟨U[onBy n u q]'(by rw [h.len]; exact hlt), List.getElem?_eq_getElem (by rw [h.len]; exact hlt)⟩
    rw [ha] at hg
    have hq := h.place _ a ha
    obtain ⟨c0, c1⟩ := h.cells
    cases a with
    | none =>
      have hT := G.ends hg
      have hv := h.putPlace hul none
      have hkk := hk.and (Keeps.of_setCells (fun k => k = g) g rfl (entCells none) (u * 4) wr)
      obtain ⟨a', ha'⟩ : ∃ a, U[u]? = some a := ⟨U[u]'(by rw [h.len]; exact hul), List.getElem?_eq_getElem (by rw [h.len]; exact hul)⟩
      obtain ⟨p1, p2, hcs⟩ := entCells_form a'
      have hq' := h.place u a' ha'
      rw [hcs] at hq'
      simp only [entCells, List.getElem?_cons_zero, List.getElem?_cons_succ] at hq hq'
      obtain ⟨q0, _, _, _⟩ := hq
      obtain ⟨z0, z1, z2, z3⟩ := hq'
      have y0 := h.freeP (u * 4)
      have y1 := h.freeP (u * 4 + 1)
      have y2 := h.freeP (u * 4 + 2)
      have y3 := h.freeP (u * 4 + 3)
      generalize onBy n u q = N at *
      have hN0 : (0 : Int) ≤ (N : Int) := by omega
      have hN1 : (N : Int) < (n : Int) := by omega
      have hu0 : (0 : Int) ≤ (u : Int) := by omega
      have hu1 : (u : Int) < (n : Int) := by omega
      replace hT := Lib.hid hT
      replace hv := Lib.hid hv
      replace hkk := Lib.hid hkk
      clear h G hk hg ha ha' hcs hdq
      go_wp2
      refine bodyPost_end (v := .tuple #[]) (by simp [results, Try.results55, go_sem]) rfl ?_
      exact ⟨rfl, _, hv.out, hT.out, hkk.out⟩
    | some x =>
      obtain ⟨⟨e1, e2⟩, e3⟩ := x
      have hij : onBy n u q ≠ j := fun h1 => by rw [h1, G.far] at hg; cases hg
      have hmes := dist_next hlt hjl hij
      have hhl := homeN_lt (show 0 < n by omega) (e1, e2)
      have hstay := fun hs => G.stay hg hs
      have hmove := fun hs => G.move hg hs
      have hsucc : q + 1 < n → onBy n (onBy n u q) 1 = onBy n u (q + 1) := fun h1 => onBy_succ hul h1
      simp only [entCells, List.getElem?_cons_zero, List.getElem?_cons_succ] at hq
      obtain ⟨q0, q1, q2, q3⟩ := hq
      simp only at hstay hmove
      clear G
      rw [List.set_set] at hmove
      have hHome : ∀ W, UniqV W b g cap n many U → Calls Try.prog 68 #[.pointer (some ⟨b, 0, none⟩), .agg #[.int .i64 e1, .int .i64 e2]] W fun e w' => e = .returned (.int .i64 (homeN n (e1, e2))) ∧ Below W.heap.size W w' := fun W hW => uniqHomeV hW hl e1 e2
      generalize onBy n u q = N at *
      generalize homeN n (e1, e2) = M at *
      have hN0 : (0 : Int) ≤ (N : Int) := by omega
      have hN1 : (N : Int) < (n : Int) := by omega
      have hu0 : (0 : Int) ≤ (u : Int) := by omega
      have hu1 : (u : Int) < (n : Int) := by omega
      go_wp2_with fail
      refine (hHome _ h).mono ?_
      clear hHome q0 q1 q2 q3 c0 c1
      rintro e w1 ⟨rfl, hb⟩
      replace h := h.below hb
      replace hk := hk.and (Keeps.of_below hb _)
      clear hb
      go_wp2_with fail
      refine (uniqStepsV h hl M N hhl hlt).mono ?_
      rintro e w2 ⟨rfl, rfl⟩
      go_wp2_with fail
      refine (uniqStepsV h hl u N hul hlt).mono ?_
      rintro e w2 ⟨rfl, rfl⟩
      by_cases hs : dist n u N ≤ dist n M N
      · have hsI : (dist n u N : Int) ≤ (dist n M N : Int) := by omega
        have hG := hmove hs
        clear hmove hstay
        have hm2 : dist n (onBy n N 1) j < dist n N j := by omega
        generalize dist n u N = d1 at *
        generalize dist n M N = d2 at *
        replace hm2 := Lib.hid hm2
        replace hG := Lib.hid hG
        replace hk := Lib.hid hk
        have hlu := h.len
        obtain ⟨a', ha'⟩ : ∃ a, U[u]? = some a := ⟨U[u]'(by rw [h.len]; exact hul), List.getElem?_eq_getElem (by rw [h.len]; exact hul)⟩
        have HH := Lib.hid h
        clear h hg hmes hsucc hs hlu
        have Ha := Lib.hid ha
        have Ha' := Lib.hid ha'
        clear ha ha'
        go_wp2
        refine wp_region_quiet_tail (C := fun w' => ∃ u : Sub w1, w' = u.1) 13 (by kernel_rfl) (by kernel_rfl) (InSub.drew w1) ?_
        have x0 : ∀ s : Sub w1, s.1.cell? ⟨b, 0, none⟩ = some (.slice (some ⟨g, 0, none⟩) n cap) := fun s => (HH.out.below s.2).cells.1
        have hq := fun s : Sub w1 => (HH.out.below s.2).place N _ Ha.out
        simp only [entCells, List.getElem?_cons_zero, List.getElem?_cons_succ] at hq
        have r0 := fun s : Sub w1 => (hq s).1
        have r1 := fun s : Sub w1 => (hq s).2.1
        have r2 := fun s : Sub w1 => (hq s).2.2.1
        have r3 := fun s : Sub w1 => (hq s).2.2.2
        clear hq
        simp only [List.take_succ_cons, List.take_zero]
        iterate 13 (go_big_quiet_step (fail))
        refine wpQuiet_nil ?_
        clear x0 r0 r1 r2 r3
        intro w' hw'
        obtain ⟨s, rfl⟩ := hw'
        have hkk := hk.out.and (Keeps.of_below s.2 _)
        have h := HH.out.below s.2
        clear hk HH
        generalize s.1 = W1 at *
        have hv2 := h.putPlace hul (some ((e1, e2), e3))
        have hb2 := hkk.and (Keeps.of_setCells (fun k => k = g) g rfl (entCells (some ((e1, e2), e3))) (u * 4) W1)
        have hAf := uniqAfterV hv2 hl N hlt
        obtain ⟨p1, p2, hcs⟩ := entCells_form a'
        have hq' := h.place u a' Ha'.out
        rw [hcs] at hq'
        simp only [List.getElem?_cons_zero, List.getElem?_cons_succ] at hq'
        obtain ⟨z0, z1, z2, z3⟩ := hq'
        have y0 := h.freeP (u * 4)
        have y1 := h.freeP (u * 4 + 1)
        have y2 := h.freeP (u * 4 + 2)
        have y3 := h.freeP (u * 4 + 3)
        replace hv2 := Lib.hid hv2
        replace hb2 := Lib.hid hb2
        replace hAf := Lib.hid hAf
        clear h hkk hcs
        simp only [List.drop_succ_cons, List.drop_zero]
        go_wp2_with fail
        refine hAf.out.mono ?_
        clear hAf
        rintro e w2 ⟨rfl, rfl⟩
        go_wp2
        exact ⟨⟨N, 1, _, rfl, rfl, hv2.out, hG.out, hb2.out⟩, hm2.out⟩
      · have hsI : ¬ (dist n u N : Int) ≤ (dist n M N : Int) := by omega
        have hG := hstay (by omega)
        have hm2 : dist n (onBy n N 1) j < dist n N j := by omega
        have hnx := hsucc hG.lt
        have hAf := uniqAfterV h hl N hlt
        clear hmove hstay
        generalize dist n u N = d1 at *
        generalize dist n M N = d2 at *
        have hsI2 : ¬ (q : Int) ≤ (d2 : Int) := by omega
        replace hm2 := Lib.hid hm2
        replace hG := Lib.hid hG
        replace hk := Lib.hid hk
        have HH := Lib.hid h
        replace hnx := Lib.hid hnx
        clear h hg hmes hsucc hs ha
        go_wp2_with fail
        refine hAf.mono ?_
        clear hAf
        rintro e w2 ⟨rfl, rfl⟩
        go_wp2
        exact ⟨⟨u, q + 1, U, rfl, by rw [hnx.out], HH.out, hG.out, hk.out⟩, hm2.out⟩

end Go.Proofs.Ytbnjbnjhpccomaa
