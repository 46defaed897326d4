/-
  Texts of this proof, one behind the other: SlotS.
-/
import Derived.Test.YtilcjpaifbcjaaaG10
/-
  The document's slots (layer 16): the rest of its walks.
-/
namespace Go.Proofs.Ytilcjpaifbcjaaa
open Go Go.RowKit

section
variable {w : World} {m g : Nat} {t : Int} {f : SF}

set_option maxRecDepth 100000 in
set_option maxHeartbeats 8000000 in
theorem refSlFind (s : RfS w m g t f) (h : Nat) :
    Calls Try.prog 24 #[.pointer (some ⟨m, 0, none⟩), .int .u64 h] w fun e w' => e = .returned (.int .i64 (f.findI t h)) ∧ Below w.heap.size w w' := by
  generalize hR : f.findI t h = R
  unfold SF.findI at hR
  go_enter Try.func24, Try.ntmps24
  go_wp2
  go_loopw [5] (fun i wr => ∃ n : Nat, n ≤ 16 ∧ i = .int .i64 n ∧ Hid (f.find t h = firstB (SF.has t h f) (16 - n) n) ∧ Below w.heap.size w wr) (fun i _ => 16 - (intOf i).toNat)
  case atStart => exact ⟨0, by omega, rfl, rfl, Below.refl _ _⟩
  case round =>
    obtain ⟨n, hn, rfl, hr, hb⟩ := hrel
    by_cases hlt : n < 16
    · have hs : f.find t h = if SF.has t h f n = true then n else firstB (SF.has t h f) (16 - (n + 1)) (n + 1) := by
        have := hr.out
        rw [show 16 - n = (16 - (n + 1)) + 1 by omega] at this
        exact this
      clear hr
      have s1 := s.below hb
      have c0 : ∀ u : Sub wr, u.1.cell? ⟨m, 0, none⟩ = some (.int .i64 t) := fun u => (s1.below u.2).cell.1
      have c1 : ∀ u : Sub wr, u.1.cell? ⟨m, 1, none⟩ = some (.slice (some ⟨g, 0, none⟩) 16 16) := fun u => (s1.below u.2).cell.2
      have x0 : ∀ u : Sub wr, u.1.cell? ⟨g, n * 3, none⟩ = some (.int .i64 (f n).gen) := fun u => ((s1.below u.2).cells n hlt).1
      have x1 : ∀ u : Sub wr, u.1.cell? ⟨g, n * 3 + 1, none⟩ = some (.bool (f n).held) := fun u => ((s1.below u.2).cells n hlt).2.1
      have hp : ∀ u : Sub wr, Calls Try.prog 22 #[.int .i64 t, .int .i64 (n : Int), .int .i64 (f n).gen] u.1 (fun e w'' => e = .returned (.int .u64 (packN t n (f n).gen)) ∧ ∃ x : Sub wr, w'' = x.1) := fun u => subSame (refHPack t n (f n).gen u.1)
      have hn1 : (n : Int) < 16 := by omega
      have hn0 : (0 : Int) ≤ (n : Int) := by omega
      have hyes : SF.has t h f n = true → R = (n : Int) := fun e => by rw [if_pos e] at hs; rw [← hR, hs, if_pos hlt]
      have hno : SF.has t h f n = false → Hid (f.find t h = firstB (SF.has t h f) (16 - (n + 1)) (n + 1)) := fun e => by rw [if_neg (by rw [e]; decide)] at hs; exact hs
      unfold SF.has at hyes
      rw [show SF.has t h f n = ((f n).held && decide (packN t n (f n).gen = h)) from rfl] at hno
      replace hR := Lib.hid hR
      clear s s1 hs
      generalize packN t n (f n).gen = H at *
      generalize (f n).held = held at *
      generalize (f n).gen = gg at *
      cases held with
      | false =>
        have hN := hno rfl
        clear hyes hno hp x0
        go_wp2
        refine wp_region_quiet_all (C := fun w' => ∃ u : Sub wr, w' = u.1) (by kernel_rfl) (by kernel_rfl) (InSub.drew wr) ?_
        iterate 9 (go_big_quiet_step (fail))
        iterate 16 (go_big_quiet_skip)
        go_big_quiet_step (fail)
        refine wpQuiet_nil ?_
        clear c0 c1 x1
        intro w' hw'
        obtain ⟨u, rfl⟩ := hw'
        have hb2 := hb.trans (u.2.mono hb.size)
        clear hb
        generalize u.1 = w2 at *
        go_wp2
        exact ⟨⟨n + 1, by omega, by go_num, hN, hb2⟩, by simp [intOf]; omega⟩
      | true =>
        generalize hE : decide (H = h) = E at *
        have hE2 : ((H : Int) == (h : Int)) = E := by
          rw [← hE, Bool.eq_iff_iff, beq_iff_eq, decide_eq_true_eq]; omega
        clear hE
        go_wp2
        refine wp_region_quiet_all (C := fun w' => ∃ u : Sub wr, w' = u.1) (by kernel_rfl) (by kernel_rfl) (InSub.drew wr) ?_
        iterate 22 (go_big_quiet_step (fail))
        go_big_quiet_step (exact hp _)
        iterate 3 (go_big_quiet_step (fail))
        refine wpQuiet_nil ?_
        clear c0 c1 x0 x1 hp
        intro w' hw'
        obtain ⟨u, rfl⟩ := hw'
        have hb2 := hb.trans (u.2.mono hb.size)
        clear hb
        generalize u.1 = w2 at *
        cases E with
        | true =>
          have e1 := Lib.hid (hyes rfl)
          clear hyes hno
          go_wp2
          go_ret
          exact ⟨by rw [e1.out]; rfl, hb2⟩
        | false =>
          have hN := hno rfl
          clear hyes hno
          go_wp2
          exact ⟨⟨n + 1, by omega, by go_num, hN, hb2⟩, by simp [intOf]; omega⟩
    · obtain rfl : n = 16 := by omega
      have hs : f.find t h = 16 := hr.out
      have e1 : R = -1 := by rw [← hR, hs]; rfl
      replace e1 := Lib.hid e1
      clear hr hs hR s
      go_wp2
      go_ret
      exact ⟨by rw [e1.out]; rfl, hb⟩

set_option maxRecDepth 100000 in
set_option maxHeartbeats 4000000 in
theorem refSlGet (s : RfS w m g t f) (h : Nat) :
    Calls Try.prog 10 #[.pointer (some ⟨m, 0, none⟩), .int .u64 h] w fun e w' => e = .returned (.tuple #[.int .i64 (f.getV t h), .int .i64 (f.getE t h)]) ∧ Below w.heap.size w w' := by
  have H := refSlFind s h
  unfold SF.findI at H
  unfold SF.getV SF.getE
  by_cases hl : f.find t h < 16
  · rw [if_pos hl] at H
    rw [if_pos hl, if_pos hl]
    have S := fun W (hb : Below w.heap.size w W) => s.below hb
    clear s
    generalize f.find t h = n at *
    have hn1 : (n : Int) < 16 := by omega
    have hn0 : (0 : Int) ≤ (n : Int) := by omega
    go_enter Try.func10, Try.ntmps10
    go_wp2_with fail
    refine H.mono ?_
    rintro e w' ⟨rfl, hb⟩
    have s := S _ hb
    obtain ⟨_, c1⟩ := s.cell
    obtain ⟨_, _, x2⟩ := s.cells n hl
    clear H S s
    go_wp2
    refine bodyPost_ret (results_tmp2 rfl _ _ _) rfl ?_
    exact ⟨rfl, hb⟩
  · rw [if_neg hl] at H
    rw [if_neg hl, if_neg hl]
    clear s hl
    go_enter Try.func10, Try.ntmps10
    go_wp2_with fail
    refine H.mono ?_
    rintro e w' ⟨rfl, hb⟩
    clear H
    go_wp2
    refine bodyPost_ret (results_tmp2 rfl _ _ _) rfl ?_
    exact ⟨rfl, hb⟩

set_option maxRecDepth 100000 in
set_option maxHeartbeats 8000000 in
theorem refSlGrant (s : RfS w m g t f) (v : Int) :
    Calls Try.prog 20 #[.pointer (some ⟨m, 0, none⟩), .int .i64 v] w fun e w' => e = .returned (.tuple #[.int .u64 (f.grantH t), .int .i64 f.grantE]) ∧ RfS w' m g t (f.grant v) ∧ Keeps (only g) w w' := by
  have H := refSlNext s
  unfold SF.nextI at H
  unfold SF.grantH SF.grantE SF.grant
  by_cases hl : f.next < 16
  · rw [if_pos hl] at H
    rw [if_pos hl, if_pos hl, if_pos hl]
    generalize f.next = n at *
    have hn1 : (n : Int) < 16 := by omega
    have hn0 : (0 : Int) ≤ (n : Int) := by omega
    obtain ⟨_, c1⟩ := s.cell
    obtain ⟨_, x1, x2⟩ := s.cells n hl
    have z1 := s.free (n * 3 + 1)
    have z2 := s.free (n * 3 + 2)
    have s2 := (s.setHeld hl true).setVal hl v
    simp only [SF.put_same, put_put'] at s2
    have hk := ((Keeps.of_setCell (only g) w ⟨g, n * 3 + 1, none⟩ (.bool true) rfl).and (Keeps.of_setCell (only g) _ ⟨g, n * 3 + 2, none⟩ (.int .i64 v) rfl))
    have hgm : ¬ m = g := fun e => s.ne e.symm
    replace s2 := Lib.hid s2
    replace hk := Lib.hid hk
    generalize hG : packN t n (f n).gen = G
    replace hG := Lib.hid hG
    clear s
    go_enter Try.func20, Try.ntmps20
    go_wp2_with fail
    refine H.mono ?_
    rintro e w1 ⟨rfl, rfl⟩
    clear H
    go_wp2
    clear c1 x1 x2 z1 z2
    replace s2 := s2.out
    replace hk := hk.out
    generalize (World.setCell _ _ _ : World) = wr at *
    have c0 : ∀ u : Sub wr, u.1.cell? ⟨m, 0, none⟩ = some (.int .i64 t) := fun u => (s2.below u.2).cell.1
    have c1 : ∀ u : Sub wr, u.1.cell? ⟨m, 1, none⟩ = some (.slice (some ⟨g, 0, none⟩) 16 16) := fun u => (s2.below u.2).cell.2
    have x0 : ∀ u : Sub wr, u.1.cell? ⟨g, n * 3, none⟩ = some (.int .i64 (f n).gen) := fun u => by
      have := ((s2.below u.2).cells n hl).1
      rwa [SF.put_same] at this
    have hp : ∀ u : Sub wr, Calls Try.prog 22 #[.int .i64 t, .int .i64 (n : Int), .int .i64 (f n).gen] u.1 (fun e w'' => e = .returned (.int .u64 (packN t n (f n).gen)) ∧ ∃ x : Sub wr, w'' = x.1) := fun u => subSame (refHPack t n (f n).gen u.1)
    rw [hG.out] at hp
    replace s2 := Lib.hid s2
    replace hk := Lib.hid hk
    refine wp_region_quiet_all (C := fun w' => ∃ u : Sub wr, w' = u.1) (by kernel_rfl) (by kernel_rfl) (InSub.drew wr) ?_
    iterate 13 (go_big_quiet_step (fail))
    go_big_quiet_step (exact hp _)
    iterate 2 (go_big_quiet_step (fail))
    refine wpQuiet_nil ?_
    clear c0 c1 x0 hp
    intro w' hw'
    obtain ⟨u, rfl⟩ := hw'
    go_wp2
    refine bodyPost_ret (results_tmp2 rfl _ _ _) rfl ?_
    exact ⟨rfl, s2.out.below u.2, hk.out.and (Keeps.of_below u.2 _)⟩
  · rw [if_neg hl] at H
    rw [if_neg hl, if_neg hl, if_neg hl]
    replace s := Lib.hid s
    clear hl
    go_enter Try.func20, Try.ntmps20
    go_wp2_with fail
    refine H.mono ?_
    rintro e w1 ⟨rfl, rfl⟩
    clear H
    go_wp2
    refine bodyPost_ret (results_tmp2 rfl _ _ _) rfl ?_
    exact ⟨rfl, s.out, Keeps.refl _ _⟩

set_option maxRecDepth 100000 in
set_option maxHeartbeats 4000000 in
theorem refSlRelease (s : RfS w m g t f) (ok : f.Ok) (h : Nat) :
    Calls Try.prog 13 #[.pointer (some ⟨m, 0, none⟩), .int .u64 h] w fun e w' => e = .returned (.int .i64 (f.getE t h)) ∧ RfS w' m g t (f.rel t h) ∧ Keeps (only g) w w' := by
  have H := refSlFind s h
  unfold SF.findI at H
  unfold SF.rel SF.getE
  by_cases hl : f.find t h < 16
  · rw [if_pos hl] at H
    rw [if_pos hl, if_pos hl]
    have G := fun W (hb : Below w.heap.size w W) => refSlGo (s.below hb) _ hl (ok.low _ hl) (ok.top _ hl)
    clear s ok
    generalize f.find t h = n at *
    have hn1 : (n : Int) < 16 := by omega
    have hn0 : (0 : Int) ≤ (n : Int) := by omega
    go_enter Try.func13, Try.ntmps13
    go_wp2_with fail
    refine H.mono ?_
    rintro e w1 ⟨rfl, hb⟩
    have g1 := G _ hb
    clear H G
    go_wp2_with fail
    refine g1.mono ?_
    rintro e w2 ⟨rfl, s2, hk⟩
    clear g1
    replace s2 := Lib.hid s2
    replace hk := Lib.hid ((Keeps.of_below hb _).and hk)
    go_wp2
    go_ret
    exact ⟨rfl, s2.out, hk.out⟩
  · rw [if_neg hl] at H
    rw [if_neg hl, if_neg hl]
    have S := Lib.hid fun W (hb : Below w.heap.size w W) => s.below hb
    clear s hl
    go_enter Try.func13, Try.ntmps13
    go_wp2_with fail
    refine H.mono ?_
    rintro e w1 ⟨rfl, hb⟩
    clear H
    go_wp2
    go_ret
    exact ⟨rfl, S.out _ hb, Keeps.of_below hb _⟩

set_option maxRecDepth 100000 in
set_option maxHeartbeats 4000000 in
theorem refSlClear (s : RfS w m g t f) (ok : f.Ok) :
    Calls Try.prog 15 #[.pointer (some ⟨m, 0, none⟩)] w fun e w' => e = .returned (.tuple #[]) ∧ RfS w' m g t f.clear ∧ Keeps (only g) w w' := by
  have hstart : f.upd (f.upto 0) f.goes = f := SF.upd_none f _ _ SF.upto_zero
  have hat : ∀ n, f.upd (f.upto n) f.goes n = f n := fun n => if_neg fun h => Nat.lt_irrefl _ h.1
  have hskip : ∀ n, (f n).held = false → f.upd (f.upto n) f.goes = f.upd (f.upto (n + 1)) f.goes := fun n hh => (SF.upd_congr f _ _ _ fun j => SF.upto_skip hh j)
  have hround : ∀ n, n < 16 → (f n).held = true → ∀ W, RfS W m g t (f.upd (f.upto n) f.goes) → Calls Try.prog 26 #[.pointer (some ⟨m, 0, none⟩), .int .i64 (n : Int)] W fun e w' => e = .returned (.tuple #[]) ∧ RfS w' m g t (f.upd (f.upto (n + 1)) f.goes) ∧ Keeps (only g) W w' := fun n hn hh W hW => by
    have hg := refSlGo hW n hn (by rw [hat]; exact ok.low _ hn) (by rw [hat]; exact ok.top _ hn)
    rw [hat, show (f n).go = f.goes n from rfl, SF.upd_put f _ _ f.goes _ (SF.upto_succ hh)] at hg
    exact hg
  have s0 : RfS w m g t (f.upd (f.upto 0) f.goes) := by rw [hstart]; exact s
  unfold SF.clear
  clear ok s hstart
  generalize f.goes = G at *
  generalize hU : (fun k : Nat => f.upd (f.upto k) G) = U at *
  have hU2 : ∀ k, f.upd (f.upto k) G = U k := fun k => by rw [← hU]
  simp only [hU2] at *
  clear hU2 hU
  go_enter Try.func15, Try.ntmps15
  go_wp2
  go_loopw [2] (fun i wr => ∃ n : Nat, n ≤ 16 ∧ i = .int .i64 n ∧ RfS wr m g t (U n) ∧ Keeps (only g) w wr) (fun i _ => 16 - (intOf i).toNat)
  case atStart => exact ⟨0, by omega, rfl, s0, Keeps.refl _ _⟩
  case round =>
    obtain ⟨n, hn, rfl, sn, hK⟩ := hrel
    clear s0
    by_cases hlt : n < 16
    · obtain ⟨_, c1⟩ := sn.cell
      obtain ⟨_, x1, _⟩ := sn.cells n hlt
      rw [hat] at x1
      have HG := hround n hlt
      have hsk := hskip n
      have hn1 : (n : Int) < 16 := by omega
      have hn0 : (0 : Int) ≤ (n : Int) := by omega
      clear hround hskip hat
      generalize (f n).held = held at *
      cases held with
      | true =>
        have hg2 := HG rfl _ sn
        clear HG hsk sn
        go_wp2_with fail
        refine hg2.mono ?_
        rintro e w2 ⟨rfl, s2, hk2⟩
        clear hg2 c1 x1
        have hK2 := hK.and hk2
        clear hK hk2
        go_wp2
        exact ⟨⟨n + 1, by omega, by go_num, s2, hK2⟩, by simp [intOf]; omega⟩
      | false =>
        rw [hsk rfl] at sn
        clear HG hsk
        replace sn := Lib.hid sn
        go_wp2
        exact ⟨⟨n + 1, by omega, by go_num, sn.out, hK⟩, by simp [intOf]; omega⟩
    · obtain rfl : n = 16 := by omega
      clear hround hskip hat
      replace sn := Lib.hid sn
      replace hK := Lib.hid hK
      go_wp2
      exact bodyPost_end (v := .tuple #[]) (by simp [results, Try.results15, go_sem]) rfl ⟨rfl, sn.out, hK.out⟩

set_option maxRecDepth 100000 in
set_option maxHeartbeats 4000000 in
theorem refSlVals (s : RfS w m g t f) :
    Calls Try.prog 16 #[.pointer (some ⟨m, 0, none⟩)] w fun e w' => ∃ v, e = .returned v ∧ NRel encI w f.vals v w' := by
  have hv : f.vals = (f.heldsN 16).map fun i : Nat => (f i).val := rfl
  rw [hv]
  clear hv
  go_enter Try.func16, Try.ntmps16
  go_wp2
  go_loopw [3, 4] (fun vo i wr => ∃ n : Nat, n ≤ 16 ∧ i = .int .i64 n ∧ NRel encI w ((f.heldsN n).map fun i : Nat => (f i).val) vo wr) (fun _ i _ => 16 - (intOf i).toNat)
  case atStart => exact ⟨0, by omega, rfl, NRel.start _ (Below.refl _ _)⟩
  case round =>
    obtain ⟨n, hn, rfl, R⟩ := hrel
    by_cases hlt : n < 16
    · have s1 := s.below R.below
      obtain ⟨_, c1⟩ := s1.cell
      obtain ⟨_, x1, x2⟩ := s1.cells n hlt
      have hs : (f.heldsN (n + 1)).map (fun i : Nat => (f i).val) = (f.heldsN n).map (fun i : Nat => (f i).val) ++ (if (f n).held = true then [(f n).val] else []) := by
        rw [SF.heldsN_succ, List.map_append]
        cases (f n).held <;> rfl
      have hll : ((f.heldsN n).map fun i : Nat => (f i).val).length ≤ n := by rw [List.length_map]; exact f.heldsN_length n
      have hn1 : (n : Int) < 16 := by omega
      have hn0 : (0 : Int) ≤ (n : Int) := by omega
      clear s s1
      generalize (f n).held = held at *
      generalize (f n).val = x at *
      generalize (f.heldsN n).map (fun i : Nat => (f i).val) = out at *
      replace hs := Lib.hid hs
      cases held with
      | true =>
        have hA := R.own.alloc (.cells #[.int .i64 x] 3)
        have hsrc := oneI wr x wr.heap.size rfl
        have hln : out.length + [x].length ≤ 1000000 := by simp; omega
        go_wp2_with (at_builtin; refine appendI rfl (.tmp 17) (.tmp 26) rfl _ _ out [x] rfl hA rfl hsrc hln ?_; intro v' w2 hown hgr hat)
        exact ⟨⟨n + 1, by omega, by go_num, by rw [hs.out, if_pos rfl]; exact R.push _ hown hgr hat⟩, by simp [intOf]; omega⟩
      | false =>
        go_wp2
        exact ⟨⟨n + 1, by omega, by go_num, by rw [hs.out, if_neg Bool.false_ne_true, List.append_nil]; exact R⟩, by simp [intOf]; omega⟩
    · obtain rfl : n = 16 := by omega
      clear s
      go_wp2
      go_ret
      exact ⟨_, rfl, R⟩

set_option maxRecDepth 100000 in
set_option maxHeartbeats 4000000 in
theorem refSlHandles (s : RfS w m g t f) :
    Calls Try.prog 32 #[.pointer (some ⟨m, 0, none⟩)] w fun e w' => ∃ v, e = .returned v ∧ NRel encU w (f.hands t) v w' := by
  have hv : f.hands t = (f.heldsN 16).map fun i : Nat => packN t i (f i).gen := rfl
  rw [hv]
  clear hv
  go_enter Try.func32, Try.ntmps32
  go_wp2
  go_loopw [3, 4] (fun vo i wr => ∃ n : Nat, n ≤ 16 ∧ i = .int .i64 n ∧ NRel encU w ((f.heldsN n).map fun i : Nat => packN t i (f i).gen) vo wr) (fun _ i _ => 16 - (intOf i).toNat)
  case atStart => exact ⟨0, by omega, rfl, NRel.start _ (Below.refl _ _)⟩
  case round =>
    obtain ⟨n, hn, rfl, R⟩ := hrel
    by_cases hlt : n < 16
    · have s1 := s.below R.below
      obtain ⟨c0, c1⟩ := s1.cell
      obtain ⟨x0, x1, _⟩ := s1.cells n hlt
      have hs : (f.heldsN (n + 1)).map (fun i : Nat => packN t i (f i).gen) = (f.heldsN n).map (fun i : Nat => packN t i (f i).gen) ++ (if (f n).held = true then [packN t n (f n).gen] else []) := by
        rw [SF.heldsN_succ, List.map_append]
        cases (f n).held <;> rfl
      have hll : ((f.heldsN n).map fun i : Nat => packN t i (f i).gen).length ≤ n := by rw [List.length_map]; exact f.heldsN_length n
      have hp := refHPack t n (f n).gen
      have hn1 : (n : Int) < 16 := by omega
      have hn0 : (0 : Int) ≤ (n : Int) := by omega
      clear s s1
      generalize packN t n (f n).gen = x at *
      generalize (f n).held = held at *
      generalize (f n).gen = gg at *
      generalize (f.heldsN n).map (fun i : Nat => packN t i (f i).gen) = out at *
      replace hs := Lib.hid hs
      cases held with
      | true =>
        have hln : out.length + [x].length ≤ 1000000 := by simp; omega
        have d0 : ∀ u : Sub wr, u.1.cell? ⟨m, 0, none⟩ = some (.int .i64 t) := fun u => (u.2.cell (p := ⟨m, 0, none⟩) (block_lt_of_cell c0)).trans c0
        have d1 : ∀ u : Sub wr, u.1.cell? ⟨m, 1, none⟩ = some (.slice (some ⟨g, 0, none⟩) 16 16) := fun u => (u.2.cell (p := ⟨m, 1, none⟩) (block_lt_of_cell c1)).trans c1
        have y0 : ∀ u : Sub wr, u.1.cell? ⟨g, n * 3, none⟩ = some (.int .i64 gg) := fun u => (u.2.cell (p := ⟨g, n * 3, none⟩) (block_lt_of_cell x0)).trans x0
        go_wp2
        refine wp_region_move_tail (C := fun w' => ∃ u : Sub wr, w' = u.1) 14 (.tmp 3) rfl rfl (by kernel_rfl) (by kernel_rfl) (fun _ _ _ _ h => h) (InSub.drew wr) ?_
        simp only [List.take_succ_cons, List.take_zero, List.drop_succ_cons, List.drop_zero, Act.put, Act.eval, List.setIfInBounds_toArray, List.set_cons_zero, List.set_cons_succ]
        iterate 13 (go_big_quiet_step (fail))
        go_big_quiet_step (exact subSame (hp _))
        refine wpQuiet_nil ?_
        clear c0 c1 x0 x1 d0 d1 y0 hp
        intro w' hw'
        obtain ⟨u, rfl⟩ := hw'
        have R1 := R.later u.2
        clear R
        generalize u.1 = w5 at *
        have hA := R1.own.alloc (.cells #[.int .u64 x] 29)
        have hsrc := oneU w5 x w5.heap.size rfl
        go_wp2_with (at_builtin; refine appendU rfl (.tmp 17) (.tmp 32) rfl _ _ out [x] rfl hA rfl hsrc hln ?_; intro v' w2 hown hgr hat)
        exact ⟨⟨n + 1, by omega, by go_num, by rw [hs.out, if_pos trivial]; exact R1.push _ hown hgr hat⟩, by simp [intOf]; omega⟩
      | false =>
        clear hp
        go_wp2
        exact ⟨⟨n + 1, by omega, by go_num, by rw [hs.out, if_neg Bool.false_ne_true, List.append_nil]; exact R⟩, by simp [intOf]; omega⟩
    · obtain rfl : n = 16 := by omega
      clear s
      go_wp2
      go_ret
      exact ⟨_, rfl, R⟩

set_option maxRecDepth 100000 in
set_option maxHeartbeats 8000000 in
theorem refSlLay (s : RfS w m g t f) (l : List Int) (v : Value) (hv : Reads encI w v l) (hne : ∀ ad n c, v = .slice (some ad) n c → ad.block ≠ g) (hl : l.length ≤ 1000000) :
    Calls Try.prog 18 #[.pointer (some ⟨m, 0, none⟩), v] w fun e w' => e = .returned (.int .i64 (f.layE l)) ∧ RfS w' m g t (f.lay l) ∧ Keeps (only g) w w' := by
  have HV := fun W (hb : Below w.heap.size w W) => refSlVals (s.below hb)
  have hvl : f.vals.length = f.helds.length := List.length_map _
  have hlen : f.helds.length ≤ 16 := f.heldsN_length 16
  unfold SF.lay SF.layE
  obtain ⟨av, cv, rfl⟩ := hv.form
  by_cases he : l.length = f.helds.length
  · rw [if_pos he, if_pos he]
    have hstart : f.upd (f.upto 0) (f.lays l) = f := SF.upd_none f _ _ SF.upto_zero
    have hat : ∀ n, f.upd (f.upto n) (f.lays l) n = f n := fun n => if_neg fun h => Nat.lt_irrefl _ h.1
    have hskip : ∀ n, (f n).held = false → f.upd (f.upto n) (f.lays l) = f.upd (f.upto (n + 1)) (f.lays l) ∧ f.rank (n + 1) = f.rank n := fun n hh => ⟨(SF.upd_congr f _ _ _ fun j => SF.upto_skip hh j), by unfold SF.rank; rw [SF.heldsN_succ, hh]; simp⟩
    have hround : ∀ n, n < 16 → (f n).held = true → f.rank (n + 1) = f.rank n + 1 ∧ f.rank n < l.length ∧ ∀ W, RfS W m g t (f.upd (f.upto n) (f.lays l)) → RfS (W.setCell ⟨g, n * 3 + 2, none⟩ (.int .i64 (l.getD (f.rank n) 0))) m g t (f.upd (f.upto (n + 1)) (f.lays l)) := fun n hn hh => by
      have h1 := SF.helds_rank hn hh
      refine ⟨by unfold SF.rank; rw [SF.heldsN_succ, if_pos hh]; simp, by rw [he]; exact (List.getElem?_eq_some_iff.1 h1).1, fun W hW => ?_⟩
      have hg := hW.setVal hn (l.getD (f.rank n) 0)
      rw [hat, show (⟨(f n).gen, (f n).held, l.getD (f.rank n) 0⟩ : Slo) = f.lays l n from rfl, SF.upd_put f _ _ (f.lays l) _ (SF.upto_succ hh)] at hg
      exact hg
    have s0 : RfS w m g t (f.upd (f.upto 0) (f.lays l)) := by rw [hstart]; exact s
    have hr0 : f.rank 0 = 0 := rfl
    clear s hstart
    generalize f.lays l = G at *
    generalize hU : (fun k : Nat => f.upd (f.upto k) G) = U at *
    have hU2 : ∀ k, f.upd (f.upto k) G = U k := fun k => by rw [← hU]
    simp only [hU2] at *
    clear hU2 hU
    generalize hrk : (fun n : Nat => f.rank n) = rk at *
    have hrk2 : ∀ n, f.rank n = rk n := fun n => by rw [← hrk]
    simp only [hrk2] at *
    clear hrk2 hrk
    have hm0 := s0.ltm
    have hgm := s0.ne
    have heI : ((l.length : Int) != (f.vals.length : Int)) = false := by rw [hvl, he]; exact bne_self_eq_false _
    replace he := Lib.hid he
    replace hvl := Lib.hid hvl
    go_enter Try.func18, Try.ntmps18
    go_wp2_with fail
    refine (HV w (Below.refl _ _)).mono ?_
    rintro e w1 ⟨vL, rfl, RL⟩
    clear HV
    have s1 := s0.below RL.below
    have hv1 := hv.keep RL.below
    have hb1 := RL.below
    obtain ⟨a, cap, rfl, _⟩ := RL.own.form
    generalize f.vals = vs at *
    clear RL s0 hv
    go_wp2
    go_loopw [5, 6] (fun ki i wr => ∃ n : Nat, n ≤ 16 ∧ i = .int .i64 n ∧ ki = .int .i64 (rk n) ∧ rk n ≤ n ∧ RfS wr m g t (U n) ∧ Keeps (only g) w1 wr) (fun _ i _ => 16 - (intOf i).toNat)
    case atStart => exact ⟨0, by omega, rfl, by rw [hr0]; rfl, by omega, s1, Keeps.refl _ _⟩
    case round =>
      obtain ⟨n, hn, rfl, rfl, hrn, sn, hK⟩ := hrel
      clear s1
      by_cases hlt : n < 16
      · obtain ⟨_, c1⟩ := sn.cell
        obtain ⟨_, x1, x2⟩ := sn.cells n hlt
        rw [hat] at x1 x2
        have HG := hround n hlt
        have hsk := hskip n
        have hn1 : (n : Int) < 16 := by omega
        have hn0 : (0 : Int) ≤ (n : Int) := by omega
        clear hround hskip hat
        generalize (f n).held = held at *
        cases held with
        | true =>
          obtain ⟨hr1, hr2, hG⟩ := HG rfl
          have hg2 := hG _ sn
          obtain ⟨ad, rfl, cx⟩ := (hv1.stay hK (fun ad n c e hf => hne ad n c e hf)).intAt (rk n) hr2
          have z2 := sn.free (n * 3 + 2)
          have hK2 := hK.and (Keeps.of_setCell (only g) wr ⟨g, n * 3 + 2, none⟩ (.int .i64 (l.getD (rk n) 0)) rfl)
          have hgd : l.getD (rk n) 0 = l[rk n] := by rw [List.getD, List.getElem?_eq_getElem hr2, Option.getD_some]
          rw [hgd] at hg2 hK2
          clear HG hsk hG sn hK hv1 hne hgd
          generalize l[rk n] = x at *
          generalize (f n).val = y at *
          have hg3 := Lib.hid (hg2.below (Below.refl _ _).drew)
          have hK3 := Lib.hid (hK2.and (Keeps.of_drew _ _))
          generalize hk : rk n = k at *
          have hk0 : (0 : Int) ≤ (k : Int) := by omega
          have hk2 : (k : Int) < (l.length : Int) := by omega
          have hk3 : (k : Int) ≤ 16 := by omega
          replace hr1 := Lib.hid hr1
          clear hg2 hK2 he hk
          go_wp2
          go_region
          go_wp2
          exact ⟨⟨n + 1, by omega, by go_num, by rw [hr1.out]; go_num, by rw [hr1.out]; omega, hg3.out, hK3.out⟩, by simp [intOf]; omega⟩
        | false =>
          obtain ⟨e1, e2⟩ := hsk rfl
          rw [e1] at sn
          replace sn := Lib.hid sn
          replace e2 := Lib.hid e2
          clear HG hsk e1 hv1 hne
          go_wp2
          exact ⟨⟨n + 1, by omega, by go_num, by rw [e2.out], by rw [e2.out]; omega, sn.out, hK⟩, by simp [intOf]; omega⟩
      · obtain rfl : n = 16 := by omega
        clear hround hskip hat hv1 hne
        replace sn := Lib.hid sn
        replace hK := Lib.hid ((Keeps.of_below hb1 _).and hK)
        go_wp2
        go_ret
        exact ⟨rfl, sn.out, hK.out⟩
  · rw [if_neg he, if_neg he]
    have S := Lib.hid fun W (hb : Below w.heap.size w W) => s.below hb
    have HV0 := HV w (Below.refl _ _)
    have heI : ((l.length : Int) != (f.vals.length : Int)) = true := by rw [bne_iff_ne, hvl]; omega
    clear s hne HV
    go_enter Try.func18, Try.ntmps18
    go_wp2_with fail
    refine HV0.mono ?_
    rintro e w1 ⟨vL, rfl, RL⟩
    clear HV0
    obtain ⟨a, cap, rfl, _⟩ := RL.own.form
    have hb := RL.below
    generalize f.vals = vs at *
    clear RL hv
    go_wp2
    go_ret
    exact ⟨rfl, S.out _ hb, Keeps.of_below hb _⟩
end

end Go.Proofs.Ytilcjpaifbcjaaa
