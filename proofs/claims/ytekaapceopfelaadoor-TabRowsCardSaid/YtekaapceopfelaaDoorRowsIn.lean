/-
  The law TabRows, walked, at a row.
-/
import Derived.Test.YtekaapceopfelaaDoorRowsL
namespace Go.Proofs.YtekaapceopfelaaDoor
open Go Go.RowKit
attribute [local go_sem] run_eql_fv run_neq_fv run_guard_fv

theorem at_and (f g : Fn) (n : Nat) (h : n < 256) : atF (f &&& g) n = (atF f n && atF g n) := by simp only [atF_nat _ _ h, BitVec.getLsbD_and]
theorem at_or (f g : Fn) (n : Nat) (h : n < 256) : atF (f ||| g) n = (atF f n || atF g n) := by simp only [atF_nat _ _ h, BitVec.getLsbD_or]
theorem at_xor (f g : Fn) (n : Nat) (h : n < 256) : atF (f ^^^ g) n = (atF f n != atF g n) := by simp only [atF_nat _ _ h, BitVec.getLsbD_xor]
theorem at_not (f : Fn) (n : Nat) (h : n < 256) : atF (~~~f) n = !(atF f n) := by simp [atF_nat _ _ h, h]
theorem at_var (m n : Nat) (hm : m < 8) (h : n < 256) : atF (varAny m) n = n.testBit m := by
  rw [atF_nat _ _ h, varAny, if_pos (by omega), Int.toNat_natCast, varF, ofRow_bit _ _ h]

set_option maxRecDepth 100000 in
set_option maxHeartbeats 8000000 in
theorem tabRows_in (f g k : Fn) (v : Int) (n : Nat) (w : World) (hl : LowW w) (hn : n < 256) :
    Calls Tryd.prog 4 #[fv f, fv g, fv k, .int .i64 v, .int .i64 n] w fun e w' => e = .returned (.bool true) ∧ Below w.heap.size w w' := by
  simp only [fv]
  go_enter Tryd.func4, Tryd.ntmps4
  go_wp2_with fail
  have h0 : Holds (((w.alloc (.cells #[.int .u64 (wd f 0), .int .u64 (wd f 1), .int .u64 (wd f 2), .int .u64 (wd f 3)] 24)).alloc (.cells #[.int .u64 (wd g 0), .int .u64 (wd g 1), .int .u64 (wd g 2), .int .u64 (wd g 3)] 24)).alloc (.cells #[.int .u64 (wd k 0), .int .u64 (wd k 1), .int .u64 (wd k 2), .int .u64 (wd k 3)] 24)) w.heap.size f := ((Holds.new _ _ _).alloc _).alloc _
  have h1 : Holds (((w.alloc (.cells #[.int .u64 (wd f 0), .int .u64 (wd f 1), .int .u64 (wd f 2), .int .u64 (wd f 3)] 24)).alloc (.cells #[.int .u64 (wd g 0), .int .u64 (wd g 1), .int .u64 (wd g 2), .int .u64 (wd g 3)] 24)).alloc (.cells #[.int .u64 (wd k 0), .int .u64 (wd k 1), .int .u64 (wd k 2), .int .u64 (wd k 3)] 24)) (w.heap.size + 1) g := (Holds.new _ _ _).alloc _
  have h2 : Holds (((w.alloc (.cells #[.int .u64 (wd f 0), .int .u64 (wd f 1), .int .u64 (wd f 2), .int .u64 (wd f 3)] 24)).alloc (.cells #[.int .u64 (wd g 0), .int .u64 (wd g 1), .int .u64 (wd g 2), .int .u64 (wd g 3)] 24)).alloc (.cells #[.int .u64 (wd k 0), .int .u64 (wd k 1), .int .u64 (wd k 2), .int .u64 (wd k 3)] 24)) (w.heap.size + 1 + 1) k := Holds.new _ _ _
  have hb : Below w.heap.size w (((w.alloc (.cells #[.int .u64 (wd f 0), .int .u64 (wd f 1), .int .u64 (wd f 2), .int .u64 (wd f 3)] 24)).alloc (.cells #[.int .u64 (wd g 0), .int .u64 (wd g 1), .int .u64 (wd g 2), .int .u64 (wd g 3)] 24)).alloc (.cells #[.int .u64 (wd k 0), .int .u64 (wd k 1), .int .u64 (wd k 2), .int .u64 (wd k 3)] 24)) := by go_grown
  generalize (((w.alloc (.cells #[.int .u64 (wd f 0), .int .u64 (wd f 1), .int .u64 (wd f 2), .int .u64 (wd f 3)] 24)).alloc (.cells #[.int .u64 (wd g 0), .int .u64 (wd g 1), .int .u64 (wd g 2), .int .u64 (wd g 3)] 24)).alloc (.cells #[.int .u64 (wd k 0), .int .u64 (wd k 1), .int .u64 (wd k 2), .int .u64 (wd k 3)] 24)) = W0 at *
  refine (up _ (hl.keep hb)).mono ?_
  rintro e W1 ⟨rfl, hb1⟩
  replace h0 := h0.keep hb1 h0.lt
  replace h1 := h1.keep hb1 h1.lt
  replace h2 := h2.keep hb1 h2.lt
  replace hb := hb.trans (hb1.mono hb.size)
  clear hb1
  obtain ⟨c0, c1, c2, c3⟩ := h0.cells
  go_wp2_with fail
  clear c0 c1 c2 c3
  refine (tabAt f n _).mono ?_
  rintro e W2 ⟨rfl, hb1⟩
  replace h0 := h0.keep hb1 h0.lt
  replace h1 := h1.keep hb1 h1.lt
  replace h2 := h2.keep hb1 h2.lt
  replace hb := hb.trans (hb1.mono hb.size)
  clear hb1
  obtain ⟨c0, c1, c2, c3⟩ := h1.cells
  go_wp2_with fail
  clear c0 c1 c2 c3
  refine (tabAt g n _).mono ?_
  rintro e W3 ⟨rfl, hb1⟩
  replace h0 := h0.keep hb1 h0.lt
  replace h1 := h1.keep hb1 h1.lt
  replace h2 := h2.keep hb1 h2.lt
  replace hb := hb.trans (hb1.mono hb.size)
  clear hb1
  obtain ⟨c0, c1, c2, c3⟩ := h2.cells
  go_wp2_with fail
  clear c0 c1 c2 c3
  refine (tabAt k n _).mono ?_
  rintro e W ⟨rfl, hb1⟩
  replace h0 := h0.keep hb1 h0.lt
  replace h1 := h1.keep hb1 h1.lt
  replace h2 := h2.keep hb1 h2.lt
  replace hb := hb.trans (hb1.mono hb.size)
  clear hb1
  have hlW : ∀ u : Sub W, LowW u.1 := fun u => hl.keep (hb.trans (u.2.mono hb.size))
  go_wp2
  have c0 : ∀ u : Sub W, u.1.cell? ⟨w.heap.size, 0, none⟩ = some (.int .u64 (wd f 0)) := fun u => (h0.sub u).cells.1
  have c1 : ∀ u : Sub W, u.1.cell? ⟨w.heap.size, 1, none⟩ = some (.int .u64 (wd f 1)) := fun u => (h0.sub u).cells.2.1
  have c2 : ∀ u : Sub W, u.1.cell? ⟨w.heap.size, 2, none⟩ = some (.int .u64 (wd f 2)) := fun u => (h0.sub u).cells.2.2.1
  have c3 : ∀ u : Sub W, u.1.cell? ⟨w.heap.size, 3, none⟩ = some (.int .u64 (wd f 3)) := fun u => (h0.sub u).cells.2.2.2
  have d0 : ∀ u : Sub W, u.1.cell? ⟨w.heap.size + 1, 0, none⟩ = some (.int .u64 (wd g 0)) := fun u => (h1.sub u).cells.1
  have d1 : ∀ u : Sub W, u.1.cell? ⟨w.heap.size + 1, 1, none⟩ = some (.int .u64 (wd g 1)) := fun u => (h1.sub u).cells.2.1
  have d2 : ∀ u : Sub W, u.1.cell? ⟨w.heap.size + 1, 2, none⟩ = some (.int .u64 (wd g 2)) := fun u => (h1.sub u).cells.2.2.1
  have d3 : ∀ u : Sub W, u.1.cell? ⟨w.heap.size + 1, 3, none⟩ = some (.int .u64 (wd g 3)) := fun u => (h1.sub u).cells.2.2.2
  refine wp_region_quiet_all (C := fun w' => ∃ u : Sub W, w' = u.1) (by kernel_rfl) (by kernel_rfl) (InSub.drew W) ?_
  go_big_quiet_step (fail)
  go_big_quiet_step (exact sub_below (tabNot f _))
  go_big_quiet_step (exact sub_below (tabNotNot f _))
  go_big_quiet_step (fail)
  simp only [fv_fold]
  go_big_quiet_step (fail)
  go_big_quiet_step (fail)
  go_big_quiet_step (fail)
  go_big_quiet_step (exact sub_below (tabVar v _ (hlW _)))
  go_big_quiet_step (fail)
  go_big_quiet_step (fail)
  go_big_quiet_step (exact sub_below (tabIteSame (varAny v) f _))
  go_big_quiet_step (fail)
  simp only [fv_fold]
  go_big_quiet_step (fail)
  go_big_quiet_step (fail)
  go_big_quiet_step (fail)
  go_big_quiet_step (fail)
  go_big_quiet_step (fail)
  go_big_quiet_step (exact sub_below (tabAnd f g _))
  go_big_quiet_step (exact sub_below (tabNot (f &&& g) _))
  go_big_quiet_step (fail)
  go_big_quiet_step (exact sub_below (tabNot f _))
  go_big_quiet_step (fail)
  go_big_quiet_step (exact sub_below (tabNot g _))
  go_big_quiet_step (exact sub_below (tabOrNots f g _))
  go_big_quiet_step (fail)
  go_big_quiet_step (fail)
  go_big_quiet_step (fail)
  go_big_quiet_step (fail)
  go_big_quiet_step (fail)
  go_big_quiet_step (exact sub_below (tabXor f g _))
  go_big_quiet_step (fail)
  go_big_quiet_step (fail)
  go_big_quiet_step (exact sub_below (tabNot g _))
  go_big_quiet_step (fail)
  go_big_quiet_step (exact sub_below (tabIteXor f g _))
  go_big_quiet_step (fail)
  go_big_quiet_step (fail)
  refine wpQuiet_nil ?_
  clear c0 c1 c2 c3 d0 d1 d2 d3
  intro w' hw'
  obtain ⟨u, rfl⟩ := hw'
  replace h0 := h0.sub u
  replace h1 := h1.sub u
  replace h2 := h2.sub u
  replace hb := hb.trans (u.2.mono hb.size)
  clear hlW
  generalize u.1 = V at *
  have e1 := at_and f g n hn
  have e2 := at_or f g n hn
  have e3 := at_xor f g n hn
  have e4 := at_not f n hn
  have e5 := at_or (f &&& g) (~~~f &&& k) n hn
  rw [at_and _ _ n hn, at_and _ _ n hn, at_not f n hn] at e5
  have hn0 : (0 : Int) ≤ (n : Int) := by omega
  have hn1 : (n : Int) < 256 := by omega
  cases ha : atF f n <;> cases hg : atF g n <;> cases hk : atF k n
  all_goals
    rw [ha, hg] at e1 e2 e3
    rw [ha] at e4
    rw [ha, hg, hk] at e5
    simp only [Bool.and_true, Bool.and_false, Bool.or_true, Bool.or_false, Bool.not_true, Bool.not_false, bne_self_eq_false, Bool.bne_true, Bool.bne_false] at e1 e2 e3 e4 e5
    obtain ⟨c0, c1, c2, c3⟩ := h0.cells
    obtain ⟨d0, d1, d2, d3⟩ := h1.cells
    obtain ⟨x0, x1, x2, x3⟩ := h2.cells
    go_wp2_with fail
    clear c0 c1 c2 c3 d0 d1 d2 d3 x0 x1 x2 x3
    refine (tabAnd f g _).mono ?_
    rintro e V1 ⟨rfl, hb1⟩
    replace h0 := h0.keep hb1 h0.lt
    replace h1 := h1.keep hb1 h1.lt
    replace h2 := h2.keep hb1 h2.lt
    replace hb := hb.trans (hb1.mono hb.size)
    clear hb1
    obtain ⟨c0, c1, c2, c3⟩ := h0.cells
    obtain ⟨d0, d1, d2, d3⟩ := h1.cells
    obtain ⟨x0, x1, x2, x3⟩ := h2.cells
    go_wp2_with fail
    clear c0 c1 c2 c3 d0 d1 d2 d3 x0 x1 x2 x3
    refine (tabAt (f &&& g) n _).mono ?_
    rintro e V2 ⟨rfl, hb1⟩
    replace h0 := h0.keep hb1 h0.lt
    replace h1 := h1.keep hb1 h1.lt
    replace h2 := h2.keep hb1 h2.lt
    replace hb := hb.trans (hb1.mono hb.size)
    clear hb1
    obtain ⟨c0, c1, c2, c3⟩ := h0.cells
    obtain ⟨d0, d1, d2, d3⟩ := h1.cells
    obtain ⟨x0, x1, x2, x3⟩ := h2.cells
    go_wp2_with fail
    clear c0 c1 c2 c3 d0 d1 d2 d3 x0 x1 x2 x3
    refine (tabOr f g _).mono ?_
    rintro e V3 ⟨rfl, hb1⟩
    replace h0 := h0.keep hb1 h0.lt
    replace h1 := h1.keep hb1 h1.lt
    replace h2 := h2.keep hb1 h2.lt
    replace hb := hb.trans (hb1.mono hb.size)
    clear hb1
    obtain ⟨c0, c1, c2, c3⟩ := h0.cells
    obtain ⟨d0, d1, d2, d3⟩ := h1.cells
    obtain ⟨x0, x1, x2, x3⟩ := h2.cells
    go_wp2_with fail
    clear c0 c1 c2 c3 d0 d1 d2 d3 x0 x1 x2 x3
    refine (tabAt (f ||| g) n _).mono ?_
    rintro e V4 ⟨rfl, hb1⟩
    replace h0 := h0.keep hb1 h0.lt
    replace h1 := h1.keep hb1 h1.lt
    replace h2 := h2.keep hb1 h2.lt
    replace hb := hb.trans (hb1.mono hb.size)
    clear hb1
    obtain ⟨c0, c1, c2, c3⟩ := h0.cells
    obtain ⟨d0, d1, d2, d3⟩ := h1.cells
    obtain ⟨x0, x1, x2, x3⟩ := h2.cells
    go_wp2_with fail
    clear c0 c1 c2 c3 d0 d1 d2 d3 x0 x1 x2 x3
    refine (tabXor f g _).mono ?_
    rintro e V5 ⟨rfl, hb1⟩
    replace h0 := h0.keep hb1 h0.lt
    replace h1 := h1.keep hb1 h1.lt
    replace h2 := h2.keep hb1 h2.lt
    replace hb := hb.trans (hb1.mono hb.size)
    clear hb1
    obtain ⟨c0, c1, c2, c3⟩ := h0.cells
    obtain ⟨d0, d1, d2, d3⟩ := h1.cells
    obtain ⟨x0, x1, x2, x3⟩ := h2.cells
    go_wp2_with fail
    clear c0 c1 c2 c3 d0 d1 d2 d3 x0 x1 x2 x3
    refine (tabAt (f ^^^ g) n _).mono ?_
    rintro e V6 ⟨rfl, hb1⟩
    replace h0 := h0.keep hb1 h0.lt
    replace h1 := h1.keep hb1 h1.lt
    replace h2 := h2.keep hb1 h2.lt
    replace hb := hb.trans (hb1.mono hb.size)
    clear hb1
    obtain ⟨c0, c1, c2, c3⟩ := h0.cells
    obtain ⟨d0, d1, d2, d3⟩ := h1.cells
    obtain ⟨x0, x1, x2, x3⟩ := h2.cells
    go_wp2_with fail
    clear c0 c1 c2 c3 d0 d1 d2 d3 x0 x1 x2 x3
    refine (tabNot f _).mono ?_
    rintro e V7 ⟨rfl, hb1⟩
    replace h0 := h0.keep hb1 h0.lt
    replace h1 := h1.keep hb1 h1.lt
    replace h2 := h2.keep hb1 h2.lt
    replace hb := hb.trans (hb1.mono hb.size)
    clear hb1
    obtain ⟨c0, c1, c2, c3⟩ := h0.cells
    obtain ⟨d0, d1, d2, d3⟩ := h1.cells
    obtain ⟨x0, x1, x2, x3⟩ := h2.cells
    go_wp2_with fail
    clear c0 c1 c2 c3 d0 d1 d2 d3 x0 x1 x2 x3
    refine (tabAt (~~~f) n _).mono ?_
    rintro e V8 ⟨rfl, hb1⟩
    replace h0 := h0.keep hb1 h0.lt
    replace h1 := h1.keep hb1 h1.lt
    replace h2 := h2.keep hb1 h2.lt
    replace hb := hb.trans (hb1.mono hb.size)
    clear hb1
    obtain ⟨c0, c1, c2, c3⟩ := h0.cells
    obtain ⟨d0, d1, d2, d3⟩ := h1.cells
    obtain ⟨x0, x1, x2, x3⟩ := h2.cells
    go_wp2_with fail
    clear c0 c1 c2 c3 d0 d1 d2 d3 x0 x1 x2 x3
    refine (tabIte f g k _).mono ?_
    rintro e V9 ⟨rfl, hb1⟩
    replace h0 := h0.keep hb1 h0.lt
    replace h1 := h1.keep hb1 h1.lt
    replace h2 := h2.keep hb1 h2.lt
    replace hb := hb.trans (hb1.mono hb.size)
    clear hb1
    obtain ⟨c0, c1, c2, c3⟩ := h0.cells
    obtain ⟨d0, d1, d2, d3⟩ := h1.cells
    obtain ⟨x0, x1, x2, x3⟩ := h2.cells
    go_wp2_with fail
    clear c0 c1 c2 c3 d0 d1 d2 d3 x0 x1 x2 x3
    refine (tabAt (f &&& g ||| ~~~f &&& k) n _).mono ?_
    rintro e V10 ⟨rfl, hb1⟩
    replace h0 := h0.keep hb1 h0.lt
    replace h1 := h1.keep hb1 h1.lt
    replace h2 := h2.keep hb1 h2.lt
    replace hb := hb.trans (hb1.mono hb.size)
    clear hb1
    rcases (by omega : v < 0 ∨ 7 < v ∨ (0 ≤ v ∧ v < 8)) with hv | hv | hv
    · go_wp2
      go_ret
      exact ⟨rfl, hb⟩
    · go_wp2
      go_ret
      exact ⟨rfl, hb⟩
    · obtain ⟨m, rfl⟩ := Int.eq_ofNat_of_zero_le hv.1
      have hm : m < 8 := by omega
      go_wp2_with fail
      refine (tabVar m _ (hl.keep hb)).mono ?_
      rintro e X1 ⟨rfl, hb1⟩
      replace hb := hb.trans (hb1.mono hb.size)
      clear hb1
      go_wp2_with fail
      refine (tabAt (varAny m) n _).mono ?_
      rw [at_var m n hm hn]
      rintro e X2 ⟨rfl, hb1⟩
      replace hb := hb.trans (hb1.mono hb.size)
      clear hb1
      go_wp2_with fail
      refine (refBit n m _ hn hm).mono ?_
      rintro e X3 ⟨rfl, rfl⟩
      go_wp2
      go_ret
      exact ⟨rfl, hb⟩

theorem tabRows (f g k : Fn) (v : Int) (x : Int) (w : World) (hl : LowW w) :
    Calls Tryd.prog 4 #[fv f, fv g, fv k, .int .i64 v, .int .i64 x] w fun e w' => e = .returned (.bool true) ∧ Below w.heap.size w w' := by
  by_cases hx : 0 ≤ x ∧ x < 256
  · obtain ⟨n, rfl⟩ := Int.eq_ofNat_of_zero_le hx.1
    exact tabRows_in f g k v n w hl (by omega)
  · exact tabRows_out f g k v x w hl hx

end Go.Proofs.YtekaapceopfelaaDoor
