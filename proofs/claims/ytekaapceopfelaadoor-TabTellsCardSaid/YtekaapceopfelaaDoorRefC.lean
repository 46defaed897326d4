/-
  Walks of the document's Const, Var, Ite.
-/
import Derived.Test.YtekaapceopfelaaDoorRef
namespace Go.Proofs.YtekaapceopfelaaDoor
open Go Go.RowKit

theorem ret_holds {fn : Func} {p : Tmp} {tmps : Array Value} {w : World} {b : Nat} {f : Fn} (h : fn.results = #[.cell p 24]) (hp : tmps.getD p undef = .pointer (some ⟨b, 0, none⟩)) (hh : Holds w b f) :
    (results fn tmps).run Tryd.prog w = .ok (fv f) w :=
  results_cell_row h tmps w b _ _ _ _ hp hh Tryd.underlying24 rfl (by kernel_rfl)

set_option maxRecDepth 100000 in
set_option maxHeartbeats 400000 in
theorem refConst (b : Bool) (w : World) :
    Calls Tryd.prog 7 #[.bool b] w fun e w' => e = .returned (fv (ofRow fun _ => b)) ∧ Below w.heap.size w w' := by
  go_enter Tryd.func7, Tryd.ntmps7
  go_wp2
  go_loopw [4] (fun i wr => ∃ n : Nat, n ≤ 256 ∧ i = .int .i64 n ∧ Filled w (upTo (fun _ => b) n) wr) (fun i _ => 256 - (intOf i).toNat)
  case atStart => exact ⟨0, Nat.zero_le _, rfl, by rw [upTo_zero]; exact ⟨(Holds.new0 _ _).alloc _, Holds.new0 _ _, by go_grown⟩⟩
  case round =>
    obtain ⟨n, hn, rfl, h0, h1, hb⟩ := hrel
    by_cases hlt : n < 256
    · have Hf := Lib.hid (upTo_put (fun _ => b) n b rfl)
      generalize hg : upTo (fun _ => b) n = g at *
      clear hg
      obtain ⟨c0, c1, c2, c3⟩ := h1.cells
      go_wp2_with fail
      refine (refPut g n b _ hlt).mono ?_
      rw [Hf.out]
      rintro e w1 ⟨rfl, hb1⟩
      clear c0 c1 c2 c3
      have k0 := h0.keep hb1 h0.lt
      have k1 := h1.keep hb1 h1.lt
      obtain ⟨c0, c1, c2, c3⟩ := k1.cells
      obtain ⟨z0, z1, z2, z3⟩ := k1.free
      simp only [fv]
      go_wp2
      exact ⟨⟨n + 1, by omega, by go_num, k0.other4 (by omega), k1.set4 _, below_set4 (hb.trans (hb1.mono hb.size)) (by omega)⟩, by simp [intOf]; omega⟩
    · obtain rfl : n = 256 := by omega
      rw [upTo_all] at h1
      generalize hg : ofRow (fun _ => b) = g at *
      have Hg := Lib.hid hg
      clear hg
      obtain ⟨c0, c1, c2, c3⟩ := h1.cells
      obtain ⟨d0, d1, d2, d3⟩ := h0.cells
      obtain ⟨z0, z1, z2, z3⟩ := h0.free
      go_wp2
      exact bodyPost_ret (ret_holds Tryd.results7 rfl (h0.set4 g)) rfl ⟨by rw [Hg.out], below_set4 hb (Nat.le_refl _)⟩

theorem sub_same {P : Program} {f : FuncId} {args : Array Value} {W : World} {u : Sub W} {v : Value} (h : Calls P f args u.1 fun e w' => e = .returned v ∧ u.1 = w') :
    Calls P f args u.1 fun e w'' => e = .returned v ∧ ∃ x : Sub W, w'' = x.1 := h.mono fun _ _ ⟨he, hw⟩ => ⟨he, u, hw.symm⟩

theorem sub_below {P : Program} {f : FuncId} {args : Array Value} {W : World} {u : Sub W} {v : Value} (h : Calls P f args u.1 fun e w' => e = .returned v ∧ Below u.1.heap.size u.1 w') :
    Calls P f args u.1 fun e w'' => e = .returned v ∧ ∃ x : Sub W, w'' = x.1 := h.mono fun _ w' ⟨he, hw⟩ => ⟨he, ⟨w', u.2.trans (hw.mono u.2.size)⟩, rfl⟩

/-- The same, in any world in which what stood in wr stands as it did. -/
theorem Holds.sub {wr : World} {b : Nat} {f : Fn} (h : Holds wr b f) (u : Sub wr) : Holds u.1 b f := h.keep u.2 h.lt

set_option maxRecDepth 100000 in
set_option maxHeartbeats 400000 in
theorem refVar (v : Int) (w : World) :
    Calls Tryd.prog 9 #[.int .i64 v] w fun e w' => e = .returned (fv (varAny v)) ∧ Below w.heap.size w w' := by
  by_cases hv : 0 ≤ v ∧ v < 8
  · obtain ⟨m, rfl⟩ := Int.eq_ofNat_of_zero_le hv.1
    have hm : m < 8 := by omega
    have e : varAny (m : Int) = ofRow (fun x => x.testBit m) := by rw [varAny, if_pos hv, Int.toNat_natCast]; rfl
    rw [e]
    clear e
    go_enter Tryd.func9, Tryd.ntmps9
    go_wp2
    go_loopw [4] (fun i wr => ∃ n : Nat, n ≤ 256 ∧ i = .int .i64 n ∧ Filled w (upTo (fun x => x.testBit m) n) wr) (fun i _ => 256 - (intOf i).toNat)
    case atStart => exact ⟨0, Nat.zero_le _, rfl, by rw [upTo_zero]; exact ⟨(Holds.new0 _ _).alloc _, Holds.new0 _ _, by go_grown⟩⟩
    case round =>
      obtain ⟨n, hn, rfl, h0, h1, hb⟩ := hrel
      by_cases hlt : n < 256
      · have Hf := Lib.hid (upTo_put (fun x => x.testBit m) n (n.testBit m) rfl)
        generalize hg : upTo (fun x => x.testBit m) n = g at *
        clear hg
        have c0 : ∀ u : Sub wr, u.1.cell? ⟨w.heap.size + 1, 0, none⟩ = some (.int .u64 (wd g 0)) := fun u => (h1.sub u).cells.1
        have c1 : ∀ u : Sub wr, u.1.cell? ⟨w.heap.size + 1, 1, none⟩ = some (.int .u64 (wd g 1)) := fun u => (h1.sub u).cells.2.1
        have c2 : ∀ u : Sub wr, u.1.cell? ⟨w.heap.size + 1, 2, none⟩ = some (.int .u64 (wd g 2)) := fun u => (h1.sub u).cells.2.2.1
        have c3 : ∀ u : Sub wr, u.1.cell? ⟨w.heap.size + 1, 3, none⟩ = some (.int .u64 (wd g 3)) := fun u => (h1.sub u).cells.2.2.2
        go_wp2
        refine wp_region_quiet_tail (C := fun w' => ∃ u : Sub wr, w' = u.1) 6 (by kernel_rfl) (by kernel_rfl) (InSub.drew wr) ?_
        simp only [List.take_succ_cons, List.take_zero, List.drop_succ_cons, List.drop_zero]
        go_big_quiet_step (fail)
        go_big_quiet_step (fail)
        go_big_quiet_step (fail)
        go_big_quiet_step (fail)
        go_big_quiet_step (exact sub_same (refBit n m _ hlt hm))
        go_big_quiet_step (exact sub_below (refPut g n _ _ hlt))
        refine wpQuiet_nil ?_
        rw [Hf.out]
        clear c0 c1 c2 c3
        intro w' hw'
        obtain ⟨u, rfl⟩ := hw'
        have k0 := h0.sub u
        have k1 := h1.sub u
        have hb1 := u.2
        generalize u.1 = w1 at *
        obtain ⟨c0, c1, c2, c3⟩ := k1.cells
        obtain ⟨z0, z1, z2, z3⟩ := k1.free
        simp only [fv]
        go_wp2
        exact ⟨⟨n + 1, by omega, by go_num, k0.other4 (by omega), k1.set4 _, below_set4 (hb.trans (hb1.mono hb.size)) (by omega)⟩, by simp [intOf]; omega⟩
      · obtain rfl : n = 256 := by omega
        rw [upTo_all] at h1
        generalize hg : ofRow (fun x => x.testBit m) = g at *
        have Hg := Lib.hid hg
        clear hg
        obtain ⟨c0, c1, c2, c3⟩ := h1.cells
        obtain ⟨d0, d1, d2, d3⟩ := h0.cells
        obtain ⟨z0, z1, z2, z3⟩ := h0.free
        go_wp2
        exact bodyPost_ret (ret_holds Tryd.results9 rfl (h0.set4 g)) rfl ⟨by rw [Hg.out], below_set4 hb (Nat.le_refl _)⟩
  · have e : varAny v = 0#256 := by rw [varAny, if_neg hv]
    rw [e, fv_zero]
    clear e
    go_enter Tryd.func9, Tryd.ntmps9
    go_wp2
    refine wp_loop_rounds 1 ?_
    rw [rounds_succ]
    go_wp2
    all_goals exact bodyPost_ret (v := .agg #[.int .u64 0, .int .u64 0, .int .u64 0, .int .u64 0]) (by simp [results, Tryd.results9, go_sem]) rfl ⟨rfl, by go_grown⟩

end Go.Proofs.YtekaapceopfelaaDoor
