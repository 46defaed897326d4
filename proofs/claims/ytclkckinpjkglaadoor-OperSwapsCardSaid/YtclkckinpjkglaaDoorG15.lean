/-
  Texts of this proof, one behind the other: Ref, RefC, RefIte, RefOps, Eq.
-/
import Derived.Test.YtclkckinpjkglaaDoorG14
import Derived.ChangeKeysEq
/-
  Walks of the document's put, Bit and Const.
-/
namespace Go.Proofs.YtclkckinpjkglaaDoor
open Go Go.RowKit

set_option maxHeartbeats 400000 in
theorem refPut (f : Fn) (k : Nat) (b : Bool) (w : World) (hk : k < 256) :
    Calls Tryd.prog 46 #[fv f, .int .i64 k, .bool b] w fun e w' => e = .returned (fv (putF f k b)) ∧ Below w.heap.size w w' := by
  cases b with
  | false =>
    have e : putF f k false = f := by simp [putF]
    rw [e]
    clear e
    simp only [fv]
    go_enter Tryd.func46, Tryd.ntmps46
    go_wp2
    exact bodyPost_ret (v := .agg #[.int .u64 (wd f 0), .int .u64 (wd f 1), .int .u64 (wd f 2), .int .u64 (wd f 3)]) (by simp [results, Tryd.results46, go_sem]) rfl ⟨rfl, by go_grown⟩
  | true =>
    simp only [fv]
    have h0 : (0 : Int) ≤ (k : Int) := by omega
    have h1 : (k : Int) < 256 := by omega
    rcases (by omega : k / 64 = 0 ∨ k / 64 = 1 ∨ k / 64 = 2 ∨ k / 64 = 3) with hq | hq | hq | hq
    · have hqi : (k : Int) / 64 = 0 := by omega
      have Hq := Lib.hid hq
      go_enter Tryd.func46, Tryd.ntmps46
      go_wp2
      exact bodyPost_ret (v := .agg #[.int .u64 (bits .or .u64 (wd f 0) (IntKind.u64.wrap (2 ^ (k % 64)))), .int .u64 (wd f 1), .int .u64 (wd f 2), .int .u64 (wd f 3)])
        (by simp [results, Tryd.results46, go_sem]) rfl ⟨by rw [put_same f k 0 Hq.out (by decide), put_other f k 0 1 Hq.out (by decide) (by decide), put_other f k 0 2 Hq.out (by decide) (by decide), put_other f k 0 3 Hq.out (by decide) (by decide)], by go_grown⟩
    · have hqi : (k : Int) / 64 = 1 := by omega
      have Hq := Lib.hid hq
      go_enter Tryd.func46, Tryd.ntmps46
      go_wp2
      exact bodyPost_ret (v := .agg #[.int .u64 (wd f 0), .int .u64 (bits .or .u64 (wd f 1) (IntKind.u64.wrap (2 ^ (k % 64)))), .int .u64 (wd f 2), .int .u64 (wd f 3)])
        (by simp [results, Tryd.results46, go_sem]) rfl ⟨by rw [put_same f k 1 Hq.out (by decide), put_other f k 1 0 Hq.out (by decide) (by decide), put_other f k 1 2 Hq.out (by decide) (by decide), put_other f k 1 3 Hq.out (by decide) (by decide)], by go_grown⟩
    · have hqi : (k : Int) / 64 = 2 := by omega
      have Hq := Lib.hid hq
      go_enter Tryd.func46, Tryd.ntmps46
      go_wp2
      exact bodyPost_ret (v := .agg #[.int .u64 (wd f 0), .int .u64 (wd f 1), .int .u64 (bits .or .u64 (wd f 2) (IntKind.u64.wrap (2 ^ (k % 64)))), .int .u64 (wd f 3)])
        (by simp [results, Tryd.results46, go_sem]) rfl ⟨by rw [put_same f k 2 Hq.out (by decide), put_other f k 2 0 Hq.out (by decide) (by decide), put_other f k 2 1 Hq.out (by decide) (by decide), put_other f k 2 3 Hq.out (by decide) (by decide)], by go_grown⟩
    · have hqi : (k : Int) / 64 = 3 := by omega
      have Hq := Lib.hid hq
      go_enter Tryd.func46, Tryd.ntmps46
      go_wp2
      exact bodyPost_ret (v := .agg #[.int .u64 (wd f 0), .int .u64 (wd f 1), .int .u64 (wd f 2), .int .u64 (bits .or .u64 (wd f 3) (IntKind.u64.wrap (2 ^ (k % 64))))])
        (by simp [results, Tryd.results46, go_sem]) rfl ⟨by rw [put_same f k 3 Hq.out (by decide), put_other f k 3 0 Hq.out (by decide) (by decide), put_other f k 3 1 Hq.out (by decide) (by decide), put_other f k 3 2 Hq.out (by decide) (by decide)], by go_grown⟩


/-- Block b is a variable that holds the function f. -/

def Holds (w : World) (b : Nat) (f : Fn) : Prop :=
  w.heap[b]? = some (.cells #[.int .u64 (wd f 0), .int .u64 (wd f 1), .int .u64 (wd f 2), .int .u64 (wd f 3)] 24 (0, 0))

theorem Holds.lt {w : World} {b : Nat} {f : Fn} (h : Holds w b f) : b < w.heap.size := by
  rcases Nat.lt_or_ge b w.heap.size with h' | h'
  · exact h'
  · unfold Holds at h; rw [Array.getElem?_eq_none h'] at h; cases h

theorem Holds.keep {w w' : World} {b B : Nat} {f : Fn} (h : Holds w b f) (hb : Below B w w') (hB : b < B) : Holds w' b f := by
  unfold Holds; rw [hb.block b hB]; exact h

theorem Holds.cells {w : World} {b : Nat} {f : Fn} (h : Holds w b f) :
    w.cell? ⟨b, 0, none⟩ = some (.int .u64 (wd f 0)) ∧ w.cell? ⟨b, 1, none⟩ = some (.int .u64 (wd f 1)) ∧ w.cell? ⟨b, 2, none⟩ = some (.int .u64 (wd f 2)) ∧ w.cell? ⟨b, 3, none⟩ = some (.int .u64 (wd f 3)) :=
  ⟨cell_of_row _ _ _ _ _ _ h, cell_of_row _ _ _ _ _ _ h, cell_of_row _ _ _ _ _ _ h, cell_of_row _ _ _ _ _ _ h⟩

theorem Holds.free {w : World} {b : Nat} {f : Fn} (h : Holds w b f) :
    w.frozen? ⟨b, 0, none⟩ = false ∧ w.frozen? ⟨b, 1, none⟩ = false ∧ w.frozen? ⟨b, 2, none⟩ = false ∧ w.frozen? ⟨b, 3, none⟩ = false :=
  ⟨frozen_of_row _ _ _ _ _ h, frozen_of_row _ _ _ _ _ h, frozen_of_row _ _ _ _ _ h, frozen_of_row _ _ _ _ _ h⟩

theorem Holds.set4 {w : World} {b : Nat} {f : Fn} (h : Holds w b f) (g : Fn) :
    Holds ((((w.setCell ⟨b, 0, none⟩ (.int .u64 (wd g 0))).setCell ⟨b, 1, none⟩ (.int .u64 (wd g 1))).setCell ⟨b, 2, none⟩ (.int .u64 (wd g 2))).setCell ⟨b, 3, none⟩ (.int .u64 (wd g 3))) b g :=
  heap_setCell_same _ _ _ _ _ _ (heap_setCell_same _ _ _ _ _ _ (heap_setCell_same _ _ _ _ _ _ (heap_setCell_same _ _ _ _ _ _ h)))

theorem Holds.other4 {w : World} {b c : Nat} {f : Fn} {x0 x1 x2 x3 : Value} (h : Holds w b f) (hne : b ≠ c) :
    Holds ((((w.setCell ⟨c, 0, none⟩ x0).setCell ⟨c, 1, none⟩ x1).setCell ⟨c, 2, none⟩ x2).setCell ⟨c, 3, none⟩ x3) b f := by
  unfold Holds
  rw [heap_setCell_other _ _ _ _ hne, heap_setCell_other _ _ _ _ hne, heap_setCell_other _ _ _ _ hne, heap_setCell_other _ _ _ _ hne]
  exact h

theorem Holds.new (w : World) (f : Fn) (b : Nat) (hb : b = w.heap.size := by simp) : Holds (w.alloc (.cells #[.int .u64 (wd f 0), .int .u64 (wd f 1), .int .u64 (wd f 2), .int .u64 (wd f 3)] 24)) b f := by
  subst hb
  exact heap_alloc_new _ _

theorem Holds.new0 (w : World) (b : Nat) (hb : b = w.heap.size := by simp) : Holds (w.alloc (.cells #[.int .u64 0, .int .u64 0, .int .u64 0, .int .u64 0] 24)) b 0#256 := by
  subst hb
  have h := heap_alloc_new w (.cells #[.int .u64 0, .int .u64 0, .int .u64 0, .int .u64 0] 24)
  unfold Holds
  rw [h]
  simp [wd]

theorem Holds.alloc {w : World} {b : Nat} {f : Fn} (h : Holds w b f) (o : Obj) : Holds (w.alloc o) b f := by
  unfold Holds; rw [heap_alloc_old _ _ h.lt]; exact h

/-- At a loop's head: the result's variable and the one that is filled. -/

def Filled (w : World) (f : Fn) (wr : World) : Prop := Holds wr w.heap.size 0#256 ∧ Holds wr (w.heap.size + 1) f ∧ Below w.heap.size w wr

end Go.Proofs.YtclkckinpjkglaaDoor

/-
  Walks of the document's Const, Var, Ite.
-/
namespace Go.Proofs.YtclkckinpjkglaaDoor
open Go Go.RowKit

theorem ret_holds {fn : Func} {p : Tmp} {tmps : Array Value} {w : World} {b : Nat} {f : Fn} (h : fn.results = #[.cell p 24]) (hp : tmps.getD p undef = .pointer (some ⟨b, 0, none⟩)) (hh : Holds w b f) :
    (results fn tmps).run Tryd.prog w = .ok (fv f) w :=
  results_cell_row h tmps w b _ _ _ _ hp hh Tryd.underlying24 rfl (by kernel_rfl)

set_option maxRecDepth 100000 in
set_option maxHeartbeats 400000 in
theorem refConst (b : Bool) (w : World) :
    Calls Tryd.prog 31 #[.bool b] w fun e w' => e = .returned (fv (ofRow fun _ => b)) ∧ Below w.heap.size w w' := by
  go_enter Tryd.func31, Tryd.ntmps31
  go_wp2
  go_loopw [4] (fun i wr => ∃ n : Nat, n ≤ 256 ∧ i = .int .i64 n ∧ Filled w (upTo (fun _ => b) n) wr) (fun i _ => 256 - (intOf i).toNat)
  case atStart => exact ⟨0, Nat.zero_le _, rfl, by rw [upTo_zero]; exact ⟨(Holds.new0 _ _).alloc _, Holds.new0 _ _, by go_grown⟩⟩
  case round =>
    obtain ⟨n, hn, rfl, h0, h1, hb⟩ := hrel
    by_cases hlt : n < 256
    · have Hf := Lib.hid (upTo_put (fun _ => b) n b rfl)
      generalize hg : upTo (fun _ => b) n = g at *
      clear hg
      obtain ⟨c0, c1, c2, c3⟩ := h1.cells
      go_wp2_with fail
      refine (refPut g n b _ hlt).mono ?_
      rw [Hf.out]
      rintro e w1 ⟨rfl, hb1⟩
      clear c0 c1 c2 c3
      have k0 := h0.keep hb1 h0.lt
      have k1 := h1.keep hb1 h1.lt
      obtain ⟨c0, c1, c2, c3⟩ := k1.cells
      obtain ⟨z0, z1, z2, z3⟩ := k1.free
      simp only [fv]
      go_wp2
      exact ⟨⟨n + 1, by omega, by go_num, k0.other4 (by omega), k1.set4 _, below_set4 (hb.trans (hb1.mono hb.size)) (by omega)⟩, by simp [intOf]; omega⟩
    · obtain rfl : n = 256 := by omega
      rw [upTo_all] at h1
      generalize hg : ofRow (fun _ => b) = g at *
      have Hg := Lib.hid hg
      clear hg
      obtain ⟨c0, c1, c2, c3⟩ := h1.cells
      obtain ⟨d0, d1, d2, d3⟩ := h0.cells
      obtain ⟨z0, z1, z2, z3⟩ := h0.free
      go_wp2
      exact bodyPost_ret (ret_holds Tryd.results31 rfl (h0.set4 g)) rfl ⟨by rw [Hg.out], below_set4 hb (Nat.le_refl _)⟩

theorem sub_same {P : Program} {f : FuncId} {args : Array Value} {W : World} {u : Sub W} {v : Value} (h : Calls P f args u.1 fun e w' => e = .returned v ∧ u.1 = w') :
    Calls P f args u.1 fun e w'' => e = .returned v ∧ ∃ x : Sub W, w'' = x.1 := h.mono fun _ _ ⟨he, hw⟩ => ⟨he, u, hw.symm⟩

theorem sub_below {P : Program} {f : FuncId} {args : Array Value} {W : World} {u : Sub W} {v : Value} (h : Calls P f args u.1 fun e w' => e = .returned v ∧ Below u.1.heap.size u.1 w') :
    Calls P f args u.1 fun e w'' => e = .returned v ∧ ∃ x : Sub W, w'' = x.1 := h.mono fun _ w' ⟨he, hw⟩ => ⟨he, ⟨w', u.2.trans (hw.mono u.2.size)⟩, rfl⟩

/-- The same, in any world in which what stood in wr stands as it did. -/

theorem Holds.sub {wr : World} {b : Nat} {f : Fn} (h : Holds wr b f) (u : Sub wr) : Holds u.1 b f := h.keep u.2 h.lt


end Go.Proofs.YtclkckinpjkglaaDoor

/-
  Walk of the document's Ite.
-/
namespace Go.Proofs.YtclkckinpjkglaaDoor
open Go Go.RowKit

/-- Row by row. -/

def iteRow (f g k : Fn) (x : Nat) : Bool := if f.getLsbD x then g.getLsbD x else k.getLsbD x

theorem iteRow_eq (f g k : Fn) : ofRow (iteRow f g k) = (f &&& g ||| ~~~f &&& k) := fn_ext fun x hx => by
  rw [ofRow_bit _ _ hx]
  simp [iteRow, hx]
  cases f[x] <;> simp

theorem atF_nat (f : Fn) (n : Nat) (h : n < 256) : atF f n = f.getLsbD n := by
  rw [atF, if_pos (by omega), Int.toNat_natCast]

/-- At the loop's head. -/

def Filling (w : World) (f g k o : Fn) (wr : World) : Prop :=
  Holds wr w.heap.size f ∧ Holds wr (w.heap.size + 1) g ∧ Holds wr (w.heap.size + 1 + 1) k ∧ Holds wr (w.heap.size + 1 + 1 + 1) 0#256 ∧ Holds wr (w.heap.size + 1 + 1 + 1 + 1) o ∧ Below w.heap.size w wr

set_option maxRecDepth 100000 in
set_option maxHeartbeats 1000000 in
theorem refIte (f g k : Fn) (w : World) :
    Calls Tryd.prog 30 #[fv f, fv g, fv k] w fun e w' => e = .returned (fv (f &&& g ||| ~~~f &&& k)) ∧ Below w.heap.size w w' := by
  rw [← iteRow_eq]
  simp only [fv]
  go_enter Tryd.func30, Tryd.ntmps30
  go_wp2
  go_loopw [8] (fun i wr => ∃ n : Nat, n ≤ 256 ∧ i = .int .i64 n ∧ Filling w f g k (upTo (iteRow f g k) n) wr) (fun i _ => 256 - (intOf i).toNat)
  case atStart =>
    exact ⟨0, Nat.zero_le _, rfl, by rw [upTo_zero]; exact ⟨((((Holds.new _ _ _).alloc _).alloc _).alloc _).alloc _, (((Holds.new _ _ _).alloc _).alloc _).alloc _, ((Holds.new _ _ _).alloc _).alloc _, (Holds.new0 _ _).alloc _, Holds.new0 _ _, by go_grown⟩⟩
  case round =>
    obtain ⟨n, hn, rfl, h0, h1, h2, h3, h4, hb⟩ := hrel
    by_cases hlt : n < 256
    · obtain ⟨c0, c1, c2, c3⟩ := h0.cells
      go_wp2_with fail
      refine (refAt f n _).mono ?_
      rintro e w1 ⟨rfl, hb1⟩
      clear c0 c1 c2 c3
      have k0 := h0.keep hb1 h0.lt
      have k1 := h1.keep hb1 h1.lt
      have k2 := h2.keep hb1 h2.lt
      have k3 := h3.keep hb1 h3.lt
      have k4 := h4.keep hb1 h4.lt
      have hb3 := hb.trans (hb1.mono hb.size)
      clear h0 h1 h2 h3 h4 hb hb1
      have hP : iteRow f g k n = if atF f n then atF g n else atF k n := by rw [iteRow, atF_nat _ _ hlt, atF_nat _ _ hlt, atF_nat _ _ hlt]
      cases ha : atF f n with
      | true =>
        rw [ha, if_pos rfl] at hP
        have Hf := Lib.hid (upTo_put (iteRow f g k) n (atF g n) hP.symm)
        clear hP ha
        generalize upTo (iteRow f g k) n = o at *
        have o0 : ∀ u : Sub w1, u.1.cell? ⟨w.heap.size + 1 + 1 + 1 + 1, 0, none⟩ = some (.int .u64 (wd o 0)) := fun u => (k4.sub u).cells.1
        have o1 : ∀ u : Sub w1, u.1.cell? ⟨w.heap.size + 1 + 1 + 1 + 1, 1, none⟩ = some (.int .u64 (wd o 1)) := fun u => (k4.sub u).cells.2.1
        have o2 : ∀ u : Sub w1, u.1.cell? ⟨w.heap.size + 1 + 1 + 1 + 1, 2, none⟩ = some (.int .u64 (wd o 2)) := fun u => (k4.sub u).cells.2.2.1
        have o3 : ∀ u : Sub w1, u.1.cell? ⟨w.heap.size + 1 + 1 + 1 + 1, 3, none⟩ = some (.int .u64 (wd o 3)) := fun u => (k4.sub u).cells.2.2.2
        have p0 : ∀ u : Sub w1, u.1.cell? ⟨w.heap.size + 1, 0, none⟩ = some (.int .u64 (wd g 0)) := fun u => (k1.sub u).cells.1
        have p1 : ∀ u : Sub w1, u.1.cell? ⟨w.heap.size + 1, 1, none⟩ = some (.int .u64 (wd g 1)) := fun u => (k1.sub u).cells.2.1
        have p2 : ∀ u : Sub w1, u.1.cell? ⟨w.heap.size + 1, 2, none⟩ = some (.int .u64 (wd g 2)) := fun u => (k1.sub u).cells.2.2.1
        have p3 : ∀ u : Sub w1, u.1.cell? ⟨w.heap.size + 1, 3, none⟩ = some (.int .u64 (wd g 3)) := fun u => (k1.sub u).cells.2.2.2
        go_wp2
        refine wp_region_quiet_tail (C := fun w' => ∃ u : Sub w1, w' = u.1) 6 (by kernel_rfl) (by kernel_rfl) (InSub.drew w1) ?_
        simp only [List.take_succ_cons, List.take_zero, List.drop_succ_cons, List.drop_zero]
        go_big_quiet_step (fail)
        go_big_quiet_step (fail)
        go_big_quiet_step (fail)
        go_big_quiet_step (fail)
        go_big_quiet_step (exact sub_below (refAt g n _))
        go_big_quiet_step (exact sub_below (refPut o n _ _ hlt))
        refine wpQuiet_nil ?_
        rw [Hf.out]
        clear o0 o1 o2 o3 p0 p1 p2 p3
        intro w' hw'
        obtain ⟨u, rfl⟩ := hw'
        replace k0 := k0.sub u
        replace k1 := k1.sub u
        replace k2 := k2.sub u
        replace k3 := k3.sub u
        replace k4 := k4.sub u
        have hb2 := u.2
        generalize u.1 = w2 at *
        obtain ⟨c0, c1, c2, c3⟩ := k4.cells
        obtain ⟨z0, z1, z2, z3⟩ := k4.free
        simp only [fv]
        go_wp2
        exact ⟨⟨n + 1, by omega, by go_num, ⟨k0.other4 (by omega), k1.other4 (by omega), k2.other4 (by omega), k3.other4 (by omega), k4.set4 _, below_set4 (hb3.trans (hb2.mono hb3.size)) (by omega)⟩⟩, by simp [intOf]; omega⟩
      | false =>
        rw [ha, if_neg (by decide)] at hP
        have Hf := Lib.hid (upTo_put (iteRow f g k) n (atF k n) hP.symm)
        clear hP ha
        generalize upTo (iteRow f g k) n = o at *
        have o0 : ∀ u : Sub w1, u.1.cell? ⟨w.heap.size + 1 + 1 + 1 + 1, 0, none⟩ = some (.int .u64 (wd o 0)) := fun u => (k4.sub u).cells.1
        have o1 : ∀ u : Sub w1, u.1.cell? ⟨w.heap.size + 1 + 1 + 1 + 1, 1, none⟩ = some (.int .u64 (wd o 1)) := fun u => (k4.sub u).cells.2.1
        have o2 : ∀ u : Sub w1, u.1.cell? ⟨w.heap.size + 1 + 1 + 1 + 1, 2, none⟩ = some (.int .u64 (wd o 2)) := fun u => (k4.sub u).cells.2.2.1
        have o3 : ∀ u : Sub w1, u.1.cell? ⟨w.heap.size + 1 + 1 + 1 + 1, 3, none⟩ = some (.int .u64 (wd o 3)) := fun u => (k4.sub u).cells.2.2.2
        have p0 : ∀ u : Sub w1, u.1.cell? ⟨w.heap.size + 1 + 1, 0, none⟩ = some (.int .u64 (wd k 0)) := fun u => (k2.sub u).cells.1
        have p1 : ∀ u : Sub w1, u.1.cell? ⟨w.heap.size + 1 + 1, 1, none⟩ = some (.int .u64 (wd k 1)) := fun u => (k2.sub u).cells.2.1
        have p2 : ∀ u : Sub w1, u.1.cell? ⟨w.heap.size + 1 + 1, 2, none⟩ = some (.int .u64 (wd k 2)) := fun u => (k2.sub u).cells.2.2.1
        have p3 : ∀ u : Sub w1, u.1.cell? ⟨w.heap.size + 1 + 1, 3, none⟩ = some (.int .u64 (wd k 3)) := fun u => (k2.sub u).cells.2.2.2
        go_wp2
        refine wp_region_quiet_tail (C := fun w' => ∃ u : Sub w1, w' = u.1) 6 (by kernel_rfl) (by kernel_rfl) (InSub.drew w1) ?_
        simp only [List.take_succ_cons, List.take_zero, List.drop_succ_cons, List.drop_zero]
        go_big_quiet_step (fail)
        go_big_quiet_step (fail)
        go_big_quiet_step (fail)
        go_big_quiet_step (fail)
        go_big_quiet_step (exact sub_below (refAt k n _))
        go_big_quiet_step (exact sub_below (refPut o n _ _ hlt))
        refine wpQuiet_nil ?_
        rw [Hf.out]
        clear o0 o1 o2 o3 p0 p1 p2 p3
        intro w' hw'
        obtain ⟨u, rfl⟩ := hw'
        replace k0 := k0.sub u
        replace k1 := k1.sub u
        replace k2 := k2.sub u
        replace k3 := k3.sub u
        replace k4 := k4.sub u
        have hb2 := u.2
        generalize u.1 = w2 at *
        obtain ⟨c0, c1, c2, c3⟩ := k4.cells
        obtain ⟨z0, z1, z2, z3⟩ := k4.free
        simp only [fv]
        go_wp2
        exact ⟨⟨n + 1, by omega, by go_num, ⟨k0.other4 (by omega), k1.other4 (by omega), k2.other4 (by omega), k3.other4 (by omega), k4.set4 _, below_set4 (hb3.trans (hb2.mono hb3.size)) (by omega)⟩⟩, by simp [intOf]; omega⟩
    · obtain rfl : n = 256 := by omega
      rw [upTo_all] at h4
      generalize hg : ofRow (iteRow f g k) = o at *
      have Hg := Lib.hid hg
      clear hg
      obtain ⟨c0, c1, c2, c3⟩ := h4.cells
      obtain ⟨d0, d1, d2, d3⟩ := h3.cells
      obtain ⟨z0, z1, z2, z3⟩ := h3.free
      go_wp2
      exact bodyPost_ret (ret_holds Tryd.results30 rfl (h3.set4 o)) rfl ⟨by rw [Hg.out]; rfl, below_set4 hb (by omega)⟩

end Go.Proofs.YtclkckinpjkglaaDoor

/-
  Walks of the document's Not, And, Or, Xor.
-/
namespace Go.Proofs.YtclkckinpjkglaaDoor
open Go Go.RowKit

set_option maxRecDepth 100000 in
set_option maxHeartbeats 400000 in
theorem refAnd0 (f g : Fn) (w : World) :
    Calls Tryd.prog 13 #[fv f, fv g] w fun e w' => e = .returned (fv (f &&& g ||| ~~~f &&& f)) ∧ Below w.heap.size w w' := by
  simp only [fv]
  go_enter Tryd.func13, Tryd.ntmps13
  go_wp2_with fail
  refine (refIte f g f _).mono ?_
  generalize hr : (f &&& g ||| ~~~f &&& f) = r
  have Hr := Lib.hid hr
  clear hr
  rintro e w1 ⟨rfl, hb1⟩
  have k := (Holds.new0 ((w.alloc (.cells #[.int .u64 (wd f 0), .int .u64 (wd f 1), .int .u64 (wd f 2), .int .u64 (wd f 3)] 24)).alloc (.cells #[.int .u64 (wd g 0), .int .u64 (wd g 1), .int .u64 (wd g 2), .int .u64 (wd g 3)] 24)) (w.heap.size + 1 + 1)).keep hb1 (by simp)
  have hb2 : Below w.heap.size w w1 := below_from hb1 (by go_grown)
  clear hb1
  obtain ⟨c0, c1, c2, c3⟩ := k.cells
  obtain ⟨z0, z1, z2, z3⟩ := k.free
  simp only [fv]
  go_wp2
  exact bodyPost_ret (ret_holds Tryd.results13 rfl (k.set4 r)) rfl ⟨by rw [Hr.out]; rfl, below_set4 hb2 (by omega)⟩

set_option maxRecDepth 100000 in
set_option maxHeartbeats 400000 in
theorem refOr0 (f g : Fn) (w : World) :
    Calls Tryd.prog 14 #[fv f, fv g] w fun e w' => e = .returned (fv (f &&& f ||| ~~~f &&& g)) ∧ Below w.heap.size w w' := by
  simp only [fv]
  go_enter Tryd.func14, Tryd.ntmps14
  go_wp2_with fail
  refine (refIte f f g _).mono ?_
  generalize hr : (f &&& f ||| ~~~f &&& g) = r
  have Hr := Lib.hid hr
  clear hr
  rintro e w1 ⟨rfl, hb1⟩
  have k := (Holds.new0 ((w.alloc (.cells #[.int .u64 (wd f 0), .int .u64 (wd f 1), .int .u64 (wd f 2), .int .u64 (wd f 3)] 24)).alloc (.cells #[.int .u64 (wd g 0), .int .u64 (wd g 1), .int .u64 (wd g 2), .int .u64 (wd g 3)] 24)) (w.heap.size + 1 + 1)).keep hb1 (by simp)
  have hb2 : Below w.heap.size w w1 := below_from hb1 (by go_grown)
  clear hb1
  obtain ⟨c0, c1, c2, c3⟩ := k.cells
  obtain ⟨z0, z1, z2, z3⟩ := k.free
  simp only [fv]
  go_wp2
  exact bodyPost_ret (ret_holds Tryd.results14 rfl (k.set4 r)) rfl ⟨by rw [Hr.out]; rfl, below_set4 hb2 (by omega)⟩

theorem refAnd (f g : Fn) (w : World) : Calls Tryd.prog 13 #[fv f, fv g] w fun e w' => e = .returned (fv (f &&& g)) ∧ Below w.heap.size w w' := by
  have e : (f &&& g ||| ~~~f &&& f) = (f &&& g) := fn_ext fun x hx => by simp
  have h := refAnd0 f g w
  rwa [e] at h

theorem refOr (f g : Fn) (w : World) : Calls Tryd.prog 14 #[fv f, fv g] w fun e w' => e = .returned (fv (f ||| g)) ∧ Below w.heap.size w w' := by
  have e : (f &&& f ||| ~~~f &&& g) = (f ||| g) := fn_ext fun x hx => by simp [hx]; cases f[x] <;> simp
  have h := refOr0 f g w
  rwa [e] at h

theorem ofRow_const (b : Bool) : ofRow (fun _ => b) = if b then BitVec.allOnes 256 else 0#256 := fn_ext fun x hx => by
  rw [ofRow_bit _ _ hx]
  cases b with
  | false => rw [if_neg (by decide)]; exact (BitVec.getLsbD_zero).symm
  | true => rw [if_pos rfl, BitVec.getLsbD_allOnes]; exact (decide_eq_true hx).symm

set_option maxRecDepth 100000 in
set_option maxHeartbeats 400000 in
theorem refNot0 (f : Fn) (w : World) :
    Calls Tryd.prog 16 #[fv f] w fun e w' => e = .returned (fv (f &&& ofRow (fun _ => false) ||| ~~~f &&& ofRow (fun _ => true))) ∧ Below w.heap.size w w' := by
  simp only [fv]
  go_enter Tryd.func16, Tryd.ntmps16
  go_wp2
  have h0 : Holds ((w.alloc (.cells #[.int .u64 (wd f 0), .int .u64 (wd f 1), .int .u64 (wd f 2), .int .u64 (wd f 3)] 24)).alloc (.cells #[.int .u64 0, .int .u64 0, .int .u64 0, .int .u64 0] 24)) w.heap.size f := (Holds.new _ _ _).alloc _
  have h1 : Holds ((w.alloc (.cells #[.int .u64 (wd f 0), .int .u64 (wd f 1), .int .u64 (wd f 2), .int .u64 (wd f 3)] 24)).alloc (.cells #[.int .u64 0, .int .u64 0, .int .u64 0, .int .u64 0] 24)) (w.heap.size + 1) 0#256 := Holds.new0 _ _
  have hb : Below w.heap.size w ((w.alloc (.cells #[.int .u64 (wd f 0), .int .u64 (wd f 1), .int .u64 (wd f 2), .int .u64 (wd f 3)] 24)).alloc (.cells #[.int .u64 0, .int .u64 0, .int .u64 0, .int .u64 0] 24)) := by go_grown
  generalize (w.alloc (.cells #[.int .u64 (wd f 0), .int .u64 (wd f 1), .int .u64 (wd f 2), .int .u64 (wd f 3)] 24)).alloc (.cells #[.int .u64 0, .int .u64 0, .int .u64 0, .int .u64 0] 24) = W at *
  have c0 : ∀ u : Sub W, u.1.cell? ⟨w.heap.size, 0, none⟩ = some (.int .u64 (wd f 0)) := fun u => (h0.sub u).cells.1
  have c1 : ∀ u : Sub W, u.1.cell? ⟨w.heap.size, 1, none⟩ = some (.int .u64 (wd f 1)) := fun u => (h0.sub u).cells.2.1
  have c2 : ∀ u : Sub W, u.1.cell? ⟨w.heap.size, 2, none⟩ = some (.int .u64 (wd f 2)) := fun u => (h0.sub u).cells.2.2.1
  have c3 : ∀ u : Sub W, u.1.cell? ⟨w.heap.size, 3, none⟩ = some (.int .u64 (wd f 3)) := fun u => (h0.sub u).cells.2.2.2
  refine wp_region_quiet_tail (C := fun w' => ∃ u : Sub W, w' = u.1) 4 (by kernel_rfl) (by kernel_rfl) (InSub.drew W) ?_
  simp only [List.take_succ_cons, List.take_zero, List.drop_succ_cons, List.drop_zero]
  go_big_quiet_step (fail)
  go_big_quiet_step (exact sub_below (refConst false _))
  go_big_quiet_step (exact sub_below (refConst true _))
  go_big_quiet_step (exact sub_below (refIte f (ofRow fun _ => false) (ofRow fun _ => true) _))
  refine wpQuiet_nil ?_
  generalize hr : (f &&& ofRow (fun _ => false) ||| ~~~f &&& ofRow (fun _ => true)) = r
  have Hr := Lib.hid hr
  clear hr c0 c1 c2 c3
  intro w' hw'
  obtain ⟨u, rfl⟩ := hw'
  have k := h1.sub u
  have hb2 := hb.trans (u.2.mono hb.size)
  generalize u.1 = w1 at *
  obtain ⟨c0, c1, c2, c3⟩ := k.cells
  obtain ⟨z0, z1, z2, z3⟩ := k.free
  simp only [fv]
  go_wp2
  exact bodyPost_ret (ret_holds Tryd.results16 rfl (k.set4 r)) rfl ⟨by rw [Hr.out]; rfl, below_set4 hb2 (by omega)⟩

theorem refNot (f : Fn) (w : World) : Calls Tryd.prog 16 #[fv f] w fun e w' => e = .returned (fv (~~~f)) ∧ Below w.heap.size w w' := by
  have e : (f &&& ofRow (fun _ => false) ||| ~~~f &&& ofRow (fun _ => true)) = ~~~f := fn_ext fun x hx => by
    simp only [BitVec.getLsbD_or, BitVec.getLsbD_and, BitVec.getLsbD_not, ofRow_bit _ _ hx]; simp [hx]
  have h := refNot0 f w
  rwa [e] at h

set_option maxRecDepth 100000 in
set_option maxHeartbeats 400000 in
theorem refXor0 (f g : Fn) (w : World) :
    Calls Tryd.prog 15 #[fv f, fv g] w fun e w' => e = .returned (fv (f &&& ~~~g ||| ~~~f &&& g)) ∧ Below w.heap.size w w' := by
  simp only [fv]
  go_enter Tryd.func15, Tryd.ntmps15
  go_wp2
  have h0 : Holds (((w.alloc (.cells #[.int .u64 (wd f 0), .int .u64 (wd f 1), .int .u64 (wd f 2), .int .u64 (wd f 3)] 24)).alloc (.cells #[.int .u64 (wd g 0), .int .u64 (wd g 1), .int .u64 (wd g 2), .int .u64 (wd g 3)] 24)).alloc (.cells #[.int .u64 0, .int .u64 0, .int .u64 0, .int .u64 0] 24)) w.heap.size f := ((Holds.new _ _ _).alloc _).alloc _
  have hg0 : Holds (((w.alloc (.cells #[.int .u64 (wd f 0), .int .u64 (wd f 1), .int .u64 (wd f 2), .int .u64 (wd f 3)] 24)).alloc (.cells #[.int .u64 (wd g 0), .int .u64 (wd g 1), .int .u64 (wd g 2), .int .u64 (wd g 3)] 24)).alloc (.cells #[.int .u64 0, .int .u64 0, .int .u64 0, .int .u64 0] 24)) (w.heap.size + 1) g := (Holds.new _ _ _).alloc _
  have h1 : Holds (((w.alloc (.cells #[.int .u64 (wd f 0), .int .u64 (wd f 1), .int .u64 (wd f 2), .int .u64 (wd f 3)] 24)).alloc (.cells #[.int .u64 (wd g 0), .int .u64 (wd g 1), .int .u64 (wd g 2), .int .u64 (wd g 3)] 24)).alloc (.cells #[.int .u64 0, .int .u64 0, .int .u64 0, .int .u64 0] 24)) (w.heap.size + 1 + 1) 0#256 := Holds.new0 _ _
  have hb : Below w.heap.size w (((w.alloc (.cells #[.int .u64 (wd f 0), .int .u64 (wd f 1), .int .u64 (wd f 2), .int .u64 (wd f 3)] 24)).alloc (.cells #[.int .u64 (wd g 0), .int .u64 (wd g 1), .int .u64 (wd g 2), .int .u64 (wd g 3)] 24)).alloc (.cells #[.int .u64 0, .int .u64 0, .int .u64 0, .int .u64 0] 24)) := by go_grown
  generalize ((w.alloc (.cells #[.int .u64 (wd f 0), .int .u64 (wd f 1), .int .u64 (wd f 2), .int .u64 (wd f 3)] 24)).alloc (.cells #[.int .u64 (wd g 0), .int .u64 (wd g 1), .int .u64 (wd g 2), .int .u64 (wd g 3)] 24)).alloc (.cells #[.int .u64 0, .int .u64 0, .int .u64 0, .int .u64 0] 24) = W at *
  have c0 : ∀ u : Sub W, u.1.cell? ⟨w.heap.size, 0, none⟩ = some (.int .u64 (wd f 0)) := fun u => (h0.sub u).cells.1
  have c1 : ∀ u : Sub W, u.1.cell? ⟨w.heap.size, 1, none⟩ = some (.int .u64 (wd f 1)) := fun u => (h0.sub u).cells.2.1
  have c2 : ∀ u : Sub W, u.1.cell? ⟨w.heap.size, 2, none⟩ = some (.int .u64 (wd f 2)) := fun u => (h0.sub u).cells.2.2.1
  have c3 : ∀ u : Sub W, u.1.cell? ⟨w.heap.size, 3, none⟩ = some (.int .u64 (wd f 3)) := fun u => (h0.sub u).cells.2.2.2
  have d0 : ∀ u : Sub W, u.1.cell? ⟨w.heap.size + 1, 0, none⟩ = some (.int .u64 (wd g 0)) := fun u => (hg0.sub u).cells.1
  have d1 : ∀ u : Sub W, u.1.cell? ⟨w.heap.size + 1, 1, none⟩ = some (.int .u64 (wd g 1)) := fun u => (hg0.sub u).cells.2.1
  have d2 : ∀ u : Sub W, u.1.cell? ⟨w.heap.size + 1, 2, none⟩ = some (.int .u64 (wd g 2)) := fun u => (hg0.sub u).cells.2.2.1
  have d3 : ∀ u : Sub W, u.1.cell? ⟨w.heap.size + 1, 3, none⟩ = some (.int .u64 (wd g 3)) := fun u => (hg0.sub u).cells.2.2.2
  refine wp_region_quiet_tail (C := fun w' => ∃ u : Sub W, w' = u.1) 5 (by kernel_rfl) (by kernel_rfl) (InSub.drew W) ?_
  simp only [List.take_succ_cons, List.take_zero, List.drop_succ_cons, List.drop_zero]
  go_big_quiet_step (fail)
  go_big_quiet_step (fail)
  go_big_quiet_step (exact sub_below (refNot g _))
  go_big_quiet_step (fail)
  go_big_quiet_step (exact sub_below (refIte f (~~~g) g _))
  refine wpQuiet_nil ?_
  generalize hr : (f &&& ~~~g ||| ~~~f &&& g) = r
  have Hr := Lib.hid hr
  clear hr c0 c1 c2 c3 d0 d1 d2 d3
  intro w' hw'
  obtain ⟨u, rfl⟩ := hw'
  have k := h1.sub u
  have hb2 := hb.trans (u.2.mono hb.size)
  generalize u.1 = w1 at *
  obtain ⟨c0, c1, c2, c3⟩ := k.cells
  obtain ⟨z0, z1, z2, z3⟩ := k.free
  simp only [fv]
  go_wp2
  exact bodyPost_ret (ret_holds Tryd.results15 rfl (k.set4 r)) rfl ⟨by rw [Hr.out]; rfl, below_set4 hb2 (by omega)⟩

theorem refXor (f g : Fn) (w : World) : Calls Tryd.prog 15 #[fv f, fv g] w fun e w' => e = .returned (fv (f ^^^ g)) ∧ Below w.heap.size w w' := by
  have e : (f &&& ~~~g ||| ~~~f &&& g) = (f ^^^ g) := fn_ext fun x hx => by simp [hx]; cases f[x] <;> cases g[x] <;> rfl
  have h := refXor0 f g w
  rwa [e] at h

end Go.Proofs.YtclkckinpjkglaaDoor

/-
  Two functions compared: '==' and '!=' on arrays of four words.
-/
namespace Go.Proofs.YtclkckinpjkglaaDoor
open Go Go.RowKit

theorem fv_fold (f : Fn) : Value.agg #[.int .u64 (wd f 0), .int .u64 (wd f 1), .int .u64 (wd f 2), .int .u64 (wd f 3)] = fv f := rfl

theorem wd_ext {f g : Fn} (h0 : wd f 0 = wd g 0) (h1 : wd f 1 = wd g 1) (h2 : wd f 2 = wd g 2) (h3 : wd f 3 = wd g 3) : f = g := fn_ext fun k hk => by
  rw [wd_bit, wd_bit]
  rcases (by omega : k / 64 = 0 ∨ k / 64 = 1 ∨ k / 64 = 2 ∨ k / 64 = 3) with h | h | h | h <;> rw [h]
  · rw [h0]
  · rw [h1]
  · rw [h2]
  · rw [h3]

theorem fv_inj {f g : Fn} (h : fv f = fv g) : f = g := by
  unfold fv at h
  simp at h
  exact wd_ext (by omega) (by omega) (by omega) (by omega)

theorem run_equal_fv (d : Nat) (f g : Fn) (w : World) : (Op.equalIn (d + 1 + 1) 24 (fv f) (fv g)).run Tryd.prog w = .ok (f == g) w := by
  obtain ⟨i, hi⟩ : ∃ i, Tryd.prog.info? 22 = some i := info_of_underlying Tryd.underlying22
  unfold fv
  rw [run_equalIn_array w (d + 1) _ _ Tryd.underlying24 hi]
  have hc : Tryd.prog.cellsOf 22 = 1 := by kernel_rfl
  have hr : List.range 4 = [0, 1, 2, 3] := rfl
  rw [hc, hr]
  have e : (f == g) = (((wd f 0 : Int) == wd g 0) && (((wd f 1 : Int) == wd g 1) && (((wd f 2 : Int) == wd g 2) && ((wd f 3 : Int) == wd g 3)))) := by
    rw [Bool.eq_iff_iff]
    simp only [Bool.and_eq_true, beq_iff_eq]
    constructor
    · rintro rfl; simp
    · rintro ⟨h0, h1, h2, h3⟩; exact wd_ext (by omega) (by omega) (by omega) (by omega)
  rw [e]
  clear e
  generalize ((wd f 0 : Nat) : Int) = a0
  generalize ((wd f 1 : Nat) : Int) = a1
  generalize ((wd f 2 : Nat) : Int) = a2
  generalize ((wd f 3 : Nat) : Int) = a3
  generalize ((wd g 0 : Nat) : Int) = b0
  generalize ((wd g 1 : Nat) : Int) = b1
  generalize ((wd g 2 : Nat) : Int) = b2
  generalize ((wd g 3 : Nat) : Int) = b3
  have hq : ∀ (w : World) (a b : Int), (Op.equalIn (d + 1) 22 (.int .u64 a) (.int .u64 b)).run Tryd.prog w = .ok (a == b) w := fun w a b => run_equalIn_int w d _ _ _ _ _ Tryd.underlying22
  by_cases h0 : a0 = b0
  · by_cases h1 : a1 = b1
    · by_cases h2 : a2 = b2
      · by_cases h3 : a3 = b3
        · simp [Op.eqItems, part, go_sem, hq, h0, h1, h2, h3]
        · simp [Op.eqItems, part, go_sem, hq, h0, h1, h2, h3]
      · simp [Op.eqItems, part, go_sem, hq, h0, h1, h2]
    · simp [Op.eqItems, part, go_sem, hq, h0, h1]
  · simp [Op.eqItems, part, go_sem, hq, h0]

theorem run_eql_fv (f g : Fn) (w : World) : (binOp .eql 24 (fv f) (fv g)).run Tryd.prog w = .ok (.bool (f == g)) w := by
  have h := run_equal_fv 9998 f g w
  unfold fv at *
  rw [run_eql_struct, h]
  rfl

theorem run_neq_fv (f g : Fn) (w : World) : (binOp .neq 24 (fv f) (fv g)).run Tryd.prog w = .ok (.bool (!(f == g))) w := by
  have h := run_equal_fv 9998 f g w
  unfold fv at *
  rw [run_neq_struct, h]
  rfl

theorem run_guard_fv (op : BinOp) (x y : Operand) (f g : Fn) (w : World) : (eqGuard op 24 x y (fv f) (fv g)).run Tryd.prog w = .ok () w :=
  run_eqGuard_agg w op _ x y _ _ (by kernel_rfl)

theorem run_eql_fv1 (g f : Fn) (w : World) : (binOp .eql 24 (fv g) (.agg #[.int .u64 (wd f 0), .int .u64 (wd f 1), .int .u64 (wd f 2), .int .u64 (wd f 3)])).run Tryd.prog w = .ok (.bool (g == f)) w := run_eql_fv g f w
theorem run_neq_fv1 (g f : Fn) (w : World) : (binOp .neq 24 (fv g) (.agg #[.int .u64 (wd f 0), .int .u64 (wd f 1), .int .u64 (wd f 2), .int .u64 (wd f 3)])).run Tryd.prog w = .ok (.bool (!(g == f))) w := run_neq_fv g f w
theorem run_guard_fv1 (op : BinOp) (x y : Operand) (g f : Fn) (w : World) : (eqGuard op 24 x y (fv g) (.agg #[.int .u64 (wd f 0), .int .u64 (wd f 1), .int .u64 (wd f 2), .int .u64 (wd f 3)])).run Tryd.prog w = .ok () w := run_guard_fv op x y g f w
theorem run_eql_fv2 (g f : Fn) (w : World) : (binOp .eql 24 (.agg #[.int .u64 (wd g 0), .int .u64 (wd g 1), .int .u64 (wd g 2), .int .u64 (wd g 3)]) (.agg #[.int .u64 (wd f 0), .int .u64 (wd f 1), .int .u64 (wd f 2), .int .u64 (wd f 3)])).run Tryd.prog w = .ok (.bool (g == f)) w := run_eql_fv g f w
theorem run_guard_fv2 (op : BinOp) (x y : Operand) (g f : Fn) (w : World) : (eqGuard op 24 x y (.agg #[.int .u64 (wd g 0), .int .u64 (wd g 1), .int .u64 (wd g 2), .int .u64 (wd g 3)]) (.agg #[.int .u64 (wd f 0), .int .u64 (wd f 1), .int .u64 (wd f 2), .int .u64 (wd f 3)])).run Tryd.prog w = .ok () w := run_guard_fv op x y g f w
theorem run_equal_fv2 (g f : Fn) (w : World) : (Op.equalIn 10000 24 (.agg #[.int .u64 (wd g 0), .int .u64 (wd g 1), .int .u64 (wd g 2), .int .u64 (wd g 3)]) (.agg #[.int .u64 (wd f 0), .int .u64 (wd f 1), .int .u64 (wd f 2), .int .u64 (wd f 3)])).run Tryd.prog w = .ok (g == f) w := run_equal_fv 9998 g f w

end Go.Proofs.YtclkckinpjkglaaDoor
