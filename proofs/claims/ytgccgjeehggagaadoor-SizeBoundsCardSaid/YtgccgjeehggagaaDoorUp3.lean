/-
  Orders compared; the document's Plain; its example of layer 3.
-/
import Derived.Test.YtgccgjeehggagaaDoorSize
import Derived.Test.YtgccgjeehggagaaDoorMath3d
import Derived.Deep.RegionHeld3
namespace Go.Proofs.YtgccgjeehggagaaDoor
open Go Go.RowKit Go.Maps

theorem SliceF.form {w : World} {v : Value} {l : List Fn} (h : SliceF w v l) : ∃ a cap, v = .slice a l.length cap := by
  rcases h with ⟨rfl, rfl⟩ | ⟨ad, cap, rfl, _⟩
  · exact ⟨none, 0, rfl⟩
  · exact ⟨_, _, rfl⟩

theorem run_neq_ov (o : Nat → Int) (w : World) : (binOp .neq 23 (ov o) (ov o)).run Tryd.prog w = .ok (.bool false) w := by
  obtain ⟨i, hi⟩ : ∃ i, Tryd.prog.info? 3 = some i := info_of_underlying Tryd.underlying3
  have hc : Tryd.prog.cellsOf 3 = 1 := by kernel_rfl
  have hr : List.range 8 = [0, 1, 2, 3, 4, 5, 6, 7] := rfl
  have hq : ∀ (w : World) (a b : Int), (Op.equalIn 9999 3 (.int .i64 a) (.int .i64 b)).run Tryd.prog w = .ok (a == b) w := fun w a b => run_equalIn_int w 9998 _ _ _ _ _ Tryd.underlying3
  unfold ov
  rw [run_neq_struct, run_equalIn_array w 9999 _ _ Tryd.underlying23 hi, hc, hr]
  simp [Op.eqItems, part, go_sem, hq]

theorem run_guard_ov (op : BinOp) (x y : Operand) (o p : Nat → Int) (w : World) : (eqGuard op 23 x y (ov o) (ov p)).run Tryd.prog w = .ok () w :=
  run_eqGuard_agg w op _ x y _ _ (by kernel_rfl)

theorem plain_ov : (ov fun i => (i : Int)) = .agg #[.int .i64 0, .int .i64 1, .int .i64 2, .int .i64 3, .int .i64 4, .int .i64 5, .int .i64 6, .int .i64 7] := rfl

theorem refPlain (w : World) : Calls Tryd.prog 7 #[] w fun e w' => e = .returned (ov fun i => (i : Int)) ∧ Below w.heap.size w w' := by
  rw [plain_ov]
  go_enter Tryd.func7, Tryd.ntmps7
  go_wp2
  exact bodyPost_ret (v := .agg #[.int .i64 0, .int .i64 1, .int .i64 2, .int .i64 3, .int .i64 4, .int .i64 5, .int .i64 6, .int .i64 7]) (by simp [results, Tryd.results7, go_sem]) rfl ⟨rfl, by go_grown⟩

/-- What the example's region leans on. -/
def UpS (W : World) (B : Nat) (x : World) : Prop := Below W.heap.size W x ∧ x.cell? ⟨B, 0, none⟩ = some (.int .u64 (wd exX 0)) ∧ x.cell? ⟨B, 1, none⟩ = some (.int .u64 (wd exX 1)) ∧ x.cell? ⟨B, 2, none⟩ = some (.int .u64 (wd exX 2)) ∧ x.cell? ⟨B, 3, none⟩ = some (.int .u64 (wd exX 3))

theorem upS_below {W x : World} {B : Nat} (h : Below W.heap.size W x ∧ x.cell? ⟨B, 0, none⟩ = some (.int .u64 (wd exX 0)) ∧ x.cell? ⟨B, 1, none⟩ = some (.int .u64 (wd exX 1)) ∧ x.cell? ⟨B, 2, none⟩ = some (.int .u64 (wd exX 2)) ∧ x.cell? ⟨B, 3, none⟩ = some (.int .u64 (wd exX 3))) : Below W.heap.size W x := h.1

theorem upS_keep {W x y : World} {B : Nat} (h : Below W.heap.size W x ∧ x.cell? ⟨B, 0, none⟩ = some (.int .u64 (wd exX 0)) ∧ x.cell? ⟨B, 1, none⟩ = some (.int .u64 (wd exX 1)) ∧ x.cell? ⟨B, 2, none⟩ = some (.int .u64 (wd exX 2)) ∧ x.cell? ⟨B, 3, none⟩ = some (.int .u64 (wd exX 3))) (hb : Below x.heap.size x y) : Below W.heap.size W y ∧ y.cell? ⟨B, 0, none⟩ = some (.int .u64 (wd exX 0)) ∧ y.cell? ⟨B, 1, none⟩ = some (.int .u64 (wd exX 1)) ∧ y.cell? ⟨B, 2, none⟩ = some (.int .u64 (wd exX 2)) ∧ y.cell? ⟨B, 3, none⟩ = some (.int .u64 (wd exX 3)) := by
  obtain ⟨h0, h1, h2, h3, h4⟩ := h
  exact ⟨h0.trans (hb.mono h0.size), by rw [hb.cell (block_lt_of_cell h1)]; exact h1, by rw [hb.cell (block_lt_of_cell h2)]; exact h2, by rw [hb.cell (block_lt_of_cell h3)]; exact h3, by rw [hb.cell (block_lt_of_cell h4)]; exact h4⟩

theorem slice_one_drew (w : World) (f : Fn) (b : Nat) (hb : b = w.heap.size) : SliceF (w.alloc (.cells #[.int .u64 (wd f 0), .int .u64 (wd f 1), .int .u64 (wd f 2), .int .u64 (wd f 3)] 26)).drew (.slice (some ⟨b, 0, none⟩) 1 1) [f] :=
  SliceF.keep (slice_one w f b hb) (Below.refl _ _).drew (Nat.le_refl _)

/-- True in each row. -/
def oneF : Fn := BitVec.allOnes 256
theorem oneF_size : sizeF [oneF] (fun i => (i : Int)) = 0 := one_size
theorem tabOne (w : World) : Calls Tryd.prog 14 #[.bool true] w fun e w' => e = .returned (.agg #[.int .u64 (wd oneF 0), .int .u64 (wd oneF 1), .int .u64 (wd oneF 2), .int .u64 (wd oneF 3)]) ∧ Below w.heap.size w w' := tabConst true w
theorem sizeX (v : Value) (w : World) (hl : LowW w) (hv : SliceF w v [exX]) : Calls Tryd.prog 10 #[v, ov fun i => (i : Int)] w fun e w' => e = .returned (.int .i64 3) ∧ Below w.heap.size w w' := by
  have h := sizeSize [exX] (fun i => (i : Int)) v w hl hv (by decide)
  rwa [exX_size] at h
theorem sizeOne (v : Value) (w : World) (hl : LowW w) (hv : SliceF w v [oneF]) : Calls Tryd.prog 10 #[v, ov fun i => (i : Int)] w fun e w' => e = .returned (.int .i64 0) ∧ Below w.heap.size w w' := by
  have h := sizeSize [oneF] (fun i => (i : Int)) v w hl hv (by decide)
  rwa [oneF_size] at h
theorem topX (w : World) (hl : LowW w) : Calls Tryd.prog 8 #[.agg #[.int .u64 (wd exX 0), .int .u64 (wd exX 1), .int .u64 (wd exX 2), .int .u64 (wd exX 3)], .agg #[.int .i64 7, .int .i64 1, .int .i64 0, .int .i64 0, .int .i64 0, .int .i64 0, .int .i64 0, .int .i64 0]] w fun e w' => e = .returned (.int .i64 1) ∧ Below w.heap.size w w' := by
  have h := sizeTop exX (fun i => if i = 0 then 7 else if i = 1 then 1 else 0) w hl
  rw [exX_top] at h
  exact h

set_option maxRecDepth 100000 in
set_option maxHeartbeats 8000000 in
theorem up03 (w : World) (hl : LowW w) : Calls Tryd.prog 5 #[] w fun e w' => e = .returned (.bool true) ∧ Below w.heap.size w w' := by
  have hb := Below.refl w.heap.size w
  go_enter Tryd.func5, Tryd.ntmps5
  go_wp2_with fail
  refine (tabVar 0 _ (hl.keep hb)).mono ?_
  rintro e w1 ⟨rfl, hb1⟩
  replace hb := hb.trans (hb1.mono hb.size)
  clear hb1
  go_wp2_with fail
  refine (tabVar 1 _ (hl.keep hb)).mono ?_
  rintro e w2 ⟨rfl, hb1⟩
  replace hb := hb.trans (hb1.mono hb.size)
  clear hb1
  go_wp2_with fail
  refine (tabXor (varAny 0) (varAny 1) _).mono ?_
  rw [exX_eq]
  rintro e w3 ⟨rfl, hb1⟩
  replace hb := hb.trans (hb1.mono hb.size)
  clear hb1
  simp only [fv]
  go_wp2
  have k : Holds (w3.alloc (.cells #[.int .u64 (wd exX 0), .int .u64 (wd exX 1), .int .u64 (wd exX 2), .int .u64 (wd exX 3)] 26)) w3.heap.size exX := Holds.new _ _ _
  replace hb := hb.alloc hb.size (.cells #[.int .u64 (wd exX 0), .int .u64 (wd exX 1), .int .u64 (wd exX 2), .int .u64 (wd exX 3)] 26)
  generalize w3.heap.size = B at *
  generalize w3.alloc (.cells #[.int .u64 (wd exX 0), .int .u64 (wd exX 1), .int .u64 (wd exX 2), .int .u64 (wd exX 3)] 26) = W at *
  obtain ⟨c0, c1, c2, c3⟩ := k.cells
  have hlx : ∀ x, Below W.heap.size W x → LowW x := fun x hx => hl.keep (hb.trans (hx.mono hb.size))
  have HL := Lib.hid hlx
  clear hlx
  have hS0 : Below W.heap.size W W ∧ W.cell? ⟨B, 0, none⟩ = some (.int .u64 (wd exX 0)) ∧ W.cell? ⟨B, 1, none⟩ = some (.int .u64 (wd exX 1)) ∧ W.cell? ⟨B, 2, none⟩ = some (.int .u64 (wd exX 2)) ∧ W.cell? ⟨B, 3, none⟩ = some (.int .u64 (wd exX 3)) := ⟨Below.refl _ _, c0, c1, c2, c3⟩
  clear c0 c1 c2 c3
  go_region_held3 (fun w' => Below W.heap.size W w' ∧ w'.cell? ⟨B, 0, none⟩ = some (.int .u64 (wd exX 0)) ∧ w'.cell? ⟨B, 1, none⟩ = some (.int .u64 (wd exX 1)) ∧ w'.cell? ⟨B, 2, none⟩ = some (.int .u64 (wd exX 2)) ∧ w'.cell? ⟨B, 3, none⟩ = some (.int .u64 (wd exX 3))) (first | assumption | exact upS_keep hS0 ((Below.refl _ _).drew) | (refine upS_keep ?_ hbx; assumption) | (refine upS_keep ?_ (((Below.refl _ _).alloc (Nat.le_refl _) _).drew); assumption) | (refine upS_keep ?_ ((Below.refl _ _).alloc (Nat.le_refl _) _); assumption))
    (first
      | (go_at_call 6; refine (sizePlain _ ?_).mono ?_; (refine HL.out _ (upS_below (B := B) ?_); assumption); rintro e w' ⟨rfl, hbx⟩)
      | (go_at_call 14; refine (tabOne _).mono ?_; rintro e w' ⟨rfl, hbx⟩)
      | (go_at_call 8; refine (topX _ ?_).mono ?_; (refine HL.out _ (upS_below (B := B) ?_); assumption); rintro e w' ⟨rfl, hbx⟩)
      | (go_at_call 10; refine (sizeX _ _ ?_ ?_).mono ?_; (refine HL.out _ (upS_below (B := B) ?_); assumption); (first | (with_reducible exact slice_one _ _ _ rfl) | (with_reducible exact slice_one_drew _ _ _ rfl) | (refine SliceF.keep (slice_one_drew _ _ _ rfl) ?_ (Nat.le_refl _); with_reducible assumption) | (refine SliceF.keep (slice_one _ _ _ rfl) ?_ (Nat.le_refl _); with_reducible assumption)); rintro e w' ⟨rfl, hbx⟩)
      | (go_at_call 10; refine (sizeOne _ _ ?_ ?_).mono ?_; (refine HL.out _ (upS_below (B := B) ?_); assumption); (first | (with_reducible exact slice_one _ _ _ rfl) | (with_reducible exact slice_one_drew _ _ _ rfl) | (refine SliceF.keep (slice_one_drew _ _ _ rfl) ?_ (Nat.le_refl _); with_reducible assumption) | (refine SliceF.keep (slice_one _ _ _ rfl) ?_ (Nat.le_refl _); with_reducible assumption)); rintro e w' ⟨rfl, hbx⟩))
  all_goals
    go_wp2
    go_ret
    refine ⟨rfl, hb.trans (Below.mono (upS_below (B := B) ?_) hb.size)⟩
    assumption

end Go.Proofs.YtgccgjeehggagaaDoor
