/-
  The law SizeBounds, walked.
-/
import Derived.Test.YtgccgjeehggagaaDoorUp3
import Derived.Test.YtgccgjeehggagaaDoorFStep
import Derived.Test.YtgccgjeehggagaaDoorMay
namespace Go.Proofs.YtgccgjeehggagaaDoor
open Go Go.RowKit Go.Maps
attribute [local go_sem] run_eql_fv run_neq_fv run_guard_fv run_neq_ov run_guard_ov

theorem ordS {V x : World} {b : Nat} {o : Nat → Int} (h : HoldsO V b o) (hx : Below V.heap.size V x) : Below V.heap.size V x ∧ x.cell? ⟨b, 0, none⟩ = some (.int .i64 (o 0)) ∧ x.cell? ⟨b, 1, none⟩ = some (.int .i64 (o 1)) ∧ x.cell? ⟨b, 2, none⟩ = some (.int .i64 (o 2)) ∧ x.cell? ⟨b, 3, none⟩ = some (.int .i64 (o 3)) ∧ x.cell? ⟨b, 4, none⟩ = some (.int .i64 (o 4)) ∧ x.cell? ⟨b, 5, none⟩ = some (.int .i64 (o 5)) ∧ x.cell? ⟨b, 6, none⟩ = some (.int .i64 (o 6)) ∧ x.cell? ⟨b, 7, none⟩ = some (.int .i64 (o 7)) := by
  have k := h.keep hx h.lt
  exact ⟨hx, k.cell 0 (by decide), k.cell 1 (by decide), k.cell 2 (by decide), k.cell 3 (by decide), k.cell 4 (by decide), k.cell 5 (by decide), k.cell 6 (by decide), k.cell 7 (by decide)⟩
theorem ordS_left {V x : World} {b : Nat} {o : Nat → Int} (h : Below V.heap.size V x ∧ x.cell? ⟨b, 0, none⟩ = some (.int .i64 (o 0)) ∧ x.cell? ⟨b, 1, none⟩ = some (.int .i64 (o 1)) ∧ x.cell? ⟨b, 2, none⟩ = some (.int .i64 (o 2)) ∧ x.cell? ⟨b, 3, none⟩ = some (.int .i64 (o 3)) ∧ x.cell? ⟨b, 4, none⟩ = some (.int .i64 (o 4)) ∧ x.cell? ⟨b, 5, none⟩ = some (.int .i64 (o 5)) ∧ x.cell? ⟨b, 6, none⟩ = some (.int .i64 (o 6)) ∧ x.cell? ⟨b, 7, none⟩ = some (.int .i64 (o 7))) : Below V.heap.size V x := h.1
theorem keepC {V x y : World} {b : Nat} {o : Nat → Int} (h : Below V.heap.size V x ∧ x.cell? ⟨b, 0, none⟩ = some (.int .i64 (o 0)) ∧ x.cell? ⟨b, 1, none⟩ = some (.int .i64 (o 1)) ∧ x.cell? ⟨b, 2, none⟩ = some (.int .i64 (o 2)) ∧ x.cell? ⟨b, 3, none⟩ = some (.int .i64 (o 3)) ∧ x.cell? ⟨b, 4, none⟩ = some (.int .i64 (o 4)) ∧ x.cell? ⟨b, 5, none⟩ = some (.int .i64 (o 5)) ∧ x.cell? ⟨b, 6, none⟩ = some (.int .i64 (o 6)) ∧ x.cell? ⟨b, 7, none⟩ = some (.int .i64 (o 7))) (hb : Below x.heap.size x y) : Below V.heap.size V y := h.1.trans (hb.mono h.1.size)
theorem keepG {V x y : World} {b : Nat} {o : Nat → Int} {v : Value} (h : Below V.heap.size V x ∧ x.cell? ⟨b, 0, none⟩ = some (.int .i64 (o 0)) ∧ x.cell? ⟨b, 1, none⟩ = some (.int .i64 (o 1)) ∧ x.cell? ⟨b, 2, none⟩ = some (.int .i64 (o 2)) ∧ x.cell? ⟨b, 3, none⟩ = some (.int .i64 (o 3)) ∧ x.cell? ⟨b, 4, none⟩ = some (.int .i64 (o 4)) ∧ x.cell? ⟨b, 5, none⟩ = some (.int .i64 (o 5)) ∧ x.cell? ⟨b, 6, none⟩ = some (.int .i64 (o 6)) ∧ x.cell? ⟨b, 7, none⟩ = some (.int .i64 (o 7))) (hg : x.grownBy y v.ownBlock) (hlow : ∀ j, v.ownBlock = some j → V.heap.size ≤ j) : Below V.heap.size V y :=
  h.1.grown hg h.1.size hlow
theorem OwnsF.low {w : World} {base : Nat} {v : Value} {l : List Fn} (h : OwnsF w base v l) : ∀ j, v.ownBlock = some j → base ≤ j := fun j hj => (h.lt j hj).1

theorem sizeSame (l l' : List Fn) (hll : ∀ f, f ∈ l ↔ f ∈ l') (o : Nat → Int) (v : Value) (w : World) (hl : LowW w) (hv : SliceF w v l) (hn : l.length ≤ 40) : Calls Tryd.prog 10 #[v, ov o] w fun e w' => e = .returned (.int .i64 (sizeF l' o)) ∧ Below w.heap.size w w' := by
  have h := sizeSize l o v w hl hv hn
  rwa [size_same hll] at h

theorem size_bound (l : List Fn) (o : Nat → Int) : sizeF l o ≤ 511 * l.length := by
  have key : ∀ d k out work, 511 * l.length - k ≤ d → NInv l o out work k → sizeF l o ≤ 511 * l.length := by
    intro d
    induction d with
    | zero =>
      intro k out work hd h
      rw [sizeF_eq (h.done (by have := h.len; omega))]
      have := h.out_len; have := h.len; have := h.le; omega
    | succ d ih =>
      intro k out work hd h
      by_cases hk : k < work.length
      · obtain ⟨out', work', h'⟩ := h.next hk
        exact ih (k + 1) out' work' (by omega) h'
      · rw [sizeF_eq (h.done hk)]
        have := h.out_len; have := h.len; have := h.le; omega
  exact key _ 0 [] l (Nat.le_refl _) (NInv.start l o)

theorem twoS {V x : World} {b c : Nat} {o : Nat → Int} {f : Fn} (h : HoldsO V b o) (h' : Holds V c f) (hx : Below V.heap.size V x) : Below V.heap.size V x ∧ x.cell? ⟨b, 0, none⟩ = some (.int .i64 (o 0)) ∧ x.cell? ⟨b, 1, none⟩ = some (.int .i64 (o 1)) ∧ x.cell? ⟨b, 2, none⟩ = some (.int .i64 (o 2)) ∧ x.cell? ⟨b, 3, none⟩ = some (.int .i64 (o 3)) ∧ x.cell? ⟨b, 4, none⟩ = some (.int .i64 (o 4)) ∧ x.cell? ⟨b, 5, none⟩ = some (.int .i64 (o 5)) ∧ x.cell? ⟨b, 6, none⟩ = some (.int .i64 (o 6)) ∧ x.cell? ⟨b, 7, none⟩ = some (.int .i64 (o 7)) ∧ x.cell? ⟨c, 0, none⟩ = some (.int .u64 (wd f 0)) ∧ x.cell? ⟨c, 1, none⟩ = some (.int .u64 (wd f 1)) ∧ x.cell? ⟨c, 2, none⟩ = some (.int .u64 (wd f 2)) ∧ x.cell? ⟨c, 3, none⟩ = some (.int .u64 (wd f 3)) := by
  have k := h.keep hx h.lt
  have k' := h'.keep hx h'.lt
  exact ⟨hx, k.cell 0 (by decide), k.cell 1 (by decide), k.cell 2 (by decide), k.cell 3 (by decide), k.cell 4 (by decide), k.cell 5 (by decide), k.cell 6 (by decide), k.cell 7 (by decide), k'.cells.1, k'.cells.2.1, k'.cells.2.2.1, k'.cells.2.2.2⟩
theorem twoS_left {V x : World} {b c : Nat} {o : Nat → Int} {f : Fn} (h : Below V.heap.size V x ∧ x.cell? ⟨b, 0, none⟩ = some (.int .i64 (o 0)) ∧ x.cell? ⟨b, 1, none⟩ = some (.int .i64 (o 1)) ∧ x.cell? ⟨b, 2, none⟩ = some (.int .i64 (o 2)) ∧ x.cell? ⟨b, 3, none⟩ = some (.int .i64 (o 3)) ∧ x.cell? ⟨b, 4, none⟩ = some (.int .i64 (o 4)) ∧ x.cell? ⟨b, 5, none⟩ = some (.int .i64 (o 5)) ∧ x.cell? ⟨b, 6, none⟩ = some (.int .i64 (o 6)) ∧ x.cell? ⟨b, 7, none⟩ = some (.int .i64 (o 7)) ∧ x.cell? ⟨c, 0, none⟩ = some (.int .u64 (wd f 0)) ∧ x.cell? ⟨c, 1, none⟩ = some (.int .u64 (wd f 1)) ∧ x.cell? ⟨c, 2, none⟩ = some (.int .u64 (wd f 2)) ∧ x.cell? ⟨c, 3, none⟩ = some (.int .u64 (wd f 3))) : Below V.heap.size V x := h.1
theorem twoC {V x y : World} {b c : Nat} {o : Nat → Int} {f : Fn} (h : Below V.heap.size V x ∧ x.cell? ⟨b, 0, none⟩ = some (.int .i64 (o 0)) ∧ x.cell? ⟨b, 1, none⟩ = some (.int .i64 (o 1)) ∧ x.cell? ⟨b, 2, none⟩ = some (.int .i64 (o 2)) ∧ x.cell? ⟨b, 3, none⟩ = some (.int .i64 (o 3)) ∧ x.cell? ⟨b, 4, none⟩ = some (.int .i64 (o 4)) ∧ x.cell? ⟨b, 5, none⟩ = some (.int .i64 (o 5)) ∧ x.cell? ⟨b, 6, none⟩ = some (.int .i64 (o 6)) ∧ x.cell? ⟨b, 7, none⟩ = some (.int .i64 (o 7)) ∧ x.cell? ⟨c, 0, none⟩ = some (.int .u64 (wd f 0)) ∧ x.cell? ⟨c, 1, none⟩ = some (.int .u64 (wd f 1)) ∧ x.cell? ⟨c, 2, none⟩ = some (.int .u64 (wd f 2)) ∧ x.cell? ⟨c, 3, none⟩ = some (.int .u64 (wd f 3))) (hb : Below x.heap.size x y) : Below V.heap.size V y := h.1.trans (hb.mono h.1.size)

theorem top_nonneg {f : Fn} {o : Nat → Int} (ho : Full o) (h : supF f ≠ 0) : 0 ≤ topF f o := by
  obtain ⟨_, _, h3, _⟩ := posF_spec f o
  obtain ⟨hd, e⟩ := h3 (pos_of_sup ho h)
  rw [e]
  exact (depAny_range hd).1

/-- A constant. -/
def constH (b : Bool) : Fn := if b then BitVec.allOnes 256 else 0#256
theorem tabConstH (b : Bool) (w : World) : Calls Tryd.prog 14 #[.bool b] w fun e w' => e = .returned (fv (constH b)) ∧ Below w.heap.size w w' := tabConst b w
theorem tabNotU (f : Fn) (w : World) : Calls Tryd.prog 13 #[.agg #[.int .u64 (wd f 0), .int .u64 (wd f 1), .int .u64 (wd f 2), .int .u64 (wd f 3)]] w fun e w' => e = .returned (.agg #[.int .u64 (wd (~~~f) 0), .int .u64 (wd (~~~f) 1), .int .u64 (wd (~~~f) 2), .int .u64 (wd (~~~f) 3)]) ∧ Below w.heap.size w w' := tabNot f w
theorem sizeNot (f : Fn) (o : Nat → Int) (v : Value) (w : World) (hl : LowW w) (hv : SliceF w v [~~~f]) : Calls Tryd.prog 10 #[v, ov o] w fun e w' => e = .returned (.int .i64 (sizeF [f] o)) ∧ Below w.heap.size w w' := by
  have h := sizeSize [~~~f] o v w hl hv (by simp)
  rwa [size_not] at h
theorem const_ne : (constH false == constH true) = false := by decide +kernel

set_option maxRecDepth 100000 in
set_option maxHeartbeats 8000000 in
theorem sizeBounds (l k : List Fn) (o : Nat → Int) (f : Fn) (vl vk : Value) (w : World) (hl : LowW w) (hvl : SliceF w vl l) (hvk : SliceF w vk k) (hn1 : l.length ≤ 4611686018427387) (hn2 : k.length ≤ 4611686018427387) :
    Calls Tryd.prog 4 #[vl, vk, ov o, fv f] w fun e w' => e = .returned (.bool true) ∧ Below w.heap.size w w' := by
  obtain ⟨a1, cap1, rfl⟩ := hvl.form
  obtain ⟨a2, cap2, rfl⟩ := hvk.form
  simp only [fv, ov]
  go_enter Tryd.func4, Tryd.ntmps4
  go_wp2_with fail
  have h0 : HoldsO ((w.alloc (.cells #[.int .i64 (o 0), .int .i64 (o 1), .int .i64 (o 2), .int .i64 (o 3), .int .i64 (o 4), .int .i64 (o 5), .int .i64 (o 6), .int .i64 (o 7)] 23)).alloc (.cells #[.int .u64 (wd f 0), .int .u64 (wd f 1), .int .u64 (wd f 2), .int .u64 (wd f 3)] 26)) w.heap.size o := (HoldsO.new _ _ _).alloc _
  have h1 : Holds ((w.alloc (.cells #[.int .i64 (o 0), .int .i64 (o 1), .int .i64 (o 2), .int .i64 (o 3), .int .i64 (o 4), .int .i64 (o 5), .int .i64 (o 6), .int .i64 (o 7)] 23)).alloc (.cells #[.int .u64 (wd f 0), .int .u64 (wd f 1), .int .u64 (wd f 2), .int .u64 (wd f 3)] 26)) (w.heap.size + 1) f := Holds.new _ _ _
  have hb : Below w.heap.size w ((w.alloc (.cells #[.int .i64 (o 0), .int .i64 (o 1), .int .i64 (o 2), .int .i64 (o 3), .int .i64 (o 4), .int .i64 (o 5), .int .i64 (o 6), .int .i64 (o 7)] 23)).alloc (.cells #[.int .u64 (wd f 0), .int .u64 (wd f 1), .int .u64 (wd f 2), .int .u64 (wd f 3)] 26)) := by go_grown
  generalize ((w.alloc (.cells #[.int .i64 (o 0), .int .i64 (o 1), .int .i64 (o 2), .int .i64 (o 3), .int .i64 (o 4), .int .i64 (o 5), .int .i64 (o 6), .int .i64 (o 7)] 23)).alloc (.cells #[.int .u64 (wd f 0), .int .u64 (wd f 1), .int .u64 (wd f 2), .int .u64 (wd f 3)] 26)) = W0 at *
  refine (up03 _ (hl.keep hb)).mono ?_
  rintro e W1 ⟨rfl, hb1⟩
  replace h0 := h0.keep hb1 h0.lt
  replace h1 := h1.keep hb1 h1.lt
  replace hb := hb.trans (hb1.mono hb.size)
  clear hb1
  by_cases hbig : 20 < l.length + k.length
  · have hB : decide ((20 : Int) < (l.length : Int) + (k.length : Int)) = true := decide_eq_true (by omega)
    go_wp2
    go_ret
    exact ⟨rfl, hb⟩
  have hB : decide ((20 : Int) < (l.length : Int) + (k.length : Int)) = false := decide_eq_false (by omega)
  have c0 := h0.cell 0 (by decide)
  have c1 := h0.cell 1 (by decide)
  have c2 := h0.cell 2 (by decide)
  have c3 := h0.cell 3 (by decide)
  have c4 := h0.cell 4 (by decide)
  have c5 := h0.cell 5 (by decide)
  have c6 := h0.cell 6 (by decide)
  have c7 := h0.cell 7 (by decide)
  go_wp2_with fail
  clear c0 c1 c2 c3 c4 c5 c6 c7
  refine (sizeSize l o _ _ (hl.keep hb) (SliceF.keep hvl hb (Nat.le_refl _)) (by omega)).mono ?_
  rintro e W2 ⟨rfl, hb1⟩
  replace h0 := h0.keep hb1 h0.lt
  replace h1 := h1.keep hb1 h1.lt
  replace hb := hb.trans (hb1.mono hb.size)
  clear hb1
  have c0 := h0.cell 0 (by decide)
  have c1 := h0.cell 1 (by decide)
  have c2 := h0.cell 2 (by decide)
  have c3 := h0.cell 3 (by decide)
  have c4 := h0.cell 4 (by decide)
  have c5 := h0.cell 5 (by decide)
  have c6 := h0.cell 6 (by decide)
  have c7 := h0.cell 7 (by decide)
  go_wp2_with fail
  clear c0 c1 c2 c3 c4 c5 c6 c7
  refine (sizeSize k o _ _ (hl.keep hb) (SliceF.keep hvk hb (Nat.le_refl _)) (by omega)).mono ?_
  rintro e V ⟨rfl, hb1⟩
  replace h0 := h0.keep hb1 h0.lt
  replace h1 := h1.keep hb1 h1.lt
  replace hb := hb.trans (hb1.mono hb.size)
  clear hb1
  go_wp2
  have E1 : OwnsF ((V.alloc (.cells #[] 26)).drew) V.heap.size (.slice (some ⟨V.heap.size, 0, none⟩) 0 0) [] := ownsF_empty V _ rfl
  have hbV : Below V.heap.size V ((V.alloc (.cells #[] 26)).drew) := ((Below.refl _ _).alloc (Nat.le_refl _) _).drew
  have E2 : SliceF ((V.alloc (.cells #[] 26)).drew) (.slice a1 l.length cap1) l := SliceF.keep (SliceF.keep hvl hb (Nat.le_refl _)) hbV (Nat.le_refl _)
  have E3 : V.heap.size ≤ ((V.alloc (.cells #[] 26)).drew).heap.size := hbV.size
  have HE4 := Lib.hid (show ∀ x, Below V.heap.size V x → SliceF x (.slice a2 k.length cap2) k from fun x hx => SliceF.keep (SliceF.keep hvk hb (Nat.le_refl _)) hx (Nat.le_refl _))
  have HE5 := Lib.hid (show ∀ x, Below V.heap.size V x → LowW x from fun x hx => hl.keep (hb.trans (hx.mono hb.size)))
  have hS0 := ordS h0 (Below.refl V.heap.size V)
  go_region_held3 (fun w' => Below V.heap.size V w' ∧ w'.cell? ⟨w.heap.size, 0, none⟩ = some (.int .i64 (o 0)) ∧ w'.cell? ⟨w.heap.size, 1, none⟩ = some (.int .i64 (o 1)) ∧ w'.cell? ⟨w.heap.size, 2, none⟩ = some (.int .i64 (o 2)) ∧ w'.cell? ⟨w.heap.size, 3, none⟩ = some (.int .i64 (o 3)) ∧ w'.cell? ⟨w.heap.size, 4, none⟩ = some (.int .i64 (o 4)) ∧ w'.cell? ⟨w.heap.size, 5, none⟩ = some (.int .i64 (o 5)) ∧ w'.cell? ⟨w.heap.size, 6, none⟩ = some (.int .i64 (o 6)) ∧ w'.cell? ⟨w.heap.size, 7, none⟩ = some (.int .i64 (o 7))) (first | assumption | exact ordS h0 (Below.refl _ _).drew | exact ordS h0 hbV | (refine ordS h0 (keepG (o := o) (b := w.heap.size) ?_ hgx hlow); assumption) | (refine ordS h0 (keepC (o := o) (b := w.heap.size) ?_ hbx); assumption))
    (first
      | (have hlow := OwnsF.low E1; refine stepF rfl (.tmp 33) (.tmp 34) rfl V.heap.size _ _ [] l rfl E1 rfl E2 (by simp; omega) E3 ?_; intro v1 x1 hox hgx)
      | (have hlow := OwnsF.low hox; refine stepF rfl (.tmp 35) (.tmp 36) rfl V.heap.size _ _ ([] ++ l) k rfl hox rfl (HE4.out _ (ordS_left (o := o) (b := w.heap.size) (by assumption))) (by simp; omega) (Below.size (ordS_left (o := o) (b := w.heap.size) (by assumption))) ?_; intro v2 x2 hox hgx)
      | (go_at_call 10; refine (sizeSize (l ++ k) o _ _ (HE5.out _ (ordS_left (o := o) (b := w.heap.size) (by assumption))) (OwnsF.slice hox) (by simp; omega)).mono ?_; rintro e x3 ⟨rfl, hbx⟩))
  clear HE4 HE5 hS0 E1 E2 E3 hbV
  obtain ⟨X, hX⟩ : ∃ X, X = x3 := ⟨_, rfl⟩
  rw [← hX]
  have hbX : Below V.heap.size V X := by rw [hX]; exact ordS_left (o := o) (b := w.heap.size) (by assumption)
  replace h0 := h0.keep hbX h0.lt
  replace h1 := h1.keep hbX h1.lt
  replace hb := hb.trans (hbX.mono hb.size)
  clear hbX hX
  generalize X = Y at *
  go_wp2
  have E1 : OwnsF ((Y.alloc (.cells #[] 26)).drew) Y.heap.size (.slice (some ⟨Y.heap.size, 0, none⟩) 0 0) [] := ownsF_empty Y _ rfl
  have hbV : Below Y.heap.size Y ((Y.alloc (.cells #[] 26)).drew) := ((Below.refl _ _).alloc (Nat.le_refl _) _).drew
  have E2 : SliceF ((Y.alloc (.cells #[] 26)).drew) (.slice a2 k.length cap2) k := SliceF.keep (SliceF.keep hvk hb (Nat.le_refl _)) hbV (Nat.le_refl _)
  have E3 : Y.heap.size ≤ ((Y.alloc (.cells #[] 26)).drew).heap.size := hbV.size
  have HE4 := Lib.hid (show ∀ x, Below Y.heap.size Y x → SliceF x (.slice a1 l.length cap1) l from fun x hx => SliceF.keep (SliceF.keep hvl hb (Nat.le_refl _)) hx (Nat.le_refl _))
  have HE5 := Lib.hid (show ∀ x, Below Y.heap.size Y x → LowW x from fun x hx => hl.keep (hb.trans (hx.mono hb.size)))
  have hS0 := ordS h0 (Below.refl Y.heap.size Y)
  go_region_held3 (fun w' => Below Y.heap.size Y w' ∧ w'.cell? ⟨w.heap.size, 0, none⟩ = some (.int .i64 (o 0)) ∧ w'.cell? ⟨w.heap.size, 1, none⟩ = some (.int .i64 (o 1)) ∧ w'.cell? ⟨w.heap.size, 2, none⟩ = some (.int .i64 (o 2)) ∧ w'.cell? ⟨w.heap.size, 3, none⟩ = some (.int .i64 (o 3)) ∧ w'.cell? ⟨w.heap.size, 4, none⟩ = some (.int .i64 (o 4)) ∧ w'.cell? ⟨w.heap.size, 5, none⟩ = some (.int .i64 (o 5)) ∧ w'.cell? ⟨w.heap.size, 6, none⟩ = some (.int .i64 (o 6)) ∧ w'.cell? ⟨w.heap.size, 7, none⟩ = some (.int .i64 (o 7))) (first | assumption | exact ordS h0 (Below.refl _ _).drew | exact ordS h0 hbV | (refine ordS h0 (keepG (o := o) (b := w.heap.size) ?_ hgx hlow); assumption) | (refine ordS h0 (keepC (o := o) (b := w.heap.size) ?_ hbx); assumption))
    (first
      | (have hlow := OwnsF.low E1; refine stepF rfl (.tmp 40) (.tmp 41) rfl Y.heap.size _ _ [] k rfl E1 rfl E2 (by simp; omega) E3 ?_; intro v1 x1 hox hgx)
      | (have hlow := OwnsF.low hox; refine stepF rfl (.tmp 42) (.tmp 43) rfl Y.heap.size _ _ ([] ++ k) l rfl hox rfl (HE4.out _ (ordS_left (o := o) (b := w.heap.size) (by assumption))) (by simp; omega) (Below.size (ordS_left (o := o) (b := w.heap.size) (by assumption))) ?_; intro v2 x2 hox hgx)
      | (go_at_call 10; refine (sizeSame (k ++ l) (l ++ k) (fun f => by simp [or_comm]) o _ _ (HE5.out _ (ordS_left (o := o) (b := w.heap.size) (by assumption))) (OwnsF.slice hox) (by simp; omega)).mono ?_; rintro e x3 ⟨rfl, hbx⟩))
  clear HE4 HE5 hS0 E1 E2 E3 hbV
  obtain ⟨X, hX⟩ : ∃ X, X = x3 := ⟨_, rfl⟩
  rw [← hX]
  have hbX : Below Y.heap.size Y X := by rw [hX]; exact ordS_left (o := o) (b := w.heap.size) (by assumption)
  replace h0 := h0.keep hbX h0.lt
  replace h1 := h1.keep hbX h1.lt
  replace hb := hb.trans (hbX.mono hb.size)
  clear hbX hX
  generalize X = Z at *
  go_wp2
  have E1 : OwnsF ((Z.alloc (.cells #[] 26)).drew) Z.heap.size (.slice (some ⟨Z.heap.size, 0, none⟩) 0 0) [] := ownsF_empty Z _ rfl
  have hbV : Below Z.heap.size Z ((Z.alloc (.cells #[] 26)).drew) := ((Below.refl _ _).alloc (Nat.le_refl _) _).drew
  have E2 : SliceF ((Z.alloc (.cells #[] 26)).drew) (.slice a1 l.length cap1) l := SliceF.keep (SliceF.keep hvl hb (Nat.le_refl _)) hbV (Nat.le_refl _)
  have E3 : Z.heap.size ≤ ((Z.alloc (.cells #[] 26)).drew).heap.size := hbV.size
  have HE4 := Lib.hid (show ∀ x, Below Z.heap.size Z x → SliceF x (.slice a1 l.length cap1) l from fun x hx => SliceF.keep (SliceF.keep hvl hb (Nat.le_refl _)) hx (Nat.le_refl _))
  have HE5 := Lib.hid (show ∀ x, Below Z.heap.size Z x → LowW x from fun x hx => hl.keep (hb.trans (hx.mono hb.size)))
  have hS0 := ordS h0 (Below.refl Z.heap.size Z)
  go_region_held3 (fun w' => Below Z.heap.size Z w' ∧ w'.cell? ⟨w.heap.size, 0, none⟩ = some (.int .i64 (o 0)) ∧ w'.cell? ⟨w.heap.size, 1, none⟩ = some (.int .i64 (o 1)) ∧ w'.cell? ⟨w.heap.size, 2, none⟩ = some (.int .i64 (o 2)) ∧ w'.cell? ⟨w.heap.size, 3, none⟩ = some (.int .i64 (o 3)) ∧ w'.cell? ⟨w.heap.size, 4, none⟩ = some (.int .i64 (o 4)) ∧ w'.cell? ⟨w.heap.size, 5, none⟩ = some (.int .i64 (o 5)) ∧ w'.cell? ⟨w.heap.size, 6, none⟩ = some (.int .i64 (o 6)) ∧ w'.cell? ⟨w.heap.size, 7, none⟩ = some (.int .i64 (o 7))) (first | assumption | exact ordS h0 (Below.refl _ _).drew | exact ordS h0 hbV | (refine ordS h0 (keepG (o := o) (b := w.heap.size) ?_ hgx hlow); assumption) | (refine ordS h0 (keepC (o := o) (b := w.heap.size) ?_ hbx); assumption))
    (first
      | (have hlow := OwnsF.low E1; refine stepF rfl (.tmp 47) (.tmp 48) rfl Z.heap.size _ _ [] l rfl E1 rfl E2 (by simp; omega) E3 ?_; intro v1 x1 hox hgx)
      | (have hlow := OwnsF.low hox; refine stepF rfl (.tmp 49) (.tmp 50) rfl Z.heap.size _ _ ([] ++ l) l rfl hox rfl (HE4.out _ (ordS_left (o := o) (b := w.heap.size) (by assumption))) (by simp; omega) (Below.size (ordS_left (o := o) (b := w.heap.size) (by assumption))) ?_; intro v2 x2 hox hgx)
      | (go_at_call 10; refine (sizeSame (l ++ l) l (fun f => by simp) o _ _ (HE5.out _ (ordS_left (o := o) (b := w.heap.size) (by assumption))) (OwnsF.slice hox) (by simp; omega)).mono ?_; rintro e x3 ⟨rfl, hbx⟩))
  clear HE4 HE5 hS0 E1 E2 E3 hbV
  obtain ⟨X, hX⟩ : ∃ X, X = x3 := ⟨_, rfl⟩
  rw [← hX]
  have hbX : Below Z.heap.size Z X := by rw [hX]; exact ordS_left (o := o) (b := w.heap.size) (by assumption)
  replace h0 := h0.keep hbX h0.lt
  replace h1 := h1.keep hbX h1.lt
  replace hb := hb.trans (hbX.mono hb.size)
  clear hbX hX
  generalize X = U at *
  have hs1 := size_le (l := l) (k := l ++ k) (o := o) fun f hf => List.mem_append_left _ hf
  have hs2 := size_le (l := k) (k := l ++ k) (o := o) fun f hf => List.mem_append_right _ hf
  have hs3 := size_add l k o
  have hs4 := size_bound l o
  have hs5 := size_bound k o
  generalize sizeF l o = n1 at *
  generalize sizeF k o = n2 at *
  generalize sizeF (l ++ k) o = n3 at *
  have c0 := h0.cell 0 (by decide)
  have c1 := h0.cell 1 (by decide)
  have c2 := h0.cell 2 (by decide)
  have c3 := h0.cell 3 (by decide)
  have c4 := h0.cell 4 (by decide)
  have c5 := h0.cell 5 (by decide)
  have c6 := h0.cell 6 (by decide)
  have c7 := h0.cell 7 (by decide)
  go_wp2_with fail
  clear c0 c1 c2 c3 c4 c5 c6 c7
  refine (lawMay o _).mono ?_
  rintro e U1 ⟨rfl, hb1⟩
  replace h0 := h0.keep hb1 h0.lt
  replace h1 := h1.keep hb1 h1.lt
  replace hb := hb.trans (hb1.mono hb.size)
  clear hb1 hs1 hs2 hs3 hs4 hs5
  cases hm : mayB o
  · go_wp2
    go_ret
    exact ⟨rfl, hb⟩
  · have hfull := full_of_may hm
    clear hm
    have c0 := h0.cell 0 (by decide)
    have c1 := h0.cell 1 (by decide)
    have c2 := h0.cell 2 (by decide)
    have c3 := h0.cell 3 (by decide)
    have c4 := h0.cell 4 (by decide)
    have c5 := h0.cell 5 (by decide)
    have c6 := h0.cell 6 (by decide)
    have c7 := h0.cell 7 (by decide)
    obtain ⟨d0, d1, d2, d3⟩ := h1.cells
    have hlt0 := h0.lt
    have hlt1 := h1.lt
    have hne0 : ¬ w.heap.size = U1.heap.size := by omega
    have hne1 : ¬ w.heap.size + 1 = U1.heap.size := by omega
    go_wp2_with fail
    clear c0 c1 c2 c3 c4 c5 c6 c7 d0 d1 d2 d3 hlt0 hlt1 hne0 hne1
    have hbA := (Below.refl U1.heap.size U1).alloc (Nat.le_refl _) (.cells #[.int .u64 (wd f 0), .int .u64 (wd f 1), .int .u64 (wd f 2), .int .u64 (wd f 3)] 26)
    replace hb := hb.trans (hbA.mono hb.size)
    have hsl := slice_one U1 f U1.heap.size rfl
    refine (sizeSize [f] o _ _ (hl.keep hb) hsl (by simp)).mono ?_
    replace h0 := h0.keep hbA h0.lt
    replace h1 := h1.keep hbA h1.lt
    clear hbA hsl
    rintro e U2 ⟨rfl, hb1⟩
    replace h0 := h0.keep hb1 h0.lt
    replace h1 := h1.keep hb1 h1.lt
    replace hb := hb.trans (hb1.mono hb.size)
    clear hb1
    have c0 := h0.cell 0 (by decide)
    have c1 := h0.cell 1 (by decide)
    have c2 := h0.cell 2 (by decide)
    have c3 := h0.cell 3 (by decide)
    have c4 := h0.cell 4 (by decide)
    have c5 := h0.cell 5 (by decide)
    have c6 := h0.cell 6 (by decide)
    have c7 := h0.cell 7 (by decide)
    obtain ⟨d0, d1, d2, d3⟩ := h1.cells
    go_wp2_with fail
    clear c0 c1 c2 c3 c4 c5 c6 c7 d0 d1 d2 d3
    refine (sizeTop f o _ (hl.keep hb)).mono ?_
    rintro e V ⟨rfl, hb1⟩
    replace h0 := h0.keep hb1 h0.lt
    replace h1 := h1.keep hb1 h1.lt
    replace hb := hb.trans (hb1.mono hb.size)
    clear hb1
    have h77 := size_77 f o hfull
    have hz := size_zero f o
    have htn := top_neg (f := f) hfull
    have hsd := size_sides f o
    have hcs := const_of_sup f
    have htp := top_nonneg (f := f) hfull
    generalize hn : sizeF [f] o = n at *
    generalize htt : topF f o = t at *
    have Hn := Lib.hid hn
    clear hn htt
    have hd77 : decide ((77 : Int) < (n : Int)) = false := decide_eq_false (by omega)
    have hd0 : decide ((n : Int) < 0) = false := decide_eq_false (by omega)
    by_cases hsup : supF f = 0
    · have hn0 := hz.2 hsup
      have ht1 := htn.2 hsup
      subst hn0 ht1
      clear hz htn hsd htp
      rcases hcs hsup with hf | hf
      · have hq1 : (f == constH true) = true := by rw [hf]; decide +kernel
        have hq2 : (f == constH false) = false := by rw [hf]; decide +kernel
        clear hcs hf hsup
        have hE1 : ∀ w : World, (binOp .eql 26 (.agg #[.int .u64 (wd f 0), .int .u64 (wd f 1), .int .u64 (wd f 2), .int .u64 (wd f 3)]) (fv (constH true))).run Tryd.prog w = .ok (.bool true) w := fun w => by rw [fv_fold, run_eql_fv, hq1]
        have hE2 : ∀ w : World, (binOp .eql 26 (.agg #[.int .u64 (wd f 0), .int .u64 (wd f 1), .int .u64 (wd f 2), .int .u64 (wd f 3)]) (fv (constH false))).run Tryd.prog w = .ok (.bool false) w := fun w => by rw [fv_fold, run_eql_fv, hq2]
        have hG : ∀ (op : BinOp) (x y : Operand) (b : Bool) (w : World), (eqGuard op 26 x y (.agg #[.int .u64 (wd f 0), .int .u64 (wd f 1), .int .u64 (wd f 2), .int .u64 (wd f 3)]) (fv (constH b))).run Tryd.prog w = .ok () w := fun op x y b w => by rw [fv_fold, run_guard_fv]
        have K1 := Lib.hid (show ∀ x, Below V.heap.size V x → LowW x from fun x hx => hl.keep (hb.trans (hx.mono hb.size)))
        have K2 := Lib.hid (show ∀ (v : Value) (x : World), LowW x → SliceF x v [~~~f] → Calls Tryd.prog 10 #[v, ov o] x fun e w' => e = .returned (.int .i64 ((0 : Nat) : Int)) ∧ Below x.heap.size x w' from fun v x hx hv => by have := sizeNot f o v x hx hv; rwa [Hn.out] at this)
        have hS0 := twoS h0 h1 (Below.refl V.heap.size V)
        clear hq1 hq2
        go_wp2
        refine wp_region_held_drew (S := (fun w' => Below V.heap.size V w' ∧ w'.cell? ⟨w.heap.size, 0, none⟩ = some (.int .i64 (o 0)) ∧ w'.cell? ⟨w.heap.size, 1, none⟩ = some (.int .i64 (o 1)) ∧ w'.cell? ⟨w.heap.size, 2, none⟩ = some (.int .i64 (o 2)) ∧ w'.cell? ⟨w.heap.size, 3, none⟩ = some (.int .i64 (o 3)) ∧ w'.cell? ⟨w.heap.size, 4, none⟩ = some (.int .i64 (o 4)) ∧ w'.cell? ⟨w.heap.size, 5, none⟩ = some (.int .i64 (o 5)) ∧ w'.cell? ⟨w.heap.size, 6, none⟩ = some (.int .i64 (o 6)) ∧ w'.cell? ⟨w.heap.size, 7, none⟩ = some (.int .i64 (o 7)) ∧ w'.cell? ⟨w.heap.size + 1, 0, none⟩ = some (.int .u64 (wd f 0)) ∧ w'.cell? ⟨w.heap.size + 1, 1, none⟩ = some (.int .u64 (wd f 1)) ∧ w'.cell? ⟨w.heap.size + 1, 2, none⟩ = some (.int .u64 (wd f 2)) ∧ w'.cell? ⟨w.heap.size + 1, 3, none⟩ = some (.int .u64 (wd f 3)))) (by kernel_rfl) (twoS h0 h1 (Below.refl _ _).drew) (fun hHeld => ?_)
        refine wpAnyH_take (i := 0) (v := ?_) rfl (by kernel_rfl) (by kernel_rfl) (by kernel_rfl) (fun _ _ _ h => h) (Or.inl ⟨by rfl, ?_⟩) (by assumption) ?_
        rotate_left
        · (intro w hSw; (try dsimp only at hSw); go_simp <;> with_reducible rfl)
        simp only [List.getElem_toArray, List.getElem_cons_zero, Act.put, List.setIfInBounds_toArray, List.set_cons_zero, List.set_cons_succ]
        refine wpAnyH_take (i := 1) (v := ?_) rfl (by kernel_rfl) (by kernel_rfl) (by kernel_rfl) (fun _ _ _ h => h) (Or.inl ⟨by rfl, ?_⟩) (by assumption) ?_
        rotate_left
        · (intro w hSw; (try dsimp only at hSw); go_simp <;> with_reducible rfl)
        simp only [List.getElem_toArray, List.getElem_cons_zero, List.getElem_cons_succ, Act.put, List.setIfInBounds_toArray, List.set_cons_zero, List.set_cons_succ]
        refine wpAnyH_take (i := 2) (v := ?_) rfl (by kernel_rfl) (by kernel_rfl) (by kernel_rfl) (fun _ _ _ h => h) (Or.inl ⟨by rfl, ?_⟩) (by assumption) ?_
        rotate_left
        · (intro w hSw; (try dsimp only at hSw); go_simp <;> with_reducible rfl)
        simp only [List.getElem_toArray, List.getElem_cons_zero, List.getElem_cons_succ, Act.put, List.setIfInBounds_toArray, List.set_cons_zero, List.set_cons_succ]
        refine wpAnyH_take (i := 3) (v := ?_) rfl (by kernel_rfl) (by kernel_rfl) (by kernel_rfl) (fun _ _ _ h => h) (Or.inl ⟨by rfl, ?_⟩) (by assumption) ?_
        rotate_left
        · (intro w hSw; (try dsimp only at hSw); go_simp <;> with_reducible rfl)
        simp only [List.getElem_toArray, List.getElem_cons_zero, List.getElem_cons_succ, Act.put, List.setIfInBounds_toArray, List.set_cons_zero, List.set_cons_succ]
        refine wpAnyH_take (i := 4) (v := ?_) rfl (by kernel_rfl) (by kernel_rfl) (by kernel_rfl) (fun _ _ _ h => h) (Or.inl ⟨by rfl, ?_⟩) (by assumption) ?_
        rotate_left
        · (intro w hSw; (try dsimp only at hSw); go_simp <;> with_reducible rfl)
        simp only [List.getElem_toArray, List.getElem_cons_zero, List.getElem_cons_succ, Act.put, List.setIfInBounds_toArray, List.set_cons_zero, List.set_cons_succ]
        refine wpAnyH_take (i := 5) (v := ?_) rfl (by kernel_rfl) (by kernel_rfl) (by kernel_rfl) (fun _ _ _ h => h) (Or.inl ⟨by rfl, ?_⟩) (by assumption) ?_
        rotate_left
        · (intro w hSw; (try dsimp only at hSw); go_simp <;> with_reducible rfl)
        simp only [List.getElem_toArray, List.getElem_cons_zero, List.getElem_cons_succ, Act.put, List.setIfInBounds_toArray, List.set_cons_zero, List.set_cons_succ]
        refine wpAnyH_take (i := 6) (v := ?_) rfl (by kernel_rfl) (by kernel_rfl) (by kernel_rfl) (fun _ _ _ h => h) (Or.inl ⟨by rfl, ?_⟩) (by assumption) ?_
        rotate_left
        · (intro w hSw; (try dsimp only at hSw); go_simp <;> with_reducible rfl)
        simp only [List.getElem_toArray, List.getElem_cons_zero, List.getElem_cons_succ, Act.put, List.setIfInBounds_toArray, List.set_cons_zero, List.set_cons_succ]
        refine wpAnyH_take (i := 7) (v := ?_) rfl (by kernel_rfl) (by kernel_rfl) (by kernel_rfl) (fun _ _ _ h => h) (Or.inl ⟨by rfl, ?_⟩) (by assumption) ?_
        rotate_left
        · (intro w hSw; (try dsimp only at hSw); go_simp <;> with_reducible rfl)
        simp only [List.getElem_toArray, List.getElem_cons_zero, List.getElem_cons_succ, Act.put, List.setIfInBounds_toArray, List.set_cons_zero, List.set_cons_succ]
        refine wpAnyH_take (i := 10) (v := ?_) rfl (by kernel_rfl) (by kernel_rfl) (by kernel_rfl) (fun _ _ _ h => h) (Or.inl ⟨by rfl, ?_⟩) (by assumption) ?_
        rotate_left
        · (intro w hSw; (try dsimp only at hSw); go_simp <;> with_reducible rfl)
        simp only [List.getElem_toArray, List.getElem_cons_zero, List.getElem_cons_succ, Act.put, List.setIfInBounds_toArray, List.set_cons_zero, List.set_cons_succ]
        refine wpAnyH_take (i := 12) (v := ?_) rfl (by kernel_rfl) (by kernel_rfl) (by kernel_rfl) (fun _ _ _ h => h) (Or.inl ⟨by rfl, ?_⟩) (by assumption) ?_
        rotate_left
        · (intro w hSw; (try dsimp only at hSw); go_simp <;> with_reducible rfl)
        simp only [List.getElem_toArray, List.getElem_cons_zero, List.getElem_cons_succ, Act.put, List.setIfInBounds_toArray, List.set_cons_zero, List.set_cons_succ]
        refine wpAnyH_ready (rs := [8]) (by kernel_rfl) (by simp) ?_
        refine AllReadyH.cons rfl (fun K hK => ?_) AllReadyH.nil
        go_simp
        refine (tabNotU f _).mono ?_
        rintro e x3 ⟨rfl, hbx⟩
        refine hK.out _ _ (twoS h0 h1 (twoC (b := w.heap.size) (c := w.heap.size + 1) (o := o) (f := f) hHeld hbx)) (fun hHeld => ?_)
        clear hK K
        refine wpAnyH_ready (rs := [9]) (by kernel_rfl) (by simp) ?_
        refine AllReadyH.cons rfl (fun K hK => ?_) AllReadyH.nil
        go_simp
        refine hK.out _ _ (twoS h0 h1 (twoC (b := w.heap.size) (c := w.heap.size + 1) (o := o) (f := f) hHeld ((Below.refl _ _).alloc (Nat.le_refl _) _))) (fun hHeld => ?_)
        clear hK K
        refine wpAnyH_ready (rs := [11]) (by kernel_rfl) (by simp) ?_
        refine AllReadyH.cons rfl (fun K hK => ?_) AllReadyH.nil
        go_simp
        refine (K2.out _ _ (K1.out _ (twoS_left (b := w.heap.size) (c := w.heap.size + 1) (o := o) (f := f) hHeld)) (slice_one _ _ _ rfl)).mono ?_
        rintro e x3 ⟨rfl, hbx⟩
        refine hK.out _ _ (twoS h0 h1 (twoC (b := w.heap.size) (c := w.heap.size + 1) (o := o) (f := f) hHeld hbx)) (fun hHeld => ?_)
        clear hK K
        refine wpAnyH_take (i := 13) (v := ?_) rfl (by kernel_rfl) (by kernel_rfl) (by kernel_rfl) (fun _ _ _ h => h) (Or.inl ⟨by rfl, ?_⟩) (by assumption) ?_
        rotate_left
        · (intro w hSw; (try dsimp only at hSw); go_simp <;> with_reducible rfl)
        simp only [List.getElem_toArray, List.getElem_cons_zero, List.getElem_cons_succ, Act.put, List.setIfInBounds_toArray, List.set_cons_zero, List.set_cons_succ]
        refine wpAnyH_take (i := 14) (v := ?_) rfl (by kernel_rfl) (by kernel_rfl) (by kernel_rfl) (fun _ _ _ h => h) (Or.inl ⟨by rfl, ?_⟩) (by assumption) ?_
        rotate_left
        · (intro w hSw; (try dsimp only at hSw); go_simp <;> with_reducible rfl)
        simp only [List.getElem_toArray, List.getElem_cons_zero, List.getElem_cons_succ, Act.put, List.setIfInBounds_toArray, List.set_cons_zero, List.set_cons_succ]
        refine wpAnyH_take (i := 15) (v := ?_) rfl (by kernel_rfl) (by kernel_rfl) (by kernel_rfl) (fun _ _ _ h => h) (Or.inl ⟨by rfl, ?_⟩) (by assumption) ?_
        rotate_left
        · (intro w hSw; (try dsimp only at hSw); go_simp <;> with_reducible rfl)
        simp only [List.getElem_toArray, List.getElem_cons_zero, List.getElem_cons_succ, Act.put, List.setIfInBounds_toArray, List.set_cons_zero, List.set_cons_succ]
        refine wpAnyH_take (i := 16) (v := ?_) rfl (by kernel_rfl) (by kernel_rfl) (by kernel_rfl) (fun _ _ _ h => h) (Or.inl ⟨by rfl, ?_⟩) (by assumption) ?_
        rotate_left
        · (intro w hSw; (try dsimp only at hSw); go_simp <;> with_reducible rfl)
        simp only [List.getElem_toArray, List.getElem_cons_zero, List.getElem_cons_succ, Act.put, List.setIfInBounds_toArray, List.set_cons_zero, List.set_cons_succ]
        refine wpAnyH_take (i := 17) (v := ?_) rfl (by kernel_rfl) (by kernel_rfl) (by kernel_rfl) (fun _ _ _ h => h) (Or.inl ⟨by rfl, ?_⟩) (by assumption) ?_
        rotate_left
        · (intro w hSw; (try dsimp only at hSw); go_simp <;> with_reducible rfl)
        simp only [List.getElem_toArray, List.getElem_cons_zero, List.getElem_cons_succ, Act.put, List.setIfInBounds_toArray, List.set_cons_zero, List.set_cons_succ]
        refine wpAnyH_take (i := 18) (v := ?_) rfl (by kernel_rfl) (by kernel_rfl) (by kernel_rfl) (fun _ _ _ h => h) (Or.inl ⟨by rfl, ?_⟩) (by assumption) ?_
        rotate_left
        · (intro w hSw; (try dsimp only at hSw); go_simp <;> with_reducible rfl)
        simp only [List.getElem_toArray, List.getElem_cons_zero, List.getElem_cons_succ, Act.put, List.setIfInBounds_toArray, List.set_cons_zero, List.set_cons_succ]
        refine wpAnyH_ready (rs := [19]) (by kernel_rfl) (by simp) ?_
        refine AllReadyH.cons rfl (fun K hK => ?_) AllReadyH.nil
        go_simp
        refine (tabConstH true _).mono ?_
        rintro e x3 ⟨rfl, hbx⟩
        refine hK.out _ _ (twoS h0 h1 (twoC (b := w.heap.size) (c := w.heap.size + 1) (o := o) (f := f) hHeld hbx)) (fun hHeld => ?_)
        clear hK K
        refine wpAnyH_take (i := 20) (v := ?_) rfl (by kernel_rfl) (by kernel_rfl) (by kernel_rfl) (fun _ _ _ h => h) (Or.inl ⟨by rfl, ?_⟩) (by assumption) ?_
        rotate_left
        · (intro w hSw; (try dsimp only at hSw); go_simp <;> with_reducible rfl)
        simp only [List.getElem_toArray, List.getElem_cons_zero, List.getElem_cons_succ, Act.put, List.setIfInBounds_toArray, List.set_cons_zero, List.set_cons_succ]
        refine wpAnyH_take (i := 21) (v := ?_) rfl (by kernel_rfl) (by kernel_rfl) (by kernel_rfl) (fun _ _ _ h => h) (Or.inl ⟨by rfl, ?_⟩) (by assumption) ?_
        rotate_left
        · (intro w hSw; (try dsimp only at hSw); go_simp <;> with_reducible rfl)
        simp only [List.getElem_toArray, List.getElem_cons_zero, List.getElem_cons_succ, Act.put, List.setIfInBounds_toArray, List.set_cons_zero, List.set_cons_succ]
        refine wpAnyH_take (i := 22) (v := undef) rfl (by kernel_rfl) (by kernel_rfl) (by kernel_rfl) (fun _ _ _ h => h) (Or.inr ⟨by rfl, rfl⟩) (by assumption) ?_
        simp only [List.getElem_toArray, List.getElem_cons_zero, List.getElem_cons_succ, Act.put, List.setIfInBounds_toArray, List.set_cons_zero, List.set_cons_succ]
        refine wpAnyH_take (i := 23) (v := undef) rfl (by kernel_rfl) (by kernel_rfl) (by kernel_rfl) (fun _ _ _ h => h) (Or.inr ⟨by rfl, rfl⟩) (by assumption) ?_
        simp only [List.getElem_toArray, List.getElem_cons_zero, List.getElem_cons_succ, Act.put, List.setIfInBounds_toArray, List.set_cons_zero, List.set_cons_succ]
        refine wpAnyH_take (i := 24) (v := undef) rfl (by kernel_rfl) (by kernel_rfl) (by kernel_rfl) (fun _ _ _ h => h) (Or.inr ⟨by rfl, rfl⟩) (by assumption) ?_
        simp only [List.getElem_toArray, List.getElem_cons_zero, List.getElem_cons_succ, Act.put, List.setIfInBounds_toArray, List.set_cons_zero, List.set_cons_succ]
        refine wpAnyH_take (i := 25) (v := ?_) rfl (by kernel_rfl) (by kernel_rfl) (by kernel_rfl) (fun _ _ _ h => h) (Or.inl ⟨by rfl, ?_⟩) (by assumption) ?_
        rotate_left
        · (intro w hSw; (try dsimp only at hSw); go_simp <;> with_reducible rfl)
        simp only [List.getElem_toArray, List.getElem_cons_zero, List.getElem_cons_succ, Act.put, List.setIfInBounds_toArray, List.set_cons_zero, List.set_cons_succ]
        refine wpAnyH_take (i := 26) (v := ?_) rfl (by kernel_rfl) (by kernel_rfl) (by kernel_rfl) (fun _ _ _ h => h) (Or.inl ⟨by rfl, ?_⟩) (by assumption) ?_
        rotate_left
        · (intro w hSw; (try dsimp only at hSw); go_simp <;> with_reducible rfl)
        simp only [List.getElem_toArray, List.getElem_cons_zero, List.getElem_cons_succ, Act.put, List.setIfInBounds_toArray, List.set_cons_zero, List.set_cons_succ]
        refine wpAnyH_take (i := 27) (v := ?_) rfl (by kernel_rfl) (by kernel_rfl) (by kernel_rfl) (fun _ _ _ h => h) (Or.inl ⟨by rfl, ?_⟩) (by assumption) ?_
        rotate_left
        · (intro w hSw; (try dsimp only at hSw); go_simp <;> with_reducible rfl)
        simp only [List.getElem_toArray, List.getElem_cons_zero, List.getElem_cons_succ, Act.put, List.setIfInBounds_toArray, List.set_cons_zero, List.set_cons_succ]
        refine wpAnyH_take (i := 28) (v := ?_) rfl (by kernel_rfl) (by kernel_rfl) (by kernel_rfl) (fun _ _ _ h => h) (Or.inl ⟨by rfl, ?_⟩) (by assumption) ?_
        rotate_left
        · (intro w hSw; (try dsimp only at hSw); go_simp <;> with_reducible rfl)
        simp only [List.getElem_toArray, List.getElem_cons_zero, List.getElem_cons_succ, Act.put, List.setIfInBounds_toArray, List.set_cons_zero, List.set_cons_succ]
        refine wpAnyH_take (i := 29) (v := ?_) rfl (by kernel_rfl) (by kernel_rfl) (by kernel_rfl) (fun _ _ _ h => h) (Or.inl ⟨by rfl, ?_⟩) (by assumption) ?_
        rotate_left
        · (intro w hSw; (try dsimp only at hSw); go_simp <;> with_reducible rfl)
        simp only [List.getElem_toArray, List.getElem_cons_zero, List.getElem_cons_succ, Act.put, List.setIfInBounds_toArray, List.set_cons_zero, List.set_cons_succ]
        refine wpAnyH_take (i := 30) (v := ?_) rfl (by kernel_rfl) (by kernel_rfl) (by kernel_rfl) (fun _ _ _ h => h) (Or.inl ⟨by rfl, ?_⟩) (by assumption) ?_
        rotate_left
        · (intro w hSw; (try dsimp only at hSw); go_simp <;> with_reducible rfl)
        simp only [List.getElem_toArray, List.getElem_cons_zero, List.getElem_cons_succ, Act.put, List.setIfInBounds_toArray, List.set_cons_zero, List.set_cons_succ]
        refine wpAnyH_take (i := 31) (v := ?_) rfl (by kernel_rfl) (by kernel_rfl) (by kernel_rfl) (fun _ _ _ h => h) (Or.inl ⟨by rfl, ?_⟩) (by assumption) ?_
        rotate_left
        · (intro w hSw; (try dsimp only at hSw); go_simp <;> with_reducible rfl)
        simp only [List.getElem_toArray, List.getElem_cons_zero, List.getElem_cons_succ, Act.put, List.setIfInBounds_toArray, List.set_cons_zero, List.set_cons_succ]
        refine wpAnyH_take (i := 32) (v := ?_) rfl (by kernel_rfl) (by kernel_rfl) (by kernel_rfl) (fun _ _ _ h => h) (Or.inl ⟨by rfl, ?_⟩) (by assumption) ?_
        rotate_left
        · (intro w hSw; (try dsimp only at hSw); go_simp <;> with_reducible rfl)
        simp only [List.getElem_toArray, List.getElem_cons_zero, List.getElem_cons_succ, Act.put, List.setIfInBounds_toArray, List.set_cons_zero, List.set_cons_succ]
        refine wpAnyH_take (i := 33) (v := ?_) rfl (by kernel_rfl) (by kernel_rfl) (by kernel_rfl) (fun _ _ _ h => h) (Or.inl ⟨by rfl, ?_⟩) (by assumption) ?_
        rotate_left
        · (intro w hSw; (try dsimp only at hSw); go_simp <;> with_reducible rfl)
        simp only [List.getElem_toArray, List.getElem_cons_zero, List.getElem_cons_succ, Act.put, List.setIfInBounds_toArray, List.set_cons_zero, List.set_cons_succ]
        refine wpAnyH_take (i := 34) (v := ?_) rfl (by kernel_rfl) (by kernel_rfl) (by kernel_rfl) (fun _ _ _ h => h) (Or.inl ⟨by rfl, ?_⟩) (by assumption) ?_
        rotate_left
        · (intro w hSw; (try dsimp only at hSw); go_simp <;> with_reducible rfl)
        simp only [List.getElem_toArray, List.getElem_cons_zero, List.getElem_cons_succ, Act.put, List.setIfInBounds_toArray, List.set_cons_zero, List.set_cons_succ]
        refine wpAnyH_done (by kernel_rfl) ?_ _
        clear hE1 hE2 hG K1 K2 hS0
        obtain ⟨X, hX⟩ : ∃ X, X = x3 := ⟨_, rfl⟩
        rw [← hX]
        have hbX : Below V.heap.size V X := by rw [hX]; exact twoS_left (b := w.heap.size) (c := w.heap.size + 1) (o := o) (f := f) (by assumption)
        replace h0 := h0.keep hbX h0.lt
        replace h1 := h1.keep hbX h1.lt
        replace hb := hb.trans (hbX.mono hb.size)
        clear hbX hX
        generalize X = Y1 at *
        go_wp2
        go_ret
        exact ⟨rfl, hb⟩
      · have hq1 : (f == constH true) = false := by rw [hf]; decide +kernel
        have hq2 : (f == constH false) = true := by rw [hf]; decide +kernel
        clear hcs hf hsup
        have hE1 : ∀ w : World, (binOp .eql 26 (.agg #[.int .u64 (wd f 0), .int .u64 (wd f 1), .int .u64 (wd f 2), .int .u64 (wd f 3)]) (fv (constH true))).run Tryd.prog w = .ok (.bool false) w := fun w => by rw [fv_fold, run_eql_fv, hq1]
        have hE2 : ∀ w : World, (binOp .eql 26 (.agg #[.int .u64 (wd f 0), .int .u64 (wd f 1), .int .u64 (wd f 2), .int .u64 (wd f 3)]) (fv (constH false))).run Tryd.prog w = .ok (.bool true) w := fun w => by rw [fv_fold, run_eql_fv, hq2]
        have hG : ∀ (op : BinOp) (x y : Operand) (b : Bool) (w : World), (eqGuard op 26 x y (.agg #[.int .u64 (wd f 0), .int .u64 (wd f 1), .int .u64 (wd f 2), .int .u64 (wd f 3)]) (fv (constH b))).run Tryd.prog w = .ok () w := fun op x y b w => by rw [fv_fold, run_guard_fv]
        have K1 := Lib.hid (show ∀ x, Below V.heap.size V x → LowW x from fun x hx => hl.keep (hb.trans (hx.mono hb.size)))
        have K2 := Lib.hid (show ∀ (v : Value) (x : World), LowW x → SliceF x v [~~~f] → Calls Tryd.prog 10 #[v, ov o] x fun e w' => e = .returned (.int .i64 ((0 : Nat) : Int)) ∧ Below x.heap.size x w' from fun v x hx hv => by have := sizeNot f o v x hx hv; rwa [Hn.out] at this)
        have hS0 := twoS h0 h1 (Below.refl V.heap.size V)
        clear hq1 hq2
        go_wp2
        go_region_held3 (fun w' => Below V.heap.size V w' ∧ w'.cell? ⟨w.heap.size, 0, none⟩ = some (.int .i64 (o 0)) ∧ w'.cell? ⟨w.heap.size, 1, none⟩ = some (.int .i64 (o 1)) ∧ w'.cell? ⟨w.heap.size, 2, none⟩ = some (.int .i64 (o 2)) ∧ w'.cell? ⟨w.heap.size, 3, none⟩ = some (.int .i64 (o 3)) ∧ w'.cell? ⟨w.heap.size, 4, none⟩ = some (.int .i64 (o 4)) ∧ w'.cell? ⟨w.heap.size, 5, none⟩ = some (.int .i64 (o 5)) ∧ w'.cell? ⟨w.heap.size, 6, none⟩ = some (.int .i64 (o 6)) ∧ w'.cell? ⟨w.heap.size, 7, none⟩ = some (.int .i64 (o 7)) ∧ w'.cell? ⟨w.heap.size + 1, 0, none⟩ = some (.int .u64 (wd f 0)) ∧ w'.cell? ⟨w.heap.size + 1, 1, none⟩ = some (.int .u64 (wd f 1)) ∧ w'.cell? ⟨w.heap.size + 1, 2, none⟩ = some (.int .u64 (wd f 2)) ∧ w'.cell? ⟨w.heap.size + 1, 3, none⟩ = some (.int .u64 (wd f 3))) (first | assumption | exact twoS h0 h1 (Below.refl _ _).drew | (refine twoS h0 h1 (twoC (b := w.heap.size) (c := w.heap.size + 1) (o := o) (f := f) ?_ hbx); assumption) | (refine twoS h0 h1 (twoC (b := w.heap.size) (c := w.heap.size + 1) (o := o) (f := f) ?_ ((Below.refl _ _).alloc (Nat.le_refl _) _)); assumption))
          (first
            | (go_at_call 13; refine (tabNotU f _).mono ?_; rintro e x3 ⟨rfl, hbx⟩)
            | (go_at_call 10; refine (K2.out _ _ (K1.out _ (twoS_left (b := w.heap.size) (c := w.heap.size + 1) (o := o) (f := f) (by assumption))) (slice_one _ _ _ rfl)).mono ?_; rintro e x3 ⟨rfl, hbx⟩)
            | (go_at_call_of 14 (Value.bool true); refine (tabConstH true _).mono ?_; rintro e x3 ⟨rfl, hbx⟩)
            | (go_at_call_of 14 (Value.bool false); refine (tabConstH false _).mono ?_; rintro e x3 ⟨rfl, hbx⟩))
        clear hE1 hE2 hG K1 K2 hS0
        obtain ⟨X, hX⟩ : ∃ X, X = x3 := ⟨_, rfl⟩
        rw [← hX]
        have hbX : Below V.heap.size V X := by rw [hX]; exact twoS_left (b := w.heap.size) (c := w.heap.size + 1) (o := o) (f := f) (by assumption)
        replace h0 := h0.keep hbX h0.lt
        replace h1 := h1.keep hbX h1.lt
        replace hb := hb.trans (hbX.mono hb.size)
        clear hbX hX
        generalize X = Y1 at *
        go_wp2
        go_ret
        exact ⟨rfl, hb⟩
    · have hn0 : n ≠ 0 := fun e => hsup (hz.1 e)
      have ht0 := htp hsup
      have hB0 : ((n : Int) == 0) = false := by rw [beq_eq_false_iff_ne]; omega
      have hB1 : (t == -1) = false := by rw [beq_eq_false_iff_ne]; omega
      have Hs := Lib.hid (hsd ht0)
      have hq1 : (f == constH true) = false := by rw [beq_eq_false_iff_ne]; rintro rfl; exact hsup sup_const.1
      have hq2 : (f == constH false) = false := by rw [beq_eq_false_iff_ne]; rintro rfl; exact hsup sup_const.2
      clear hz htn hsd hcs htp hsup
      have hE1 : ∀ w : World, (binOp .eql 26 (.agg #[.int .u64 (wd f 0), .int .u64 (wd f 1), .int .u64 (wd f 2), .int .u64 (wd f 3)]) (fv (constH true))).run Tryd.prog w = .ok (.bool false) w := fun w => by rw [fv_fold, run_eql_fv, hq1]
      have hE2 : ∀ w : World, (binOp .eql 26 (.agg #[.int .u64 (wd f 0), .int .u64 (wd f 1), .int .u64 (wd f 2), .int .u64 (wd f 3)]) (fv (constH false))).run Tryd.prog w = .ok (.bool false) w := fun w => by rw [fv_fold, run_eql_fv, hq2]
      have hG : ∀ (op : BinOp) (x y : Operand) (b : Bool) (w : World), (eqGuard op 26 x y (.agg #[.int .u64 (wd f 0), .int .u64 (wd f 1), .int .u64 (wd f 2), .int .u64 (wd f 3)]) (fv (constH b))).run Tryd.prog w = .ok () w := fun op x y b w => by rw [fv_fold, run_guard_fv]
      have K1 := Lib.hid (show ∀ x, Below V.heap.size V x → LowW x from fun x hx => hl.keep (hb.trans (hx.mono hb.size)))
      have K2 := Lib.hid (show ∀ (v : Value) (x : World), LowW x → SliceF x v [~~~f] → Calls Tryd.prog 10 #[v, ov o] x fun e w' => e = .returned (.int .i64 n) ∧ Below x.heap.size x w' from fun v x hx hv => by have := sizeNot f o v x hx hv; rwa [Hn.out] at this)
      have hS0 := twoS h0 h1 (Below.refl V.heap.size V)
      clear hq1 hq2
      go_wp2
      go_region_held3 (fun w' => Below V.heap.size V w' ∧ w'.cell? ⟨w.heap.size, 0, none⟩ = some (.int .i64 (o 0)) ∧ w'.cell? ⟨w.heap.size, 1, none⟩ = some (.int .i64 (o 1)) ∧ w'.cell? ⟨w.heap.size, 2, none⟩ = some (.int .i64 (o 2)) ∧ w'.cell? ⟨w.heap.size, 3, none⟩ = some (.int .i64 (o 3)) ∧ w'.cell? ⟨w.heap.size, 4, none⟩ = some (.int .i64 (o 4)) ∧ w'.cell? ⟨w.heap.size, 5, none⟩ = some (.int .i64 (o 5)) ∧ w'.cell? ⟨w.heap.size, 6, none⟩ = some (.int .i64 (o 6)) ∧ w'.cell? ⟨w.heap.size, 7, none⟩ = some (.int .i64 (o 7)) ∧ w'.cell? ⟨w.heap.size + 1, 0, none⟩ = some (.int .u64 (wd f 0)) ∧ w'.cell? ⟨w.heap.size + 1, 1, none⟩ = some (.int .u64 (wd f 1)) ∧ w'.cell? ⟨w.heap.size + 1, 2, none⟩ = some (.int .u64 (wd f 2)) ∧ w'.cell? ⟨w.heap.size + 1, 3, none⟩ = some (.int .u64 (wd f 3))) (first | assumption | exact twoS h0 h1 (Below.refl _ _).drew | (refine twoS h0 h1 (twoC (b := w.heap.size) (c := w.heap.size + 1) (o := o) (f := f) ?_ hbx); assumption) | (refine twoS h0 h1 (twoC (b := w.heap.size) (c := w.heap.size + 1) (o := o) (f := f) ?_ ((Below.refl _ _).alloc (Nat.le_refl _) _)); assumption))
        (first
          | (go_at_call 13; refine (tabNotU f _).mono ?_; rintro e x3 ⟨rfl, hbx⟩)
          | (go_at_call 10; refine (K2.out _ _ (K1.out _ (twoS_left (b := w.heap.size) (c := w.heap.size + 1) (o := o) (f := f) (by assumption))) (slice_one _ _ _ rfl)).mono ?_; rintro e x3 ⟨rfl, hbx⟩)
          | (go_at_call_of 14 (Value.bool true); refine (tabConstH true _).mono ?_; rintro e x3 ⟨rfl, hbx⟩)
          | (go_at_call_of 14 (Value.bool false); refine (tabConstH false _).mono ?_; rintro e x3 ⟨rfl, hbx⟩))
      clear hE1 hE2 hG K1 K2 hS0
      obtain ⟨X, hX⟩ : ∃ X, X = x3 := ⟨_, rfl⟩
      rw [← hX]
      have hbX : Below V.heap.size V X := by rw [hX]; exact twoS_left (b := w.heap.size) (c := w.heap.size + 1) (o := o) (f := f) (by assumption)
      replace h0 := h0.keep hbX h0.lt
      replace h1 := h1.keep hbX h1.lt
      replace hb := hb.trans (hbX.mono hb.size)
      clear hbX hX
      generalize X = Y1 at *
      go_wp2
      have c0 : ∀ u : Sub Y1, u.1.cell? ⟨w.heap.size + 1, 0, none⟩ = some (.int .u64 (wd f 0)) := fun u => (h1.sub u).cells.1
      have c1 : ∀ u : Sub Y1, u.1.cell? ⟨w.heap.size + 1, 1, none⟩ = some (.int .u64 (wd f 1)) := fun u => (h1.sub u).cells.2.1
      have c2 : ∀ u : Sub Y1, u.1.cell? ⟨w.heap.size + 1, 2, none⟩ = some (.int .u64 (wd f 2)) := fun u => (h1.sub u).cells.2.2.1
      have c3 : ∀ u : Sub Y1, u.1.cell? ⟨w.heap.size + 1, 3, none⟩ = some (.int .u64 (wd f 3)) := fun u => (h1.sub u).cells.2.2.2
      refine wp_region_quiet_tail (C := fun w' => ∃ u : Sub Y1, w' = u.1) 6 (by kernel_rfl) (by kernel_rfl) (InSub.drew Y1) ?_
      simp only [List.take_succ_cons, List.take_zero, List.drop_succ_cons, List.drop_zero]
      iterate 2 (go_big_quiet_step (fail))
      go_big_quiet_step (exact sub_below (refCof f t false _))
      iterate 2 (go_big_quiet_step (fail))
      go_big_quiet_step (exact sub_below (refCof f t true _))
      refine wpQuiet_nil ?_
      clear c0 c1 c2 c3
      intro w' hw'
      obtain ⟨u, rfl⟩ := hw'
      replace h0 := h0.sub u
      replace hb := hb.trans (u.2.mono hb.size)
      generalize u.1 = Y2 at *
      have hbd := size_bound [cofAny f t false, cofAny f t true] o
      have hbA := (Below.refl Y2.heap.size Y2).alloc (Nat.le_refl _) (.cells #[.int .u64 (wd (cofAny f t false) 0), .int .u64 (wd (cofAny f t false) 1), .int .u64 (wd (cofAny f t false) 2), .int .u64 (wd (cofAny f t false) 3), .int .u64 (wd (cofAny f t true) 0), .int .u64 (wd (cofAny f t true) 1), .int .u64 (wd (cofAny f t true) 2), .int .u64 (wd (cofAny f t true) 3)] 26)
      have hsl := slice_two Y2 (cofAny f t false) (cofAny f t true) Y2.heap.size rfl
      have K := Lib.hid (show ∀ x, LowW x → ∀ v, SliceF x v [cofAny f t false, cofAny f t true] → Calls Tryd.prog 10 #[v, ov o] x fun e w' => e = .returned (.int .i64 (sizeF [cofAny f t false, cofAny f t true] o)) ∧ Below x.heap.size x w' from fun x hx v hv => sizeSize _ o v x hx hv (by simp))
      generalize sizeF [cofAny f t false, cofAny f t true] o = m at *
      obtain rfl : n = m + 1 := Hs.out
      generalize cofAny f t false = p at *
      generalize cofAny f t true = q at *
      have h2 := h0.keep hbA h0.lt
      have c0 := h2.cell 0 (by decide)
      have c1 := h2.cell 1 (by decide)
      have c2 := h2.cell 2 (by decide)
      have c3 := h2.cell 3 (by decide)
      have c4 := h2.cell 4 (by decide)
      have c5 := h2.cell 5 (by decide)
      have c6 := h2.cell 6 (by decide)
      have c7 := h2.cell 7 (by decide)
      simp only [fv]
      go_wp2_with fail
      clear c0 c1 c2 c3 c4 c5 c6 c7
      refine (K.out _ (hl.keep (hb.trans (hbA.mono hb.size))) _ hsl).mono ?_
      rintro e Y3 ⟨rfl, hb1⟩
      have hb9 := (hb.trans (hbA.mono hb.size)).trans (hb1.mono (hb.trans (hbA.mono hb.size)).size)
      clear hb1 hbA hsl K
      go_wp2
      go_ret
      exact ⟨rfl, hb9⟩

end Go.Proofs.YtgccgjeehggagaaDoor
