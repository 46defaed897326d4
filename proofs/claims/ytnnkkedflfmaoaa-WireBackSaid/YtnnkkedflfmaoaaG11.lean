/-
  Texts of this proof, one behind the other: WireJ, Tame.
-/
import Derived.Test.YtnnkkedflfmaoaaG10
import Derived.Test.YtnnkkedflfmaoaaG8
import Derived.Test.YtnnkkedflfmaoaaG3
/-
  Walks of the document's layer 18: answers.
-/
namespace Go.Proofs.Ytnnkkedflfmaoaa
open Go Go.RowKit

theorem eq_bool {p : Bool} {q : Prop} [Decidable q] (h : p = true ↔ q) : p = decide q := by
  by_cases hq : q
  · rw [decide_eq_true hq]; exact h.2 hq
  · rw [decide_eq_false hq, Bool.eq_false_iff]; exact fun hp => hq (h.1 hp)

set_option maxRecDepth 100000 in
set_option maxHeartbeats 16000000 in
theorem refMayS (r : Rs) (w : World) (hg : r.good) :
    Calls Try.prog 12 #[rsV r] w fun e w' => e = .returned (.bool (decide r.may)) ∧ Below w.heap.size w w' := by
  have hm : r.may ↔ (0 ≤ r.code ∧ r.code ≤ 7) ∧ (0 ≤ r.tenant ∧ r.tenant ≤ 8) ∧ (0 ≤ r.charge ∧ r.charge ≤ 65535) ∧ 0 ≤ r.cost :=
    ⟨fun h => ⟨h.code, h.tenant, h.charge, h.cost.1⟩, fun ⟨h1, h2, h3, h4⟩ => ⟨h1, h2, hg.val, h3, h4, hg.cost.2⟩⟩
  have hm := Lib.hid hm
  clear hg
  unfold rsV
  generalize hD : decide r.may = D
  replace hD := Lib.hid hD
  obtain ⟨code, tenant, val, charge, cost⟩ := r
  dsimp only at *
  go_enter Try.func12, Try.ntmps12
  go_wp2
  all_goals go_ret
  all_goals refine ⟨?_, by go_grown⟩
  all_goals refine congrArg (fun b => Ending.returned (.bool b)) ?_
  all_goals rw [← hD.out]
  all_goals refine eq_bool ?_
  all_goals rw [hm.out]
  all_goals simp only [decide_eq_true_eq, Bool.false_eq_true, false_iff]
  all_goals omega

theorem putS_keep {W W1 W2 : World} {B : Nat} {x0 x1 x2 x3 x4 : Value} (h : Below W.heap.size W W1 ∧ W1.cell? ⟨B, 0, none⟩ = some x0 ∧ W1.cell? ⟨B, 1, none⟩ = some x1 ∧ W1.cell? ⟨B, 2, none⟩ = some x2 ∧ W1.cell? ⟨B, 3, none⟩ = some x3 ∧ W1.cell? ⟨B, 4, none⟩ = some x4)
    (hb : Below W1.heap.size W1 W2) : Below W.heap.size W W2 ∧ W2.cell? ⟨B, 0, none⟩ = some x0 ∧ W2.cell? ⟨B, 1, none⟩ = some x1 ∧ W2.cell? ⟨B, 2, none⟩ = some x2 ∧ W2.cell? ⟨B, 3, none⟩ = some x3 ∧ W2.cell? ⟨B, 4, none⟩ = some x4 := by
  obtain ⟨h0, h1, h2, h3, h4, h5⟩ := h
  have k : B < W1.heap.size := block_lt_of_cell h1
  have e : ∀ j, W2.cell? ⟨B, j, none⟩ = W1.cell? ⟨B, j, none⟩ := fun j => hb.cell (p := ⟨B, j, none⟩) k
  exact ⟨h0.trans (hb.mono h0.size), by rw [e]; exact h1, by rw [e]; exact h2, by rw [e]; exact h3, by rw [e]; exact h4, by rw [e]; exact h5⟩

theorem own_two {W1 Wx w2 : World} {o p g : Nat} {x y : Value} (hx : x = .int .u8 o) (hy : y = .int .u8 p) (hg : g = Wx.heap.size) (e : W1.heap = (Wx.alloc (.cells #[x, y] 5)).heap) (hk : ∀ g, g < W1.heap.size → w2.heap[g]? = W1.heap[g]?) :
    Owns encY w2 (.slice (some ⟨g, 0, none⟩) 2 2) [o, p] := by
  subst hx hy hg
  refine (Owns.made encY Wx [o, p] #[.int .u8 o, .int .u8 p] rfl 2 rfl (by decide)).block fun g hg => ?_
  cases hg
  rw [hk _ (by rw [e]; simp), e]
  rfl
theorem own_here {Wx W4 : World} {o p g : Nat} {x y : Value} (hx : x = .int .u8 o) (hy : y = .int .u8 p) (hg : g = Wx.heap.size) (e : W4.heap = (Wx.alloc (.cells #[x, y] 5)).heap) : Owns encY W4 (.slice (some ⟨g, 0, none⟩) 2 2) [o, p] :=
  own_two (W1 := W4) hx hy hg e (fun _ _ => rfl)
theorem grown_rel {W Wc W4 : World} {v' : Value} {l : List Nat} {b : Nat} (hS : Below W.heap.size W Wc) (hown : Owns encY W4 v' l) (hgr : Wc.grownBy W4 (Value.slice (some ⟨b, 0, none⟩) 2 2).ownBlock) (hat : v'.ownBlock = (Value.slice (some ⟨b, 0, none⟩) 2 2).ownBlock ∨ v'.ownBlock = some Wc.heap.size) (hb : W.heap.size ≤ b) : NRel encY W l v' W4 := by
  have hs := hS.size
  refine ⟨hown, fun g hg => ?_, hS.grown hgr hs (fun k hk => by cases hk; exact hb)⟩
  rcases hat with hat | hat
  · rw [hat] at hg; cases hg; exact hb
  · rw [hat] at hg; cases hg; exact hs
theorem grown_S {W Wc W4 : World} {b B : Nat} {x0 x1 x2 x3 x4 : Value} (h : Below W.heap.size W Wc ∧ Wc.cell? ⟨B, 0, none⟩ = some x0 ∧ Wc.cell? ⟨B, 1, none⟩ = some x1 ∧ Wc.cell? ⟨B, 2, none⟩ = some x2 ∧ Wc.cell? ⟨B, 3, none⟩ = some x3 ∧ Wc.cell? ⟨B, 4, none⟩ = some x4)
    (hgr : Wc.grownBy W4 (Value.slice (some ⟨b, 0, none⟩) 2 2).ownBlock) (hb : W.heap.size ≤ b) (hB : B < W.heap.size) : Below W.heap.size W W4 ∧ W4.cell? ⟨B, 0, none⟩ = some x0 ∧ W4.cell? ⟨B, 1, none⟩ = some x1 ∧ W4.cell? ⟨B, 2, none⟩ = some x2 ∧ W4.cell? ⟨B, 3, none⟩ = some x3 ∧ W4.cell? ⟨B, 4, none⟩ = some x4 := by
  obtain ⟨h0, h1, h2, h3, h4, h5⟩ := h
  have hs := h0.size
  have e : ∀ j, W4.cell? ⟨B, j, none⟩ = Wc.cell? ⟨B, j, none⟩ := fun j => cell_of_block (hgr.block B (by omega) (fun h => by have h2 : some B = some b := h; injection h2 with h3; omega))
  exact ⟨h0.grown hgr hs (fun k hk => by cases hk; exact hb), by rw [e]; exact h1, by rw [e]; exact h2, by rw [e]; exact h3, by rw [e]; exact h4, by rw [e]; exact h5⟩

theorem grown_both {W Wc W4 : World} {v' : Value} {l : List Nat} {b B : Nat} {x0 x1 x2 x3 x4 : Value} (h : Below W.heap.size W Wc ∧ Wc.cell? ⟨B, 0, none⟩ = some x0 ∧ Wc.cell? ⟨B, 1, none⟩ = some x1 ∧ Wc.cell? ⟨B, 2, none⟩ = some x2 ∧ Wc.cell? ⟨B, 3, none⟩ = some x3 ∧ Wc.cell? ⟨B, 4, none⟩ = some x4)
    (hown : Owns encY W4 v' l) (hgr : Wc.grownBy W4 (Value.slice (some ⟨b, 0, none⟩) 2 2).ownBlock) (hat : v'.ownBlock = (Value.slice (some ⟨b, 0, none⟩) 2 2).ownBlock ∨ v'.ownBlock = some Wc.heap.size) (hb : W.heap.size ≤ b) (hB : B < W.heap.size) : NRel encY W l v' W4 ∧
    Below W.heap.size W W4 ∧ W4.cell? ⟨B, 0, none⟩ = some x0 ∧ W4.cell? ⟨B, 1, none⟩ = some x1 ∧ W4.cell? ⟨B, 2, none⟩ = some x2 ∧ W4.cell? ⟨B, 3, none⟩ = some x3 ∧ W4.cell? ⟨B, 4, none⟩ = some x4 :=
  ⟨grown_rel h.1 hown hgr hat hb, grown_S h hgr hb hB⟩

set_option maxRecDepth 100000 in
set_option maxHeartbeats 16000000 in
theorem refPutS (r : Rs) (w : World) (hr : r.may) :
    Calls Try.prog 13 #[rsV r] w fun e w' => ∃ v, e = .returned v ∧ NRel encY w (bytesS r) v w' := by
  obtain ⟨g1, g2, g3, g4, g5⟩ := hr
  obtain ⟨code, tenant, val, charge, cost⟩ := r
  dsimp only at g1 g2 g3 g4 g5
  obtain ⟨o, rfl⟩ : ∃ o : Nat, code = o := ⟨code.toNat, by omega⟩
  obtain ⟨p, rfl⟩ : ∃ o : Nat, tenant = o := ⟨tenant.toNat, by omega⟩
  obtain ⟨c, rfl⟩ : ∃ o : Nat, charge = o := ⟨charge.toNat, by omega⟩
  obtain ⟨d, rfl⟩ : ∃ o : Nat, cost = o := ⟨cost.toNat, by omega⟩
  have hbytes : bytesS ⟨o, p, val, c, d⟩ = ([o, p] ++ highB 8 val) ++ highB 2 c ++ highB 8 d := by
    have e0 : Rs.nums ⟨o, p, val, c, d⟩ 0 = o := u64_nat (by omega)
    have e1 : Rs.nums ⟨o, p, val, c, d⟩ 1 = p := u64_nat (by omega)
    have e3 : Rs.nums ⟨o, p, val, c, d⟩ 3 = c := u64_nat (by omega)
    have e4 : Rs.nums ⟨o, p, val, c, d⟩ 4 = d := u64_nat (by omega)
    rw [bytesS_form, e0, e1, e3, e4, Nat.mod_eq_of_lt (by omega), Nat.mod_eq_of_lt (by omega)]
    simp
  rw [hbytes]
  clear hbytes
  unfold rsV
  dsimp only
  have hB : Below w.heap.size w (w.alloc (.cells #[.int .i64 (o : Int), .int .i64 (p : Int), .int .u64 val, .int .i64 (c : Int), .int .i64 (d : Int)] 26)) := by go_grown
  have hR : HoldsS (w.alloc (.cells #[.int .i64 (o : Int), .int .i64 (p : Int), .int .u64 val, .int .i64 (c : Int), .int .i64 (d : Int)] 26)) w.heap.size ⟨o, p, val, c, d⟩ := heap_alloc_new _ _
  have eo : (o : Int) % 256 = o := by omega
  have ep : (p : Int) % 256 = p := by omega
  go_enter Try.func13, Try.ntmps13
  go_upto_region 1 with (fail)
  generalize w.alloc (.cells #[.int .i64 (o : Int), .int .i64 (p : Int), .int .u64 val, .int .i64 (c : Int), .int .i64 (d : Int)] 26) = W at *
  have hlen : [o, p].length + (highB 8 val).length ≤ 1000000 := by rw [highB_length]; simp
  have hS0 : Below W.heap.size W W ∧ W.cell? ⟨w.heap.size, 0, none⟩ = some (.int .i64 (o : Int)) ∧ W.cell? ⟨w.heap.size, 1, none⟩ = some (.int .i64 (p : Int)) ∧ W.cell? ⟨w.heap.size, 2, none⟩ = some (.int .u64 val) ∧ W.cell? ⟨w.heap.size, 3, none⟩ = some (.int .i64 (c : Int)) ∧ W.cell? ⟨w.heap.size, 4, none⟩ = some (.int .i64 (d : Int)) := ⟨Below.refl _ _, hR.cells⟩
  have hlow : w.heap.size < W.heap.size := hR.lt
  have HB := Lib.hid hB
  have hwo : IntKind.u8.wrap (o : Int) = o := by simp [IntKind.wrap, IntKind.bits, IntKind.signed]; omega
  have hwp : IntKind.u8.wrap (p : Int) = p := by simp [IntKind.wrap, IntKind.bits, IntKind.signed]; omega
  clear hR hB eo ep
  generalize hBx : w.heap.size = B at *
  go_region_held3 (fun w' => Below W.heap.size W w' ∧ w'.cell? ⟨B, 0, none⟩ = some (.int .i64 (o : Int)) ∧ w'.cell? ⟨B, 1, none⟩ = some (.int .i64 (p : Int)) ∧ w'.cell? ⟨B, 2, none⟩ = some (.int .u64 val) ∧ w'.cell? ⟨B, 3, none⟩ = some (.int .i64 (c : Int)) ∧ w'.cell? ⟨B, 4, none⟩ = some (.int .i64 (d : Int))) (first | assumption | exact putS_keep hS0 ((Below.refl _ _).drew) | (refine putS_keep ?_ hbx; assumption) | (refine putS_keep ?_ (((Below.refl _ _).alloc (Nat.le_refl _) _).drew); assumption) | (refine putS_keep ?_ ((Below.refl _ _).alloc (Nat.le_refl _) _); assumption))
    (first
      | (go_at_call 23; refine (refHigh val 8 _ (by decide) g3).mono ?_; rintro e w2 ⟨rv, rfl, RV⟩; have hbx := RV.below)
      | (refine step_append_owns encY rfl (.tmp 10) (.tmp 13) rfl _ _ [o, p] (highB 8 val) rfl ?_ rfl ?_ (by rw [highB_length]; decide) hlen ?_; (first | exact own_two (Wx := W) rfl rfl rfl rfl hbx.block | exact own_two (Wx := W) (congrArg (Value.int .u8) hwo) (congrArg (Value.int .u8) hwp) rfl rfl hbx.block | exact own_here (Wx := w2) rfl rfl rfl rfl | exact own_here (Wx := w2) (congrArg (Value.int .u8) hwo) (congrArg (Value.int .u8) hwp) rfl rfl); (first | exact RV.own.reads | exact RV.own.reads.keep ((Below.refl _ _).alloc (Nat.le_refl _) _)); intro v' w4 hown hgr hat; have hSR : NRel encY W ([o, p] ++ highB 8 val) v' w4 ∧ Below W.heap.size W w4 ∧ w4.cell? ⟨B, 0, none⟩ = some (.int .i64 (o : Int)) ∧ w4.cell? ⟨B, 1, none⟩ = some (.int .i64 (p : Int)) ∧ w4.cell? ⟨B, 2, none⟩ = some (.int .u64 val) ∧ w4.cell? ⟨B, 3, none⟩ = some (.int .i64 (c : Int)) ∧ w4.cell? ⟨B, 4, none⟩ = some (.int .i64 (d : Int)) := (by refine grown_both ?_ hown hgr hat ?_ hlow; assumption; first | exact Nat.le_refl _ | exact hbx.size | omega); have R4 := Lib.hid hSR.1; have hS4 := hSR.2; clear hSR))
  all_goals have hW := fun (X : World) (hX : Below W.heap.size W X) => show X.cell? ⟨B, 3, none⟩ = some (.int .i64 (c : Int)) ∧ X.cell? ⟨B, 4, none⟩ = some (.int .i64 (d : Int)) from ⟨(hX.cell (p := ⟨B, 3, none⟩) hlow).trans hS0.2.2.2.2.1, (hX.cell (p := ⟨B, 4, none⟩) hlow).trans hS0.2.2.2.2.2⟩
  all_goals have hW := Lib.hid hW
  all_goals have R5 := R4.out
  all_goals have hq5 := hW.out _ R5.below
  all_goals have hq5 := hq5.1
  all_goals have hbx5 := Lib.hid R5.below
  all_goals clear hS0 R4 hS4 RV hown hgr hat hbx
  all_goals have R5 := Lib.hid R5
  all_goals go_wp2_with fail
  all_goals refine (refHigh c 2 _ (by decide) (by omega)).mono ?_
  all_goals rintro e w5 ⟨rv2, rfl, RV2⟩
  all_goals have R6 := R5.out.later RV2.below
  all_goals have hown6 := R6.own
  all_goals have hsrc6 := RV2.own.reads
  all_goals have hlen6 : ([o, p] ++ highB 8 val).length + (highB 2 c).length ≤ 1000000 := by simp [highB_length]
  all_goals have R6 := Lib.hid R6
  all_goals clear RV2 R5 hq5 hbx5
  all_goals go_wp2_with (at_builtin; refine appendY rfl (.tmp 15) (.tmp 19) rfl _ _ ([o, p] ++ highB 8 val) (highB 2 c) rfl hown6 rfl hsrc6 hlen6 ?_; intro v6 w6 hown7 hgr7 hat7; have R7 := Lib.hid (R6.out.grow hown7 hgr7 hat7); have hq7 := (hW.out _ R7.out.below).2; clear hown6 hsrc6 R6 hown7 hgr7 hat7)
  all_goals refine (refHigh d 8 _ (by decide) (by omega)).mono ?_
  all_goals rintro e w7 ⟨rv3, rfl, RV3⟩
  all_goals have R8 := R7.out.later RV3.below
  all_goals have hown8 := R8.own
  all_goals have hsrc8 := RV3.own.reads
  all_goals have hlen8 : ([o, p] ++ highB 8 val ++ highB 2 c).length + (highB 8 d).length ≤ 1000000 := by simp [highB_length]
  all_goals have R8 := Lib.hid R8
  all_goals clear RV3 R7 hq7
  all_goals go_wp2_with (at_builtin; refine appendY rfl (.tmp 21) (.tmp 25) rfl _ _ ([o, p] ++ highB 8 val ++ highB 2 c) (highB 8 d) rfl hown8 rfl hsrc8 hlen8 ?_; intro v8 w8 hown9 hgr9 hat9)
  all_goals go_ret
  all_goals have R9 := R8.out.grow hown9 hgr9 hat9
  all_goals subst hBx
  all_goals exact ⟨_, rfl, (by simpa using R9.own), fun g hg => Nat.le_trans HB.out.size (R9.new g hg), HB.out.trans (R9.below.mono HB.out.size)⟩

end Go.Proofs.Ytnnkkedflfmaoaa

/-
  A region whose order is open: its first operations are quiet, one more among them makes a variable, whenever it comes up; what stands behind them waits for all. One walk in the order of the text serves every order. Nothing of the program is read here.
-/
namespace Go.Proofs.Ytnnkkedflfmaoaa
open Go Go.RowKit

section
variable {P : Program} {ops : Array Oper} {md : Region.Mode} {W : World}

/-- The operation yields v, from whatever world it starts in which what stood in W stands, and leaves what stood there. -/
def YieldsT (P : Program) (ops : Array Oper) (W : World) (o : Oper) (v : Value) (a : Act) : Prop :=
  ∀ V, Below W.heap.size W V → YieldsIn P ops (fun w' => ∃ u : Sub V, w' = u.1) o v a

def tOp (P : Program) (ops : Array Oper) (W : World) (i : Nat) (K : Act → Prop) (a : Act) : Prop :=
  ∃ o v, ops[i]? = some o ∧ YieldsT P ops W o v a ∧ K (a.put o.dst v)

theorem tOp_mono {i : Nat} {a : Act} {K K' : Act → Prop} (h : ∀ a, K a → K' a) (hh : tOp P ops W i K a) : tOp P ops W i K' a := by
  obtain ⟨o, v, ho, hy, hk⟩ := hh
  exact ⟨o, v, ho, hy, h _ hk⟩

theorem tOp_put {j : Nat} {oi oj : Oper} {v : Value} (hj : ops[j]? = some oj) (hap : oi.apart ops oj = true)
    (hsi : ∀ cs b, oi.op ≠ .select cs b) (hsj : ∀ cs b, oj.op ≠ .select cs b) {K : Act → Prop} {a : Act}
    (hy : YieldsT P ops W oi v a) (h : tOp P ops W j K (a.put oi.dst v)) :
    tOp P ops W j (fun a' => YieldsT P ops W oi v a' ∧ K (a'.put oi.dst v)) a := by
  obtain ⟨h1, h2, h3⟩ := Oper.apart_spec hap
  obtain ⟨o, u, ho, hu, hk⟩ := h
  obtain rfl : o = oj := Option.some.inj (ho.symm.trans hj)
  refine ⟨o, u, ho, fun V hV => (hu V hV).of_same (execOp_put o hsj a oi.dst v h1).symm (wanted_put o a oi.dst v h1).symm, fun V hV => (hy V hV).of_same (execOp_put oi hsi a o.dst u h3) (wanted_put oi a o.dst u h3), ?_⟩
  rw [← Act.put_comm a v u h2]
  exact hk

/-- For 'f' more picks only operations below 'n' come up; then 'L'. -/
def headT (P : Program) (md : Region.Mode) (ops : Array Oper) (W : World) (n : Nat) (L : Array Bool → Act → Prop) : Nat → Array Bool → Act → Prop
  | 0, ls, a => L ls a
  | f + 1, ls, a => Region.ready md ops ls ≠ [] ∧ ∀ i ∈ Region.ready md ops ls, i < n ∧ tOp P ops W i (headT P md ops W n L f (ls.setIfInBounds i true)) a

theorem headT.first {n i : Nat} {oi : Oper} {v : Value} {L : Array Bool → Act → Prop} (hi : ops[i]? = some oi) (hsel : ∀ (j : Nat) (o : Oper) cs b, ops[j]? = some o → o.op ≠ .select cs b)
    {k0 : Nat} (ht : TailWaits md ops n k0) (hk0 : k0 ≤ i) (hin : i < n) (hend : ∀ ls a, L ls a → ∀ j ∈ Region.ready md ops ls, n ≤ j) (f : Nat) :
    ∀ (ls : Array Bool) (a : Act), HeadInv md ops n ls →
      (∀ j oj, ops[j]? = some oj → j ≠ i → ls.getD j true = false → (∀ e ∈ oj.after, Region.binds md e = true → e.on ≠ i) → oi.apart ops oj = true) →
      i ∈ Region.ready md ops ls → YieldsT P ops W oi v a →
      headT P md ops W n L f (ls.setIfInBounds i true) (a.put oi.dst v) → headT P md ops W n L (f + 1) ls a := by
  induction f with
  | zero =>
    intro ls a inv _ hr hy H
    refine ⟨List.ne_nil_of_mem hr, fun j hj => ⟨below_tail ht inv hk0 hin hr hj, ?_⟩⟩
    rcases Classical.em (j = i) with rfl | hne
    · exact ⟨_, _, hi, hy, H⟩
    · have h1 := hend _ _ H j (ready_mono hj hne)
      have h2 := below_tail ht inv hk0 hin hr hj
      omega
  | succ f ih =>
    intro ls a inv hfree hr hy H
    refine ⟨List.ne_nil_of_mem hr, fun j hj => ⟨below_tail ht inv hk0 hin hr hj, ?_⟩⟩
    rcases Classical.em (j = i) with rfl | hne
    · exact ⟨_, _, hi, hy, H⟩
    have hjn := below_tail ht inv hk0 hin hr hj
    obtain ⟨hjl, oj, hoj, hw⟩ := mem_ready.1 hj
    have hno : ∀ e ∈ oj.after, Region.binds md e = true → e.on ≠ i := by
      intro e he hb heq
      have h1 := hw e he hb
      rw [heq, getD_both (mem_ready.1 hr).1] at h1
      exact Bool.noConfusion h1
    have hq := tOp_put hoj (hfree j oj hoj hne hjl hno) (fun cs b => hsel i oi cs b hi) (fun cs b => hsel j oj cs b hoj) hy ((H.2 j (ready_mono hj hne)).2)
    refine tOp_mono (fun a' h3 => ih _ a' (inv.set hj hjn) ?_ (ready_mono hr (Ne.symm hne)) h3.1 (by rw [Array.setIfInBounds_comm _ _ hne]; exact h3.2)) hq
    intro k ok hk hki hkl hkn
    refine hfree k ok hk hki ?_ hkn
    rcases Classical.em (j = k) with rfl | hjk
    · exact hjl
    · rwa [getD_set_ne true hjk] at hkl

/-- The lexical walk, each value the same from every world. -/
def wpTame (P : Program) (ops : Array Oper) (W : World) (Q : Act → Prop) : List Oper → Act → Prop
  | [], a => Q a
  | o :: rest, a => ∃ v, YieldsT P ops W o v a ∧ wpTame P ops W Q rest (a.put o.dst v)

/-- The closed conditions: each operation can be taken where the text has it, and at the end the tail comes one after another. -/
def lexHeadA (md : Region.Mode) (ops : Array Oper) (g m : Nat) : Nat → Nat → Array Bool → Bool
  | 0, _, ls => Region.seqB md ops g m ls
  | f + 1, k, ls => (Region.ready md ops ls).contains k && Region.free md ops ls k && lexHeadA md ops g m f (k + 1) (ls.setIfInBounds k true)

theorem headT.lex {n g k0 : Nat} {G : Act → Prop} (hsel : Region.noSelect ops = true) (ht : TailWaits md ops n k0) (l : List Oper) :
    ∀ (k : Nat) (ls : Array Bool) (a : Act), k0 ≤ k → (∀ j, j < l.length → l[j]? = ops[k + j]?) → k + l.length < n → HeadInv md ops n ls →
      lexHeadA md ops g n l.length k ls = true → wpTame P ops W G l a →
      headT P md ops W n (fun ls' a' => Region.seqB md ops g n ls' = true ∧ G a') l.length ls a := by
  induction l with
  | nil =>
    intro k ls a _ _ _ _ hB h
    exact ⟨hB, h⟩
  | cons o l ih =>
    intro k ls a hk0 hl hk inv hB h
    have h0 : ops[k]? = some o := (hl 0 (Nat.succ_pos _)).symm
    simp only [List.length_cons, lexHeadA, Bool.and_eq_true] at hB hk
    have hkn : k < n := by omega
    have hr : k ∈ Region.ready md ops ls := by simpa using hB.1.1
    obtain ⟨v, hy, hK⟩ := h
    refine headT.first h0 (Region.noSelect_spec hsel) ht hk0 hkn (fun _ _ hL => seqB_ready hL.1) l.length ls a inv (Region.free_spec h0 hB.1.2) hr hy ?_
    refine ih (k + 1) _ _ (by omega) (fun j hj => ?_) (by omega) (inv.set hr hkn) hB.2 hK
    have := hl (j + 1) (Nat.succ_lt_succ hj)
    rw [Nat.add_right_comm, Nat.add_assoc]
    simpa using this

/-- Behind the making: every pick is quiet above the world in which it was made. -/
theorem headT.done {n g : Nat} {oc : Oper} {p : Value} {V : World} {L : Array Bool → Act → Prop} {Q : Exit → Act → World → Prop} (hV : Below W.heap.size W V)
    (hsel : ∀ (j : Nat) (o : Oper) cs b, ops[j]? = some o → o.op ≠ .select cs b) (hap : ∀ j oj, j + 1 < n → ops[j]? = some oj → oc.apart ops oj = true)
    (hc : n - 1 < n) (hL : ∀ ls a w, Below V.heap.size V w → L ls a → wpAny P md ops Q g ls (a.put oc.dst p) w) (f : Nat) :
    ∀ (ls : Array Bool) (a : Act) (w : World), ls.getD (n - 1) true = true → Below V.heap.size V w → headT P md ops W n L f ls a → wpAny P md ops Q (f + g) ls (a.put oc.dst p) w := by
  induction f with
  | zero => intro ls a w _ hw h; rw [Nat.zero_add]; exact hL _ _ _ hw h
  | succ f ih =>
    intro ls a w hm hw ⟨hne, h⟩
    rw [Nat.add_right_comm]
    refine ⟨fun h0 => (hne h0).elim, fun i hi => ?_⟩
    obtain ⟨hin, o, v, ho, hy, hk⟩ := h i hi
    have hi1 : i ≠ n - 1 := fun e => by have := (mem_ready.1 hi).1; rw [e, hm] at this; exact Bool.noConfusion this
    obtain ⟨h1, h2, _⟩ := Oper.apart_spec (hap i o (by omega) ho)
    have hy' := (hy V hV).of_same (execOp_put o (fun cs b => hsel i o cs b ho) a oc.dst p h1) (wanted_put o a oc.dst p h1)
    refine wpOp_of_qOp (C := fun w' => ∃ u : Sub V, w' = u.1) (K := fun a' => a' = (a.put o.dst v).put oc.dst p) ⟨⟨w, hw⟩, rfl⟩ ?_ (hy'.qOp ho (Act.put_comm a p v h2))
    rintro a' w' ⟨u, rfl⟩ rfl
    exact ih _ _ _ (by rcases Classical.em (i = n - 1) with e | e; exact absurd e hi1; rw [getD_set_ne true e]; exact hm) u.2 hk

/-- Ahead of it. -/
theorem headT.any {n g : Nat} {oc : Oper} {ob : Obj} {G : Act → Prop} {Q : Exit → Act → World → Prop} {k0 : Nat} (hn : 0 < n) (hoc : ops[n - 1]? = some oc) (hgd : oc.guard = none)
    (hrun : ∀ (a : Act) (w : World), (execOp a.eval oc).run P w = .ok (.value (.pointer (some ⟨w.heap.size, 0, none⟩))) (w.alloc ob))
    (hsel : ∀ (j : Nat) (o : Oper) cs b, ops[j]? = some o → o.op ≠ .select cs b) (hap : ∀ j oj, j + 1 < n → ops[j]? = some oj → oc.apart ops oj = true) (ht : TailWaits md ops n k0) (hk0 : k0 ≤ n - 1)
    (hL : ∀ ls a b w, Below W.heap.size W w → W.heap.size ≤ b → w.heap[b]? = some ob → Region.seqB md ops g n ls = true → G a → wpAny P md ops Q g ls (a.put oc.dst (.pointer (some ⟨b, 0, none⟩))) w) (f : Nat) :
    ∀ (ls : Array Bool) (a : Act) (w : World), HeadInv md ops n ls → n - 1 ∈ Region.ready md ops ls → Below W.heap.size W w →
      headT P md ops W n (fun ls' a' => Region.seqB md ops g n ls' = true ∧ G a') f (ls.setIfInBounds (n - 1) true) a → wpAny P md ops Q (f + 1 + g) ls a w := by
  have hmake : ∀ (f : Nat) (ls : Array Bool) (a : Act) (w : World), HeadInv md ops n ls → n - 1 ∈ Region.ready md ops ls → Below W.heap.size W w →
      headT P md ops W n (fun ls' a' => Region.seqB md ops g n ls' = true ∧ G a') f (ls.setIfInBounds (n - 1) true) a →
      wpOp P ops Q (n - 1) (wpAny P md ops Q (f + g) (ls.setIfInBounds (n - 1) true)) a w := by
    intro f ls a w inv hr hw H
    have hs : n - 1 < ls.size := by
      rcases Nat.lt_or_ge (n - 1) ls.size with h | h
      · exact h
      · have := (mem_ready.1 hr).1; simp [Array.getElem?_eq_none h] at this
    unfold wpOp
    rw [hoc]
    simp only [Region.wanted, hgd, if_true]
    refine .inl ?_
    unfold Oper.wp
    rw [hrun]
    show wpAny P md ops Q (f + g) (ls.setIfInBounds (n - 1) true) (a.put oc.dst _) (w.alloc ob)
    have hV : Below W.heap.size W (w.alloc ob) := hw.alloc hw.size ob
    refine headT.done hV hsel hap (by omega) (fun ls' a' w' hw' hL' => hL ls' a' _ w' (hV.trans (hw'.mono hV.size)) hw.size ?_ hL'.1 hL'.2) f _ _ _ (by simp [hs]) (Below.refl _ _) H
    have hlt : w.heap.size < (w.alloc ob).heap.size := by simp
    rw [hw'.block _ hlt]
    exact heap_alloc_new _ _
  induction f with
  | zero =>
    intro ls a w inv hr hw H
    rw [Nat.zero_add, Nat.add_comm]
    refine ⟨fun h0 => absurd h0 (List.ne_nil_of_mem hr), fun i hi => ?_⟩
    rcases Classical.em (i = n - 1) with rfl | hne
    · have := hmake 0 ls a w inv hr hw H
      rwa [Nat.zero_add] at this
    · have h1 := seqB_ready H.1 i (ready_mono hi hne)
      exact absurd hi (ht ls inv (n - 1) hk0 (by omega) (mem_ready.1 hr).1 i h1)
  | succ f ih =>
    intro ls a w inv hr hw H
    rw [Nat.add_right_comm]
    refine ⟨fun h0 => absurd h0 (List.ne_nil_of_mem hr), fun i hi => ?_⟩
    rcases Classical.em (i = n - 1) with rfl | hne
    · exact hmake (f + 1) ls a w inv hr hw H
    · obtain ⟨hin, o, v, ho, hy, hk⟩ := H.2 i (ready_mono hi hne)
      refine wpOp_of_qOp (C := fun w' => ∃ u : Sub W, w' = u.1) (K := fun a' => a' = a.put o.dst v) ⟨⟨w, hw⟩, rfl⟩ ?_ ((hy W (Below.refl _ _)).qOp ho rfl)
      rintro a' w' ⟨u, rfl⟩ rfl
      refine ih _ _ _ (inv.set hi hin) (ready_mono hr (Ne.symm hne)) u.2 ?_
      rw [Array.setIfInBounds_comm _ _ hne]
      exact hk

/-- The slots of a list's operations. -/
def slotsOk (sz : Nat) : List Oper → Bool
  | [] => true
  | o :: rest => (match o.dst with | some d => decide (d < sz) && rest.all (fun o' => o'.dst != some d) | none => false) && slotsOk sz rest

theorem wpQuiet_slot {C : World → Prop} {A : Act} {d : Tmp} (l : List Oper) : ∀ a : Act, wpQuiet P ops C (fun a' => a' = A) l a → (l.all fun o => o.dst != some d) = true → A.tmps[d]? = a.tmps[d]? := by
  have hput : ∀ (a : Act) (x : Option Tmp) (v : Value), x ≠ some d → (a.put x v).tmps[d]? = a.tmps[d]? := by
    intro a x v hx
    cases x with
    | none => rfl
    | some k => exact Array.getElem?_setIfInBounds_ne (fun e => hx (by rw [e]))
  induction l with
  | nil => intro a h _; rw [show a = A from h]
  | cons o l ih =>
    intro a h hd
    rw [List.all_cons, Bool.and_eq_true] at hd
    have hx : o.dst ≠ some d := by simpa using hd.1
    unfold wpQuiet at h
    split at h
    · obtain ⟨v, _, h2⟩ := h
      rw [ih _ h2 hd.2, hput _ _ _ hx]
    · rw [ih _ h hd.2, hput _ _ _ hx]

theorem wpTame_of {A : Act} (l : List Oper) : ∀ a : Act, slotsOk a.tmps.size l = true → (∀ V, Below W.heap.size W V → wpQuiet P ops (fun w' => ∃ u : Sub V, w' = u.1) (fun a' => a' = A) l a) → wpTame P ops W (fun a' => a' = A) l a := by
  have hsz : ∀ (a : Act) (d : Tmp) (v : Value), (a.put (some d) v).tmps.size = a.tmps.size := fun a d v => Array.size_setIfInBounds
  induction l with
  | nil => intro a _ h; exact h W (Below.refl _ _)
  | cons o l ih =>
    intro a hs h
    unfold slotsOk at hs
    rw [Bool.and_eq_true] at hs
    cases hd : o.dst with
    | none => rw [hd] at hs; exact Bool.noConfusion hs.1
    | some d =>
      rw [hd] at hs
      simp only [Bool.and_eq_true, decide_eq_true_eq] at hs
      -- of every world: the operation's value, and what follows
      have key : ∀ V, Below W.heap.size W V → ∃ v, YieldsIn P ops (fun w' => ∃ u : Sub V, w' = u.1) o v a ∧ wpQuiet P ops (fun w' => ∃ u : Sub V, w' = u.1) (fun a' => a' = A) l (a.put o.dst v) := by
        intro V hV
        have h1 := h V hV
        unfold wpQuiet at h1
        split at h1
        · rename_i hw
          obtain ⟨v, h2, h3⟩ := h1
          exact ⟨v, .inl ⟨hw, h2⟩, h3⟩
        · rename_i hw
          exact ⟨undef, .inr ⟨by simpa using hw, rfl⟩, h1⟩
      have hval : ∀ V v, wpQuiet P ops (fun w' => ∃ u : Sub V, w' = u.1) (fun a' => a' = A) l (a.put o.dst v) → A.tmps[d]? = some v := by
        intro V v h1
        rw [wpQuiet_slot l _ h1 hs.1.2, hd]
        show (a.tmps.setIfInBounds d v)[d]? = _
        rw [Array.getElem?_setIfInBounds_self_of_lt hs.1.1]
      obtain ⟨v, hy, hk⟩ := key W (Below.refl _ _)
      have hv := hval W v hk
      refine ⟨v, fun V hV => ?_, ih _ (by rw [hd, hsz]; exact hs.2) fun V hV => ?_⟩
      · obtain ⟨v', hy', hk'⟩ := key V hV
        obtain rfl : v' = v := Option.some.inj ((hval V v' hk').symm.trans hv)
        exact hy'
      · obtain ⟨v', hy', hk'⟩ := key V hV
        obtain rfl : v' = v := Option.some.inj ((hval V v' hk').symm.trans hv)
        exact hk'

/-- The closed conditions of the rule. -/
def allocTailB (md : Region.Mode) (ops : Array Oper) (n sz : Nat) : Bool :=
  Region.noSelect ops && decide (n + 1 < ops.size) && Region.sinkB md ops (n + 1) && Region.chainB md ops (n + 1) &&
    (match ops[n]? with
      | some oc => oc.guard.isNone && oc.after.isEmpty && (List.range n).all (fun j => match ops[j]? with | some oj => oc.apart ops oj | none => false)
      | none => false) &&
    lexHeadA md ops (ops.size - (n + 1)) (n + 1) n 0 ((Array.replicate ops.size false).setIfInBounds n true) && slotsOk sz (ops.toList.take n)

/-- THE RULE: n quiet operations, then one that makes a variable, in whatever order; what stands behind waits for all of them. -/
theorem wp_region_alloc_tail {id : Nat} {Q : Exit → Act → World → Prop} {a : Act} {w : World} {l : List Oper} (n : Nat) (oc : Oper) (ob : Obj) (hm : P.follows .mixedOrders = true)
    (hB : allocTailB .any l.toArray n a.tmps.size = true) (hoc : l[n]? = some oc)
    (hrun : ∀ (a : Act) (w : World), (execOp a.eval oc).run P w = .ok (.value (.pointer (some ⟨w.heap.size, 0, none⟩))) (w.alloc ob))
    (hA : ∃ A : Act, (∀ V, Below w.heap.size w V → wpQuiet P l.toArray (fun w' => ∃ u : Sub V, w' = u.1) (fun a' => a' = A) (l.take n) a) ∧
      ∀ b w', Below w.heap.size w w' → w.heap.size ≤ b → w'.heap[b]? = some ob → wpList P l.toArray Q (l.drop (n + 1)) (A.put oc.dst (.pointer (some ⟨b, 0, none⟩))) w') :
    (Code.region id l.toArray true).wp P Q a w := by
  obtain ⟨A, h, ht⟩ := hA
  simp only [allocTailB, Bool.and_eq_true, decide_eq_true_eq] at hB
  obtain ⟨⟨⟨⟨⟨⟨hsel, hn⟩, hs⟩, hc⟩, hoB⟩, hlex⟩, hslots⟩ := hB
  have hn' : n + 1 < l.length := by simpa using hn
  have hoc' : l.toArray[n]? = some oc := by simpa using hoc
  rw [hoc'] at hoB
  simp only [Bool.and_eq_true] at hoB
  obtain ⟨⟨hgd, haf⟩, hap⟩ := hoB
  have hap' : ∀ j oj, j + 1 < n + 1 → l.toArray[j]? = some oj → oc.apart l.toArray oj = true := by
    intro j oj hj hoj
    have := List.all_eq_true.1 hap j (List.mem_range.2 (by omega))
    rw [hoj] at this
    exact this
  have htl : (l.take n).length = n := by rw [List.length_take]; omega
  have hT := wpTame_of (W := w) (l.take n) a (by simpa using hslots) h
  have inv0 : HeadInv .any l.toArray (n + 1) (Array.replicate l.toArray.size false) :=
    ⟨by simp, fun j oj _ hl => by rw [getD_replicate_false] at hl; exact Bool.noConfusion hl, fun t _ h2 => getD_in (by simpa using h2) (getD_replicate_false _ _)⟩
  have hr : n ∈ Region.ready .any l.toArray (Array.replicate l.toArray.size false) := by
    refine mem_ready.2 ⟨getD_in (by simp; omega) (getD_replicate_false _ _), oc, hoc', fun e he => ?_⟩
    rw [Array.isEmpty_iff.1 haf] at he
    simp at he
  have htw : TailWaits .any l.toArray (n + 1) 0 := fun ls inv i _ hi hun => tail_waits hs hc hn inv _ i rfl hi hun
  have H := headT.lex (W := w) (g := l.toArray.size - (n + 1)) (k0 := 0) hsel htw (l.take n) 0 _ a (Nat.zero_le _) (fun j hj => by rw [htl] at hj; simp [hj]) (by omega) (inv0.set hr (by omega)) (by rw [htl]; exact hlex) hT
  rw [htl] at H
  refine wp_region_any hm ?_
  have R := headT.any (md := .any) (n := n + 1) (g := l.toArray.size - (n + 1)) (Q := Q) (k0 := 0) (oc := oc) (ob := ob) (by omega) hoc' (by simpa using hgd) hrun (Region.noSelect_spec hsel) hap' htw (by omega)
    (fun ls a' b w' hw hb hob hq hG => by
      subst hG
      have := wpAny_of_seq (md := .any) (Q' := Q) (l.drop (n + 1)) (n + 1) ls (a'.put oc.dst (.pointer (some ⟨b, 0, none⟩))) w' (fun j => by simp [List.getElem?_drop]) (by simpa using hq) (ht b w' hw hb hob)
      simpa using this) n _ a { w with drawn := w.drawn + 1 } inv0 hr (Below.refl _ w).drew H
  rwa [Nat.add_sub_cancel' (Nat.le_of_lt hn)] at R
end

end Go.Proofs.Ytnnkkedflfmaoaa
