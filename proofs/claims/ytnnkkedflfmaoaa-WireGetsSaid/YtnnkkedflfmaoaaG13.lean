/-
  Texts of this proof, one behind the other: WireK, WireH.
-/
import Derived.Test.YtnnkkedflfmaoaaG12
import Derived.Test.YtnnkkedflfmaoaaG10
import Derived.Test.YtnnkkedflfmaoaaG9
/-
  Walks of the document's layer 18: GetResp.
-/
namespace Go.Proofs.Ytnnkkedflfmaoaa
open Go Go.RowKit

theorem Reads.sub {P : Program} {α : Type} {E : Enc P α} {w : World} {l : List α} {ad : Addr} {n cap c lo m : Nat} (h : Reads E w (.slice (some ad) n cap) l) (hn : n = l.length) (hm : lo + m ≤ l.length) (hs : E.size = 1) : Reads E w (.slice (some (ad.add lo)) m c) ((l.drop lo).take m) := by
  subst hn
  rcases h with ⟨hv, _⟩ | ⟨ad', cap', hv, hc⟩
  · cases hv
  · injection hv with ha _ _
    injection ha with ha
    subst ha
    have hlen : ((l.drop lo).take m).length = m := by rw [List.length_take, List.length_drop]; omega
    refine .inr ⟨_, c, by rw [hlen], fun j u hj => ?_⟩
    rw [E.all_take _ m (by rw [List.length_drop]; omega), List.getElem?_take] at hj
    split at hj
    · rw [E.all_drop l lo (by omega), List.getElem?_drop, hs, Nat.mul_one] at hj
      rw [Addr.add_add]
      exact hc _ u hj
    · cases hj

theorem wrap_i64 (x : Nat) (h : x < 18446744073709551616) : wrap64 (x : Int) = i64 x := by
  unfold wrap64 i64
  split <;> omega

def RefSPost (o : Option Rs) (w : World) (v x : Value) (w' : World) : Prop :=
  (match o with
  | some r => v = rsV r ∧ x = .bool true
  | none => v = rsV Rs.zero ∧ x = .bool false) ∧ Below w.heap.size w w'
def RefRPost (o : Option Rq) (w : World) (v x : Value) (w' : World) : Prop :=
  (match o with
  | some r => v = rqV r ∧ x = .bool true
  | none => v = rqV Rq.zero ∧ x = .bool false) ∧ Below w.heap.size w w'

set_option maxRecDepth 100000 in
set_option maxHeartbeats 16000000 in
theorem refGetSv (y : Value) (bs : List Nat) (w : World) (hy : RC encY w y bs) (_hyl : bs.length ≤ 1000000) (hyb : ∀ x ∈ bs, x < 256) :
    Calls Try.prog 17 #[y] w fun e w' => ∃ v x, e = .returned (.tuple #[v, x]) ∧ RefSPost (refGetS bs) w v x w' := by
  have hR : HoldsS (w.alloc (.cells #[.int .i64 0, .int .i64 0, .int .u64 0, .int .i64 0, .int .i64 0] 26)) w.heap.size Rs.zero := heap_alloc_new _ _
  have hB : Below w.heap.size w (w.alloc (.cells #[.int .i64 0, .int .i64 0, .int .u64 0, .int .i64 0, .int .i64 0] 26)) := by go_grown
  have hY := hy.keep hB
  obtain ⟨ay, cy, rfl, hcy⟩ := hy.form
  clear hy
  by_cases hl : bs.length = 20
  · rw [hl] at hY hcy ⊢
    have hY2 : Reads encY (w.alloc (.cells #[.int .i64 0, .int .i64 0, .int .u64 0, .int .i64 0, .int .i64 0] 26)) (.slice ay bs.length cy) bs := by rw [hl]; exact hY.reads
    obtain ⟨ad, rfl, b0⟩ := hY2.byteAt 0 (by omega)
    obtain ⟨ad', e', b1⟩ := hY2.byteAt 1 (by omega)
    injection e' with e'
    subst e'
    rw [show ad.add 0 = ad by cases ad; simp [Addr.add]] at b0
    have hx0 := hyb _ (List.getElem_mem (show 0 < bs.length by omega))
    have hx1 := hyb _ (List.getElem_mem (show 1 < bs.length by omega))
    have er : refRs bs = ⟨bs[0], bs[1], numB ((bs.drop 2).take 8), numB ((bs.drop 10).take 2), i64 (numB ((bs.drop 12).take 8))⟩ := by
      unfold refRs
      rw [List.getD_eq_getElem?_getD, List.getD_eq_getElem?_getD, List.getElem?_eq_getElem (show 0 < bs.length by omega), List.getElem?_eq_getElem (show 1 < bs.length by omega)]
      rfl
    have hnum : ∀ lo m, lo + m ≤ 20 → m ≤ 8 → numB ((bs.drop lo).take m) < 256 ^ m := fun lo m h h8 => by
      have hlen : ((bs.drop lo).take m).length = m := by rw [List.length_take, List.length_drop]; omega
      have := (numB_exact ((bs.drop lo).take m) (by omega) (fun u hu => hyb u (List.mem_of_mem_drop (List.mem_of_mem_take hu)))).1
      rwa [hlen] at this
    have k1 := hnum 2 8 (by decide) (by decide)
    have k2 := hnum 10 2 (by decide) (by decide)
    have k3 := hnum 12 8 (by decide) (by decide)
    have hsub : ∀ (V : World) lo m c, Below (w.alloc (.cells #[.int .i64 0, .int .i64 0, .int .u64 0, .int .i64 0, .int .i64 0] 26)).heap.size (w.alloc (.cells #[.int .i64 0, .int .i64 0, .int .u64 0, .int .i64 0, .int .i64 0] 26)) V → lo + m ≤ 20 → m ≤ 8 →
        Calls Try.prog 27 #[.slice (some (ad.add lo)) m c] V fun e w'' => e = .returned (.int .u64 (numB ((bs.drop lo).take m))) ∧ V = w'' := fun V lo m c hV h h8 =>
      refNum ((bs.drop lo).take m) _ V ((hY2.keep hV).sub rfl (by omega) rfl) (fun u hu => hyb u (List.mem_of_mem_drop (List.mem_of_mem_take hu))) (by rw [List.length_take]; omega)
    have hO : refGetS bs = if (refRs bs).may then some (refRs bs) else none := by
      unfold refGetS
      by_cases h : (refRs bs).may
      · rw [if_pos ⟨hl, h⟩, if_pos h]
      · rw [if_neg (fun h' => h h'.2), if_neg h]
    rw [er] at hO
    have e3 := wrap_i64 (numB ((bs.drop 12).take 8)) (by simpa using k3)
    have hi3 : In64' (i64 (numB ((bs.drop 12).take 8))) := by
      have : numB ((bs.drop 12).take 8) < 18446744073709551616 := by simpa using k3
      unfold In64' i64; split <;> omega
    have N1 := fun V hV => hsub V 2 8 (cy - 2) hV (by decide) (by decide)
    have N2 := fun V hV => hsub V 10 2 (cy - 10) hV (by decide) (by decide)
    have N3 := fun V hV => hsub V 12 8 (cy - 12) hV (by decide) (by decide)
    clear hsub hnum hY2 hY
    generalize numB ((bs.drop 2).take 8) = n1 at *
    generalize numB ((bs.drop 10).take 2) = n2 at *
    generalize numB ((bs.drop 12).take 8) = n3 at *
    generalize bs[0] = x0 at *
    generalize bs[1] = x1 at *
    have k1 : n1 < 18446744073709551616 := by simpa using k1
    have k2 : n2 < 65536 := by simpa using k2
    have hg : Rs.good ⟨x0, x1, n1, n2, i64 n3⟩ := ⟨by unfold In64'; dsimp only; omega, by unfold In64'; dsimp only; omega, k1, by unfold In64'; dsimp only; omega, hi3⟩
    have HO := Lib.hid hO
    clear hO er hyb hl
    generalize i64 n3 = c3 at *
    have HR := Lib.hid hR
    have HB := Lib.hid hB
    clear hR hB hi3 k3
    go_enter Try.func17, Try.ntmps17
    go_upto_region 3 with (fail)
    generalize w.alloc (.cells #[.int .i64 0, .int .i64 0, .int .u64 0, .int .i64 0, .int .i64 0] 26) = W at *
    refine wp_region_alloc_tail 20 _ (.cells #[.int .i64 0, .int .i64 0, .int .u64 0, .int .i64 0, .int .i64 0] 26) (by kernel_rfl) (by kernel_rfl) rfl (fun a w => by simp [go_sem]; done) ?_
    apply Exists.intro
    refine ⟨fun V hV => ?_, ?_⟩
    · have c0 : ∀ u : Sub V, u.1.cell? ad = some (.int .u8 x0) := fun u => by
        have h := (hV.trans (u.2.mono hV.size)).cell (p := ad) (block_lt_of_cell b0)
        exact h.trans b0
      have c1 : ∀ u : Sub V, u.1.cell? (ad.add 1) = some (.int .u8 x1) := fun u => by
        have h := (hV.trans (u.2.mono hV.size)).cell (p := ad.add 1) (block_lt_of_cell b1)
        exact h.trans b1
      have M1 : ∀ u : Sub V, Calls Try.prog 27 #[.slice (some (ad.add 2)) 8 (cy - 2)] u.1 fun e w'' => e = .returned (.int .u64 n1) ∧ ∃ x : Sub V, w'' = x.1 := fun u => subSame (N1 u.1 (hV.trans (u.2.mono hV.size)))
      have M2 : ∀ u : Sub V, Calls Try.prog 27 #[.slice (some (ad.add 10)) 2 (cy - 10)] u.1 fun e w'' => e = .returned (.int .u64 n2) ∧ ∃ x : Sub V, w'' = x.1 := fun u => subSame (N2 u.1 (hV.trans (u.2.mono hV.size)))
      have M3 : ∀ u : Sub V, Calls Try.prog 27 #[.slice (some (ad.add 12)) 8 (cy - 12)] u.1 fun e w'' => e = .returned (.int .u64 n3) ∧ ∃ x : Sub V, w'' = x.1 := fun u => subSame (N3 u.1 (hV.trans (u.2.mono hV.size)))
      rw [show ad.add 1 = ⟨ad.block, ad.off + 1, none⟩ by simp [Addr.add]] at c1
      rw [show ad.add 2 = ⟨ad.block, ad.off + 2, none⟩ by simp [Addr.add]] at M1
      rw [show ad.add 10 = ⟨ad.block, ad.off + 10, none⟩ by simp [Addr.add]] at M2
      rw [show ad.add 12 = ⟨ad.block, ad.off + 12, none⟩ by simp [Addr.add]] at M3
      replace N1 := Lib.hid N1
      replace N2 := Lib.hid N2
      replace N3 := Lib.hid N3
      simp only [List.take_succ_cons, List.take_zero]
      iterate 10 (go_big_quiet_step (fail))
      go_big_quiet_step (exact M1 _)
      iterate 2 (go_big_quiet_step (fail))
      go_big_quiet_step (exact M2 _)
      iterate 3 (go_big_quiet_step (fail))
      go_big_quiet_step (exact M3 _)
      iterate 2 (go_big_quiet_step (fail))
      exact wpQuiet_nil rfl
    intro B V hV hBB hz
    have HR1 := HR.out.below hV
    have HB1 := HB.out.trans (hV.mono HB.out.size)
    have kz : HoldsS V B Rs.zero := hz
    have hne : w.heap.size ≠ B := by have := HR.out.lt; omega
    have hBw : w.heap.size ≤ B := by have := HB.out.size; omega
    clear HR hz b0 b1 N1 N2 N3 hV hBB
    obtain ⟨z0, z1, z2, z3, z4⟩ := kz.cells
    have zf := kz.free
    simp only [Rs.zero] at z0 z1 z2 z3 z4
    have kk := kz.set5 ⟨x0, x1, n1, n2, c3⟩
    have kr : HoldsS (((((V.setCell ⟨B, 0, none⟩ (.int .i64 (x0 : Int))).setCell ⟨B, 1, none⟩ (.int .i64 (x1 : Int))).setCell ⟨B, 2, none⟩ (.int .u64 (n1 : Int))).setCell ⟨B, 3, none⟩ (.int .i64 (n2 : Int))).setCell ⟨B, 4, none⟩ (.int .i64 c3)) w.heap.size Rs.zero := by
      unfold HoldsS
      rw [heap_setCell_other _ _ _ _ hne, heap_setCell_other _ _ _ _ hne, heap_setCell_other _ _ _ _ hne, heap_setCell_other _ _ _ _ hne, heap_setCell_other _ _ _ _ hne]
      exact HR1
    have kb := below_set5 (x0 := .int .i64 (x0 : Int)) (x1 := .int .i64 (x1 : Int)) (x2 := .int .u64 (n1 : Int)) (x3 := .int .i64 (n2 : Int)) (x4 := .int .i64 c3) HB1 hBw
    simp only [List.drop_succ_cons, List.drop_zero]
    replace kk := Lib.hid kk
    replace kr := Lib.hid kr
    replace kb := Lib.hid kb
    clear kz HR1 HB1 HB
    go_upto_region 4 with (fail)
    have KK := kk.out
    have KR := kr.out
    have KB := kb.out
    generalize (((((V.setCell ⟨B, 0, none⟩ (.int .i64 (x0 : Int))).setCell ⟨B, 1, none⟩ (.int .i64 (x1 : Int))).setCell ⟨B, 2, none⟩ (.int .u64 (n1 : Int))).setCell ⟨B, 3, none⟩ (.int .i64 (n2 : Int))).setCell ⟨B, 4, none⟩ (.int .i64 c3)) = U at *
    clear kk kr kb z0 z1 z2 z3 z4 zf
    obtain ⟨y0, y1, y2, y3, y4⟩ := KK.cells
    dsimp only at y0 y1 y2 y3 y4
    go_wp2_with fail
    refine (refMayS ⟨x0, x1, n1, n2, c3⟩ _ hg).mono ?_
    rintro e w5 ⟨rfl, hb5⟩
    have K5 := KK.below hb5
    have R5 := KR.below hb5
    have B5 := KB.trans (hb5.mono KB.size)
    clear KK KR KB hb5 y0 y1 y2 y3 y4
    obtain ⟨r0, r1, r2, r3, r4⟩ := R5.cells
    have rf := R5.free
    simp only [Rs.zero] at r0 r1 r2 r3 r4
    have R5 := Lib.hid R5
    by_cases hm : Rs.may ⟨x0, x1, n1, n2, c3⟩
    · have HO2 := Lib.hid (HO.out.trans (if_pos hm))
      rw [decide_eq_true hm]
      obtain ⟨y0, y1, y2, y3, y4⟩ := K5.cells
      dsimp only at y0 y1 y2 y3 y4
      clear HO hm hg K5
      go_wp2
      exact bodyPost_ret (ret_rs Try.results17 rfl rfl (R5.out.set5 ⟨x0, x1, n1, n2, c3⟩)) rfl ⟨_, _, rfl, by rw [HO2.out]; exact ⟨⟨rfl, rfl⟩, below_set5 B5 (Nat.le_refl _)⟩⟩
    · have HO2 := Lib.hid (HO.out.trans (if_neg hm))
      rw [decide_eq_false hm]
      clear HO hm hg K5
      go_wp2
      exact bodyPost_ret (ret_rs Try.results17 rfl rfl (R5.out.set5 Rs.zero)) rfl ⟨_, _, rfl, by rw [HO2.out]; exact ⟨⟨rfl, rfl⟩, below_set5 B5 (Nat.le_refl _)⟩⟩
  · have hO : refGetS bs = none := if_neg fun h => hl h.1
    have HO := Lib.hid hO
    have hlne : ((bs.length : Int) != 20) = true := by rw [bne_iff_ne]; omega
    have HR := Lib.hid hR
    have HB := Lib.hid hB
    clear hO hl hY hyb hR hB
    have r := HR.out.cells
    have rf := HR.out.free
    go_enter Try.func17, Try.ntmps17
    go_upto_region 1 with (fail)
    generalize w.alloc (.cells #[.int .i64 0, .int .i64 0, .int .u64 0, .int .i64 0, .int .i64 0] 26) = W at *
    obtain ⟨r0, r1, r2, r3, r4⟩ := r
    simp only [Rs.zero] at r0 r1 r2 r3 r4
    go_wp2
    exact bodyPost_ret (ret_rs Try.results17 rfl rfl (HR.out.set5 Rs.zero)) rfl ⟨_, _, rfl, by rw [HO.out]; exact ⟨⟨rfl, rfl⟩, below_set5 HB.out (Nat.le_refl _)⟩⟩

end Go.Proofs.Ytnnkkedflfmaoaa

/-
  Walks of the document's layer 18: May.
-/
namespace Go.Proofs.Ytnnkkedflfmaoaa
open Go Go.RowKit

theorem eqQ_yes : ((strB [63]).toList == ([63] : List UInt8)) = true := by
  rw [strB_toList]
  rfl
theorem eqQ_no {l : List Nat} (hl : ∀ x ∈ l, x < 128) (h : l ≠ [63]) : ((strB l).toList == ([63] : List UInt8)) = false := by
  rw [beq_eq_false_iff_ne]
  intro e
  refine h (strB_inj (fun x hx => Nat.lt_trans (hl x hx) (by decide)) (by decide) ?_)
  rw [e, strB_toList]
  rfl

theorem formB_q {op : Nat} (h1 : 1 ≤ op) (h2 : op ≤ 21) : formB op ≠ [63] := (by decide : ∀ o, o ≤ 21 → 1 ≤ o → formB o ≠ [63]) op h2 h1

theorem may_bool {r : Rq} (hg : r.good) (ho : 1 ≤ r.op ∧ r.op ≤ 21) (ht : 1 ≤ r.tenant ∧ r.tenant ≤ 8) (hn : 0 ≤ r.n ∧ r.n ≤ mostN r.op.toNat) (hb : 0 ≤ r.bit ∧ r.bit ≤ 1) :
    decide r.may = (((decide (65 ∈ formB r.op.toNat) || ((r.a : Int) == 0)) && (decide (66 ∈ formB r.op.toNat) || ((r.b : Int) == 0))) && (decide (67 ∈ formB r.op.toNat) || ((r.c : Int) == 0)) && (decide (98 ∈ formB r.op.toNat) || (r.bit == 0))) := by
  rw [Bool.eq_iff_iff]
  simp only [decide_eq_true_eq, Bool.and_eq_true, Bool.or_eq_true, beq_iff_eq]
  constructor
  · rintro ⟨_, _, _, _, ⟨h5, _⟩, ⟨h6, _⟩, ⟨h7, _⟩, h8⟩
    exact ⟨⟨⟨h5.imp id (fun h => by omega), h6.imp id (fun h => by omega)⟩, h7.imp id (fun h => by omega)⟩, h8⟩
  · rintro ⟨⟨⟨h5, h6⟩, h7⟩, h8⟩
    exact ⟨ho, ht, hn, hb, ⟨h5.imp id (fun h => by omega), hg.a⟩, ⟨h6.imp id (fun h => by omega), hg.b⟩, ⟨h7.imp id (fun h => by omega), hg.c⟩, h8⟩

set_option maxRecDepth 100000 in
set_option maxHeartbeats 16000000 in
theorem refMayR (r : Rq) (w : World) (hg : r.good) :
    Calls Try.prog 8 #[rqV r] w fun e w' => e = .returned (.bool (decide r.may)) ∧ Below w.heap.size w w' := by
  unfold rqV
  have hB : Below w.heap.size w (w.alloc (.cells #[.int .i64 r.op, .int .i64 r.tenant, .int .u64 r.a, .int .u64 r.b, .int .u64 r.c, .int .i64 r.n, .int .i64 r.bit] 24)) := by go_grown
  have hR : HoldsR (w.alloc (.cells #[.int .i64 r.op, .int .i64 r.tenant, .int .u64 r.a, .int .u64 r.b, .int .u64 r.c, .int .i64 r.n, .int .i64 r.bit] 24)) w.heap.size r := heap_alloc_new _ _
  have hF := refForm r.op
  have hM := refMost r.op
  have hfew := formB_few r.op.toNat
  have hmost := mostN_le r.op.toNat
  have hq : (1 ≤ r.op ∧ r.op ≤ 21 ∧ ((strB (formB r.op.toNat)).toList == ([63] : List UInt8)) = false) ∨ (¬ (1 ≤ r.op ∧ r.op ≤ 21) ∧ ((strB (formB r.op.toNat)).toList == ([63] : List UInt8)) = true) := by
    by_cases h : 1 ≤ r.op ∧ r.op ≤ 21
    · exact .inl ⟨h.1, h.2, eqQ_no hfew.2 (formB_q (by omega) (by omega))⟩
    · refine .inr ⟨h, ?_⟩
      have e : formB r.op.toNat = [63] := by
        rcases Int.lt_or_le r.op 1 with h' | h'
        · rw [show r.op.toNat = 0 by omega]; rfl
        · exact formB_over _ (by omega)
      rw [e]
      exact eqQ_yes
  have hH := fun c W => refHas (formB r.op.toNat) c W (fun x hx => Nat.lt_trans (hfew.2 x hx) (by decide)) (by have := hfew.1; omega)
  have hmb := may_bool hg
  generalize hD : decide r.may = D at *
  replace hD := Lib.hid hD
  generalize formB r.op.toNat = l at *
  obtain ⟨op, tenant, a, b, c, n, bit⟩ := r
  dsimp only at *
  generalize hmo : mostN op.toNat = mo at *
  go_enter Try.func8, Try.ntmps8
  go_upto_region 1 with (fail)
  generalize w.alloc (.cells #[.int .i64 op, .int .i64 tenant, .int .u64 a, .int .u64 b, .int .u64 c, .int .i64 n, .int .i64 bit] 24) = W at *
  obtain ⟨z0, z1, z2, z3, z4, z5, z6⟩ := hR.cells
  dsimp only at z0 z1 z2 z3 z4 z5 z6
  go_wp2_with fail
  refine (hF _).mono ?_
  rintro e w1 ⟨rfl, hb1⟩
  have hR1 := hR.below hb1
  have c0 : ∀ u : Sub w1, u.1.cell? ⟨w.heap.size, 0, none⟩ = some (.int .i64 op) := fun u => (hR1.below u.2).cells.1
  have c1 : ∀ u : Sub w1, u.1.cell? ⟨w.heap.size, 1, none⟩ = some (.int .i64 tenant) := fun u => (hR1.below u.2).cells.2.1
  have c2 : ∀ u : Sub w1, u.1.cell? ⟨w.heap.size, 2, none⟩ = some (.int .u64 a) := fun u => (hR1.below u.2).cells.2.2.1
  have c3 : ∀ u : Sub w1, u.1.cell? ⟨w.heap.size, 3, none⟩ = some (.int .u64 b) := fun u => (hR1.below u.2).cells.2.2.2.1
  have c4 : ∀ u : Sub w1, u.1.cell? ⟨w.heap.size, 4, none⟩ = some (.int .u64 c) := fun u => (hR1.below u.2).cells.2.2.2.2.1
  have c5 : ∀ u : Sub w1, u.1.cell? ⟨w.heap.size, 5, none⟩ = some (.int .i64 n) := fun u => (hR1.below u.2).cells.2.2.2.2.2.1
  have c6 : ∀ u : Sub w1, u.1.cell? ⟨w.heap.size, 6, none⟩ = some (.int .i64 bit) := fun u => (hR1.below u.2).cells.2.2.2.2.2.2
  have hMu : ∀ u : Sub w1, Calls Try.prog 21 #[.int .i64 op] u.1 fun e w'' => e = .returned (.int .i64 mo) ∧ ∃ x : Sub w1, w'' = x.1 := fun u => subSame (hM u.1)
  have hb01 := hB.trans (hb1.mono hB.size)
  clear hF hM z0 z1 z2 z3 z4 z5 z6 hR hR1 hb1 hB hg
  generalize strB l = s at *
  by_cases k0 : ¬ (1 ≤ op ∧ op ≤ 21) ∨ tenant < 1 ∨ 8 < tenant ∨ n < 0 ∨ (mo : Int) < n ∨ bit < 0 ∨ 1 < bit
  · have HD := Lib.hid (show D = false by rw [← hD.out]; exact decide_eq_false fun h => by have h1 := h.op; have h2 := h.tenant; have h3 := h.n; have h4 := h.bit; dsimp only at h1 h2 h3 h4; rw [hmo] at h3; omega)
    have k1 : (s.toList == ([63] : List UInt8)) = true ∨ ((s.toList == ([63] : List UInt8)) = false ∧ decide (tenant < 1) = true) ∨
        ((s.toList == ([63] : List UInt8)) = false ∧ decide (tenant < 1) = false ∧ decide (8 < tenant) = true) ∨
        ((s.toList == ([63] : List UInt8)) = false ∧ decide (tenant < 1) = false ∧ decide (8 < tenant) = false ∧ decide (n < 0) = true) ∨
        ((s.toList == ([63] : List UInt8)) = false ∧ decide (tenant < 1) = false ∧ decide (8 < tenant) = false ∧ decide (n < 0) = false ∧ decide ((mo : Int) < n) = true) ∨
        ((s.toList == ([63] : List UInt8)) = false ∧ decide (tenant < 1) = false ∧ decide (8 < tenant) = false ∧ decide (n < 0) = false ∧ decide ((mo : Int) < n) = false ∧ decide (bit < 0) = true) ∨
        ((s.toList == ([63] : List UInt8)) = false ∧ decide (tenant < 1) = false ∧ decide (8 < tenant) = false ∧ decide (n < 0) = false ∧ decide ((mo : Int) < n) = false ∧ decide (bit < 0) = false ∧ decide (1 < bit) = true) := by
      simp only [decide_eq_true_eq, decide_eq_false_iff_not]
      rcases hq with ⟨q1, q2, q3⟩ | ⟨q1, q3⟩
      · rw [q3]; simp only [Bool.false_eq_true, false_or, true_and]; omega
      · exact .inl q3
    clear hq k0 hD hH
    rcases k1 with q0 | ⟨q0, q1⟩ | ⟨q0, q1, q2⟩ | ⟨q0, q1, q2, q3⟩ | ⟨q0, q1, q2, q3, q4⟩ | ⟨q0, q1, q2, q3, q4, q5⟩ | ⟨q0, q1, q2, q3, q4, q5, q6⟩
    all_goals go_wp2
    all_goals refine wp_region_quiet_all (C := fun w' => ∃ u : Sub w1, w' = u.1) (by kernel_rfl) (by kernel_rfl) (InSub.drew w1) ?_
    all_goals iterate 35 (first | go_big_quiet_skip | go_big_quiet_step (exact hMu _))
    all_goals refine wpQuiet_nil ?_
    all_goals intro w' hw'
    all_goals obtain ⟨u, rfl⟩ := hw'
    all_goals have hu := hb01.trans (u.2.mono hb01.size)
    all_goals clear c0 c1 c2 c3 c4 c5 c6 hMu
    all_goals go_wp2
    all_goals go_ret
    all_goals exact ⟨by rw [HD.out]; rfl, hu⟩
  · have hq' : 1 ≤ op ∧ op ≤ 21 ∧ (s.toList == ([63] : List UInt8)) = false := by
      rcases hq with h | ⟨h, _⟩
      · exact h
      · exact (k0 (.inl h)).elim
    obtain ⟨o1, o2, q0⟩ := hq'
    have q1 : decide (tenant < 1) = false := by rw [decide_eq_false_iff_not]; omega
    have q2 : decide (8 < tenant) = false := by rw [decide_eq_false_iff_not]; omega
    have q3 : decide (n < 0) = false := by rw [decide_eq_false_iff_not]; omega
    have q4 : decide ((mo : Int) < n) = false := by rw [decide_eq_false_iff_not]; omega
    have q5 : decide (bit < 0) = false := by rw [decide_eq_false_iff_not]; omega
    have q6 : decide (1 < bit) = false := by rw [decide_eq_false_iff_not]; omega
    have eD := Lib.hid (hmb ⟨o1, o2⟩ (by omega) (by omega) (by omega))
    have hA := fun W => hH 65 W
    have hBb := fun W => hH 66 W
    have hC := fun W => hH 67 W
    have hT := fun W => hH 98 W
    generalize decide (65 ∈ l) = A at *
    generalize decide (66 ∈ l) = Bb at *
    generalize decide (67 ∈ l) = C at *
    generalize decide (98 ∈ l) = T at *
    clear hmb hH hD hq k0 hfew hmost hmo o1 o2
    go_wp2
    refine wp_region_quiet_all (C := fun w' => ∃ u : Sub w1, w' = u.1) (by kernel_rfl) (by kernel_rfl) (InSub.drew w1) ?_
    iterate 35 (first | go_big_quiet_skip | go_big_quiet_step (exact hMu _))
    refine wpQuiet_nil ?_
    intro w' hw'
    obtain ⟨u, rfl⟩ := hw'
    have hu := hb01.trans (u.2.mono hb01.size)
    have z2 := c2 u
    have z3 := c3 u
    have z4 := c4 u
    have z6 := c6 u
    clear c0 c1 c2 c3 c4 c5 c6 hMu q0 q1 q2 q3 q4 q5 q6
    generalize u.1 = U at *
    go_wp2_with fail
    refine (hA _).mono ?_
    rintro e w2 ⟨rfl, rfl⟩
    go_wp2_with fail
    refine (hBb _).mono ?_
    rintro e w2 ⟨rfl, rfl⟩
    go_wp2_with fail
    refine (hC _).mono ?_
    rintro e w2 ⟨rfl, rfl⟩
    go_wp2_with fail
    refine (hT _).mono ?_
    rintro e w2 ⟨rfl, rfl⟩
    clear hA hBb hC hT hb01
    have pA : A = true ∨ (A = false ∧ ((a : Int) == 0) = true) ∨ (A = false ∧ ((a : Int) == 0) = false) := by cases A <;> cases ((a : Int) == 0) <;> simp
    have pB : Bb = true ∨ (Bb = false ∧ ((b : Int) == 0) = true) ∨ (Bb = false ∧ ((b : Int) == 0) = false) := by cases Bb <;> cases ((b : Int) == 0) <;> simp
    have pC : C = true ∨ (C = false ∧ ((c : Int) == 0) = true) ∨ (C = false ∧ ((c : Int) == 0) = false) := by cases C <;> cases ((c : Int) == 0) <;> simp
    have pT : T = true ∨ (T = false ∧ (bit == 0) = true) ∨ (T = false ∧ (bit == 0) = false) := by cases T <;> cases (bit == 0) <;> simp
    rcases pA with rfl | ⟨rfl, ea⟩ | ⟨rfl, ea⟩
    all_goals rcases pB with rfl | ⟨rfl, eb⟩ | ⟨rfl, eb⟩
    all_goals rcases pC with rfl | ⟨rfl, ec⟩ | ⟨rfl, ec⟩
    all_goals rcases pT with rfl | ⟨rfl, et⟩ | ⟨rfl, et⟩
    all_goals go_wp2
    all_goals go_ret
    all_goals exact ⟨by rw [eD.out]; simp [*], hu⟩

end Go.Proofs.Ytnnkkedflfmaoaa
