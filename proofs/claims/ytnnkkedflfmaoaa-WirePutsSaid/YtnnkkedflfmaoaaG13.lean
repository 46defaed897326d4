/-
  Texts of this proof, one behind the other: WireL.
-/
import Derived.Test.YtnnkkedflfmaoaaG12
/-
  Walks of the document's layer 18: Get.
-/
namespace Go.Proofs.Ytnnkkedflfmaoaa
open Go Go.RowKit

theorem chP_ok (c v : Nat) (h : v < 256 ^ (chP c).wide) : (chP c).ok v = true := by
  have e : (chP c).lo = 0 ∧ (chP c).hi = 256 ^ (chP c).wide - 1 := by
    unfold chP
    repeat (split; · decide)
    decide
  simp only [Prt.ok, Bool.and_eq_true, decide_eq_true_eq]
  omega
theorem chP_wide (c : Nat) : 1 ≤ (chP c).wide ∧ (chP c).wide ≤ 8 := by
  unfold chP
  repeat (split; · decide)
  decide

/-- What a request's numbers keep to, while it is got. -/
structure NGood (n : NF) : Prop where
  h0 : n 0 < 256
  h1 : n 1 < 256
  h2 : n 2 < 18446744073709551616
  h3 : n 3 < 18446744073709551616
  h4 : n 4 < 18446744073709551616
  h5 : n 5 < 65536
  h6 : n 6 < 65536
theorem NGood.of {n : NF} (h : NGood n) : (Rq.of n).good := by
  obtain ⟨h0, h1, h2, h3, h4, h5, h6⟩ := h
  refine ⟨?_, ?_, h2, h3, h4, ?_, ?_⟩ <;> simp only [Rq.of, In64'] <;> omega
theorem NGood.put {n : NF} (h : NGood n) (c v : Nat) (hv : v < 256 ^ (chP c).wide) : NGood (n.put (chP c).pl v) := by
  have p8 : (256 : Nat) ^ 8 = 18446744073709551616 := by decide
  have p2 : (256 : Nat) ^ 2 = 65536 := by decide
  have p1 : (256 : Nat) ^ 1 = 256 := by decide
  obtain ⟨h0, h1, h2, h3, h4, h5, h6⟩ := h
  have key : ((chP c).pl = 2 ∨ (chP c).pl = 3 ∨ (chP c).pl = 4) ∧ (chP c).wide = 8 ∨ ((chP c).pl = 5 ∨ (chP c).pl = 6) ∧ ((chP c).wide = 1 ∨ (chP c).wide = 2) := by
    unfold chP
    repeat (split; · decide)
    decide
  have hb : ((chP c).pl = 2 ∨ (chP c).pl = 3 ∨ (chP c).pl = 4) ∧ v < 18446744073709551616 ∨ ((chP c).pl = 5 ∨ (chP c).pl = 6) ∧ v < 65536 := by
    rcases key with ⟨k1, k2⟩ | ⟨k1, k2 | k2⟩
    · rw [k2] at hv; exact .inl ⟨k1, by omega⟩
    · rw [k2] at hv; exact .inr ⟨k1, by omega⟩
    · rw [k2] at hv; exact .inr ⟨k1, by omega⟩
  generalize (chP c).pl = q at *
  refine ⟨?_, ?_, ?_, ?_, ?_, ?_, ?_⟩ <;> unfold NF.put <;> split <;> omega

theorem HoldsR.put {w : World} {b : Nat} {n : NF} (h : HoldsR w b (Rq.of n)) : (∀ v : Nat, HoldsR (w.setCell ⟨b, 2, none⟩ (.int .u64 v)) b (Rq.of (n.put 2 v))) ∧ (∀ v : Nat, HoldsR (w.setCell ⟨b, 3, none⟩ (.int .u64 v)) b (Rq.of (n.put 3 v))) ∧
    (∀ v : Nat, HoldsR (w.setCell ⟨b, 4, none⟩ (.int .u64 v)) b (Rq.of (n.put 4 v))) ∧ (∀ v : Nat, HoldsR (w.setCell ⟨b, 5, none⟩ (.int .i64 v)) b (Rq.of (n.put 5 v))) ∧ (∀ v : Nat, HoldsR (w.setCell ⟨b, 6, none⟩ (.int .i64 v)) b (Rq.of (n.put 6 v))) := by
  unfold HoldsR at *
  exact ⟨fun v => heap_setCell_same _ b _ _ _ _ h, fun v => heap_setCell_same _ b _ _ _ _ h, fun v => heap_setCell_same _ b _ _ _ _ h, fun v => heap_setCell_same _ b _ _ _ _ h, fun v => heap_setCell_same _ b _ _ _ _ h⟩
theorem HoldsR.apart {w : World} {b c j : Nat} {r : Rq} {v : Value} (h : HoldsR w b r) (hne : b ≠ c) : HoldsR (w.setCell ⟨c, j, none⟩ v) b r := by
  unfold HoldsR
  rw [heap_setCell_other _ _ _ _ hne]
  exact h

/-- Where the document's Get stands. -/
structure DocR (w : World) (b2 b4 : Nat) (n : NF) (wr : World) : Prop where
  zero : HoldsR wr b2 Rq.zero
  req : HoldsR wr b4 (Rq.of n)
  low2 : w.heap.size ≤ b2
  low4 : w.heap.size ≤ b4
  ne : b2 ≠ b4
  below : Below w.heap.size w wr
theorem DocR.sub {w w' wr : World} {b2 b4 : Nat} {n : NF} (h : DocR w b2 b4 n wr) (hb : Below wr.heap.size wr w') : DocR w b2 b4 n w' :=
  ⟨h.zero.below hb, h.req.below hb, h.low2, h.low4, h.ne, h.below.trans (hb.mono h.below.size)⟩
theorem DocR.put {w wr : World} {b2 b4 : Nat} {n : NF} (h : DocR w b2 b4 n wr) {i : Nat} {v : Value} {m : NF} (hm : HoldsR (wr.setCell ⟨b4, i, none⟩ v) b4 (Rq.of m)) : DocR w b2 b4 m (wr.setCell ⟨b4, i, none⟩ v) :=
  ⟨h.zero.apart h.ne, hm, h.low2, h.low4, h.ne, h.below.setCell h.low4 _⟩

set_option maxRecDepth 100000 in
set_option maxHeartbeats 16000000 in
theorem refGetRv (y : Value) (bs : List Nat) (w : World) (hy : RC encY w y bs) (hyl : bs.length ≤ 1000000) (hyb : ∀ x ∈ bs, x < 256) :
    Calls Try.prog 15 #[y] w fun e w' => ∃ v x, e = .returned (.tuple #[v, x]) ∧ RefRPost (refGet bs) w v x w' := by
  have hR : HoldsR (w.alloc (.cells #[.int .i64 0, .int .i64 0, .int .u64 0, .int .u64 0, .int .u64 0, .int .i64 0, .int .i64 0] 24)) w.heap.size Rq.zero := heap_alloc_new _ _
  have hB : Below w.heap.size w (w.alloc (.cells #[.int .i64 0, .int .i64 0, .int .u64 0, .int .u64 0, .int .u64 0, .int .i64 0, .int .i64 0] 24)) := by go_grown
  have hY := hy.keep hB
  obtain ⟨ay, cy, rfl, hcy⟩ := hy.form
  clear hy
  have HR := Lib.hid hR
  have HB := Lib.hid hB
  have HYB := Lib.hid hyb
  have hr := hR.cells
  have hrf := hR.free
  clear hR hB
  by_cases hl : bs.length < 2
  · have hO : refGet bs = none := by
      match bs, hl with
      | [], _ => rfl
      | [_], _ => rfl
    have HO := Lib.hid hO
    have hl' : (bs.length : Int) < 2 := by omega
    clear hO hl hY hyb
    go_enter Try.func15, Try.ntmps15
    go_upto_region 1 with (fail)
    generalize w.alloc (.cells #[.int .i64 0, .int .i64 0, .int .u64 0, .int .u64 0, .int .u64 0, .int .i64 0, .int .i64 0] 24) = W at *
    obtain ⟨r0, r1, r2, r3, r4, r5, r6⟩ := hr
    simp only [Rq.zero] at r0 r1 r2 r3 r4 r5 r6
    go_wp2
    exact bodyPost_ret (ret_rq Try.results15 rfl rfl (HR.out.set7 Rq.zero)) rfl ⟨_, _, rfl, by rw [HO.out]; exact ⟨⟨rfl, rfl⟩, below_set7 HB.out (Nat.le_refl _)⟩⟩
  · obtain ⟨x0, x1, t, rfl⟩ : ∃ x0 x1 t, bs = x0 :: x1 :: t := by
      match bs, hl with
      | [], h => exact (h (by simp)).elim
      | [_], h => exact (h (by simp)).elim
      | a :: b :: t, _ => exact ⟨a, b, t, rfl⟩
    obtain ⟨ad, rfl, b0⟩ := hY.reads.byteAt 0 (by simp)
    obtain ⟨ad', e', b1⟩ := hY.reads.byteAt 1 (by simp)
    injection e' with e'
    subst e'
    rw [show ad.add 0 = ad by cases ad; simp [Addr.add]] at b0
    rw [show ad.add 1 = ⟨ad.block, ad.off + 1, none⟩ by simp [Addr.add]] at b1
    simp only [List.getElem_cons_zero, List.getElem_cons_succ] at b0 b1
    have hx0 := hyb x0 (by simp)
    have hx1 := hyb x1 (by simp)
    have HY := Lib.hid hY
    have hlen : (x0 :: x1 :: t).length = t.length + 2 := rfl
    rw [hlen] at hyl hcy hl ⊢
    clear hY hyb hl hr hrf
    go_enter Try.func15, Try.ntmps15
    go_upto_region 3 with (fail)
    generalize w.alloc (.cells #[.int .i64 0, .int .i64 0, .int .u64 0, .int .u64 0, .int .u64 0, .int .i64 0, .int .i64 0] 24) = W at *
    refine wp_region_alloc_tail 9 _ (.cells #[.int .i64 0, .int .i64 0, .int .u64 0, .int .u64 0, .int .u64 0, .int .i64 0, .int .i64 0] 24) (by kernel_rfl) (by kernel_rfl) rfl (fun a w => by simp [go_sem]; done) ?_
    apply Exists.intro
    refine ⟨fun V hV => ?_, ?_⟩
    · have c0 : ∀ u : Sub V, u.1.cell? ad = some (.int .u8 x0) := fun u => by
        have h := (hV.trans (u.2.mono hV.size)).cell (p := ad) (block_lt_of_cell b0)
        exact h.trans b0
      have c1 : ∀ u : Sub V, u.1.cell? ⟨ad.block, ad.off + 1, none⟩ = some (.int .u8 x1) := fun u => by
        have h := (hV.trans (u.2.mono hV.size)).cell (p := ⟨ad.block, ad.off + 1, none⟩) (block_lt_of_cell b1)
        exact h.trans b1
      simp only [List.take_succ_cons, List.take_zero]
      iterate 9 (go_big_quiet_step (fail))
      exact wpQuiet_nil rfl
    intro B V hV hBB hz
    have hne : w.heap.size ≠ B := by have := HR.out.lt; omega
    have hBw : w.heap.size ≤ B := by have := HB.out.size; omega
    have HY := HY.out.keep hV
    have hadB : ad.block ≠ B := by have := block_lt_of_cell b0; omega
    have kz : HoldsR V B Rq.zero := hz
    have kk := Lib.hid (kz.set7 (Rq.of (NF.two x0 x1)))
    have kr : HoldsR V w.heap.size Rq.zero := HR.out.below hV
    have kb := HB.out.trans (hV.mono HB.out.size)
    obtain ⟨z0, z1, z2, z3, z4, z5, z6⟩ := kz.cells
    have zf := kz.free
    simp only [Rq.zero] at z0 z1 z2 z3 z4 z5 z6
    clear HR HB hz hBB
    simp only [List.drop_succ_cons, List.drop_zero]
    have KK : HoldsR (((((((V.setCell ⟨B, 0, none⟩ (.int .i64 (x0 : Int))).setCell ⟨B, 1, none⟩ (.int .i64 (x1 : Int))).setCell ⟨B, 2, none⟩ (.int .u64 0)).setCell ⟨B, 3, none⟩ (.int .u64 0)).setCell ⟨B, 4, none⟩ (.int .u64 0)).setCell ⟨B, 5, none⟩ (.int .i64 0)).setCell ⟨B, 6, none⟩ (.int .i64 0)) B (Rq.of (NF.two x0 x1)) := kk.out
    have KR : HoldsR (((((((V.setCell ⟨B, 0, none⟩ (.int .i64 (x0 : Int))).setCell ⟨B, 1, none⟩ (.int .i64 (x1 : Int))).setCell ⟨B, 2, none⟩ (.int .u64 0)).setCell ⟨B, 3, none⟩ (.int .u64 0)).setCell ⟨B, 4, none⟩ (.int .u64 0)).setCell ⟨B, 5, none⟩ (.int .i64 0)).setCell ⟨B, 6, none⟩ (.int .i64 0)) w.heap.size Rq.zero := (((((((kr.apart hne).apart hne).apart hne).apart hne).apart hne).apart hne).apart hne)
    have KB : Below w.heap.size w (((((((V.setCell ⟨B, 0, none⟩ (.int .i64 (x0 : Int))).setCell ⟨B, 1, none⟩ (.int .i64 (x1 : Int))).setCell ⟨B, 2, none⟩ (.int .u64 0)).setCell ⟨B, 3, none⟩ (.int .u64 0)).setCell ⟨B, 4, none⟩ (.int .u64 0)).setCell ⟨B, 5, none⟩ (.int .i64 0)).setCell ⟨B, 6, none⟩ (.int .i64 0)) := below_set7 kb hBw
    have KY : RC encY (((((((V.setCell ⟨B, 0, none⟩ (.int .i64 (x0 : Int))).setCell ⟨B, 1, none⟩ (.int .i64 (x1 : Int))).setCell ⟨B, 2, none⟩ (.int .u64 0)).setCell ⟨B, 3, none⟩ (.int .u64 0)).setCell ⟨B, 4, none⟩ (.int .u64 0)).setCell ⟨B, 5, none⟩ (.int .i64 0)).setCell ⟨B, 6, none⟩ (.int .i64 0)) (.slice (some ad) (x0 :: x1 :: t).length cy) (x0 :: x1 :: t) := by
      refine ⟨HY.reads.stay (F := only B) ?_ ?_, HY.room⟩
      · exact ((((((Keeps.of_setCell (only B) V ⟨B, 0, none⟩ _ rfl).and (Keeps.of_setCell (only B) _ ⟨B, 1, none⟩ _ rfl)).and (Keeps.of_setCell (only B) _ ⟨B, 2, none⟩ _ rfl)).and (Keeps.of_setCell (only B) _ ⟨B, 3, none⟩ _ rfl)).and (Keeps.of_setCell (only B) _ ⟨B, 4, none⟩ _ rfl)).and (Keeps.of_setCell (only B) _ ⟨B, 5, none⟩ _ rfl)).and (Keeps.of_setCell (only B) _ ⟨B, 6, none⟩ _ rfl)
      · intro ad2 n c e hF
        injection e with e _ _
        injection e with e
        exact hadB (by rw [e]; exact hF)
    go_upto_region 4 with (fail)
    clear HY kk kr kb kz z0 z1 z2 z3 z4 z5 z6 zf b0 b1
    generalize (((((((V.setCell ⟨B, 0, none⟩ (.int .i64 (x0 : Int))).setCell ⟨B, 1, none⟩ (.int .i64 (x1 : Int))).setCell ⟨B, 2, none⟩ (.int .u64 0)).setCell ⟨B, 3, none⟩ (.int .u64 0)).setCell ⟨B, 4, none⟩ (.int .u64 0)).setCell ⟨B, 5, none⟩ (.int .i64 0)).setCell ⟨B, 6, none⟩ (.int .i64 0)) = U at *
    have D0 : DocR w w.heap.size B (NF.two x0 x1) U := ⟨KR, KK, Nat.le_refl _, hBw, hne, KB⟩
    clear KR KB hV
    have q0 := KK.cells.1
    have q0' : U.cell? ⟨B, 0, none⟩ = some (.int .i64 (x0 : Int)) := q0
    clear q0 KK
    have hF := refForm x0
    rw [Int.toNat_natCast] at hF
    go_wp2_with fail
    refine (hF _).mono ?_
    rintro e w1 ⟨rfl, hb1⟩
    replace D0 := D0.sub hb1
    replace KY := KY.keep hb1
    clear q0' hb1 hF
    have hfew := formB_few x0
    have hix := fun k hk W => strB_at (P := Try.prog) 9 Try.underlying9 (formB x0) (fun x hx => Nat.lt_trans (hfew.2 x hx) (by decide)) k hk W
    have hsz := strB_size (formB x0)
    have hform := formP_form x0
    generalize hO : refGet (x0 :: x1 :: t) = O
    have hRO := Lib.hid hO
    replace hO := Lib.hid (show O = (getGo (formP x0) (NF.two x0 x1) t).bind fun z => if z.2 = [] ∧ (Rq.of z.1).may then some (Rq.of z.1) else none from hO.symm)
    unfold formP at hform hO
    generalize strB (formB x0) = s at *
    generalize formB x0 = l at *
    have HF := Lib.hid hform
    have D0 := Lib.hid D0
    have KY := Lib.hid KY
    have hl3 := hfew.1
    clear hfew hform
    go_wp2
    go_loopw [6, 7] (fun va i wr => ∃ (k m : Nat) (n : NF), i = .int .i64 k ∧ va = .int .i64 m ∧ k ≤ l.length ∧ 2 ≤ m ∧ m ≤ t.length + 2 ∧ Hid (getGo ((l.drop k).map chP) n ((x0 :: x1 :: t).drop m) = getGo (l.map chP) (NF.two x0 x1) t) ∧ Hid (Form ((l.drop k).map chP)) ∧ Hid (∀ c ∈ l.drop k, n (chP c).pl = 0) ∧ Hid (NGood n) ∧ DocR w w.heap.size B n wr ∧ RC encY wr (.slice (some ad) (x0 :: x1 :: t).length cy) (x0 :: x1 :: t)) (fun _ i _ => l.length - (intOf i).toNat)
    case atStart =>
      refine ⟨0, 2, NF.two x0 x1, rfl, rfl, by omega, by omega, by omega, rfl, HF.out, fun c hc => ?_, ?_, D0.out, KY.out⟩
      · refine two_over x0 x1 _ ?_
        unfold chP
        repeat (split; · decide)
        decide
      · exact ⟨hx0, hx1, by rw [two_over x0 x1 2 (by decide)]; decide, by rw [two_over x0 x1 3 (by decide)]; decide, by rw [two_over x0 x1 4 (by decide)]; decide, by rw [two_over x0 x1 5 (by decide)]; decide, by rw [two_over x0 x1 6 (by decide)]; decide⟩
    case round =>
      clear D0 KY
      obtain ⟨k, m, n, rfl, rfl, hk, hm2, hm, hg, hf, hz0, hn, D, Y⟩ := hrel
      by_cases hlt : k < l.length
      · have h1 := fun W => hix k hlt W
        have hdr := List.drop_eq_getElem_cons hlt
        have hk1 : (k : Int) < (l.length : Int) := by omega
        clear hix
        generalize l[k] = ch at *
        rw [hdr, List.map_cons] at hg hf
        rw [hdr] at hz0
        have hwd := chP_wide ch
        have WC := fun W => refWide ch W
        have hp0 := hz0 ch (by simp)
        obtain ⟨hft, hfa⟩ := Form.tail (show Form (chP ch :: (l.drop (k + 1)).map chP) from hf)
        have hdl : ((x0 :: x1 :: t).drop m).length = t.length + 2 - m := by rw [List.length_drop, hlen]
        by_cases hsh : t.length + 2 - m < (chP ch).wide
        · have HO := Lib.hid (show O = none by rw [hO.out, ← show _ = _ from hg, getGo, if_pos (by rw [hdl]; exact hsh)]; rfl)
          have hsh' : (t.length : Int) + 2 - (m : Int) < ((chP ch).wide : Int) := by omega
          obtain ⟨r0, r1, r2, r3, r4, r5, r6⟩ := D.zero.cells
          have rf := D.zero.free
          simp only [Rq.zero] at r0 r1 r2 r3 r4 r5 r6
          have HD := Lib.hid D
          clear hg hf hz0 hn D Y hdr hft hfa hdl hsh hp0
          generalize (chP ch).wide = wd at *
          go_wp2_with fail
          refine (WC _).mono ?_
          rintro e w' ⟨rfl, rfl⟩
          go_wp2
          exact bodyPost_ret (ret_rq Try.results15 rfl rfl (HD.out.zero.set7 Rq.zero)) rfl ⟨_, _, rfl, by rw [hRO.out, HO.out]; exact ⟨⟨rfl, rfl⟩, below_set7 HD.out.below (Nat.le_refl _)⟩⟩
        · have hsh' : ¬ (t.length : Int) + 2 - (m : Int) < ((chP ch).wide : Int) := by omega
          have hVal := numB_exact (((x0 :: x1 :: t).drop m).take (chP ch).wide) (by rw [List.length_take]; omega) (fun u hu => HYB.out u (List.mem_of_mem_drop (List.mem_of_mem_take hu)))
          rw [show (((x0 :: x1 :: t).drop m).take (chP ch).wide).length = (chP ch).wide by rw [List.length_take, hdl]; omega] at hVal
          have hval := hVal.1
          have hok := chP_ok ch _ hval
          have hg2 : getGo ((l.drop (k + 1)).map chP) (n.put (chP ch).pl (numB (((x0 :: x1 :: t).drop m).take (chP ch).wide))) ((x0 :: x1 :: t).drop (m + (chP ch).wide)) = getGo (l.map chP) (NF.two x0 x1) t := by
            rw [← show _ = _ from hg, getGo, if_neg (by rw [hdl]; omega), hp0, List.drop_drop]
            exact (if_pos hok).symm
          have hz2 : ∀ c ∈ l.drop (k + 1), (n.put (chP ch).pl (numB (((x0 :: x1 :: t).drop m).take (chP ch).wide))) (chP c).pl = 0 := fun c hc => by
            rw [NF.put_other _ _ (hfa (chP c) (List.mem_map_of_mem hc))]
            exact hz0 c (List.mem_cons_of_mem _ hc)
          have hn2 := NGood.put hn ch _ hval
          have HV := Lib.hid hval
          have N := fun c => refNum (((x0 :: x1 :: t).drop m).take (chP ch).wide) (.slice (some (ad.add m)) (chP ch).wide c) wr (Y.reads.sub hlen.symm (by rw [hlen]; omega) rfl) (fun u hu => HYB.out u (List.mem_of_mem_drop (List.mem_of_mem_take hu))) (by rw [List.length_take]; omega)
          clear hg hf hz0 hn hdr hVal hok hdl hp0 hfa
          have HG := Lib.hid hg2
          have HZ := Lib.hid hz2
          have HN := Lib.hid hn2
          have HF2 := Lib.hid hft
          have HD := Lib.hid D
          have HYY := Lib.hid Y
          clear hg2 hz2 hn2 hft D Y hval
          generalize numB (((x0 :: x1 :: t).drop m).take (chP ch).wide) = v at *
          have hmw : m + (chP ch).wide ≤ t.length + 2 := by omega
          go_wp2_with fail
          refine (WC _).mono ?_
          rintro e w' ⟨rfl, rfl⟩
          go_wp2_with fail
          refine (WC _).mono ?_
          rintro e w' ⟨rfl, rfl⟩
          go_wp2_with fail
          refine (N _).mono ?_
          rintro e w' ⟨rfl, rfl⟩
          go_wp2_with fail
          refine (WC _).mono ?_
          rintro e w' ⟨rfl, rfl⟩
          clear N WC
          rcases Classical.em (ch = 65) with rfl | n65
          · have hd := HD.out.put (HD.out.req.put.1 v)
            have hyy := HYY.out.reads.stay (Keeps.of_setCell (only B) wr ⟨B, 2, none⟩ (.int .u64 v) rfl) (fun ad2 n2 c2 e hF => by injection e with e _ _; injection e with e; exact hadB (by rw [e]; exact hF))
            have hd := Lib.hid hd
            have hyy := Lib.hid hyy
            have qf := HD.out.req.free
            have qc := HD.out.req.cells.2.2.1
            clear HD
            go_wp2
            exact ⟨⟨k + 1, m + 8, _, by go_num, by go_num, by omega, by omega, hmw, HG.out, HF2.out, HZ.out, HN.out, hd.out, hyy.out, HYY.out.room⟩, by simp [intOf]; omega⟩
          rcases Classical.em (ch = 66) with rfl | n66
          · have hd := HD.out.put (HD.out.req.put.2.1 v)
            have hyy := HYY.out.reads.stay (Keeps.of_setCell (only B) wr ⟨B, 3, none⟩ (.int .u64 v) rfl) (fun ad2 n2 c2 e hF => by injection e with e _ _; injection e with e; exact hadB (by rw [e]; exact hF))
            have hd := Lib.hid hd
            have hyy := Lib.hid hyy
            have qf := HD.out.req.free
            have qc := HD.out.req.cells.2.2.2.1
            clear HD
            go_wp2
            exact ⟨⟨k + 1, m + 8, _, by go_num, by go_num, by omega, by omega, hmw, HG.out, HF2.out, HZ.out, HN.out, hd.out, hyy.out, HYY.out.room⟩, by simp [intOf]; omega⟩
          rcases Classical.em (ch = 67) with rfl | n67
          · have hd := HD.out.put (HD.out.req.put.2.2.1 v)
            have hyy := HYY.out.reads.stay (Keeps.of_setCell (only B) wr ⟨B, 4, none⟩ (.int .u64 v) rfl) (fun ad2 n2 c2 e hF => by injection e with e _ _; injection e with e; exact hadB (by rw [e]; exact hF))
            have hd := Lib.hid hd
            have hyy := Lib.hid hyy
            have qf := HD.out.req.free
            have qc := HD.out.req.cells.2.2.2.2.1
            clear HD
            go_wp2
            exact ⟨⟨k + 1, m + 8, _, by go_num, by go_num, by omega, by omega, hmw, HG.out, HF2.out, HZ.out, HN.out, hd.out, hyy.out, HYY.out.room⟩, by simp [intOf]; omega⟩
          rcases Classical.em (ch = 98) with rfl | n98
          · have hv : (v : Int) < 256 := by
              have : v < 256 ^ 1 := HV.out
              omega
            have hd := HD.out.put (HD.out.req.put.2.2.2.2 v)
            have hyy := HYY.out.reads.stay (Keeps.of_setCell (only B) wr ⟨B, 6, none⟩ (.int .i64 v) rfl) (fun ad2 n2 c2 e hF => by injection e with e _ _; injection e with e; exact hadB (by rw [e]; exact hF))
            have hd := Lib.hid hd
            have hyy := Lib.hid hyy
            have qf := HD.out.req.free
            have qc := HD.out.req.cells.2.2.2.2.2.2
            clear HD
            go_wp2
            exact ⟨⟨k + 1, m + 1, _, by go_num, by go_num, by omega, by omega, hmw, HG.out, HF2.out, HZ.out, HN.out, hd.out, hyy.out, HYY.out.room⟩, by simp [intOf]; omega⟩
          have m65 : ((ch : Int) == 65) = false := by rw [beq_eq_false_iff_ne]; omega
          have m66 : ((ch : Int) == 66) = false := by rw [beq_eq_false_iff_ne]; omega
          have m67 : ((ch : Int) == 67) = false := by rw [beq_eq_false_iff_ne]; omega
          have m98 : ((ch : Int) == 98) = false := by rw [beq_eq_false_iff_ne]; omega
          have hpl : (chP ch).pl = 5 ∧ (chP ch).wide ≤ 2 := by
            unfold chP
            rw [if_neg n65, if_neg n66, if_neg n67, if_neg n98]
            split <;> decide
          have hv : (v : Int) < 65536 := by
            have h1 : v < 256 ^ (chP ch).wide := HV.out
            have h2 : (256 : Nat) ^ (chP ch).wide ≤ 256 ^ 2 := Nat.pow_le_pow_right (by decide) hpl.2
            omega
          have hd := HD.out.put (HD.out.req.put.2.2.2.1 v)
          rw [hpl.1] at HG HN HZ
          clear hpl HV n65 n66 n67 n98
          have hyy := HYY.out.reads.stay (Keeps.of_setCell (only B) wr ⟨B, 5, none⟩ (.int .i64 v) rfl) (fun ad2 n2 c2 e hF => by injection e with e _ _; injection e with e; exact hadB (by rw [e]; exact hF))
          have hd := Lib.hid hd
          have hyy := Lib.hid hyy
          have qf := HD.out.req.free
          have qc := HD.out.req.cells.2.2.2.2.2.1
          clear HD
          generalize (chP ch).wide = wd at *
          go_wp2
          exact ⟨⟨k + 1, m + wd, _, by go_num, by go_num, by omega, by omega, hmw, HG.out, HF2.out, HZ.out, HN.out, hd.out, hyy.out, HYY.out.room⟩, by simp [intOf]; omega⟩
      · obtain rfl : k = l.length := by omega
        rw [List.drop_length, List.map_nil, getGo] at hg
        have hOf : O = if (x0 :: x1 :: t).drop m = [] ∧ (Rq.of n).may then some (Rq.of n) else none := by
          rw [hO.out, ← show _ = _ from hg]
          rfl
        have hMay := fun W => refMayR (Rq.of n) W (NGood.of hn)
        have hend : (x0 :: x1 :: t).drop m = [] ↔ m = t.length + 2 := by
          rw [List.drop_eq_nil_iff, hlen]
          omega
        replace hend := Lib.hid hend
        have HOf := Lib.hid hOf
        obtain ⟨y0, y1, y2, y3, y4, y5, y6⟩ := D.req.cells
        simp only [Rq.of] at y0 y1 y2 y3 y4 y5 y6
        have HD := Lib.hid D
        clear hg hf hz0 hn hix hOf D Y
        go_wp2_with fail
        refine (hMay _).mono ?_
        rintro e w2 ⟨rfl, hb2⟩
        have D2 := HD.out.sub hb2
        clear hMay HD hb2 y0 y1 y2 y3 y4 y5 y6
        obtain ⟨r0, r1, r2, r3, r4, r5, r6⟩ := D2.zero.cells
        have rf := D2.zero.free
        simp only [Rq.zero] at r0 r1 r2 r3 r4 r5 r6
        obtain ⟨y0, y1, y2, y3, y4, y5, y6⟩ := D2.req.cells
        simp only [Rq.of] at y0 y1 y2 y3 y4 y5 y6
        have D2 := Lib.hid D2
        by_cases hmm : m = t.length + 2
        · have hmi : ((m : Int) != (t.length : Int) + 2) = false := by subst hmm; rw [bne_eq_false_iff_eq]; omega
          by_cases hmay : (Rq.of n).may
          · have HO := Lib.hid (HOf.out.trans (if_pos ⟨hend.out.2 hmm, hmay⟩))
            rw [decide_eq_true hmay]
            clear hmm hmay HOf
            go_wp2
            exact bodyPost_ret (ret_rq Try.results15 rfl rfl (D2.out.zero.set7 (Rq.of n))) rfl ⟨_, _, rfl, by rw [hRO.out, HO.out]; exact ⟨⟨rfl, rfl⟩, below_set7 D2.out.below (Nat.le_refl _)⟩⟩
          · have HO := Lib.hid (HOf.out.trans (if_neg fun h => hmay h.2))
            rw [decide_eq_false hmay]
            clear hmm hmay HOf
            go_wp2
            exact bodyPost_ret (ret_rq Try.results15 rfl rfl (D2.out.zero.set7 Rq.zero)) rfl ⟨_, _, rfl, by rw [hRO.out, HO.out]; exact ⟨⟨rfl, rfl⟩, below_set7 D2.out.below (Nat.le_refl _)⟩⟩
        · have hmi : ((m : Int) != (t.length : Int) + 2) = true := by rw [bne_iff_ne]; omega
          have HO := Lib.hid (HOf.out.trans (if_neg fun h => hmm (hend.out.1 h.1)))
          generalize decide (Rq.of n).may = dm at *
          clear hmm HOf
          go_wp2
          exact bodyPost_ret (ret_rq Try.results15 rfl rfl (D2.out.zero.set7 Rq.zero)) rfl ⟨_, _, rfl, by rw [hRO.out, HO.out]; exact ⟨⟨rfl, rfl⟩, below_set7 D2.out.below (Nat.le_refl _)⟩⟩

end Go.Proofs.Ytnnkkedflfmaoaa
