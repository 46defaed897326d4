/-
  Texts of this proof, one behind the other: CoO, CoF, CoT, CoP.
-/
import Derived.Test.YtipocmbplcdmjaaDoorG9
/-
  Walks of the code's store: obtain, Mk.
-/
namespace Go.Proofs.YtipocmbplcdmjaaDoor
open Go Go.RowKit

section
variable {w w' : World} {b bA : Nat} {FA F : Nat → Prop} {bT : Nat → Nat} {FT : Nat → Nat → Prop} {v v' : Value} {o : Nat → Int} {ar : AS} {X X' : List (Nd × Int)} {tabs : Nat → TS} {s : MS} {R : List Int} {f : Int → Int}

theorem appendX {ops : Array Oper} {rest : List Oper} {o : Oper} {a : Act} {w : World} {Q : Exit → Act → World → Prop} (hgd : o.guard = none) (s x : Operand)
    (ho : o.op = .call { callee := .builtin .append, args := #[s, x], argTypes := #[50, 50] })
    (v y : Value) (l k : List (Nd × Int)) (hs : a.eval s = v) (hown : Owns encX w v l) (hx : a.eval x = y) (hsrc : Reads encX w y k) (hn : l.length + k.length ≤ 1000000)
    (h : ∀ v' w', Owns encX w' v' (l ++ k) → w.grownBy w' v.ownBlock → (v'.ownBlock = v.ownBlock ∨ v'.ownBlock = some w.heap.size) → wpList Tryd.prog ops Q rest (a.put o.dst v') w') : wpList Tryd.prog ops Q (o :: rest) a w :=
  wpList_append_owns encX hgd s x ho v y l k hs hown hx hsrc hn h
theorem oneX (w : World) (b : Nat) (hb : b = w.heap.size := by rfl) : Reads encX (w.alloc (.cells #[.int .i64 0, .int .i64 0, .int .i64 0, .int .i64 0] 60)) (.slice (some ⟨b, 0, none⟩) 1 1) [(⟨0, 0, 0⟩, 0)] := Reads.one encX w _ _ rfl b hb

/-- The places have grown, and are stored anew. -/
theorem CoR.grown (h : CoR w b bA FA bT FT v o ar X tabs) (hO : Owns encX w' v' X') (hg : w.grownBy w' v.ownBlock) (hat : v'.ownBlock = v.ownBlock ∨ v'.ownBlock = some w.heap.size) :
    CoR (w'.setCell ⟨b, 18, none⟩ v') b bA FA bT FT v' o ar X' tabs ∧ Keeps (footC b FA FT v) w (w'.setCell ⟨b, 18, none⟩ v') ∧ Within w (footC b FA FT v) (footC b FA FT v') := by
  have hK1 : Keeps (fun k => v.ownBlock = some k) w w' := Keeps.of_grown hg fun k hk => hk
  have hK2 := Keeps.of_setCell (fun k => k = b) w' ⟨b, 18, none⟩ v' rfl
  have hlb := row_lt h.row
  have hown : ∀ k, v'.ownBlock = some k → v.ownBlock = some k ∨ w.heap.size ≤ k := fun k hk => hat.imp (fun e => e.symm.trans hk) (fun e => by rw [e] at hk; injection hk with hk; omega)
  have hb : v'.ownBlock ≠ some b := fun e => (hown b e).elim h.apart1 (fun h => by omega)
  have hrow : w'.heap[b]? = some (rowC ar.most o bA bT v) := (hK1.block b hlb h.apart1).trans h.row
  refine ⟨⟨(heap_setCell_same w' b 18 _ _ v' hrow).trans rfl, ?_, fun i hi => ?_, hO.keep hK2 fun g hg e => hb (e ▸ hg), hb, fun k hk => ⟨(h.apart2 k hk).1, fun e => ?_⟩, fun i hi k hk => ⟨(h.apart3 i hi k hk).1, fun e => ?_, (h.apart3 i hi k hk).2.2⟩, h.apart4⟩, ?_, ?_⟩
  · exact (h.ar.keep hK1 fun k hk => (h.apart2 k hk).2).keep hK2 fun k hk e => (h.apart2 k hk).1 e
  · exact ((h.tab i hi).keep hK1 fun k hk => (h.apart3 i hi k hk).2.1).keep hK2 fun k hk e => (h.apart3 i hi k hk).1 e
  · exact (hown k e).elim (h.apart2 k hk).2 (fun h1 => by have := h.ar.lt k hk; omega)
  · exact (hown k e).elim (h.apart3 i hi k hk).2.1 (fun h1 => by have := (h.tab i hi).lt k hk; omega)
  · exact (hK1.mono fun k hk => .inr (.inl hk)).and (hK2.mono fun k hk => .inl hk)
  · rintro k (e | e | e | e)
    · exact .inl (.inl e)
    · exact (hown k e).imp (fun h => .inr (.inl h)) id
    · exact .inl (.inr (.inr (.inl e)))
    · exact .inl (.inr (.inr (.inr e)))

theorem CoR.grownRow (h : CoR w b bA FA bT FT v o ar X tabs) (hg : w.grownBy w' v.ownBlock) : w'.heap[b]? = some (rowC ar.most o bA bT v) :=
  ((Keeps.of_grown (F := fun k => v.ownBlock = some k) hg fun _ hk => hk).block b (row_lt h.row) h.apart1).trans h.row

theorem MS.Base.takeS (h : s.Base) (hf : s.ar.T.length ≠ s.ar.most) (x : Nd) : (s.takeS x).Base := by
  obtain ⟨h0, _, _, h3⟩ := h.took hf
  refine ⟨h.ar.take, ?_⟩
  unfold MS.takeS
  rcases h3 with ⟨e, e2⟩ | ⟨e, e2⟩
  · simp [e, e2]
  · have e3 : ¬ s.ar.takeN = s.N.length := by omega
    simp [e3, e2]

set_option maxRecDepth 100000 in
set_option maxHeartbeats 4000000 in
theorem coObtain (h : CoAt w b F s R s.refs) (ok : s.Okb R) (cl : s.Closed) (hR : ∀ n ∈ R, s.has n = true) (vn : Nat) (hv : vn < 8) (lo hi : Int) (blo : s.behind lo (vn : Int) = true) (bhi : s.behind hi (vn : Int) = true) :
    Calls Tryd.prog 50 #[pv b, .int .i64 (vn : Int), .int .i64 lo, .int .i64 hi] w fun e w' => e = .returned (.tuple #[.int .i64 (s.mk (vn : Int) lo hi R).1, errV (s.mk (vn : Int) lo hi R).2.1]) ∧ ∃ F', CoAt w' b F' (s.mk (vn : Int) lo hi R).2.2 R (s.mk (vn : Int) lo hi R).2.2.refs ∧ Keeps F w w' ∧ Within w F F' := by
  have okb := ok.toBase
  have hfew := okb.few
  generalize hr : s.mk (vn : Int) lo hi R = r
  unfold MS.mk at hr
  rw [if_neg (show ¬ ((vn : Int) < 0 ∨ 7 < (vn : Int) ∨ s.behind lo (vn : Int) = false ∨ s.behind hi (vn : Int) = false) by rw [blo, bhi]; simp; omega)] at hr
  have hv8 : (vn : Int) < 8 := by omega
  go_enter Tryd.func50, Tryd.ntmps50
  by_cases hlh : lo = hi
  · rw [if_pos hlh] at hr
    subst hr
    have hb : (lo == hi) = true := by rw [beq_iff_eq]; exact hlh
    replace hlh := Lib.hid hlh
    go_wp2
    go_ret2
    exact ⟨rfl, F, h, Keeps.refl _ _, Within.refl _ _⟩
  rw [if_neg hlh] at hr
  have hb : (lo == hi) = false := by rw [beq_eq_false_iff_ne]; exact hlh
  obtain ⟨bA, FA, bT, FT, v, X, tabs, rfl, hC, c⟩ := h
  have ct := hC.table vn hv
  have tsl := c.slots vn hv
  have HG := uniqGetS (hC.tab vn hv) (c.ok vn hv) (by omega) lo hi
  rcases c.get ok hv lo hi with ⟨n, hf, hg⟩ | ⟨hf, hg⟩
  · rw [hf] at hr
    dsimp only at hr
    subst hr
    rw [hg] at HG
    dsimp only at HG
    have H0 := Lib.hid hC
    have hcc := Lib.hid c
    clear hC hlh hf c ct hg
    have ct := H0.out.table vn hv
    go_wp2_with fail
    refine HG.mono ?_
    rintro e w1 ⟨rfl, hb1⟩
    clear HG ct
    go_wp2
    go_ret2
    exact ⟨rfl, _, ⟨bA, FA, bT, FT, v, X, tabs, rfl, H0.out.below hb1, hcc.out⟩, Keeps.of_below hb1 _, Within.refl _ _⟩
  · rw [hf] at hr
    dsimp only at hr
    rw [hg] at HG
    dsimp only at HG
    clear hg
    replace hlh := Lib.hid hlh
    replace hf := Lib.hid hf
    by_cases hfull : s.ar.T.length = s.ar.most
    · have e2 := (AS.Ok.take_full hfull).2.1
      obtain ⟨e1, _, e3⟩ := AS.Ok.take_full hfull
      rw [e2, if_pos (by decide)] at hr
      subst hr
      have H0 := Lib.hid hC
      have hcc := Lib.hid c
      clear hC c ct hfull
      have ct := H0.out.table vn hv
      go_wp2_with fail
      refine HG.mono ?_
      rintro e w1 ⟨rfl, hb1⟩
      clear HG ct
      have hC1 := H0.out.below hb1
      have c9 := hC1.cell.2.1
      have HT := arenaTakeS hC1.ar okb.ar
      rw [e1, e2, e3] at HT
      replace hC1 := Lib.hid hC1
      unfold errV at HT
      simp only [show ¬ (2 : Int) = 0 by decide, if_false] at HT
      clear H0
      go_wp2_with fail
      refine HT.mono ?_
      rintro e w2 ⟨rfl, FA', hA, hK, hW⟩
      clear HT c9
      obtain ⟨hC2, hK2, hW2⟩ := hC1.out.setAr hA rfl hK hW
      clear hA hK hW hC1
      replace hC2 := Lib.hid hC2
      go_wp2
      go_ret2
      exact ⟨rfl, _, ⟨bA, FA', bT, FT, v, X, tabs, rfl, hC2.out, hcc.out⟩, (Keeps.of_below hb1 _).and hK2, fun k hk => (hW2 k hk).imp id (fun h => Nat.le_trans hb1.size h)⟩
    · have e2 : s.ar.takeE = 0 := by simp [AS.takeE, hfull]
      rw [e2, if_neg (by decide)] at hr
      subst hr
      obtain ⟨t0, t1, t2, t3⟩ := okb.took hfull
      have hmost : s.ar.take.most = s.ar.most := by
        rcases last_or_nil s.ar.B with hb | ⟨l, n, hb⟩
        · rw [(AS.Ok.take_new hfull hb).2.2]
        · rw [(AS.Ok.take_again hfull hb).2.2]
      have hlX := c.len
      have hnew : s.has (s.ar.takeN + 2) = false := Bool.eq_false_iff.2 fun e => by
        have := (okb.range e).2.2
        rw [show s.ar.takeN + 2 - 2 = s.ar.takeN by omega] at this
        exact t1 this
      have hnR : s.ar.takeN + 2 ∉ R := fun e => by rw [hR _ e] at hnew; cases hnew
      obtain ⟨z, hcz⟩ := c.take okb hfull (fun e => okb.refs_new cl (by omega))
      have okt := okb.takeS hfull z
      have hthas := (okb.takeS_has hfull z (s.ar.takeN + 2)).2 (.inr rfl)
      have hmono : ∀ n, s.has n = true → (s.takeS z).has n = true := fun n hn => (okb.takeS_has hfull z n).2 (.inl hn)
      have htlo := MS.there_mono hmono (MS.behind_there blo)
      have hthi := MS.there_mono hmono (MS.behind_there bhi)
      have hone : ∀ m, (s.takeS z).has m = true → m ∉ (s.ar.takeN + 2) :: R → (s.takeS z).nd m ≠ ⟨(vn : Int), lo, hi⟩ := fun m hm hmR => by
        simp only [List.mem_cons, not_or] at hmR
        have h1 := ((okb.takeS_has hfull z m).1 hm).resolve_right hmR.1
        rw [okb.takeS_old hfull z h1]
        exact MS.find_none okb hf.out h1 hmR.2
      have hbnd : ∀ m, -100000 ≤ s.refs m ∧ s.refs m ≤ 100000 := fun m => by
        have := s.refs_nonneg m; have := okb.refs_le m; omega
      have hset := MS.takeS_setNd (s := s) (z := z) (x := ⟨(vn : Int), lo, hi⟩) okb hfull
      have hrefs := okb.refs_takeS hfull ⟨(vn : Int), lo, hi⟩
      have HL := fun {w b F} (h : CoAt w b F (s.takeS z) ((s.ar.takeN + 2) :: R) s.refs) => coLay h okt hthas hnR ⟨(vn : Int), lo, hi⟩ (by constructor <;> dsimp only <;> omega) htlo hthi hone hbnd
      unfold nv at HL
      dsimp only at HL
      have H0 := Lib.hid hC
      have har := okb.ar
      clear hC c ct hone hmono htlo hthi t1 t2 okt hthas hbnd hnew hnR
      have ct := H0.out.table vn hv
      go_wp2_with fail
      refine HG.mono ?_
      rintro e w1 ⟨rfl, hb1⟩
      clear HG ct
      have hC1 := H0.out.below hb1
      have c9 := hC1.cell.2.1
      have HT := arenaTakeS hC1.ar har
      rw [e2] at HT
      replace hC1 := Lib.hid hC1
      unfold errV at HT
      simp only [if_true] at HT
      have hTr : s.ar.takeN + 2 ≤ 20002 := by rcases t3 with ⟨h, _⟩ | ⟨h, _⟩ <;> omega
      generalize hTN : s.ar.takeN = N at *
      clear H0
      replace hTN := Lib.hid hTN
      go_wp2_with fail
      refine HT.mono ?_
      rintro e w2 ⟨rfl, FA', hA, hK, hW⟩
      clear HT c9
      obtain ⟨hC2, hK2, hW2⟩ := hC1.out.setAr hA hmost hK hW
      clear hA hK hW hC1
      have hKw := (Keeps.of_below hb1 _).and hK2
      have hWw : Within w (footC b FA FT v) (footC b FA' FT v) := fun k hk => (hW2 k hk).imp id (fun h => Nat.le_trans hb1.size h)
      clear hK2 hW2 hb1
      obtain ⟨a, cp, e5⟩ := hC2.form
      rw [hlX] at e5
      subst e5
      have c18 := hC2.cell.2.2
      by_cases hnl : N = (s.N.length : Int)
      · rw [if_pos hnl] at hcz
        have hnb : (N == (s.N.length : Int)) = true := by rw [beq_iff_eq]; exact hnl
        replace hnl := Lib.hid hnl
        have hbA : Below w2.heap.size w2 (w2.alloc (.cells #[.int .i64 0, .int .i64 0, .int .i64 0, .int .i64 0] 60)) := by go_grown
        have hsrc := oneX w2 w2.heap.size rfl
        have c18' := c18
        replace hC2 := hC2.below hbA
        have hKw2 := hKw.and (Keeps.of_below hbA _)
        have hsz := hKw2.size
        clear hKw hbA
        have c18 := hC2.cell.2.2
        have hX0 := hC2.places
        have hln : X.length + [((⟨0, 0, 0⟩, 0) : Nd × Int)].length ≤ 1000000 := by simp; omega
        replace hC2 := Lib.hid hC2
        have hL1 : (X ++ [((⟨0, 0, 0⟩, 0) : Nd × Int)]).length = s.N.length + 1 := by simp [hlX]
        go_wp2_with (at_builtin; refine appendX rfl (.tmp 55) (.tmp 57) rfl _ _ X [(⟨0, 0, 0⟩, 0)] rfl hX0 rfl hsrc hln ?_; intro v' w3 hown3 hgr hat; have hrow3 := hC2.out.grownRow hgr; obtain ⟨g4, c4, e4, _, _⟩ := hown3.some (by simp); rw [hL1] at e4; subst e4; have c18n : w3.cell? ⟨b, 18, none⟩ = some (.slice a s.N.length cp) := (by rw [cell_of_row _ _ _ _ _ _ hrow3]; rfl); have z18 : w3.frozen? ⟨b, 18, none⟩ = false := frozen_of_row _ _ _ _ _ hrow3; clear hrow3)
        obtain ⟨hC3, hK3, hW3⟩ := hC2.out.grown hown3 hgr hat
        have hKf := hKw2.trans hK3 hWw
        have hWf := hWw.trans hW3 hsz
        refine (HL ⟨bA, FA', bT, FT, _, _, tabs, rfl, hC3, hcz⟩).mono ?_
        rintro e w4 ⟨rfl, F4, hC4, hK4, hW4⟩
        rw [hset] at hC4
        have hWl := hWf.trans hW4 hKf.size
        have hKl := hKf.trans hK4 hWf
        clear hC3 hK3 hW3 hKf hWf hK4 hW4 hKw2 hcz HL hsrc hX0 hown3 hgr hat c18 c18' c18n z18 hC2
        go_wp2
        go_ret2
        exact ⟨by rw [← hTN.out]; rfl, F4, hC4.congr fun m => (hrefs m).symm, hKl, hWl⟩
      · rw [if_neg hnl] at hcz
        have hnb : (N == (s.N.length : Int)) = false := by rw [beq_eq_false_iff_ne]; exact hnl
        replace hnl := Lib.hid hnl
        have hHL := HL ⟨bA, FA', bT, FT, _, _, tabs, rfl, hC2, hcz⟩
        clear hC2 HL hcz
        go_wp2_with fail
        refine hHL.mono ?_
        rintro e w4 ⟨rfl, F4, hC4, hK4, hW4⟩
        rw [hset] at hC4
        have hWl := hWw.trans hW4 hKw.size
        have hKl := hKw.trans hK4 hWw
        clear hK4 hW4 hKw hWw hHL c18
        go_wp2
        go_ret2
        exact ⟨by rw [← hTN.out]; rfl, F4, hC4.congr fun m => (hrefs m).symm, hKl, hWl⟩

set_option maxRecDepth 100000 in
theorem coMust (h : CoAt w b F s R s.refs) (ok : s.Okb R) (cl : s.Closed) (hR : ∀ n ∈ R, s.has n = true) (vn : Nat) (hv : vn < 8) (lo hi : Int) (blo : s.behind lo (vn : Int) = true) (bhi : s.behind hi (vn : Int) = true) :
    Calls Tryd.prog 41 #[pv b, .int .i64 (vn : Int), .int .i64 lo, .int .i64 hi] w fun e w' => e = .returned (.int .i64 (s.mk (vn : Int) lo hi R).1) ∧ ∃ F', CoAt w' b F' (s.mk (vn : Int) lo hi R).2.2 R (s.mk (vn : Int) lo hi R).2.2.refs ∧ Keeps F w w' ∧ Within w F F' := by
  have HO := coObtain h ok cl hR vn hv lo hi blo bhi
  generalize s.mk (vn : Int) lo hi R = r at *
  clear h
  go_enter Tryd.func41, Tryd.ntmps41
  go_wp2_with fail
  refine HO.mono ?_
  rintro e w1 ⟨rfl, F1, hC, hK, hW⟩
  clear HO
  go_wp2
  go_ret
  exact ⟨rfl, F1, hC, hK, hW⟩

set_option maxRecDepth 100000 in
set_option maxHeartbeats 1000000 in
theorem coMk (h : CoAt w b F s [] s.refs) (ok : s.Ok) (v lo hi : Int) (hlo : lo ≤ 9223372036854775807 ∧ -9223372036854775808 ≤ lo) (hhi : hi ≤ 9223372036854775807 ∧ -9223372036854775808 ≤ hi) :
    Calls Tryd.prog 28 #[pv b, .int .i64 v, .int .i64 lo, .int .i64 hi] w fun e w' => e = .returned (.tuple #[.int .i64 (s.mk v lo hi []).1, errV (s.mk v lo hi []).2.1]) ∧ ∃ F', CoAt w' b F' (s.mk v lo hi []).2.2 [] (s.mk v lo hi []).2.2.refs ∧ Keeps F w w' ∧ Within w F F' := by
  have okb := ok.toBase
  generalize hr : s.mk v lo hi [] = r
  have HL := permLevel s.o v w
  have HFl := fun W (hb : Below w.heap.size w W) => coFits (h.below hb) okb lo (levO s.o v) v hlo rfl
  have HFh := fun W (hb : Below w.heap.size w W) => coFits (h.below hb) okb hi (levO s.o v) v hhi rfl
  have hrg := levO_range s.o v
  have hvr : 0 ≤ levO s.o v ↔ 0 ≤ v ∧ v ≤ 7 := by
    constructor
    · intro h0
      rcases levO_cases s.o v with ⟨h1, _⟩ | ⟨j, h1, h2, h3, _⟩
      · omega
      · have := mayO_range ok.order h2; omega
    · rintro ⟨h0, h7⟩
      obtain ⟨n, rfl⟩ := Int.eq_ofNat_of_zero_le h0
      exact levO_nonneg.2 (mayO_iff.1 ok.order n (by omega))
  have hbad : (v < 0 ∨ 7 < v ∨ s.behind lo v = false ∨ s.behind hi v = false) → r = (0, 1, s) := fun hc => by
    rw [← hr]; unfold MS.mk; rw [if_pos hc]
  have HO := fun {w F} (h : CoAt w b F s [] s.refs) (vn : Nat) (hv : vn < 8) (blo : s.behind lo (vn : Int) = true) (bhi : s.behind hi (vn : Int) = true) => coObtain h (ok.okb []) ok.closed (fun _ h => by cases h) vn hv lo hi blo bhi
  have H0 := Lib.hid h
  obtain ⟨bA, FA, bT, FT, vv, X, tabs, rfl, hR, c⟩ := h
  obtain ⟨c1, c2, c3, c4, c5, c6, c7, c8⟩ := hR.order
  simp only [ov] at HL
  clear hR c
  go_enter Tryd.func28, Tryd.ntmps28
  by_cases hl : levO s.o v < 0
  · have hr1 := hbad (by have := mt hvr.2 (by omega); omega)
    subst hr1
    generalize levO s.o v = L at *
    clear HFl HFh HO hvr hbad
    go_wp2_with fail
    refine HL.mono ?_
    rintro e w1 ⟨rfl, hb1⟩
    clear HL c1 c2 c3 c4 c5 c6 c7 c8
    go_wp2
    go_ret2
    exact ⟨rfl, _, H0.out.below hb1, Keeps.of_below hb1 _, Within.refl _ _⟩
  · have hv8 := hvr.1 (by omega)
    obtain ⟨vn, rfl⟩ := Int.eq_ofNat_of_zero_le hv8.1
    cases blo : s.behind lo (vn : Int)
    · have hr1 := hbad (.inr (.inr (.inl blo)))
      subst hr1
      rw [blo] at HFl
      generalize levO s.o (vn : Int) = L at *
      clear HFh HO hvr hbad hv8 blo
      go_wp2_with fail
      refine HL.mono ?_
      rintro e w1 ⟨rfl, hb1⟩
      clear HL c1 c2 c3 c4 c5 c6 c7 c8
      go_wp2_with fail
      refine (HFl _ hb1).mono ?_
      rintro e w2 ⟨rfl, hb2⟩
      replace hb1 := hb1.trans (hb2.mono hb1.size)
      clear HFl hb2
      go_wp2
      go_ret2
      exact ⟨rfl, _, H0.out.below hb1, Keeps.of_below hb1 _, Within.refl _ _⟩
    · cases bhi : s.behind hi (vn : Int)
      · have hr1 := hbad (.inr (.inr (.inr bhi)))
        subst hr1
        rw [blo] at HFl
        rw [bhi] at HFh
        generalize levO s.o (vn : Int) = L at *
        clear HO hvr hbad hv8 blo bhi
        go_wp2_with fail
        refine HL.mono ?_
        rintro e w1 ⟨rfl, hb1⟩
        clear HL c1 c2 c3 c4 c5 c6 c7 c8
        go_wp2_with fail
        refine (HFl _ hb1).mono ?_
        rintro e w2 ⟨rfl, hb2⟩
        replace hb1 := hb1.trans (hb2.mono hb1.size)
        clear HFl hb2
        go_wp2_with fail
        refine (HFh _ hb1).mono ?_
        rintro e w2 ⟨rfl, hb2⟩
        replace hb1 := hb1.trans (hb2.mono hb1.size)
        clear HFh hb2
        go_wp2
        go_ret2
        exact ⟨rfl, _, H0.out.below hb1, Keeps.of_below hb1 _, Within.refl _ _⟩
      · rw [blo] at HFl
        rw [bhi] at HFh
        have HO1 := fun {w F} (h : CoAt w b F s [] s.refs) => HO h vn (by omega) blo bhi
        rw [hr] at HO1
        generalize levO s.o (vn : Int) = L at *
        clear HO hvr hbad hv8 blo bhi hr
        go_wp2_with fail
        refine HL.mono ?_
        rintro e w1 ⟨rfl, hb1⟩
        clear HL c1 c2 c3 c4 c5 c6 c7 c8
        go_wp2_with fail
        refine (HFl _ hb1).mono ?_
        rintro e w2 ⟨rfl, hb2⟩
        replace hb1 := hb1.trans (hb2.mono hb1.size)
        clear HFl hb2
        go_wp2_with fail
        refine (HFh _ hb1).mono ?_
        rintro e w2 ⟨rfl, hb2⟩
        replace hb1 := hb1.trans (hb2.mono hb1.size)
        clear HFh hb2
        go_wp2_with fail
        refine (HO1 (H0.out.below hb1)).mono ?_
        rintro e w3 ⟨rfl, F3, hC, hK, hW⟩
        clear HO1 H0
        go_wp2
        go_ret2
        exact ⟨rfl, F3, hC, (Keeps.of_below hb1 _).and hK, fun k hk => (hW k hk).imp id (fun h => Nat.le_trans hb1.size h)⟩
end

end Go.Proofs.YtipocmbplcdmjaaDoor

/-
  Walks of the code's store: Free.
-/
namespace Go.Proofs.YtipocmbplcdmjaaDoor
open Go Go.RowKit

section
variable {w w' : World} {b bA : Nat} {FA F : Nat → Prop} {bT : Nat → Nat} {FT : Nat → Nat → Prop} {v v' : Value} {o : Nat → Int} {ar : AS} {X X' : List (Nd × Int)} {tabs : Nat → TS} {s : MS} {R : List Int} {f : Int → Int}

end

end Go.Proofs.YtipocmbplcdmjaaDoor

/-
  Walks of the code's store: turn.
-/
namespace Go.Proofs.YtipocmbplcdmjaaDoor
open Go Go.RowKit

/-- What is known of a round. -/
structure MS.Turn (t : MS) (n : Int) (R : List Int) (X Y : Nat) (a c : Int) (t1 t2 : MS) : Prop where
  okb : t.Okb (n :: R)
  okb1 : t1.Okb (n :: R)
  base2 : t2.Base
  closed : t.Closed
  closed1 : t1.Closed
  hasR : ∀ m ∈ n :: R, t.has m = true
  hasR1 : ∀ m ∈ n :: R, t1.has m = true
  has2 : t2.has n = true
  nR : n ∉ R
  X8 : X < 8
  Y8 : Y < 8
  var : (t.nd n).var = (X : Int)
  nd2 : t2.nd n = t.nd n
  mk1 : t.mk (X : Int) (t.side (t.nd n).lo (Y : Int) false) (t.side (t.nd n).hi (Y : Int) false) (n :: R) = (a, 0, t1)
  mk2 : t1.mk (X : Int) (t.side (t.nd n).lo (Y : Int) true) (t.side (t.nd n).hi (Y : Int) true) (n :: R) = (c, 0, t2)
  b1 : t.behind (t.side (t.nd n).lo (Y : Int) false) (X : Int) = true
  b2 : t.behind (t.side (t.nd n).hi (Y : Int) false) (X : Int) = true
  b3 : t1.behind (t.side (t.nd n).lo (Y : Int) true) (X : Int) = true
  b4 : t1.behind (t.side (t.nd n).hi (Y : Int) true) (X : Int) = true
  ta : t2.there a = true
  tc : t2.there c = true
  tlo : t2.there (t.nd n).lo = true
  thi : t2.there (t.nd n).hi = true
  one : ∀ m, t2.has m = true → m ∉ n :: R → t2.nd m ≠ ⟨(Y : Int), a, c⟩

theorem MS.J.turn {s t : MS} {l : Nat} {C R : List Int} (w : s.Sw l C) {n : Int} (hn : n ∈ C) (hnR : n ∉ R) (hR : ∀ m ∈ R, m ∈ C) (j : MS.J s l C (n :: R) t) (hroom : 2 * ((n :: R).length : Int) ≤ t.room) {X Y : Nat} (hX : s.o l = (X : Int)) (hY : s.o (l + 1) = (Y : Int)) :
    ∃ a c t1 t2, t.Turn n R X Y a c t1 t2 ∧ t.mk (X : Int) (t.side (t.nd n).lo (Y : Int) false) (t.side (t.nd n).hi (Y : Int) false) (n :: R) = (a, 0, t1) ∧
      t1.mk (X : Int) (t1.side (t.nd n).lo (Y : Int) true) (t1.side (t.nd n).hi (Y : Int) true) (n :: R) = (c, 0, t2) ∧ MS.J s l C R (t2.setNd n ⟨(Y : Int), a, c⟩) ∧ 2 * (R.length : Int) ≤ (t2.setNd n ⟨(Y : Int), a, c⟩).room := by
  have hRC : ∀ m ∈ n :: R, m ∈ C := fun m hm => by
    rcases List.mem_cons.1 hm with rfl | hm
    · exact hn
    · exact hR m hm
  have rx := mayO_range w.ok.order (i := l) (by have := w.l6; omega)
  have ry := mayO_range w.ok.order (i := l + 1) (by have := w.l6; omega)
  obtain ⟨n1, n2, _⟩ := (w.mem n).1 hn
  obtain ⟨d1, d2⟩ := w.sides hn
  have e0 := j.old n n1 (.inr List.mem_cons_self)
  obtain ⟨a, c, t1, t2, _, m1, m2, j1, j2, hn2, j3, r3⟩ := j.round w hn hnR hroom
  have p00 := w.ok.deep_side w.l6 d1 false
  have p10 := w.ok.deep_side w.l6 d2 false
  have p01 := w.ok.deep_side w.l6 d1 true
  have p11 := w.ok.deep_side w.l6 d2 true
  have s00 := j.side_as w d1 false
  have s10 := j.side_as w d2 false
  have s01 := j.side_as w d1 true
  have s11 := j.side_as w d2 true
  have u01 := j1.side_as w d1 true
  have u11 := j1.side_as w d2 true
  have b00 := j.deep_behind w p00
  have b10 := j.deep_behind w p10
  have b01 := j1.deep_behind w p01
  have b11 := j1.deep_behind w p11
  have e2 := j2.old n n1 (.inr List.mem_cons_self)
  have hB2 := j2.okb.toBase
  have hat := hB2.setNd_at hn2 ⟨s.o (l + 1), a, c⟩
  have ha := MS.behind_there (j3.okb.lo n hn2 hnR)
  have hc := MS.behind_there (j3.okb.hi n hn2 hnR)
  rw [hat] at ha hc
  have hcl2 := j2.closed w hRC n hn2
  rw [e2] at hcl2
  rw [hX] at m1 m2 b00 b10 b01 b11
  rw [hX] at n2 rx
  rw [hY] at m1 m2 s00 s10 s01 s11 u01 u11 b00 b10 b01 b11 hat j3 r3 ry
  have m2' := m2
  rw [e0] at m1 m2 m2'
  rw [u01, u11, ← s01, ← s11] at m2'
  refine ⟨a, c, t1, t2, ⟨j.okb, j1.okb, hB2, j.closed w hRC, j1.closed w hRC, fun m hm => j.has m ((w.mem m).1 (hRC m hm)).1, fun m hm => j1.has m ((w.mem m).1 (hRC m hm)).1, hn2, hnR, by omega, by omega, by rw [e0]; exact n2, by rw [e2, e0], by rw [e0]; exact m1, by rw [e0]; exact m2', ?_, ?_, ?_, ?_, ha, hc, by rw [e0]; exact hcl2.1, by rw [e0]; exact hcl2.2, fun m hm hmR e => ?_⟩, by rw [e0]; exact m1, by rw [e0]; exact m2, j3, r3⟩
  · rw [e0, s00]; exact b00
  · rw [e0, s10]; exact b10
  · rw [e0, s01]; exact b01
  · rw [e0, s11]; exact b11
  · simp only [List.mem_cons, not_or] at hmR
    have h1 := hB2.setNd_ne hn2 hm hmR.1 ⟨(Y : Int), a, c⟩
    exact hmR.1 (j3.okb.one m n hm hn2 hmR.2 hnR (by rw [h1, e, hat]))

section
variable {w w' : World} {b : Nat} {F : Nat → Prop} {t t1 t2 : MS} {R : List Int}

set_option maxRecDepth 100000 in
set_option maxHeartbeats 4000000 in
theorem coTurn {n a c : Int} {vx vy : Nat} (h : CoAt w b F t (n :: R) t.refs) (T : t.Turn n R vx vy a c t1 t2) :
    Calls Tryd.prog 24 #[pv b, .int .i64 n, .int .i64 (vy : Int)] w fun e w' => e = .returned (.tuple #[]) ∧ ∃ F', CoAt w' b F' (t2.setNd n ⟨(vy : Int), a, c⟩) R (t2.setNd n ⟨(vy : Int), a, c⟩).refs ∧ Keeps F w w' ∧ Within w F F' := by
  have hh := T.hasR n List.mem_cons_self
  have okb := T.okb.toBase
  have hcl := T.closed n hh
  have HA := coAt h okb hh
  have q0 := fieldP (t.nd n) (t.refs n)
  unfold plv at HA
  have hFlt := h.lt
  have hlt : ∀ m, -100000 ≤ t2.refs m ∧ t2.refs m ≤ 100000 := fun m => by
    have := t2.refs_nonneg m; have := T.base2.refs_le m; omega
  have hlt2 : ∀ m, -100000 ≤ t2.refs m + cnt ⟨(vy : Int), a, c⟩ m ∧ t2.refs m + cnt ⟨(vy : Int), a, c⟩ m ≤ 100000 := fun m => by
    have := t2.refs_nonneg m; have := T.base2.refs_le m; have := cnt_nonneg ⟨(vy : Int), a, c⟩ m; have := cnt_le ⟨(vy : Int), a, c⟩ m; omega
  have hrefs := T.base2.refs_setNd T.has2 ⟨(vy : Int), a, c⟩
  rw [T.nd2] at hrefs
  have P1 := fun W hb => coApart (w := W) (h.below hb) okb (t.nd n).lo (vy : Int) hcl.1
  have P2 := fun W hb => coApart (w := W) (h.below hb) okb (t.nd n).hi (vy : Int) hcl.2
  have M1 := fun {W F} (h : CoAt W b F t (n :: R) t.refs) => coMust h T.okb T.closed T.hasR vx T.X8 _ _ T.b1 T.b2
  have M2 := fun {W F} (h : CoAt W b F t1 (n :: R) t1.refs) => coMust h T.okb1 T.closed1 T.hasR1 vx T.X8 _ _ T.b3 T.b4
  rw [T.mk1] at M1
  rw [T.mk2] at M2
  dsimp only at M1 M2
  have L := fun {W F} (h : CoAt W b F t2 (n :: R) t2.refs) => coLay h T.base2 T.has2 T.nR ⟨(vy : Int), a, c⟩ (by have := T.Y8; constructor <;> dsimp only <;> omega) T.ta T.tc T.one hlt
  have G := fun {W F} (h : CoAt W b F (t2.setNd n ⟨(vy : Int), a, c⟩) R (fun m => t2.refs m + cnt ⟨(vy : Int), a, c⟩ m)) => coHang h (T.base2.setNd n ⟨(vy : Int), a, c⟩) (t.nd n) (-1) T.tlo T.thi hlt2 (.inr rfl)
  have hvx := T.var
  unfold nv at L G
  generalize t.side (t.nd n).lo (vy : Int) false = s00 at *
  generalize t.side (t.nd n).lo (vy : Int) true = s01 at *
  generalize t.side (t.nd n).hi (vy : Int) false = s10 at *
  generalize t.side (t.nd n).hi (vy : Int) true = s11 at *
  generalize hold : t.nd n = old at *
  obtain ⟨ov', ol, oh⟩ := old
  dsimp only at hvx
  subst hvx
  dsimp only at HA q0 P1 P2 M1 M2 L G hrefs
  clear hlt hlt2 hcl T hh okb
  replace hold := Lib.hid hold
  replace hrefs := Lib.hid hrefs
  replace hFlt := Lib.hid hFlt
  go_enter Tryd.func24, Tryd.ntmps24
  go_wp2_with fail
  refine HA.mono ?_
  rintro e w2 ⟨rfl, hb2⟩
  clear HA
  have hx := HoldsN.new w2 ⟨(vx : Int), ol, oh⟩
  dsimp only at hx
  have hb3 : Below w.heap.size w (w2.alloc (.cells #[.int .i64 (vx : Int), .int .i64 ol, .int .i64 oh] 58)) := hb2.alloc hb2.size _
  have hBl := hb2.size
  clear hb2
  obtain ⟨x0, x1, x2⟩ := HoldsN.cells hx
  dsimp only at x0 x1 x2
  go_wp2_with fail
  generalize w2.alloc (.cells #[.int .i64 (vx : Int), .int .i64 ol, .int .i64 oh] 58) = W at *
  generalize hB : w2.heap.size = B at *
  clear hB x0 x1 x2
  refine (P1 W hb3).mono ?_
  rintro e w3 ⟨rfl, hb4⟩
  replace hx := HoldsN.below hx hb4
  replace hb3 := hb3.trans (hb4.mono hb3.size)
  clear P1 hb4
  obtain ⟨x0, x1, x2⟩ := HoldsN.cells hx
  dsimp only at x0 x1 x2
  go_wp2_with fail
  clear x0 x1 x2
  refine (P2 w3 hb3).mono ?_
  rintro e w4 ⟨rfl, hb4⟩
  replace hx := HoldsN.below hx hb4
  replace hb3 := hb3.trans (hb4.mono hb3.size)
  clear P2 hb4
  obtain ⟨x0, x1, x2⟩ := HoldsN.cells hx
  dsimp only at x0 x1 x2
  go_wp2_with fail
  clear x0 x1 x2
  have hBF : ¬ F B := fun e => by have := hFlt.out _ e; omega
  have hBlt := HoldsN.lt hx
  refine (M1 (h.below hb3)).mono ?_
  rintro e w5 ⟨rfl, F5, hC, hK, hW⟩
  replace hx := HoldsN.keep hx hK hBF
  have hKw := (Keeps.of_below hb3 F).and hK
  have hWw : Within w F F5 := fun k hk => (hW k hk).imp id (fun h => Nat.le_trans hb3.size h)
  have hBF5 : ¬ F5 B := fun e => (hW B e).elim hBF (fun h => by omega)
  clear M1 h hK hW hBlt hBF hb3
  obtain ⟨x0, x1, x2⟩ := HoldsN.cells hx
  dsimp only at x0 x1 x2
  go_wp2_with fail
  clear x0 x1 x2
  have hBlt := HoldsN.lt hx
  refine (M2 hC).mono ?_
  rintro e w6 ⟨rfl, F6, hC6, hK, hW⟩
  replace hx := HoldsN.keep hx hK hBF5
  have hWl := hWw.trans hW hKw.size
  have hKl := hKw.trans hK hWw
  have hBF6 : ¬ F6 B := fun e => (hW B e).elim hBF5 (fun h => by omega)
  clear M2 hC hK hW hBlt hBF5 hKw hWw
  go_wp2_with fail
  have hBlt := HoldsN.lt hx
  refine (L hC6).mono ?_
  rintro e w7 ⟨rfl, F7, hC7, hK, hW⟩
  replace hx := HoldsN.keep hx hK hBF6
  have hWw := hWl.trans hW hKl.size
  have hKw := hKl.trans hK hWl
  clear L hC6 hK hW hBlt hBF6 hKl hWl
  obtain ⟨x0, x1, x2⟩ := HoldsN.cells hx
  dsimp only at x0 x1 x2
  go_wp2_with fail
  refine (G hC7).mono ?_
  rintro e w8 ⟨rfl, hC8, hK⟩
  have hKl := hKw.trans hK hWw
  clear G hC7 hK x0 x1 x2 hx
  go_wp2
  exact bodyPost_end (v := .tuple #[]) (by simp [results, Tryd.results24, go_sem]) rfl ⟨rfl, F7, hC8.congr fun m => by rw [hrefs.out m]; omega, hKl, hWw⟩
end

end Go.Proofs.YtipocmbplcdmjaaDoor

/-
  Walks of the code's store: Swap.
-/
namespace Go.Proofs.YtipocmbplcdmjaaDoor
open Go Go.RowKit

theorem chain_orderC (W : World) (g : Nat) (p0 p1 p2 p3 p4 p5 p6 p7 : Value) : (((((((W.setCell ⟨g, 1, none⟩ p0).setCell ⟨g, 2, none⟩ p1).setCell ⟨g, 3, none⟩ p2).setCell ⟨g, 4, none⟩ p3).setCell ⟨g, 5, none⟩ p4).setCell ⟨g, 6, none⟩ p5).setCell ⟨g, 7, none⟩ p6).setCell ⟨g, 8, none⟩ p7 = W.setCells g 1 [p0, p1, p2, p3, p4, p5, p6, p7] := rfl

section
variable {w w' : World} {b : Nat} {F : Nat → Prop} {s : MS}

set_option maxRecDepth 100000 in
set_option maxHeartbeats 8000000 in
theorem coSwap (h : CoAt w b F s [] s.refs) (ok : s.Ok) (l : Int) :
    Calls Tryd.prog 6 #[pv b, .int .i64 l] w fun e w' => e = .returned (errV (s.swap l).1) ∧ ∃ F', CoAt w' b F' (s.swap l).2 [] (s.swap l).2.refs ∧ Keeps F w w' ∧ Within w F F' := by
  have okb := ok.toBase
  have hfew := okb.few
  generalize hr : s.swap l = r
  by_cases hl : l < 0 ∨ 6 < l
  · have e : s.swap l = (1, s) := by unfold MS.swap; rw [if_pos hl]
    rw [e] at hr
    subst hr
    go_enter Tryd.func6, Tryd.ntmps6
    by_cases h0 : l < 0
    · go_wp2
      go_ret
      exact ⟨rfl, F, h, Keeps.refl _ _, Within.refl _ _⟩
    · have h6 : 6 < l := by omega
      go_wp2
      go_ret
      exact ⟨rfl, F, h, Keeps.refl _ _, Within.refl _ _⟩
  obtain ⟨m, rfl⟩ := Int.eq_ofNat_of_zero_le (show 0 ≤ l by omega)
  have hm : m ≤ 6 := by omega
  have hsw : s.swap m = if s.room < 2 * ((s.changes (s.o m) (s.o (m + 1))).length : Int) then (2, s) else (0, MS.swap1 { s with o := swapO s.o m } (s.o m) (s.o (m + 1)) (s.changes (s.o m) (s.o (m + 1)))) := by
    unfold MS.swap
    rw [if_neg hl]
    rfl
  rw [hsw] at hr
  clear hsw hl
  have hm0 : (0 : Int) ≤ (m : Int) := by omega
  have hm6 : (m : Int) ≤ 6 := by omega
  have rx := mayO_range ok.order (i := m) (by omega)
  have ry := mayO_range ok.order (i := m + 1) (by omega)
  obtain ⟨X, hX⟩ := Int.eq_ofNat_of_zero_le rx.1
  obtain ⟨Y, hY⟩ := Int.eq_ofNat_of_zero_le ry.1
  have hX8 : X < 8 := by omega
  have hX8' : (X : Int) < 8 := by omega
  have HCh := fun W hb => coChanging (w := W) (h.below hb) okb ok.closed (X : Int) (Y : Int)
  have HRoom := fun W (hb : Below w.heap.size w W) => coRoom (h.below hb) okb
  have Sw : s.Sw m (s.changes (s.o m) (s.o (m + 1))) := ok.sw hm
  rw [hX, hY] at hr Sw
  have hFlt := h.lt
  have h0 := Lib.hid h
  have pxy : (∀ u : Sub w, u.1.cell? ⟨b, 1 + m, none⟩ = some (.int .i64 (X : Int))) ∧ ∀ u : Sub w, u.1.cell? ⟨b, 1 + (m + 1), none⟩ = some (.int .i64 (Y : Int)) := by
    obtain ⟨bA, FA, bT, FT, v, XX, tabs, rfl, hR, c⟩ := h
    exact ⟨fun u => by rw [← hX]; exact (hR.sub u).place m (by omega), fun u => by rw [← hY]; exact (hR.sub u).place (m + 1) (by omega)⟩
  obtain ⟨px, py⟩ := pxy
  clear h rx ry
  replace hX := Lib.hid hX
  replace hY := Lib.hid hY
  go_enter Tryd.func6, Tryd.ntmps6
  go_wp2
  refine wp_region_quiet_all (C := fun w' => ∃ u : Sub w, w' = u.1) (by kernel_rfl) (by kernel_rfl) (InSub.drew w) ?_
  iterate 15 (go_big_quiet_step (fail))
  refine wpQuiet_nil ?_
  clear px py
  intro w' hw'
  obtain ⟨u, rfl⟩ := hw'
  have hb1 := u.2
  generalize u.1 = w1 at *
  go_wp2_with fail
  refine (HCh _ hb1).mono ?_
  rintro e w2 ⟨vC, rfl, RC⟩
  obtain ⟨aC, cC, rfl, _⟩ := RC.own.form
  have hb2 := hb1.trans (RC.below.mono hb1.size)
  have hnewC := fun g hg => Nat.le_trans hb1.size (RC.new g hg)
  have hOC := RC.own
  have hfl : (s.changes X Y).length ≤ 20000 := Nat.le_trans (List.length_filter_le _ _) (Nat.le_trans (numsTo_filter_length s.has s.N.length) hfew)
  have hrm : s.room ≤ 20000 ∧ 0 ≤ s.room := by
    have := ok.ar.mostLe; have := ok.ar.nextLe; have := ok.ar.len
    simp only [MS.room]; omega
  clear HCh RC hb1
  go_wp2_with fail
  refine (HRoom _ hb2).mono ?_
  rintro e w3 ⟨rfl, hb3⟩
  replace hOC := hOC.block (w' := w3) fun g hg => hb3.block g (hOC.lt g hg)
  replace hb2 := hb2.trans (hb3.mono hb2.size)
  clear HRoom hb3
  by_cases hroom : s.room < 2 * ((s.changes X Y).length : Int)
  · rw [if_pos hroom] at hr
    subst hr
    go_wp2
    go_ret
    exact ⟨rfl, _, h0.out.below hb2, Keeps.of_below hb2 _, Within.refl _ _⟩
  · rw [if_neg hroom] at hr
    have hSwap := fun W => permSwap s.o m W
    simp only [swapLit7] at hSwap
    simp only [ov] at hSwap
    have h1 := h0.out.below hb2
    obtain ⟨bA, FA, bT, FT, v, XX, tabs, rfl, hR, cc⟩ := h1
    obtain ⟨c1, c2, c3, c4, c5, c6, c7, c8⟩ := hR.order
    go_wp2_with fail
    refine (hSwap _).mono ?_
    rintro e w4 ⟨rfl, hb4⟩
    clear c1 c2 c3 c4 c5 c6 c7 c8 hSwap
    replace hOC := hOC.block (w' := w4) fun g hg => hb4.block g (hOC.lt g hg)
    replace hb2 := hb2.trans (hb4.mono hb2.size)
    have hRw := hR.below hb4
    obtain ⟨c1, c2, c3, c4, c5, c6, c7, c8⟩ := hRw.order
    have f1 := hRw.free 1
    have f2 := hRw.free 2
    have f3 := hRw.free 3
    have f4 := hRw.free 4
    have f5 := hRw.free 5
    have f6 := hRw.free 6
    have f7 := hRw.free 7
    have f8 := hRw.free 8
    obtain ⟨hR5, hk5⟩ := hRw.setOrder (swapO s.o m)
    have HR5 := Lib.hid hR5
    have HK5 := Lib.hid hk5
    clear hb4 hRw hR5 hk5 hR
    go_wp2
    rw [chain_orderC]
    generalize w4.setCells b 1 [.int .i64 (swapO s.o m 0), .int .i64 (swapO s.o m 1), .int .i64 (swapO s.o m 2), .int .i64 (swapO s.o m 3), .int .i64 (swapO s.o m 4), .int .i64 (swapO s.o m 5), .int .i64 (swapO s.o m 6), .int .i64 (swapO s.o m 7)] = W0 at *
    clear c1 c2 c3 c4 c5 c6 c7 c8 f1 f2 f3 f4 f5 f6 f7 f8
    have hKw := (Keeps.of_below hb2 (footC b FA FT v)).and HK5.out
    have hOC0 := hOC.keep HK5.out (fun g hg e => by have := hFlt _ e; have := hnewC g hg; omega)
    have hCf : ∀ g, (Value.slice aC (s.changes X Y).length cC).ownBlock = some g → ¬ footC b FA FT v g := fun g hg e => by have := hFlt _ e; have := hnewC g hg; omega
    have hC0 : CoAt W0 b (footC b FA FT v) { s with o := swapO s.o m } [] s.refs := ⟨bA, FA, bT, FT, v, XX, tabs, rfl, HR5.out, cc.order _⟩
    have J0 := MS.J.start Sw
    have hnd : (s.changes X Y).Nodup := List.Pairwise.filter _ s.all_nodup
    have hroom0 : 2 * ((s.changes X Y).length : Int) ≤ s.room := by omega
    have okb0 : MS.Base { s with o := swapO s.o m } := ⟨okb.ar, okb.len⟩
    have hone : ∀ n, s.has n = true → ∀ k, s.has k = true → s.nd k = s.nd n → k = n := fun n hn k hk e => ok.one k n hk hn e
    have hmem : ∀ n ∈ s.changes X Y, s.has n = true ∧ (s.nd n).var = (X : Int) := fun n hn => by
      have h1 := (Sw.mem n).1 hn
      exact ⟨h1.1, h1.2.1.trans hX.out⟩
    have hFlt0 : ∀ k, footC b FA FT v k → k < w.heap.size := hFlt
    clear HR5 HK5 hOC hnewC cc h0 ok okb hFlt hb2
    generalize hF0 : footC b FA FT v = F0 at *
    replace hF0 := Lib.hid hF0
    generalize s.changes X Y = C at *
    replace J0 := Lib.hid J0
    replace Sw := Lib.hid Sw
    replace hr := Lib.hid hr
    replace hCf := Lib.hid hCf
    replace hOC0 := Lib.hid hOC0
    replace hone := Lib.hid hone
    replace hmem := Lib.hid hmem
    replace okb0 := Lib.hid okb0
    replace hnd := Lib.hid hnd
    have hCk : ∀ k, k < C.length → ∀ V, Keeps F0 W0 V → ∃ ad, aC = some ad ∧ V.cell? (ad.add k) = some (.int .i64 (C.getD k 0)) := fun k hk V hV => by
      have h1 := (hOC0.out.keep hV hCf.out).reads.intAt k hk
      simpa [List.getD, hk] using h1
    replace hCk := Lib.hid hCk
    clear hOC0 hCf
    go_loopw [55] (fun i wr => ∃ (k : Nat) (F' : Nat → Prop), k ≤ C.length ∧ i = .int .i64 k ∧ CoAt wr b F' { s with o := swapO s.o m } (C.take k) s.refs ∧ Keeps F0 W0 wr ∧ Within W0 F0 F') (fun i _ => C.length - (intOf i).toNat)
    case atStart => exact ⟨0, _, Nat.zero_le _, rfl, hC0, Keeps.refl _ _, Within.refl _ _⟩
    case round =>
      clear hC0
      obtain ⟨k, F', hk, rfl, hC, hK, hW⟩ := hrel
      by_cases hlt : k < C.length
      · obtain ⟨ad, rfl, ck⟩ := hCk.out k hlt wr hK
        have hgd : C.getD k 0 = C[k] := by simp [List.getD, hlt]
        rw [hgd] at ck
        have hnC : C[k] ∈ C := List.getElem_mem hlt
        have htk : ∀ j, j ∈ C.take (k + 1) ↔ j ∈ C.take k ∨ j = C[k] := fun j => by
          rw [List.take_succ_eq_append_getElem hlt, List.mem_append, List.mem_singleton]
        generalize C[k] = n at *
        obtain ⟨n1, n2⟩ := hmem.out n hnC
        have HA := coAt hC okb0.out (n := n) n1
        have hF'lt := hC.lt
        have q0 := fieldP (s.nd n) (s.refs n)
        obtain ⟨bA1, FA1, bT1, FT1, v1, X1, tabs1, rfl, hR, c⟩ := hC
        have tok := c.ok X hX8
        have tsl := c.slots X hX8
        have hcd := c.drop (n := n) hX8 n2 (fun j hj _ e => hone.out n n1 j hj e) htk
        unfold plv at HA
        rw [show MS.nd { s with o := swapO s.o m } n = s.nd n from rfl] at HA hcd
        generalize s.refs n = rn at *
        generalize s.nd n = x at *
        obtain ⟨xv, xl, xh⟩ := x
        dsimp only at HA q0 hcd n2
        subst n2
        replace hcd := Lib.hid hcd
        have hk0 : (0 : Int) ≤ (k : Int) := by omega
        have hk1 : (k : Int) < (C.length : Int) := by omega
        have hR0 := Lib.hid hR
        clear hR c n1 hnC htk hgd
        go_wp2_with fail
        refine HA.mono ?_
        rintro e w5 ⟨rfl, hb5⟩
        clear HA ck
        go_wp2
        have hx := HoldsN.new w5 ⟨(X : Int), xl, xh⟩
        dsimp only at hx
        have hb6 : Below wr.heap.size wr (w5.alloc (.cells #[.int .i64 (X : Int), .int .i64 xl, .int .i64 xh] 58)) := hb5.alloc hb5.size _
        have hBl := hb5.size
        clear hb5
        generalize w5.alloc (.cells #[.int .i64 (X : Int), .int .i64 xl, .int .i64 xh] 58) = W at *
        generalize hB : w5.heap.size = B at *
        have hR := hR0.out.below hb6
        have x1 := fun u : Sub W => (HoldsN.sub hx u).cells.2.1
        have x2 := fun u : Sub W => (HoldsN.sub hx u).cells.2.2
        dsimp only at x1 x2
        have ct := fun u : Sub W => (hR.sub u).table X hX8
        refine wp_region_quiet_tail (C := fun w' => ∃ u : Sub W, w' = u.1) 10 (by kernel_rfl) (by kernel_rfl) (InSub.drew W) ?_
        simp only [List.take_succ_cons, List.take_zero]
        iterate 10 (go_big_quiet_step (fail))
        refine wpQuiet_nil ?_
        clear x1 x2 ct
        intro w' hw'
        obtain ⟨u, rfl⟩ := hw'
        have hR7 := hR.sub u
        have hb7 := hb6.trans (u.2.mono hb6.size)
        clear hR hR0 hb6 hx
        generalize u.1 = W7 at *
        have HP := uniqDropS (hR7.tab X hX8) tok (by omega) xl xh
        simp only [List.drop_succ_cons, List.drop_zero]
        apply wpList_step
        intro K1 hK1
        go_simp
        refine HP.mono ?_
        rintro e W8 ⟨rfl, FT', hU, hKU, hWU⟩
        clear HP
        obtain ⟨hR8, hK8, hW8⟩ := hR7.setTab hX8 hU hKU hWU
        have hKf := hK.trans ((Keeps.of_below hb7 _).and hK8) hW
        have hWf : Within W0 F0 (footC b FA1 (upd FT1 X FT') v1) := hW.trans (fun k hk => (hW8 k hk).imp id (fun h => Nat.le_trans hb7.size h)) hK.size
        clear hR7 hU hKU hWU hK8 hW8 hb7 hK hW
        apply hK1
        clear hK1
        refine wpList_nil ?_
        replace hR8 := Lib.hid hR8
        go_wp2
        exact ⟨⟨k + 1, _, by omega, by go_num, ⟨bA1, FA1, bT1, upd FT1 X FT', v1, X1, _, rfl, hR8.out, hcd.out⟩, hKf, hWf⟩, by simp [intOf]; omega⟩
      · obtain rfl : k = C.length := by omega
        rw [List.take_length] at hC
        clear hlt hk hone hmem okb0
        have hCd : CoAt wr b F' { s with o := swapO s.o m } (C.drop 0) (MS.refs { s with o := swapO s.o m }) := hC
        have hJd : Hid (MS.J s m C (C.drop 0) { s with o := swapO s.o m }) := J0
        have hrd : Hid ((0, MS.swap1 { s with o := swapO s.o m } X Y (C.drop 0)) = r) := hr
        have hrmd : 2 * ((C.drop 0).length : Int) ≤ MS.room { s with o := swapO s.o m } := hroom0
        clear hC J0 hr hroom0 hroom
        go_wp2
        go_loopw [77] (fun i wt => ∃ (k : Nat) (t : MS) (F1 : Nat → Prop), k ≤ C.length ∧ i = .int .i64 k ∧ CoAt wt b F1 t (C.drop k) t.refs ∧ Hid (MS.J s m C (C.drop k) t) ∧ 2 * ((C.drop k).length : Int) ≤ t.room ∧ Keeps F0 W0 wt ∧ Within W0 F0 F1 ∧ Hid ((0, MS.swap1 t X Y (C.drop k)) = r)) (fun i _ => C.length - (intOf i).toNat)
        case atStart => exact ⟨0, _, _, Nat.zero_le _, rfl, hCd, hJd, hrmd, hK, hW, hrd⟩
        case round =>
          clear hCd hJd hrmd hK hW hrd
          obtain ⟨k, t, F1, hk, rfl, hC, hJ, hrmd, hK, hW, hrd⟩ := hrel
          by_cases hlt : k < C.length
          · obtain ⟨ad, rfl, ck⟩ := hCk.out k hlt _ hK
            have hgd : C.getD k 0 = C[k] := by simp [List.getD, hlt]
            rw [hgd] at ck
            have hnC : C[k] ∈ C := List.getElem_mem hlt
            have hdrop := List.drop_eq_getElem_cons hlt
            have hnR : C[k] ∉ C.drop (k + 1) := by
              have h1 : (C.drop k).Nodup := List.Pairwise.sublist (List.drop_sublist k C) hnd.out
              rw [hdrop] at h1
              exact (List.nodup_cons.1 h1).1
            have hRC : ∀ j ∈ C.drop (k + 1), j ∈ C := fun j hj => List.mem_of_mem_drop hj
            replace hJ := hJ.out
            rw [hdrop] at hC hJ hrmd hrd
            generalize C[k] = n at *
            obtain ⟨a, c, t1, t2, T, m1, m2, j3, r3⟩ := hJ.turn Sw.out hnC hnR hRC hrmd hX.out hY.out
            have hfin : Hid ((0, MS.swap1 (t2.setNd n ⟨(Y : Int), a, c⟩) X Y (C.drop (k + 1))) = r) := by
              have := hrd.out
              unfold MS.swap1 at this
              simp only [m1, m2] at this
              exact Lib.hid this
            have HT := coTurn hC T
            have hk0 : (0 : Int) ≤ (k : Int) := by omega
            have hk1 : (k : Int) < (C.length : Int) := by omega
            replace j3 := Lib.hid j3
            clear hC T m1 m2 hrd hJ hdrop hnC hnR hRC hgd hrmd
            go_wp2_with fail
            refine HT.mono ?_
            rintro e w6 ⟨rfl, F2, hC2, hK2, hW2⟩
            have hWl := hW.trans hW2 hK.size
            have hKl := hK.trans hK2 hW
            clear HT hK hW hK2 hW2 ck
            go_wp2
            exact ⟨⟨k + 1, _, _, by omega, by go_num, hC2, j3, r3, hKl, hWl, hfin⟩, by simp [intOf]; omega⟩
          · obtain rfl : k = C.length := by omega
            have hr2 := hrd.out
            rw [List.drop_length] at hr2 hC
            have hr3 : r = (0, t) := hr2.symm
            subst hr3
            clear hr2 hrd hlt hk hJ hrmd
            go_wp2
            go_ret
            exact ⟨rfl, F1, hC, by rw [hF0.out]; exact hKw.trans hK (Within.refl _ _), by rw [hF0.out]; exact (Within.refl _ _).trans hW hKw.size⟩
end

end Go.Proofs.YtipocmbplcdmjaaDoor
