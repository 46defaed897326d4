/-
  Texts of this proof, one behind the other: CoO, CoF, CoT, CoP, CoN.
-/
import Derived.Test.YtclkckinpjkglaaDoorG9
import Derived.Test.YtclkckinpjkglaaDoorG7
/-
  Walks of the code's store: obtain, Mk.
-/
namespace Go.Proofs.YtclkckinpjkglaaDoor
open Go Go.RowKit

section
variable {w w' : World} {b bA : Nat} {FA F : Nat → Prop} {bT : Nat → Nat} {FT : Nat → Nat → Prop} {v v' : Value} {o : Nat → Int} {ar : AS} {X X' : List (Nd × Int)} {tabs : Nat → TS} {s : MS} {R : List Int} {f : Int → Int}

theorem appendX {ops : Array Oper} {rest : List Oper} {o : Oper} {a : Act} {w : World} {Q : Exit → Act → World → Prop} (hgd : o.guard = none) (s x : Operand)
    (ho : o.op = .call { callee := .builtin .append, args := #[s, x], argTypes := #[46, 46] })
    (v y : Value) (l k : List (Nd × Int)) (hs : a.eval s = v) (hown : Owns encX w v l) (hx : a.eval x = y) (hsrc : Reads encX w y k) (hn : l.length + k.length ≤ 1000000)
    (h : ∀ v' w', Owns encX w' v' (l ++ k) → w.grownBy w' v.ownBlock → (v'.ownBlock = v.ownBlock ∨ v'.ownBlock = some w.heap.size) → wpList Tryd.prog ops Q rest (a.put o.dst v') w') : wpList Tryd.prog ops Q (o :: rest) a w :=
  wpList_append_owns encX hgd s x ho v y l k hs hown hx hsrc hn h
theorem oneX (w : World) (b : Nat) (hb : b = w.heap.size := by rfl) : Reads encX (w.alloc (.cells #[.int .i64 0, .int .i64 0, .int .i64 0, .int .i64 0] 84)) (.slice (some ⟨b, 0, none⟩) 1 1) [(⟨0, 0, 0⟩, 0)] := Reads.one encX w _ _ rfl b hb

/-- The places have grown, and are stored anew. -/
theorem CoR.grown (h : CoR w b bA FA bT FT v o ar X tabs) (hO : Owns encX w' v' X') (hg : w.grownBy w' v.ownBlock) (hat : v'.ownBlock = v.ownBlock ∨ v'.ownBlock = some w.heap.size) :
    CoR (w'.setCell ⟨b, 18, none⟩ v') b bA FA bT FT v' o ar X' tabs ∧ Keeps (footC b FA FT v) w (w'.setCell ⟨b, 18, none⟩ v') ∧ Within w (footC b FA FT v) (footC b FA FT v') := by
  have hK1 : Keeps (fun k => v.ownBlock = some k) w w' := Keeps.of_grown hg fun k hk => hk
  have hK2 := Keeps.of_setCell (fun k => k = b) w' ⟨b, 18, none⟩ v' rfl
  have hlb := row_lt h.row
  have hown : ∀ k, v'.ownBlock = some k → v.ownBlock = some k ∨ w.heap.size ≤ k := fun k hk => hat.imp (fun e => e.symm.trans hk) (fun e => by rw [e] at hk; injection hk with hk; omega)
  have hb : v'.ownBlock ≠ some b := fun e => (hown b e).elim h.apart1 (fun h => by omega)
  have hrow : w'.heap[b]? = some (rowC ar.most o bA bT v) := (hK1.block b hlb h.apart1).trans h.row
  refine ⟨⟨(heap_setCell_same w' b 18 _ _ v' hrow).trans rfl, ?_, fun i hi => ?_, hO.keep hK2 fun g hg e => hb (e ▸ hg), hb, fun k hk => ⟨(h.apart2 k hk).1, fun e => ?_⟩, fun i hi k hk => ⟨(h.apart3 i hi k hk).1, fun e => ?_, (h.apart3 i hi k hk).2.2⟩, h.apart4⟩, ?_, ?_⟩
  · exact (h.ar.keep hK1 fun k hk => (h.apart2 k hk).2).keep hK2 fun k hk e => (h.apart2 k hk).1 e
  · exact ((h.tab i hi).keep hK1 fun k hk => (h.apart3 i hi k hk).2.1).keep hK2 fun k hk e => (h.apart3 i hi k hk).1 e
  · exact (hown k e).elim (h.apart2 k hk).2 (fun h1 => by have := h.ar.lt k hk; omega)
  · exact (hown k e).elim (h.apart3 i hi k hk).2.1 (fun h1 => by have := (h.tab i hi).lt k hk; omega)
  · exact (hK1.mono fun k hk => .inr (.inl hk)).and (hK2.mono fun k hk => .inl hk)
  · rintro k (e | e | e | e)
    · exact .inl (.inl e)
    · exact (hown k e).imp (fun h => .inr (.inl h)) id
    · exact .inl (.inr (.inr (.inl e)))
    · exact .inl (.inr (.inr (.inr e)))

theorem CoR.grownRow (h : CoR w b bA FA bT FT v o ar X tabs) (hg : w.grownBy w' v.ownBlock) : w'.heap[b]? = some (rowC ar.most o bA bT v) :=
  ((Keeps.of_grown (F := fun k => v.ownBlock = some k) hg fun _ hk => hk).block b (row_lt h.row) h.apart1).trans h.row

theorem MS.Base.takeS (h : s.Base) (hf : s.ar.T.length ≠ s.ar.most) (x : Nd) : (s.takeS x).Base := by
  obtain ⟨h0, _, _, h3⟩ := h.took hf
  refine ⟨h.ar.take, ?_⟩
  unfold MS.takeS
  rcases h3 with ⟨e, e2⟩ | ⟨e, e2⟩
  · simp [e, e2]
  · have e3 : ¬ s.ar.takeN = s.N.length := by omega
    simp [e3, e2]

set_option maxRecDepth 100000 in
set_option maxHeartbeats 4000000 in
theorem coObtain (h : CoAt w b F s R s.refs) (ok : s.Okb R) (cl : s.Closed) (hR : ∀ n ∈ R, s.has n = true) (vn : Nat) (hv : vn < 8) (lo hi : Int) (blo : s.behind lo (vn : Int) = true) (bhi : s.behind hi (vn : Int) = true) :
    Calls Tryd.prog 34 #[pv b, .int .i64 (vn : Int), .int .i64 lo, .int .i64 hi] w fun e w' => e = .returned (.tuple #[.int .i64 (s.mk (vn : Int) lo hi R).1, errV (s.mk (vn : Int) lo hi R).2.1]) ∧ ∃ F', CoAt w' b F' (s.mk (vn : Int) lo hi R).2.2 R (s.mk (vn : Int) lo hi R).2.2.refs ∧ Keeps F w w' ∧ Within w F F' := by
  have okb := ok.toBase
  have hfew := okb.few
  generalize hr : s.mk (vn : Int) lo hi R = r
  unfold MS.mk at hr
  rw [if_neg (show ¬ ((vn : Int) < 0 ∨ 7 < (vn : Int) ∨ s.behind lo (vn : Int) = false ∨ s.behind hi (vn : Int) = false) by rw [blo, bhi]; simp; omega)] at hr
  have hv8 : (vn : Int) < 8 := by omega
  go_enter Tryd.func34, Tryd.ntmps34
  by_cases hlh : lo = hi
  · rw [if_pos hlh] at hr
    subst hr
    have hb : (lo == hi) = true := by rw [beq_iff_eq]; exact hlh
    replace hlh := Lib.hid hlh
    go_wp2
    go_ret2
    exact ⟨rfl, F, h, Keeps.refl _ _, Within.refl _ _⟩
  rw [if_neg hlh] at hr
  have hb : (lo == hi) = false := by rw [beq_eq_false_iff_ne]; exact hlh
  obtain ⟨bA, FA, bT, FT, v, X, tabs, rfl, hC, c⟩ := h
  have ct := hC.table vn hv
  have tsl := c.slots vn hv
  have HG := uniqGetS (hC.tab vn hv) (c.ok vn hv) (by omega) lo hi
  rcases c.get ok hv lo hi with ⟨n, hf, hg⟩ | ⟨hf, hg⟩
  · rw [hf] at hr
    dsimp only at hr
    subst hr
    rw [hg] at HG
    dsimp only at HG
    have H0 := Lib.hid hC
    have hcc := Lib.hid c
    clear hC hlh hf c ct hg
    have ct := H0.out.table vn hv
    go_wp2_with fail
    refine HG.mono ?_
    rintro e w1 ⟨rfl, hb1⟩
    clear HG ct
    go_wp2
    go_ret2
    exact ⟨rfl, _, ⟨bA, FA, bT, FT, v, X, tabs, rfl, H0.out.below hb1, hcc.out⟩, Keeps.of_below hb1 _, Within.refl _ _⟩
  · rw [hf] at hr
    dsimp only at hr
    rw [hg] at HG
    dsimp only at HG
    clear hg
    replace hlh := Lib.hid hlh
    replace hf := Lib.hid hf
    by_cases hfull : s.ar.T.length = s.ar.most
    · have e2 := (AS.Ok.take_full hfull).2.1
      obtain ⟨e1, _, e3⟩ := AS.Ok.take_full hfull
      rw [e2, if_pos (by decide)] at hr
      subst hr
      have H0 := Lib.hid hC
      have hcc := Lib.hid c
      clear hC c ct hfull
      have ct := H0.out.table vn hv
      go_wp2_with fail
      refine HG.mono ?_
      rintro e w1 ⟨rfl, hb1⟩
      clear HG ct
      have hC1 := H0.out.below hb1
      have c9 := hC1.cell.2.1
      have HT := arenaTakeS hC1.ar okb.ar
      rw [e1, e2, e3] at HT
      replace hC1 := Lib.hid hC1
      unfold errV at HT
      simp only [show ¬ (2 : Int) = 0 by decide, if_false] at HT
      clear H0
      go_wp2_with fail
      refine HT.mono ?_
      rintro e w2 ⟨rfl, FA', hA, hK, hW⟩
      clear HT c9
      obtain ⟨hC2, hK2, hW2⟩ := hC1.out.setAr hA rfl hK hW
      clear hA hK hW hC1
      replace hC2 := Lib.hid hC2
      go_wp2
      go_ret2
      exact ⟨rfl, _, ⟨bA, FA', bT, FT, v, X, tabs, rfl, hC2.out, hcc.out⟩, (Keeps.of_below hb1 _).and hK2, fun k hk => (hW2 k hk).imp id (fun h => Nat.le_trans hb1.size h)⟩
    · have e2 : s.ar.takeE = 0 := by simp [AS.takeE, hfull]
      rw [e2, if_neg (by decide)] at hr
      subst hr
      obtain ⟨t0, t1, t2, t3⟩ := okb.took hfull
      have hmost : s.ar.take.most = s.ar.most := by
        rcases last_or_nil s.ar.B with hb | ⟨l, n, hb⟩
        · rw [(AS.Ok.take_new hfull hb).2.2]
        · rw [(AS.Ok.take_again hfull hb).2.2]
      have hlX := c.len
      have hnew : s.has (s.ar.takeN + 2) = false := Bool.eq_false_iff.2 fun e => by
        have := (okb.range e).2.2
        rw [show s.ar.takeN + 2 - 2 = s.ar.takeN by omega] at this
        exact t1 this
      have hnR : s.ar.takeN + 2 ∉ R := fun e => by rw [hR _ e] at hnew; cases hnew
      obtain ⟨z, hcz⟩ := c.take okb hfull (fun e => okb.refs_new cl (by omega))
      have okt := okb.takeS hfull z
      have hthas := (okb.takeS_has hfull z (s.ar.takeN + 2)).2 (.inr rfl)
      have hmono : ∀ n, s.has n = true → (s.takeS z).has n = true := fun n hn => (okb.takeS_has hfull z n).2 (.inl hn)
      have htlo := MS.there_mono hmono (MS.behind_there blo)
      have hthi := MS.there_mono hmono (MS.behind_there bhi)
      have hone : ∀ m, (s.takeS z).has m = true → m ∉ (s.ar.takeN + 2) :: R → (s.takeS z).nd m ≠ ⟨(vn : Int), lo, hi⟩ := fun m hm hmR => by
        simp only [List.mem_cons, not_or] at hmR
        have h1 := ((okb.takeS_has hfull z m).1 hm).resolve_right hmR.1
        rw [okb.takeS_old hfull z h1]
        exact MS.find_none okb hf.out h1 hmR.2
      have hbnd : ∀ m, -100000 ≤ s.refs m ∧ s.refs m ≤ 100000 := fun m => by
        have := s.refs_nonneg m; have := okb.refs_le m; omega
      have hset := MS.takeS_setNd (s := s) (z := z) (x := ⟨(vn : Int), lo, hi⟩) okb hfull
      have hrefs := okb.refs_takeS hfull ⟨(vn : Int), lo, hi⟩
      have HL := fun {w b F} (h : CoAt w b F (s.takeS z) ((s.ar.takeN + 2) :: R) s.refs) => coLay h okt hthas hnR ⟨(vn : Int), lo, hi⟩ (by constructor <;> dsimp only <;> omega) htlo hthi hone hbnd
      unfold nv at HL
      dsimp only at HL
      have H0 := Lib.hid hC
      have har := okb.ar
      clear hC c ct hone hmono htlo hthi t1 t2 okt hthas hbnd hnew hnR
      have ct := H0.out.table vn hv
      go_wp2_with fail
      refine HG.mono ?_
      rintro e w1 ⟨rfl, hb1⟩
      clear HG ct
      have hC1 := H0.out.below hb1
      have c9 := hC1.cell.2.1
      have HT := arenaTakeS hC1.ar har
      rw [e2] at HT
      replace hC1 := Lib.hid hC1
      unfold errV at HT
      simp only [if_true] at HT
      have hTr : s.ar.takeN + 2 ≤ 20002 := by rcases t3 with ⟨h, _⟩ | ⟨h, _⟩ <;> omega
      generalize hTN : s.ar.takeN = N at *
      clear H0
      replace hTN := Lib.hid hTN
      go_wp2_with fail
      refine HT.mono ?_
      rintro e w2 ⟨rfl, FA', hA, hK, hW⟩
      clear HT c9
      obtain ⟨hC2, hK2, hW2⟩ := hC1.out.setAr hA hmost hK hW
      clear hA hK hW hC1
      have hKw := (Keeps.of_below hb1 _).and hK2
      have hWw : Within w (footC b FA FT v) (footC b FA' FT v) := fun k hk => (hW2 k hk).imp id (fun h => Nat.le_trans hb1.size h)
      clear hK2 hW2 hb1
      obtain ⟨a, cp, e5⟩ := hC2.form
      rw [hlX] at e5
      subst e5
      have c18 := hC2.cell.2.2
      by_cases hnl : N = (s.N.length : Int)
      · rw [if_pos hnl] at hcz
        have hnb : (N == (s.N.length : Int)) = true := by rw [beq_iff_eq]; exact hnl
        replace hnl := Lib.hid hnl
        have hbA : Below w2.heap.size w2 (w2.alloc (.cells #[.int .i64 0, .int .i64 0, .int .i64 0, .int .i64 0] 84)) := by go_grown
        have hsrc := oneX w2 w2.heap.size rfl
        have c18' := c18
        replace hC2 := hC2.below hbA
        have hKw2 := hKw.and (Keeps.of_below hbA _)
        have hsz := hKw2.size
        clear hKw hbA
        have c18 := hC2.cell.2.2
        have hX0 := hC2.places
        have hln : X.length + [((⟨0, 0, 0⟩, 0) : Nd × Int)].length ≤ 1000000 := by simp; omega
        replace hC2 := Lib.hid hC2
        have hL1 : (X ++ [((⟨0, 0, 0⟩, 0) : Nd × Int)]).length = s.N.length + 1 := by simp [hlX]
        go_wp2_with (at_builtin; refine appendX rfl (.tmp 55) (.tmp 57) rfl _ _ X [(⟨0, 0, 0⟩, 0)] rfl hX0 rfl hsrc hln ?_; intro v' w3 hown3 hgr hat; have hrow3 := hC2.out.grownRow hgr; obtain ⟨g4, c4, e4, _, _⟩ := hown3.some (by simp); rw [hL1] at e4; subst e4; have c18n : w3.cell? ⟨b, 18, none⟩ = some (.slice a s.N.length cp) := (by rw [cell_of_row _ _ _ _ _ _ hrow3]; rfl); have z18 : w3.frozen? ⟨b, 18, none⟩ = false := frozen_of_row _ _ _ _ _ hrow3; clear hrow3)
        obtain ⟨hC3, hK3, hW3⟩ := hC2.out.grown hown3 hgr hat
        have hKf := hKw2.trans hK3 hWw
        have hWf := hWw.trans hW3 hsz
        refine (HL ⟨bA, FA', bT, FT, _, _, tabs, rfl, hC3, hcz⟩).mono ?_
        rintro e w4 ⟨rfl, F4, hC4, hK4, hW4⟩
        rw [hset] at hC4
        have hWl := hWf.trans hW4 hKf.size
        have hKl := hKf.trans hK4 hWf
        clear hC3 hK3 hW3 hKf hWf hK4 hW4 hKw2 hcz HL hsrc hX0 hown3 hgr hat c18 c18' c18n z18 hC2
        go_wp2
        go_ret2
        exact ⟨by rw [← hTN.out]; rfl, F4, hC4.congr fun m => (hrefs m).symm, hKl, hWl⟩
      · rw [if_neg hnl] at hcz
        have hnb : (N == (s.N.length : Int)) = false := by rw [beq_eq_false_iff_ne]; exact hnl
        replace hnl := Lib.hid hnl
        have hHL := HL ⟨bA, FA', bT, FT, _, _, tabs, rfl, hC2, hcz⟩
        clear hC2 HL hcz
        go_wp2_with fail
        refine hHL.mono ?_
        rintro e w4 ⟨rfl, F4, hC4, hK4, hW4⟩
        rw [hset] at hC4
        have hWl := hWw.trans hW4 hKw.size
        have hKl := hKw.trans hK4 hWw
        clear hK4 hW4 hKw hWw hHL c18
        go_wp2
        go_ret2
        exact ⟨by rw [← hTN.out]; rfl, F4, hC4.congr fun m => (hrefs m).symm, hKl, hWl⟩


set_option maxRecDepth 100000 in
set_option maxHeartbeats 1000000 in
theorem coMk (h : CoAt w b F s [] s.refs) (ok : s.Ok) (v lo hi : Int) (hlo : lo ≤ 9223372036854775807 ∧ -9223372036854775808 ≤ lo) (hhi : hi ≤ 9223372036854775807 ∧ -9223372036854775808 ≤ hi) :
    Calls Tryd.prog 17 #[pv b, .int .i64 v, .int .i64 lo, .int .i64 hi] w fun e w' => e = .returned (.tuple #[.int .i64 (s.mk v lo hi []).1, errV (s.mk v lo hi []).2.1]) ∧ ∃ F', CoAt w' b F' (s.mk v lo hi []).2.2 [] (s.mk v lo hi []).2.2.refs ∧ Keeps F w w' ∧ Within w F F' := by
  have okb := ok.toBase
  generalize hr : s.mk v lo hi [] = r
  have HL := permLevel s.o v w
  have HFl := fun W (hb : Below w.heap.size w W) => coFits (h.below hb) okb lo (levO s.o v) v hlo rfl
  have HFh := fun W (hb : Below w.heap.size w W) => coFits (h.below hb) okb hi (levO s.o v) v hhi rfl
  have hrg := levO_range s.o v
  have hvr : 0 ≤ levO s.o v ↔ 0 ≤ v ∧ v ≤ 7 := by
    constructor
    · intro h0
      rcases levO_cases s.o v with ⟨h1, _⟩ | ⟨j, h1, h2, h3, _⟩
      · omega
      · have := mayO_range ok.order h2; omega
    · rintro ⟨h0, h7⟩
      obtain ⟨n, rfl⟩ := Int.eq_ofNat_of_zero_le h0
      exact levO_nonneg.2 (mayO_iff.1 ok.order n (by omega))
  have hbad : (v < 0 ∨ 7 < v ∨ s.behind lo v = false ∨ s.behind hi v = false) → r = (0, 1, s) := fun hc => by
    rw [← hr]; unfold MS.mk; rw [if_pos hc]
  have HO := fun {w F} (h : CoAt w b F s [] s.refs) (vn : Nat) (hv : vn < 8) (blo : s.behind lo (vn : Int) = true) (bhi : s.behind hi (vn : Int) = true) => coObtain h (ok.okb []) ok.closed (fun _ h => by cases h) vn hv lo hi blo bhi
  have H0 := Lib.hid h
  obtain ⟨bA, FA, bT, FT, vv, X, tabs, rfl, hR, c⟩ := h
  obtain ⟨c1, c2, c3, c4, c5, c6, c7, c8⟩ := hR.order
  simp only [ov] at HL
  clear hR c
  go_enter Tryd.func17, Tryd.ntmps17
  by_cases hl : levO s.o v < 0
  · have hr1 := hbad (by have := mt hvr.2 (by omega); omega)
    subst hr1
    generalize levO s.o v = L at *
    clear HFl HFh HO hvr hbad
    go_wp2_with fail
    refine HL.mono ?_
    rintro e w1 ⟨rfl, hb1⟩
    clear HL c1 c2 c3 c4 c5 c6 c7 c8
    go_wp2
    go_ret2
    exact ⟨rfl, _, H0.out.below hb1, Keeps.of_below hb1 _, Within.refl _ _⟩
  · have hv8 := hvr.1 (by omega)
    obtain ⟨vn, rfl⟩ := Int.eq_ofNat_of_zero_le hv8.1
    cases blo : s.behind lo (vn : Int)
    · have hr1 := hbad (.inr (.inr (.inl blo)))
      subst hr1
      rw [blo] at HFl
      generalize levO s.o (vn : Int) = L at *
      clear HFh HO hvr hbad hv8 blo
      go_wp2_with fail
      refine HL.mono ?_
      rintro e w1 ⟨rfl, hb1⟩
      clear HL c1 c2 c3 c4 c5 c6 c7 c8
      go_wp2_with fail
      refine (HFl _ hb1).mono ?_
      rintro e w2 ⟨rfl, hb2⟩
      replace hb1 := hb1.trans (hb2.mono hb1.size)
      clear HFl hb2
      go_wp2
      go_ret2
      exact ⟨rfl, _, H0.out.below hb1, Keeps.of_below hb1 _, Within.refl _ _⟩
    · cases bhi : s.behind hi (vn : Int)
      · have hr1 := hbad (.inr (.inr (.inr bhi)))
        subst hr1
        rw [blo] at HFl
        rw [bhi] at HFh
        generalize levO s.o (vn : Int) = L at *
        clear HO hvr hbad hv8 blo bhi
        go_wp2_with fail
        refine HL.mono ?_
        rintro e w1 ⟨rfl, hb1⟩
        clear HL c1 c2 c3 c4 c5 c6 c7 c8
        go_wp2_with fail
        refine (HFl _ hb1).mono ?_
        rintro e w2 ⟨rfl, hb2⟩
        replace hb1 := hb1.trans (hb2.mono hb1.size)
        clear HFl hb2
        go_wp2_with fail
        refine (HFh _ hb1).mono ?_
        rintro e w2 ⟨rfl, hb2⟩
        replace hb1 := hb1.trans (hb2.mono hb1.size)
        clear HFh hb2
        go_wp2
        go_ret2
        exact ⟨rfl, _, H0.out.below hb1, Keeps.of_below hb1 _, Within.refl _ _⟩
      · rw [blo] at HFl
        rw [bhi] at HFh
        have HO1 := fun {w F} (h : CoAt w b F s [] s.refs) => HO h vn (by omega) blo bhi
        rw [hr] at HO1
        generalize levO s.o (vn : Int) = L at *
        clear HO hvr hbad hv8 blo bhi hr
        go_wp2_with fail
        refine HL.mono ?_
        rintro e w1 ⟨rfl, hb1⟩
        clear HL c1 c2 c3 c4 c5 c6 c7 c8
        go_wp2_with fail
        refine (HFl _ hb1).mono ?_
        rintro e w2 ⟨rfl, hb2⟩
        replace hb1 := hb1.trans (hb2.mono hb1.size)
        clear HFl hb2
        go_wp2_with fail
        refine (HFh _ hb1).mono ?_
        rintro e w2 ⟨rfl, hb2⟩
        replace hb1 := hb1.trans (hb2.mono hb1.size)
        clear HFh hb2
        go_wp2_with fail
        refine (HO1 (H0.out.below hb1)).mono ?_
        rintro e w3 ⟨rfl, F3, hC, hK, hW⟩
        clear HO1 H0
        go_wp2
        go_ret2
        exact ⟨rfl, F3, hC, (Keeps.of_below hb1 _).and hK, fun k hk => (hW k hk).imp id (fun h => Nat.le_trans hb1.size h)⟩
end

end Go.Proofs.YtclkckinpjkglaaDoor

/-
  Walks of the code's store: Free.
-/
namespace Go.Proofs.YtclkckinpjkglaaDoor
open Go Go.RowKit

section
variable {w w' : World} {b bA : Nat} {FA F : Nat → Prop} {bT : Nat → Nat} {FT : Nat → Nat → Prop} {v v' : Value} {o : Nat → Int} {ar : AS} {X X' : List (Nd × Int)} {tabs : Nat → TS} {s : MS} {R : List Int} {f : Int → Int}

theorem chain_placeC (W : World) (g k : Nat) (v0 v1 v2 v3 : Value) : (((W.setCell ⟨g, k, none⟩ v0).setCell ⟨g, k + 1, none⟩ v1).setCell ⟨g, k + 2, none⟩ v2).setCell ⟨g, k + 3, none⟩ v3 = W.setCells g k [v0, v1, v2, v3] := rfl
/-- A place emptied. -/
theorem CoR.putZero {g n cap i : Nat} (h : CoR w b bA FA bT FT (.slice (some ⟨g, 0, none⟩) n cap) o ar X tabs) (hn : n = X.length) (hi : i < X.length) :
    CoR (w.setCells g (i * 4) [.int .i64 0, .int .i64 0, .int .i64 0, .int .i64 0]) b bA FA bT FT (.slice (some ⟨g, 0, none⟩) n cap) o ar (X.set i (⟨0, 0, 0⟩, 0)) tabs ∧ Keeps (footC b FA FT (.slice (some ⟨g, 0, none⟩) n cap)) w (w.setCells g (i * 4) [.int .i64 0, .int .i64 0, .int .i64 0, .int .i64 0]) := by
  subst hn
  exact h.setX rfl (owns_putCells h.places hi (⟨0, 0, 0⟩, 0)) (Keeps.of_setCells (fun k => k = g) g rfl _ _ w)

end

end Go.Proofs.YtclkckinpjkglaaDoor

/-
  Walks of the code's store: turn.
-/
namespace Go.Proofs.YtclkckinpjkglaaDoor
open Go Go.RowKit

/-- What is known of a round. -/
structure MS.Turn (t : MS) (n : Int) (R : List Int) (X Y : Nat) (a c : Int) (t1 t2 : MS) : Prop where
  okb : t.Okb (n :: R)
  okb1 : t1.Okb (n :: R)
  base2 : t2.Base
  closed : t.Closed
  closed1 : t1.Closed
  hasR : ∀ m ∈ n :: R, t.has m = true
  hasR1 : ∀ m ∈ n :: R, t1.has m = true
  has2 : t2.has n = true
  nR : n ∉ R
  X8 : X < 8
  Y8 : Y < 8
  var : (t.nd n).var = (X : Int)
  nd2 : t2.nd n = t.nd n
  mk1 : t.mk (X : Int) (t.side (t.nd n).lo (Y : Int) false) (t.side (t.nd n).hi (Y : Int) false) (n :: R) = (a, 0, t1)
  mk2 : t1.mk (X : Int) (t.side (t.nd n).lo (Y : Int) true) (t.side (t.nd n).hi (Y : Int) true) (n :: R) = (c, 0, t2)
  b1 : t.behind (t.side (t.nd n).lo (Y : Int) false) (X : Int) = true
  b2 : t.behind (t.side (t.nd n).hi (Y : Int) false) (X : Int) = true
  b3 : t1.behind (t.side (t.nd n).lo (Y : Int) true) (X : Int) = true
  b4 : t1.behind (t.side (t.nd n).hi (Y : Int) true) (X : Int) = true
  ta : t2.there a = true
  tc : t2.there c = true
  tlo : t2.there (t.nd n).lo = true
  thi : t2.there (t.nd n).hi = true
  one : ∀ m, t2.has m = true → m ∉ n :: R → t2.nd m ≠ ⟨(Y : Int), a, c⟩

theorem MS.J.turn {s t : MS} {l : Nat} {C R : List Int} (w : s.Sw l C) {n : Int} (hn : n ∈ C) (hnR : n ∉ R) (hR : ∀ m ∈ R, m ∈ C) (j : MS.J s l C (n :: R) t) (hroom : 2 * ((n :: R).length : Int) ≤ t.room) {X Y : Nat} (hX : s.o l = (X : Int)) (hY : s.o (l + 1) = (Y : Int)) :
    ∃ a c t1 t2, t.Turn n R X Y a c t1 t2 ∧ t.mk (X : Int) (t.side (t.nd n).lo (Y : Int) false) (t.side (t.nd n).hi (Y : Int) false) (n :: R) = (a, 0, t1) ∧
      t1.mk (X : Int) (t1.side (t.nd n).lo (Y : Int) true) (t1.side (t.nd n).hi (Y : Int) true) (n :: R) = (c, 0, t2) ∧ MS.J s l C R (t2.setNd n ⟨(Y : Int), a, c⟩) ∧ 2 * (R.length : Int) ≤ (t2.setNd n ⟨(Y : Int), a, c⟩).room := by
  have hRC : ∀ m ∈ n :: R, m ∈ C := fun m hm => by
    rcases List.mem_cons.1 hm with rfl | hm
    · exact hn
    · exact hR m hm
  have rx := mayO_range w.ok.order (i := l) (by have := w.l6; omega)
  have ry := mayO_range w.ok.order (i := l + 1) (by have := w.l6; omega)
  obtain ⟨n1, n2, _⟩ := (w.mem n).1 hn
  obtain ⟨d1, d2⟩ := w.sides hn
  have e0 := j.old n n1 (.inr List.mem_cons_self)
  obtain ⟨a, c, t1, t2, _, m1, m2, j1, j2, hn2, j3, r3⟩ := j.round w hn hnR hroom
  have p00 := w.ok.deep_side w.l6 d1 false
  have p10 := w.ok.deep_side w.l6 d2 false
  have p01 := w.ok.deep_side w.l6 d1 true
  have p11 := w.ok.deep_side w.l6 d2 true
  have s00 := j.side_as w d1 false
  have s10 := j.side_as w d2 false
  have s01 := j.side_as w d1 true
  have s11 := j.side_as w d2 true
  have u01 := j1.side_as w d1 true
  have u11 := j1.side_as w d2 true
  have b00 := j.deep_behind w p00
  have b10 := j.deep_behind w p10
  have b01 := j1.deep_behind w p01
  have b11 := j1.deep_behind w p11
  have e2 := j2.old n n1 (.inr List.mem_cons_self)
  have hB2 := j2.okb.toBase
  have hat := hB2.setNd_at hn2 ⟨s.o (l + 1), a, c⟩
  have ha := MS.behind_there (j3.okb.lo n hn2 hnR)
  have hc := MS.behind_there (j3.okb.hi n hn2 hnR)
  rw [hat] at ha hc
  have hcl2 := j2.closed w hRC n hn2
  rw [e2] at hcl2
  rw [hX] at m1 m2 b00 b10 b01 b11
  rw [hX] at n2 rx
  rw [hY] at m1 m2 s00 s10 s01 s11 u01 u11 b00 b10 b01 b11 hat j3 r3 ry
  have m2' := m2
  rw [e0] at m1 m2 m2'
  rw [u01, u11, ← s01, ← s11] at m2'
  refine ⟨a, c, t1, t2, ⟨j.okb, j1.okb, hB2, j.closed w hRC, j1.closed w hRC, fun m hm => j.has m ((w.mem m).1 (hRC m hm)).1, fun m hm => j1.has m ((w.mem m).1 (hRC m hm)).1, hn2, hnR, by omega, by omega, by rw [e0]; exact n2, by rw [e2, e0], by rw [e0]; exact m1, by rw [e0]; exact m2', ?_, ?_, ?_, ?_, ha, hc, by rw [e0]; exact hcl2.1, by rw [e0]; exact hcl2.2, fun m hm hmR e => ?_⟩, by rw [e0]; exact m1, by rw [e0]; exact m2, j3, r3⟩
  · rw [e0, s00]; exact b00
  · rw [e0, s10]; exact b10
  · rw [e0, s01]; exact b01
  · rw [e0, s11]; exact b11
  · simp only [List.mem_cons, not_or] at hmR
    have h1 := hB2.setNd_ne hn2 hm hmR.1 ⟨(Y : Int), a, c⟩
    exact hmR.1 (j3.okb.one m n hm hn2 hmR.2 hnR (by rw [h1, e, hat]))

section
variable {w w' : World} {b : Nat} {F : Nat → Prop} {t t1 t2 : MS} {R : List Int}

end

end Go.Proofs.YtclkckinpjkglaaDoor

/-
  Walks of the code's store: Swap.
-/
namespace Go.Proofs.YtclkckinpjkglaaDoor
open Go Go.RowKit

theorem chain_orderC (W : World) (g : Nat) (p0 p1 p2 p3 p4 p5 p6 p7 : Value) : (((((((W.setCell ⟨g, 1, none⟩ p0).setCell ⟨g, 2, none⟩ p1).setCell ⟨g, 3, none⟩ p2).setCell ⟨g, 4, none⟩ p3).setCell ⟨g, 5, none⟩ p4).setCell ⟨g, 6, none⟩ p5).setCell ⟨g, 7, none⟩ p6).setCell ⟨g, 8, none⟩ p7 = W.setCells g 1 [p0, p1, p2, p3, p4, p5, p6, p7] := rfl

section
variable {w w' : World} {b : Nat} {F : Nat → Prop} {s : MS}

end

end Go.Proofs.YtclkckinpjkglaaDoor

/-
  Walks of the code's store: New.
-/
namespace Go.Proofs.YtclkckinpjkglaaDoor
open Go Go.RowKit

/-- The row of a store that is being made. -/
def rowN (most : Int) (p : Nat → Int) (bA : Nat) (q : Nat → Value) : Obj :=
  .cells #[.int .i64 most, .int .i64 (p 0), .int .i64 (p 1), .int .i64 (p 2), .int .i64 (p 3), .int .i64 (p 4), .int .i64 (p 5), .int .i64 (p 6), .int .i64 (p 7), pv bA, q 0, q 1, q 2, q 3, q 4, q 5, q 6, q 7, .slice none 0 0] 48 (0, 0)

section
variable {w : World} {b bA : Nat} {most : Int} {p : Nat → Int} {q : Nat → Value}

theorem rowN_cells (h : w.heap[b]? = some (rowN most p bA q)) (k : Nat) (hk : k < 8) : w.cell? ⟨b, 1 + k, none⟩ = some (.int .i64 (p k)) ∧ w.cell? ⟨b, 10 + k, none⟩ = some (q k) := by
  rw [cell_of_row _ _ _ _ _ _ h, cell_of_row _ _ _ _ _ _ h]
  rcases (by omega : k = 0 ∨ k = 1 ∨ k = 2 ∨ k = 3 ∨ k = 4 ∨ k = 5 ∨ k = 6 ∨ k = 7) with rfl | rfl | rfl | rfl | rfl | rfl | rfl | rfl <;> exact ⟨rfl, rfl⟩
theorem rowN_p (h : w.heap[b]? = some (rowN most p bA q)) (k : Nat) (hk : k < 8) (x : Int) : (w.setCell ⟨b, 1 + k, none⟩ (.int .i64 x)).heap[b]? = some (rowN most (upd p k x) bA q) := by
  rw [heap_setCell_same w b (1 + k) _ _ (.int .i64 x) h]
  rcases (by omega : k = 0 ∨ k = 1 ∨ k = 2 ∨ k = 3 ∨ k = 4 ∨ k = 5 ∨ k = 6 ∨ k = 7) with rfl | rfl | rfl | rfl | rfl | rfl | rfl | rfl <;> rfl
theorem rowN_q (h : w.heap[b]? = some (rowN most p bA q)) (k : Nat) (hk : k < 8) (x : Value) : (w.setCell ⟨b, 10 + k, none⟩ x).heap[b]? = some (rowN most p bA (upd q k x)) := by
  rw [heap_setCell_same w b (10 + k) _ _ x h]
  rcases (by omega : k = 0 ∨ k = 1 ∨ k = 2 ∨ k = 3 ∨ k = 4 ∨ k = 5 ∨ k = 6 ∨ k = 7) with rfl | rfl | rfl | rfl | rfl | rfl | rfl | rfl <;> rfl

/-- A store that is being made: k of its tables are there. -/
structure NewR (w0 : World) (most : Nat) (k b bA : Nat) (FA : Nat → Prop) (p : Nat → Int) (q : Nat → Value) (bT : Nat → Nat) (FT : Nat → Nat → Prop) (w : World) : Prop where
  row : w.heap[b]? = some (rowN (most : Int) p bA q)
  ar : ArenaAt w bA FA ⟨most, 0, [], []⟩
  p1 : ∀ i, i < k → p i = (i : Int)
  q1 : ∀ i, i < k → q i = pv (bT i)
  q2 : ∀ i, k ≤ i → i < 8 → q i = .pointer none
  tab : ∀ i, i < k → UniqAt w (bT i) (FT i) ⟨[], 8⟩
  lowb : w0.heap.size ≤ b
  lowA : ∀ j, FA j → w0.heap.size ≤ j ∧ j ≠ b
  lowT : ∀ i, i < k → ∀ j, FT i j → w0.heap.size ≤ j ∧ j ≠ b ∧ ¬ FA j
  apart : ∀ i, i < k → ∀ l, l < k → i ≠ l → ∀ j, FT i j → ¬ FT l j
  below : Below w0.heap.size w0 w

theorem NewR.keep {w0 w' : World} {most k : Nat} {FA : Nat → Prop} {bT : Nat → Nat} {FT : Nat → Nat → Prop} (h : NewR w0 most k b bA FA p q bT FT w) (hb : Below w.heap.size w w') : NewR w0 most k b bA FA p q bT FT w' :=
  ⟨(hb.block b (row_lt h.row)).trans h.row, h.ar.below hb, h.p1, h.q1, h.q2, fun i hi => (h.tab i hi).below hb, h.lowb, h.lowA, h.lowT, h.apart, h.below.trans (hb.mono h.below.size)⟩
/-- A variable's place in the order. -/
theorem NewR.setP {w0 : World} {most k : Nat} {FA : Nat → Prop} {bT : Nat → Nat} {FT : Nat → Nat → Prop} (h : NewR w0 most k b bA FA p q bT FT w) (hk : k < 8) : NewR w0 most k b bA FA (upd p k (k : Int)) q bT FT (w.setCell ⟨b, 1 + k, none⟩ (.int .i64 (k : Int))) := by
  have hK := Keeps.of_setCell (fun j => j = b) w ⟨b, 1 + k, none⟩ (.int .i64 (k : Int)) rfl
  refine ⟨rowN_p h.row k hk _, h.ar.keep hK fun j hj e => (h.lowA j hj).2 e, fun i hi => ?_, h.q1, h.q2, fun i hi => (h.tab i hi).keep hK fun j hj e => (h.lowT i hi j hj).2.1 e, h.lowb, h.lowA, h.lowT, h.apart, h.below.trans (hK.below h.below.size fun j e => e ▸ h.lowb)⟩
  rw [upd_other _ _ _ (by omega)]
  exact h.p1 i hi
/-- Its table. -/
theorem NewR.setQ {w0 w' : World} {most k bN : Nat} {FA F' : Nat → Prop} {bT : Nat → Nat} {FT : Nat → Nat → Prop} (h : NewR w0 most k b bA FA p q bT FT w) (hk : k < 8) (hp : p k = (k : Int)) (hU : UniqAt w' bN F' ⟨[], 8⟩) (hF : ∀ j, F' j → w.heap.size ≤ j) (hb : Below w.heap.size w w') :
    NewR w0 most (k + 1) b bA FA p (upd q k (pv bN)) (upd bT k bN) (upd FT k F') (w'.setCell ⟨b, 10 + k, none⟩ (pv bN)) := by
  have h' := h.keep hb
  have hK := Keeps.of_setCell (fun j => j = b) w' ⟨b, 10 + k, none⟩ (pv bN) rfl
  have hlb := row_lt h.row
  refine ⟨rowN_q h'.row k hk _, h'.ar.keep hK fun j hj e => (h.lowA j hj).2 e, fun i hi => ?_, fun i hi => ?_, fun i h1 h2 => ?_, fun i hi => ?_, h.lowb, h.lowA, fun i hi j hj => ?_, fun i hi l hl hne j hj hj2 => ?_, h'.below.trans (hK.below h'.below.size fun j e => e ▸ h.lowb)⟩
  · by_cases e : i = k
    · subst e; exact hp
    · exact h.p1 i (by omega)
  · by_cases e : i = k
    · subst e; rw [upd_same, upd_same]
    · rw [upd_other _ _ _ e, upd_other _ _ _ e]; exact h.q1 i (by omega)
  · rw [upd_other _ _ _ (by omega)]; exact h.q2 i (by omega) h2
  · by_cases e : i = k
    · subst e; rw [upd_same, upd_same]; exact hU.keep hK fun j hj e => by have := hF j hj; omega
    · rw [upd_other _ _ _ e, upd_other _ _ _ e]; exact (h'.tab i (by omega)).keep hK fun j hj e => (h.lowT i (by omega) j hj).2.1 e
  · by_cases e : i = k
    · subst e
      rw [upd_same] at hj
      have := hF j hj
      exact ⟨Nat.le_trans h.below.size this, by omega, fun e => by have := h.ar.lt j e; omega⟩
    · rw [upd_other _ _ _ e] at hj; exact h.lowT i (by omega) j hj
  · by_cases e : i = k
    · subst e
      rw [upd_same] at hj
      rw [upd_other _ _ _ (Ne.symm hne)] at hj2
      have := hF j hj
      have := (h.tab l (by omega)).lt j hj2
      omega
    · rw [upd_other _ _ _ e] at hj
      by_cases e2 : l = k
      · subst e2
        rw [upd_same] at hj2
        have := hF j hj2
        have := (h.tab i (by omega)).lt j hj
        omega
      · rw [upd_other _ _ _ e2] at hj2
        exact h.apart i (by omega) l (by omega) hne j hj hj2
/-- All of them are. -/
theorem NewR.done {w0 : World} {most : Nat} {FA : Nat → Prop} {bT : Nat → Nat} {FT : Nat → Nat → Prop} (h : NewR w0 most 8 b bA FA p q bT FT w) : ∃ F, CoAt w b F (MS.none most) [] (MS.none most).refs ∧ ∀ k, F k → w0.heap.size ≤ k := by
  refine ⟨_, ⟨bA, FA, bT, FT, .slice none 0 0, [], fun _ => ⟨[], 8⟩, rfl, ⟨?_, h.ar, h.tab, Owns.nil _ _, (fun e => by cases e), fun k hk => ⟨(h.lowA k hk).2, fun e => by cases e⟩, fun i hi k hk => ⟨(h.lowT i hi k hk).2.1, (fun e => by cases e), (h.lowT i hi k hk).2.2⟩, h.apart⟩, ⟨rfl, fun i hi => (by cases hi), fun i hi => (by cases hi), fun _ _ => TS.Ok.new, fun _ _ => by decide, fun v hv e => ?_⟩⟩, ?_⟩
  · rw [h.row]
    simp only [rowN, rowC, h.p1 0 (by decide), h.p1 1 (by decide), h.p1 2 (by decide), h.p1 3 (by decide), h.p1 4 (by decide), h.p1 5 (by decide), h.p1 6 (by decide), h.p1 7 (by decide), h.q1 0 (by decide), h.q1 1 (by decide), h.q1 2 (by decide), h.q1 3 (by decide), h.q1 4 (by decide), h.q1 5 (by decide), h.q1 6 (by decide), h.q1 7 (by decide)]
    rfl
  · constructor
    · intro h1; cases h1
    · rintro ⟨h1, _⟩
      simp [MS.has, MS.none] at h1
  · rintro k (rfl | e | e | ⟨i, hi, e⟩)
    · exact h.lowb
    · cases e
    · exact (h.lowA k e).1
    · exact (h.lowT i hi k e).1
end

set_option maxRecDepth 100000 in
set_option maxHeartbeats 1000000 in
theorem coNo (most : Int) (w : World) (h : most < 0 ∨ 20000 < most) : Calls Tryd.prog 5 #[.int .i64 most] w fun e w' => e = .returned (.pointer none) ∧ Below w.heap.size w w' := by
  have H := arenaNo most w h
  go_enter Tryd.func5, Tryd.ntmps5
  go_wp2_with fail
  refine H.mono ?_
  rintro e w1 ⟨rfl, rfl⟩
  clear H
  go_wp2
  go_ret
  exact ⟨rfl, Below.refl _ _⟩

set_option maxRecDepth 100000 in
set_option maxHeartbeats 2000000 in
theorem coNew (most : Int) (w : World) (h0 : 0 ≤ most) (h1 : most ≤ 20000) : Calls Tryd.prog 5 #[.int .i64 most] w fun e w' => ∃ b, e = .returned (.pointer (some ⟨b, 0, none⟩)) ∧ (∃ F, CoAt w' b F (MS.none most.toNat) [] (MS.none most.toNat).refs ∧ ∀ k, F k → w.heap.size ≤ k) ∧ Below w.heap.size w w' := by
  obtain ⟨M, rfl⟩ := Int.eq_ofNat_of_zero_le h0
  rw [Int.toNat_natCast]
  have H := arenaNewS (M : Int) w h0 h1
  rw [Int.toNat_natCast] at H
  go_enter Tryd.func5, Tryd.ntmps5
  go_wp2_with fail
  refine H.mono ?_
  rintro e w1 ⟨rfl, ⟨FA, hA, hFA⟩, hb1⟩
  clear H
  go_wp2
  have hS : NewR w M 0 w1.heap.size w.heap.size FA (fun _ => 0) (fun _ => .pointer none) (fun _ => 0) (fun _ _ => False) (w1.alloc (rowN (M : Int) (fun _ => 0) w.heap.size (fun _ => .pointer none))) :=
    ⟨heap_alloc_new _ _, hA.below ((Below.refl _ _).alloc (Nat.le_refl _) _), fun i hi => (by omega), fun i hi => (by omega), fun _ _ _ => rfl, fun i hi => (by omega), hb1.size, fun j hj => ⟨hFA j hj, by have := hA.lt j hj; omega⟩, fun i hi => (by omega), fun i hi => (by omega), hb1.alloc hb1.size _⟩
  unfold rowN at hS
  generalize w1.alloc (.cells #[.int .i64 (M : Int), .int .i64 0, .int .i64 0, .int .i64 0, .int .i64 0, .int .i64 0, .int .i64 0, .int .i64 0, .int .i64 0, pv w.heap.size, .pointer none, .pointer none, .pointer none, .pointer none, .pointer none, .pointer none, .pointer none, .pointer none, .slice none 0 0] 48 (0, 0)) = W0 at *
  generalize w1.heap.size = b at *
  clear hA hFA hb1
  go_loopw [14] (fun i wr => ∃ (k : Nat) (p : Nat → Int) (q : Nat → Value) (bT : Nat → Nat) (FT : Nat → Nat → Prop), k ≤ 8 ∧ i = .int .i64 k ∧ NewR w M k b w.heap.size FA p q bT FT wr) (fun i _ => 8 - (intOf i).toNat)
  case atStart => exact ⟨0, _, _, _, _, by omega, rfl, hS⟩
  case round =>
    clear hS
    obtain ⟨k, p, q, bT, FT, hk, rfl, hR⟩ := hrel
    by_cases hlt : k < 8
    · have hk8 : (k : Int) < 8 := by omega
      have c1 := (rowN_cells hR.row k hlt).1
      have z1 : wr.frozen? ⟨b, 1 + k, none⟩ = false := frozen_of_row _ _ _ _ _ hR.row
      have hR1 := Lib.hid (hR.setP hlt)
      clear hR
      go_wp2
      generalize wr.setCell ⟨b, 1 + k, none⟩ (.int .i64 (k : Int)) = W1 at *
      clear c1 z1
      have hR2 := hR1.out.keep (Below.refl _ _).drew
      have hq := hR2.q2 k (Nat.le_refl _) hlt
      have c0 := (rowN_cells hR2.row k hlt).2
      rw [hq] at c0
      have z0 : W1.drew.frozen? ⟨b, 10 + k, none⟩ = false := frozen_of_row _ _ _ _ _ hR2.row
      replace hq := Lib.hid hq
      replace hR2 := Lib.hid hR2
      clear hR1
      go_region_held3 (fun _ => True) (first | trivial)
        (first
          | (go_at_call 19; refine (uniqNewS _).mono ?_; rintro e W3 ⟨rfl, ⟨F', hU, hF'⟩, hb3⟩; have hR3 := hR2.out.keep hb3; have c2 := (rowN_cells hR3.row k hlt).2; rw [hq.out] at c2; have z2 : W3.frozen? ⟨b, 10 + k, none⟩ = false := frozen_of_row _ _ _ _ _ hR3.row; have hR4 := Lib.hid (hR2.out.setQ hlt (upd_same _ _ _) hU hF' hb3); clear hR3 hU hF' hb3))
      go_wp2
      exact ⟨⟨k + 1, _, _, _, _, by omega, by go_num, hR4.out⟩, by simp [intOf]; omega⟩
    · obtain rfl : k = 8 := by omega
      obtain ⟨F, hC, hF⟩ := hR.done
      have hb := hR.below
      clear hR
      go_wp2
      go_ret
      exact ⟨b, rfl, ⟨F, hC, hF⟩, hb⟩

end Go.Proofs.YtclkckinpjkglaaDoor
