/-
  Walks of the code's store: obtain, Mk.
-/
import Derived.Test.YtbnjbnjhpccomaaCoX
namespace Go.Proofs.Ytbnjbnjhpccomaa
open Go Go.RowKit

section
variable {w w' : World} {b bA : Nat} {FA F : Nat → Prop} {bT : Nat → Nat} {FT : Nat → Nat → Prop} {v v' : Value} {o : Nat → Int} {ar : AS} {X X' : List (Nd × Int)} {tabs : Nat → TS} {s : MS} {R : List Int} {f : Int → Int}

theorem appendX {ops : Array Oper} {rest : List Oper} {o : Oper} {a : Act} {w : World} {Q : Exit → Act → World → Prop} (hgd : o.guard = none) (s x : Operand)
    (ho : o.op = .call { callee := .builtin .append, args := #[s, x], argTypes := #[60, 60] })
    (v y : Value) (l k : List (Nd × Int)) (hs : a.eval s = v) (hown : Owns encX w v l) (hx : a.eval x = y) (hsrc : Reads encX w y k) (hn : l.length + k.length ≤ 1000000)
    (h : ∀ v' w', Owns encX w' v' (l ++ k) → w.grownBy w' v.ownBlock → (v'.ownBlock = v.ownBlock ∨ v'.ownBlock = some w.heap.size) → wpList Try.prog ops Q rest (a.put o.dst v') w') : wpList Try.prog ops Q (o :: rest) a w :=
  wpList_append_owns encX hgd s x ho v y l k hs hown hx hsrc hn h
theorem oneX (w : World) (b : Nat) (hb : b = w.heap.size := by rfl) : Reads encX (w.alloc (.cells #[.int .i64 0, .int .i64 0, .int .i64 0, .int .i64 0] 74)) (.slice (some ⟨b, 0, none⟩) 1 1) [(⟨0, 0, 0⟩, 0)] := Reads.one encX w _ _ rfl b hb

/-- The places have grown, and are stored anew. -/
theorem CoR.grown (h : CoR w b bA FA bT FT v o ar X tabs) (hO : Owns encX w' v' X') (hg : w.grownBy w' v.ownBlock) (hat : v'.ownBlock = v.ownBlock ∨ v'.ownBlock = some w.heap.size) :
    CoR (w'.setCell ⟨b, 18, none⟩ v') b bA FA bT FT v' o ar X' tabs ∧ Keeps (footC b FA FT v) w (w'.setCell ⟨b, 18, none⟩ v') ∧ Within w (footC b FA FT v) (footC b FA FT v') := by
  have hK1 : Keeps (fun k => v.ownBlock = some k) w w' := Keeps.of_grown hg fun k hk => hk
  have hK2 := Keeps.of_setCell (fun k => k = b) w' ⟨b, 18, none⟩ v' rfl
  have hlb := row_lt h.row
  have hown : ∀ k, v'.ownBlock = some k → v.ownBlock = some k ∨ w.heap.size ≤ k := fun k hk => hat.imp (fun e => e.symm.trans hk) (fun e => by rw [e] at hk; injection hk with hk; omega)
  have hb : v'.ownBlock ≠ some b := fun e => (hown b e).elim h.apart1 (fun h => by omega)
  have hrow : w'.heap[b]? = some (rowC ar.most o bA bT v) := (hK1.block b hlb h.apart1).trans h.row
  refine ⟨⟨(heap_setCell_same w' b 18 _ _ v' hrow).trans rfl, ?_, fun i hi => ?_, hO.keep hK2 fun g hg e => hb (e ▸ hg), hb, fun k hk => ⟨(h.apart2 k hk).1, fun e => ?_⟩, fun i hi k hk => ⟨(h.apart3 i hi k hk).1, fun e => ?_, (h.apart3 i hi k hk).2.2⟩, h.apart4⟩, ?_, ?_⟩
  · exact (h.ar.keep hK1 fun k hk => (h.apart2 k hk).2).keep hK2 fun k hk e => (h.apart2 k hk).1 e
  · exact ((h.tab i hi).keep hK1 fun k hk => (h.apart3 i hi k hk).2.1).keep hK2 fun k hk e => (h.apart3 i hi k hk).1 e
  · exact (hown k e).elim (h.apart2 k hk).2 (fun h1 => by have := h.ar.lt k hk; omega)
  · exact (hown k e).elim (h.apart3 i hi k hk).2.1 (fun h1 => by have := (h.tab i hi).lt k hk; omega)
  · exact (hK1.mono fun k hk => .inr (.inl hk)).and (hK2.mono fun k hk => .inl hk)
  · rintro k (e | e | e | e)
    · exact .inl (.inl e)
    · exact (hown k e).imp (fun h => .inr (.inl h)) id
    · exact .inl (.inr (.inr (.inl e)))
    · exact .inl (.inr (.inr (.inr e)))

theorem CoR.grownRow (h : CoR w b bA FA bT FT v o ar X tabs) (hg : w.grownBy w' v.ownBlock) : w'.heap[b]? = some (rowC ar.most o bA bT v) :=
  ((Keeps.of_grown (F := fun k => v.ownBlock = some k) hg fun _ hk => hk).block b (row_lt h.row) h.apart1).trans h.row

theorem MS.Base.takeS (h : s.Base) (hf : s.ar.T.length ≠ s.ar.most) (x : Nd) : (s.takeS x).Base := by
  obtain ⟨h0, _, _, h3⟩ := h.took hf
  refine ⟨h.ar.take, ?_⟩
  unfold MS.takeS
  rcases h3 with ⟨e, e2⟩ | ⟨e, e2⟩
  · simp [e, e2]
  · have e3 : ¬ s.ar.takeN = s.N.length := by omega
    simp [e3, e2]

set_option maxRecDepth 100000 in
set_option maxHeartbeats 4000000 in
theorem coObtain (h : CoAt w b F s R s.refs) (ok : s.Okb R) (cl : s.Closed) (hR : ∀ n ∈ R, s.has n = true) (vn : Nat) (hv : vn < 8) (lo hi : Int) (blo : s.behind lo (vn : Int) = true) (bhi : s.behind hi (vn : Int) = true) :
    Calls Try.prog 41 #[pv b, .int .i64 (vn : Int), .int .i64 lo, .int .i64 hi] w fun e w' => e = .returned (.tuple #[.int .i64 (s.mk (vn : Int) lo hi R).1, errV (s.mk (vn : Int) lo hi R).2.1]) ∧ ∃ F', CoAt w' b F' (s.mk (vn : Int) lo hi R).2.2 R (s.mk (vn : Int) lo hi R).2.2.refs ∧ Keeps F w w' ∧ Within w F F' := by
  have okb := ok.toBase
  have hfew := okb.few
  generalize hr : s.mk (vn : Int) lo hi R = r
  unfold MS.mk at hr
  rw [if_neg (show ¬ ((vn : Int) < 0 ∨ 7 < (vn : Int) ∨ s.behind lo (vn : Int) = false ∨ s.behind hi (vn : Int) = false) by rw [blo, bhi]; simp; omega)] at hr
  have hv8 : (vn : Int) < 8 := by omega
  go_enter Try.func41, Try.ntmps41
  by_cases hlh : lo = hi
  · rw [if_pos hlh] at hr
    subst hr
    have hb : (lo == hi) = true := by rw [beq_iff_eq]; exact hlh
    replace hlh := Lib.hid hlh
    go_wp2
    go_ret2
    exact ⟨rfl, F, h, Keeps.refl _ _, Within.refl _ _⟩
  rw [if_neg hlh] at hr
  have hb : (lo == hi) = false := by rw [beq_eq_false_iff_ne]; exact hlh
  obtain ⟨bA, FA, bT, FT, v, X, tabs, rfl, hC, c⟩ := h
  have ct := hC.table vn hv
  have tsl := c.slots vn hv
  have HG := uniqGetS (hC.tab vn hv) (c.ok vn hv) (by omega) lo hi
  rcases c.get ok hv lo hi with ⟨n, hf, hg⟩ | ⟨hf, hg⟩
  · rw [hf] at hr
    dsimp only at hr
    subst hr
    rw [hg] at HG
    dsimp only at HG
    have H0 := Lib.hid hC
    have hcc := Lib.hid c
    clear hC hlh hf c ct hg
    have ct := H0.out.table vn hv
    go_wp2_with fail
    refine HG.mono ?_
    rintro e w1 ⟨rfl, hb1⟩
    clear HG ct
    go_wp2
    go_ret2
    exact ⟨rfl, _, ⟨bA, FA, bT, FT, v, X, tabs, rfl, H0.out.below hb1, hcc.out⟩, Keeps.of_below hb1 _, Within.refl _ _⟩
  · rw [hf] at hr
    dsimp only at hr
    rw [hg] at HG
    dsimp only at HG
    clear hg
    replace hlh := Lib.hid hlh
    replace hf := Lib.hid hf
    by_cases hfull : s.ar.T.length = s.ar.most
    · have e2 := (AS.Ok.take_full hfull).2.1
      obtain ⟨e1, _, e3⟩ := AS.Ok.take_full hfull
      rw [e2, if_pos (by decide)] at hr
      subst hr
      have H0 := Lib.hid hC
      have hcc := Lib.hid c
      clear hC c ct hfull
      have ct := H0.out.table vn hv
      go_wp2_with fail
      refine HG.mono ?_
      rintro e w1 ⟨rfl, hb1⟩
      clear HG ct
      have hC1 := H0.out.below hb1
      have c9 := hC1.cell.2.1
      have HT := arenaTakeS hC1.ar okb.ar
      rw [e1, e2, e3] at HT
      replace hC1 := Lib.hid hC1
      unfold errV at HT
      simp only [show ¬ (2 : Int) = 0 by decide, if_false] at HT
      clear H0
      go_wp2_with fail
      refine HT.mono ?_
      rintro e w2 ⟨rfl, FA', hA, hK, hW⟩
      clear HT c9
      obtain ⟨hC2, hK2, hW2⟩ := hC1.out.setAr hA rfl hK hW
      clear hA hK hW hC1
      replace hC2 := Lib.hid hC2
      go_wp2
      go_ret2
      exact ⟨rfl, _, ⟨bA, FA', bT, FT, v, X, tabs, rfl, hC2.out, hcc.out⟩, (Keeps.of_below hb1 _).and hK2, fun k hk => (hW2 k hk).imp id (fun h => Nat.le_trans hb1.size h)⟩
    · have e2 : s.ar.takeE = 0 := by simp [AS.takeE, hfull]
      rw [e2, if_neg (by decide)] at hr
      subst hr
      obtain ⟨t0, t1, t2, t3⟩ := okb.took hfull
      have hmost : s.ar.take.most = s.ar.most := by
        rcases last_or_nil s.ar.B with hb | ⟨l, n, hb⟩
        · rw [(AS.Ok.take_new hfull hb).2.2]
        · rw [(AS.Ok.take_again hfull hb).2.2]
      have hlX := c.len
      have hnew : s.has (s.ar.takeN + 2) = false := Bool.eq_false_iff.2 fun e => by
        have := (okb.range e).2.2
        rw [show s.ar.takeN + 2 - 2 = s.ar.takeN by omega] at this
        exact t1 this
      have hnR : s.ar.takeN + 2 ∉ R := fun e => by rw [hR _ e] at hnew; cases hnew
      obtain ⟨z, hcz⟩ := c.take okb hfull (fun e => okb.refs_new cl (by omega))
      have okt := okb.takeS hfull z
      have hthas := (okb.takeS_has hfull z (s.ar.takeN + 2)).2 (.inr rfl)
      have hmono : ∀ n, s.has n = true → (s.takeS z).has n = true := fun n hn => (okb.takeS_has hfull z n).2 (.inl hn)
      have htlo := MS.there_mono hmono (MS.behind_there blo)
      have hthi := MS.there_mono hmono (MS.behind_there bhi)
      have hone : ∀ m, (s.takeS z).has m = true → m ∉ (s.ar.takeN + 2) :: R → (s.takeS z).nd m ≠ ⟨(vn : Int), lo, hi⟩ := fun m hm hmR => by
        simp only [List.mem_cons, not_or] at hmR
        have h1 := ((okb.takeS_has hfull z m).1 hm).resolve_right hmR.1
        rw [okb.takeS_old hfull z h1]
        exact MS.find_none okb hf.out h1 hmR.2
      have hbnd : ∀ m, -100000 ≤ s.refs m ∧ s.refs m ≤ 100000 := fun m => by
        have := s.refs_nonneg m; have := okb.refs_le m; omega
      have hset := MS.takeS_setNd (s := s) (z := z) (x := ⟨(vn : Int), lo, hi⟩) okb hfull
      have hrefs := okb.refs_takeS hfull ⟨(vn : Int), lo, hi⟩
      have HL := fun {w b F} (h : CoAt w b F (s.takeS z) ((s.ar.takeN + 2) :: R) s.refs) => coLay h okt hthas hnR ⟨(vn : Int), lo, hi⟩ (by constructor <;> dsimp only <;> omega) htlo hthi hone hbnd
      unfold nv at HL
      dsimp only at HL
      have H0 := Lib.hid hC
      have har := okb.ar
      clear hC c ct hone hmono htlo hthi t1 t2 okt hthas hbnd hnew hnR
      have ct := H0.out.table vn hv
      go_wp2_with fail
      refine HG.mono ?_
      rintro e w1 ⟨rfl, hb1⟩
      clear HG ct
      have hC1 := H0.out.below hb1
      have c9 := hC1.cell.2.1
      have HT := arenaTakeS hC1.ar har
      rw [e2] at HT
      replace hC1 := Lib.hid hC1
      unfold errV at HT
      simp only [if_true] at HT
      have hTr : s.ar.takeN + 2 ≤ 20002 := by rcases t3 with ⟨h, _⟩ | ⟨h, _⟩ <;> omega
      generalize hTN : s.ar.takeN = N at *
      clear H0
      replace hTN := Lib.hid hTN
      go_wp2_with fail
      refine HT.mono ?_
      rintro e w2 ⟨rfl, FA', hA, hK, hW⟩
      clear HT c9
      obtain ⟨hC2, hK2, hW2⟩ := hC1.out.setAr hA hmost hK hW
      clear hA hK hW hC1
      have hKw := (Keeps.of_below hb1 _).and hK2
      have hWw : Within w (footC b FA FT v) (footC b FA' FT v) := fun k hk => (hW2 k hk).imp id (fun h => Nat.le_trans hb1.size h)
      clear hK2 hW2 hb1
      obtain ⟨a, cp, e5⟩ := hC2.form
      rw [hlX] at e5
      subst e5
      have c18 := hC2.cell.2.2
      by_cases hnl : N = (s.N.length : Int)
      · rw [if_pos hnl] at hcz
        have hnb : (N == (s.N.length : Int)) = true := by rw [beq_iff_eq]; exact hnl
        replace hnl := Lib.hid hnl
        have hbA : Below w2.heap.size w2 (w2.alloc (.cells #[.int .i64 0, .int .i64 0, .int .i64 0, .int .i64 0] 74)) := by go_grown
        have hsrc := oneX w2 w2.heap.size rfl
        have c18' := c18
        replace hC2 := hC2.below hbA
        have hKw2 := hKw.and (Keeps.of_below hbA _)
        have hsz := hKw2.size
        clear hKw hbA
        have c18 := hC2.cell.2.2
        have hX0 := hC2.places
        have hln : X.length + [((⟨0, 0, 0⟩, 0) : Nd × Int)].length ≤ 1000000 := by simp; omega
        replace hC2 := Lib.hid hC2
        have hL1 : (X ++ [((⟨0, 0, 0⟩, 0) : Nd × Int)]).length = s.N.length + 1 := by simp [hlX]
        go_wp2_with (at_builtin; refine appendX rfl (.tmp 55) (.tmp 57) rfl _ _ X [(⟨0, 0, 0⟩, 0)] rfl hX0 rfl hsrc hln ?_; intro v' w3 hown3 hgr hat; have hrow3 := hC2.out.grownRow hgr; obtain ⟨g4, c4, e4, _, _⟩ := hown3.some (by simp); rw [hL1] at e4; subst e4; have c18n : w3.cell? ⟨b, 18, none⟩ = some (.slice a s.N.length cp) := (by rw [cell_of_row _ _ _ _ _ _ hrow3]; rfl); have z18 : w3.frozen? ⟨b, 18, none⟩ = false := frozen_of_row _ _ _ _ _ hrow3; clear hrow3)
        obtain ⟨hC3, hK3, hW3⟩ := hC2.out.grown hown3 hgr hat
        have hKf := hKw2.trans hK3 hWw
        have hWf := hWw.trans hW3 hsz
        refine (HL ⟨bA, FA', bT, FT, _, _, tabs, rfl, hC3, hcz⟩).mono ?_
        rintro e w4 ⟨rfl, F4, hC4, hK4, hW4⟩
        rw [hset] at hC4
        have hWl := hWf.trans hW4 hKf.size
        have hKl := hKf.trans hK4 hWf
        clear hC3 hK3 hW3 hKf hWf hK4 hW4 hKw2 hcz HL hsrc hX0 hown3 hgr hat c18 c18' c18n z18 hC2
        go_wp2
        go_ret2
        exact ⟨by rw [← hTN.out]; rfl, F4, hC4.congr fun m => (hrefs m).symm, hKl, hWl⟩
      · rw [if_neg hnl] at hcz
        have hnb : (N == (s.N.length : Int)) = false := by rw [beq_eq_false_iff_ne]; exact hnl
        replace hnl := Lib.hid hnl
        have hHL := HL ⟨bA, FA', bT, FT, _, _, tabs, rfl, hC2, hcz⟩
        clear hC2 HL hcz
        go_wp2_with fail
        refine hHL.mono ?_
        rintro e w4 ⟨rfl, F4, hC4, hK4, hW4⟩
        rw [hset] at hC4
        have hWl := hWw.trans hW4 hKw.size
        have hKl := hKw.trans hK4 hWw
        clear hK4 hW4 hKw hWw hHL c18
        go_wp2
        go_ret2
        exact ⟨by rw [← hTN.out]; rfl, F4, hC4.congr fun m => (hrefs m).symm, hKl, hWl⟩

set_option maxRecDepth 100000 in
theorem coMust (h : CoAt w b F s R s.refs) (ok : s.Okb R) (cl : s.Closed) (hR : ∀ n ∈ R, s.has n = true) (vn : Nat) (hv : vn < 8) (lo hi : Int) (blo : s.behind lo (vn : Int) = true) (bhi : s.behind hi (vn : Int) = true) :
    Calls Try.prog 57 #[pv b, .int .i64 (vn : Int), .int .i64 lo, .int .i64 hi] w fun e w' => e = .returned (.int .i64 (s.mk (vn : Int) lo hi R).1) ∧ ∃ F', CoAt w' b F' (s.mk (vn : Int) lo hi R).2.2 R (s.mk (vn : Int) lo hi R).2.2.refs ∧ Keeps F w w' ∧ Within w F F' := by
  have HO := coObtain h ok cl hR vn hv lo hi blo bhi
  generalize s.mk (vn : Int) lo hi R = r at *
  clear h
  go_enter Try.func57, Try.ntmps57
  go_wp2_with fail
  refine HO.mono ?_
  rintro e w1 ⟨rfl, F1, hC, hK, hW⟩
  clear HO
  go_wp2
  go_ret
  exact ⟨rfl, F1, hC, hK, hW⟩

set_option maxRecDepth 100000 in
set_option maxHeartbeats 1000000 in
theorem coMk (h : CoAt w b F s [] s.refs) (ok : s.Ok) (v lo hi : Int) (hlo : lo ≤ 9223372036854775807 ∧ -9223372036854775808 ≤ lo) (hhi : hi ≤ 9223372036854775807 ∧ -9223372036854775808 ≤ hi) :
    Calls Try.prog 19 #[pv b, .int .i64 v, .int .i64 lo, .int .i64 hi] w fun e w' => e = .returned (.tuple #[.int .i64 (s.mk v lo hi []).1, errV (s.mk v lo hi []).2.1]) ∧ ∃ F', CoAt w' b F' (s.mk v lo hi []).2.2 [] (s.mk v lo hi []).2.2.refs ∧ Keeps F w w' ∧ Within w F F' := by
  have okb := ok.toBase
  generalize hr : s.mk v lo hi [] = r
  have HL := permLevel s.o v w
  have HFl := fun W (hb : Below w.heap.size w W) => coFits (h.below hb) okb lo (levO s.o v) v hlo rfl
  have HFh := fun W (hb : Below w.heap.size w W) => coFits (h.below hb) okb hi (levO s.o v) v hhi rfl
  have hrg := levO_range s.o v
  have hvr : 0 ≤ levO s.o v ↔ 0 ≤ v ∧ v ≤ 7 := by
    constructor
    · intro h0
      rcases levO_cases s.o v with ⟨h1, _⟩ | ⟨j, h1, h2, h3, _⟩
      · omega
      · have := mayO_range ok.order h2; omega
    · rintro ⟨h0, h7⟩
      obtain ⟨n, rfl⟩ := Int.eq_ofNat_of_zero_le h0
      exact levO_nonneg.2 (mayO_iff.1 ok.order n (by omega))
  have hbad : (v < 0 ∨ 7 < v ∨ s.behind lo v = false ∨ s.behind hi v = false) → r = (0, 1, s) := fun hc => by
    rw [← hr]; unfold MS.mk; rw [if_pos hc]
  have HO := fun {w F} (h : CoAt w b F s [] s.refs) (vn : Nat) (hv : vn < 8) (blo : s.behind lo (vn : Int) = true) (bhi : s.behind hi (vn : Int) = true) => coObtain h (ok.okb []) ok.closed (fun _ h => by cases h) vn hv lo hi blo bhi
  have H0 := Lib.hid h
  obtain ⟨bA, FA, bT, FT, vv, X, tabs, rfl, hR, c⟩ := h
  obtain ⟨c1, c2, c3, c4, c5, c6, c7, c8⟩ := hR.order
  simp only [ov] at HL
  clear hR c
  go_enter Try.func19, Try.ntmps19
  by_cases hl : levO s.o v < 0
  · have hr1 := hbad (by have := mt hvr.2 (by omega); omega)
    subst hr1
    generalize levO s.o v = L at *
    clear HFl HFh HO hvr hbad
    go_wp2_with fail
    refine HL.mono ?_
    rintro e w1 ⟨rfl, hb1⟩
    clear HL c1 c2 c3 c4 c5 c6 c7 c8
    go_wp2
    go_ret2
    exact ⟨rfl, _, H0.out.below hb1, Keeps.of_below hb1 _, Within.refl _ _⟩
  · have hv8 := hvr.1 (by omega)
    obtain ⟨vn, rfl⟩ := Int.eq_ofNat_of_zero_le hv8.1
    cases blo : s.behind lo (vn : Int)
    · have hr1 := hbad (.inr (.inr (.inl blo)))
      subst hr1
      rw [blo] at HFl
      generalize levO s.o (vn : Int) = L at *
      clear HFh HO hvr hbad hv8 blo
      go_wp2_with fail
      refine HL.mono ?_
      rintro e w1 ⟨rfl, hb1⟩
      clear HL c1 c2 c3 c4 c5 c6 c7 c8
      go_wp2_with fail
      refine (HFl _ hb1).mono ?_
      rintro e w2 ⟨rfl, hb2⟩
      replace hb1 := hb1.trans (hb2.mono hb1.size)
      clear HFl hb2
      go_wp2
      go_ret2
      exact ⟨rfl, _, H0.out.below hb1, Keeps.of_below hb1 _, Within.refl _ _⟩
    · cases bhi : s.behind hi (vn : Int)
      · have hr1 := hbad (.inr (.inr (.inr bhi)))
        subst hr1
        rw [blo] at HFl
        rw [bhi] at HFh
        generalize levO s.o (vn : Int) = L at *
        clear HO hvr hbad hv8 blo bhi
        go_wp2_with fail
        refine HL.mono ?_
        rintro e w1 ⟨rfl, hb1⟩
        clear HL c1 c2 c3 c4 c5 c6 c7 c8
        go_wp2_with fail
        refine (HFl _ hb1).mono ?_
        rintro e w2 ⟨rfl, hb2⟩
        replace hb1 := hb1.trans (hb2.mono hb1.size)
        clear HFl hb2
        go_wp2_with fail
        refine (HFh _ hb1).mono ?_
        rintro e w2 ⟨rfl, hb2⟩
        replace hb1 := hb1.trans (hb2.mono hb1.size)
        clear HFh hb2
        go_wp2
        go_ret2
        exact ⟨rfl, _, H0.out.below hb1, Keeps.of_below hb1 _, Within.refl _ _⟩
      · rw [blo] at HFl
        rw [bhi] at HFh
        have HO1 := fun {w F} (h : CoAt w b F s [] s.refs) => HO h vn (by omega) blo bhi
        rw [hr] at HO1
        generalize levO s.o (vn : Int) = L at *
        clear HO hvr hbad hv8 blo bhi hr
        go_wp2_with fail
        refine HL.mono ?_
        rintro e w1 ⟨rfl, hb1⟩
        clear HL c1 c2 c3 c4 c5 c6 c7 c8
        go_wp2_with fail
        refine (HFl _ hb1).mono ?_
        rintro e w2 ⟨rfl, hb2⟩
        replace hb1 := hb1.trans (hb2.mono hb1.size)
        clear HFl hb2
        go_wp2_with fail
        refine (HFh _ hb1).mono ?_
        rintro e w2 ⟨rfl, hb2⟩
        replace hb1 := hb1.trans (hb2.mono hb1.size)
        clear HFh hb2
        go_wp2_with fail
        refine (HO1 (H0.out.below hb1)).mono ?_
        rintro e w3 ⟨rfl, F3, hC, hK, hW⟩
        clear HO1 H0
        go_wp2
        go_ret2
        exact ⟨rfl, F3, hC, (Keeps.of_below hb1 _).and hK, fun k hk => (hW k hk).imp id (fun h => Nat.le_trans hb1.size h)⟩
end

end Go.Proofs.Ytbnjbnjhpccomaa
