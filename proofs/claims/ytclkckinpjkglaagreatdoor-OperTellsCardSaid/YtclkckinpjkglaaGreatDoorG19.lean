/-
  Texts of this proof, one behind the other: IteA, OperC, SameM, OperW, QuantC, OneC.
-/
import Derived.Test.YtclkckinpjkglaaGreatDoorG18
import Derived.Test.YtclkckinpjkglaaGreatDoorG17
/-
  Walks of package ite: answer, Ite.
-/
namespace Go.Proofs.YtclkckinpjkglaaGreatDoor
open Go Go.RowKit

/-- A store, a cache and a variable that holds three numbers, on the way of one call. -/
structure PK (StAt : World → Nat → (Nat → Prop) → MS → Prop) (w0 : World) (b c : Nat) (F0 G0 : Nat → Prop) (B : Nat) (f g h : Int) (F G : Nat → Prop) (s : MS) (W : World) : Prop where
  a : StAt W b F s
  k : CacheAt W c G s
  ap : ∀ q, F q → ¬ G q
  keeps : Keeps (fun q => F0 q ∨ G0 q) w0 W
  wF : Within w0 (fun q => F0 q ∨ G0 q) F
  wG : Within w0 (fun q => F0 q ∨ G0 q) G
  box : HoldsK W B f g h
  nF : ¬ F B
  nG : ¬ G B

section
variable {StAt : World → Nat → (Nat → Prop) → MS → Prop} {w0 W W' : World} {b c B : Nat} {F0 G0 F G F' G' : Nat → Prop} {s t : MS} {f g h : Int}
theorem PK.below (H : StoreC StAt) (p : PK StAt w0 b c F0 G0 B f g h F G s W) (hb : Below W.heap.size W W') : PK StAt w0 b c F0 G0 B f g h F G s W' :=
  ⟨H.below p.a hb, p.k.below hb, p.ap, p.keeps.and (Keeps.of_below hb _), p.wF, p.wG, p.box.below hb, p.nF, p.nG⟩
theorem PK.sub (H : StoreC StAt) (p : PK StAt w0 b c F0 G0 B f g h F G s W) (u : Sub W) : PK StAt w0 b c F0 G0 B f g h F G s u.1 := p.below H u.2
theorem PK.call {r : Int × Int × MS} {e : Ending} (p : PK StAt w0 b c F0 G0 B f g h F G s W) (hp : CallPost StAt CacheAt W b c F G r e W') :
    e = .returned (.tuple #[.int .i64 r.1, errV r.2.1]) ∧ ∃ F' G', PK StAt w0 b c F0 G0 B f g h F' G' r.2.2 W' := by
  obtain ⟨he, F', G', hA, hC, hap, hK, hWA, hWC⟩ := hp
  have hU : Within w0 (fun q => F0 q ∨ G0 q) (fun q => F q ∨ G q) := fun q hq => hq.elim (p.wF q) (p.wG q)
  have hlt := p.box.lt
  have hn : ¬ (F B ∨ G B) := fun e => e.elim p.nF p.nG
  exact ⟨he, F', G', hA, hC, hap, p.keeps.trans hK hU, hU.trans hWA p.keeps.size, hU.trans hWC p.keeps.size, p.box.keep hK hn, fun e => (hWA B e).elim hn (fun h => by omega), fun e => (hWC B e).elim hn (fun h => by omega)⟩
theorem PK.store (p : PK StAt w0 b c F0 G0 B f g h F G s W) (gr : MS.Grows s t) (hA : StAt W' b F' t) (hK : Keeps F W W') (hW : Within W F F') : PK StAt w0 b c F0 G0 B f g h F' G t W' := by
  have hlt := p.box.lt
  exact ⟨hA, (p.k.keep hK fun q h1 h2 => p.ap q h2 h1).grows gr, fun q h1 h2 => (hW q h1).elim (fun h3 => p.ap q h3 h2) (fun h3 => by have := p.k.lt q h2; omega), p.keeps.trans (hK.mono (G := F) fun _ h => h) p.wF,
    p.wF.trans hW p.keeps.size, p.wG, p.box.keep hK p.nF, fun e => (hW B e).elim p.nF (fun h => by omega), p.nG⟩
theorem PK.cache (H : StoreC StAt) (p : PK StAt w0 b c F0 G0 B f g h F G s W) (hC : CacheAt W' c G s) (hK : Keeps G W W') : PK StAt w0 b c F0 G0 B f g h F G s W' :=
  ⟨H.keep p.a hK p.ap, hC, p.ap, p.keeps.trans hK p.wG, p.wF, p.wG, p.box.keep hK p.nG, p.nF, p.nG⟩
theorem PK.post {n e : Int} (p : PK StAt w0 b c F0 G0 B f g h F G s W) : CallPost StAt CacheAt w0 b c F0 G0 (n, e, s) (.returned (.tuple #[.int .i64 n, errV e])) W :=
  ⟨rfl, F, G, p.a, p.k, p.ap, p.keeps, p.wF, p.wG⟩
theorem PK.start (H : StoreC StAt) (hA : StAt w0 b F s) (hC : CacheAt w0 c G s) (ap : ∀ q, F q → ¬ G q) (f g h : Int) : PK StAt w0 b c F G w0.heap.size f g h F G s (w0.alloc (.cells #[.int .i64 f, .int .i64 g, .int .i64 h] 108)) := by
  have hb := (Below.refl w0.heap.size w0).alloc (Nat.le_refl _) (.cells #[.int .i64 f, .int .i64 g, .int .i64 h] 108)
  exact ⟨H.below hA hb, hC.below hb, ap, Keeps.of_below hb _, fun q h => .inl (.inl h), fun q h => .inl (.inr h), HoldsK.new w0 f g h, fun e => by have := H.lt hA _ e; omega, fun e => by have := hC.lt _ e; omega⟩
end

section
variable {s : MS} {l : Nat} {f g k : Int}
theorem MS.Three.once (h : MS.Three s l f g k) (ok : s.Ok) (e : onceB f g k = true) : s.ans f g k = (onceN f g k, 0, s) := by
  unfold onceN
  by_cases h1 : f = 1
  · subst h1
    rw [if_pos (.inl rfl)]
    exact h.one ok
  · by_cases h2 : g = k
    · subst h2
      rw [if_pos (.inr rfl)]
      exact h.same ok
    · rw [if_neg (fun e => e.elim h1 h2)]
      by_cases h3 : f = 0
      · subst h3
        rw [if_pos rfl]
        exact h.zero ok
      · rw [if_neg h3]
        have h4 : g = 1 ∧ k = 0 := by
          have := of_decide_eq_true e
          rcases this with h | h | h | h
          · exact absurd h h1
          · exact absurd h h2
          · exact absurd h h3
          · exact h
        rw [if_pos h4]
        obtain ⟨rfl, rfl⟩ := h4
        exact h.self ok
theorem MS.Three.node (h : MS.Three s l f g k) (e : onceB f g k = false) : s.has f = true := by
  rcases MS.there_cases h.tf with ⟨hc, _⟩ | hh
  · exfalso
    have := of_decide_eq_false e
    rcases hc with rfl | rfl
    · exact this (.inr (.inr (.inl rfl)))
    · exact this (.inl rfl)
  · exact hh
/-- What top tells: all three stand from there on, and it is no further ahead than they were known to be. -/
theorem MS.Three.top (h : MS.Three s l f g k) (ok : s.Ok) (hf : s.has f = true) {n : Nat} (hn : n < 8) (hno : ∀ j, j < n → s.noneOf f g k (s.o j) = true) (hl : n = 7 ∨ s.noneOf f g k (s.o n) = false) : l ≤ n ∧ MS.Three s n f g k := by
  have hno' : ∀ j, j < n → s.isOf f (s.o j) = false ∧ s.isOf g (s.o j) = false ∧ s.isOf k (s.o j) = false := fun j hj => by
    have := hno j hj
    unfold MS.noneOf at this
    simp only [Bool.not_eq_true', Bool.or_eq_false_iff] at this
    exact ⟨this.1.1, this.1.2, this.2⟩
  refine ⟨?_, h.tf, h.tg, h.tk, ok.from_of fun j hj => (hno' j hj).1, ok.from_of fun j hj => (hno' j hj).2.1, ok.from_of fun j hj => (hno' j hj).2.2⟩
  have hl7 : l ≤ 7 := by
    have := h.ff hf
    have := ok.lev hf
    omega
  rcases hl with rfl | hl
  · exact hl7
  · have key : ∀ m, s.from (l : Int) m → s.isOf m (s.o n) = true → l ≤ n := fun m hm hi => by
      obtain ⟨hh, hv⟩ := MS.isOf_true.1 hi
      have := hm hh
      rw [hv, levO_at ok.order hn rfl] at this
      omega
    unfold MS.noneOf at hl
    simp only [Bool.not_eq_false', Bool.or_eq_true] at hl
    rcases hl with (hl | hl) | hl
    · exact key f h.ff hl
    · exact key g h.fg hl
    · exact key k h.fk hl
theorem MS.Three.i64 (h : MS.Three s l f g k) (ok : s.Ok) : I64 f ∧ I64 g ∧ I64 k := ⟨ok.toBase.there_i64 h.tf, ok.toBase.there_i64 h.tg, ok.toBase.there_i64 h.tk⟩
end

section
variable {StAt : World → Nat → (Nat → Prop) → MS → Prop} {w : World} {b c : Nat} {F G : Nat → Prop} {s : MS}
set_option maxRecDepth 100000 in
set_option maxHeartbeats 4000000 in
theorem iteAnswer_once (H : StoreC StAt) (hA : StAt w b F s) (hC : CacheAt w c G s) (ok : s.Ok) (ap : ∀ q, F q → ¬ G q) {l : Nat} {f g k : Int} (h : MS.Three s l f g k) (ho : onceB f g k = true) :
    Calls Tryz.prog 62 #[.pointer (some ⟨c, 0, none⟩), .pointer (some ⟨b, 0, none⟩), askV f g k] w (CallPost StAt CacheAt w b c F G (s.ans f g k)) := by
  rw [h.once ok ho]
  have A1 := fun W => iteOnce f g k W
  rw [ho] at A1
  have P := PK.start H hA hC ap f g k
  obtain ⟨y0, y1, y2⟩ := P.box.cells
  clear hA hC
  generalize onceN f g k = n at *
  unfold askV at *
  go_enter Tryz.func62, Tryz.ntmps62
  go_wp2_with fail
  refine (A1 _).mono ?_
  rintro e w1 ⟨rfl, hb1⟩
  replace P := P.below H hb1
  clear A1 y0 y1 y2
  go_wp2
  go_ret2
  exact P.post

set_option maxRecDepth 100000 in
set_option maxHeartbeats 8000000 in
theorem iteAnswer (H : StoreC StAt) (b c : Nat) : ∀ (d l : Nat) (s : MS) (f g k : Int) (w : World) (F G : Nat → Prop), 8 ≤ l + d → MS.Three s l f g k → StAt w b F s → CacheAt w c G s → s.Ok → (∀ q, F q → ¬ G q) →
    Calls Tryz.prog 62 #[.pointer (some ⟨c, 0, none⟩), .pointer (some ⟨b, 0, none⟩), askV f g k] w (CallPost StAt CacheAt w b c F G (s.ans f g k)) := by
  intro d
  induction d with
  | zero =>
    intro l s f g k w F G hd h hA hC ok ap
    refine iteAnswer_once H hA hC ok ap h ?_
    cases ho : onceB f g k
    · exfalso
      have hf := h.node ho
      have := h.ff hf
      have := ok.lev hf
      omega
    · rfl
  | succ d ih =>
    intro l s f g k w F G hd h hA hC ok ap
    cases ho : onceB f g k
    case true => exact iteAnswer_once H hA hC ok ap h ho
    have hf := h.node ho
    obtain ⟨i1, i2, i3⟩ := h.i64 ok
    have A1 := fun W => iteOnce f g k W
    rw [ho] at A1
    have P := PK.start H hA hC ap f g k
    obtain ⟨y0, y1, y2⟩ := P.box.cells
    clear hA hC
    generalize onceN f g k = n at *
    have A2 := fun W F' (hA : StAt W b F' s) => iteTop H hA ok f g k i1 i2 i3
    have A3 := fun W F' (hA : StAt W b F' s) v => iteWhere H hA ok f g k v false i1 i2 i3
    have A4 := fun t W F' (hA : StAt W b F' t) (okt : t.Ok) v => iteWhere H hA okt f g k v true i1 i2 i3
    unfold askV at A1 A2 A3 A4 ⊢
    go_enter Tryz.func62, Tryz.ntmps62
    go_wp2_with fail
    refine (A1 _).mono ?_
    rintro e w1 ⟨rfl, hb1⟩
    replace P := P.below H hb1
    clear A1 y0 y1 y2 hb1
    obtain ⟨m, nm, kept, _, _, hc, hm, _, hr⟩ := P.k
    replace hr := hr (Ask.of i1 i2 i3)
    have q0 := fun u : Sub w1 => (show u.1.cell? ⟨c, 0, none⟩ = some (.map (some m)) by rw [cell_of_row _ _ _ _ _ _ ((u.2.block c (row_lt hc)).trans hc)]; rfl)
    have L := fun u : Sub w1 => (hm.block (u.2.block m hm.lt)).look i1 i2 i3
    have x0 := fun u : Sub w1 => (P.box.sub u).cells.1
    have x1 := fun u : Sub w1 => (P.box.sub u).cells.2.1
    have x2 := fun u : Sub w1 => (P.box.sub u).cells.2.2
    unfold askV at L
    generalize kept (Ask.of i1 i2 i3) = ko at *
    clear hm hc
    replace P := Lib.hid P
    replace h := Lib.hid h
    cases ko with
    | some x =>
      have hrx := hr x rfl
      have hans := Lib.hid (show s.ans f g k = (x, 0, s) from ok.ans_known hrx.tx hrx.tab)
      clear hr A2 A3 A4 ih
      simp only [Option.getD_some, Option.isSome_some] at L
      go_wp2
      refine wp_region_quiet_all (C := fun w' => ∃ u : Sub w1, w' = u.1) (by kernel_rfl) (by kernel_rfl) (InSub.drew w1) ?_
      iterate 11 (go_big_quiet_step (fail))
      refine wpQuiet_nil ?_
      clear q0 x0 x1 x2 L
      intro w' hw'
      obtain ⟨u, rfl⟩ := hw'
      go_wp2
      go_ret2
      rw [hans.out]
      exact (P.out.sub H u).post
    | none =>
      clear hr
      simp only [Option.getD_none, Option.isSome_none] at L
      go_wp2
      refine wp_region_quiet_all (C := fun w' => ∃ u : Sub w1, w' = u.1) (by kernel_rfl) (by kernel_rfl) (InSub.drew w1) ?_
      iterate 11 (go_big_quiet_step (fail))
      refine wpQuiet_nil ?_
      clear q0 x0 x1 x2 L
      intro w' hw'
      obtain ⟨u, rfl⟩ := hw'
      replace P := P.out.sub H u
      generalize u.1 = w2 at *
      obtain ⟨x0, x1, x2⟩ := P.box.cells
      replace P := Lib.hid P
      go_wp2_with fail
      refine (A2 _ _ P.out.a).mono ?_
      rintro e w3 ⟨⟨n7, hn8, rfl, hno, hl7⟩, hb3⟩
      clear A2 x0 x1 x2
      replace P := Lib.hid (P.out.below H hb3)
      obtain ⟨hln, h7⟩ := h.out.top ok hf hn8 hno hl7
      clear hno hl7 hb3 h
      have S0 := h7.side ok hn8 false
      have IA := fun W F' G' hA hC ap => ih (n7 + 1) s _ _ _ W F' G' (by omega) S0 hA hC ok ap
      obtain ⟨okA, extA, errA, resA⟩ := ok.ans_spec (s.side f (s.o n7) false) (s.side g (s.o n7) false) (s.side k (s.o n7) false)
      have hans := fun A hA => h7.ans ok hn8 (A := A) hA
      replace A3 := fun W F' (hA : StAt W b F' s) => A3 W F' hA (s.o n7)
      obtain ⟨j1, j2, j3⟩ := S0.i64 ok
      unfold askV at IA A3
      generalize hAA : s.ans (s.side f (s.o n7) false) (s.side g (s.o n7) false) (s.side k (s.o n7) false) = A at *
      replace hans := hans A rfl
      generalize hB : A.2.2.ans (A.2.2.side f (s.o n7) true) (A.2.2.side g (s.o n7) true) (A.2.2.side k (s.o n7) true) = Bb at *
      have S1 := (h7.ext extA).side okA hn8 true
      have IB := fun W F' G' hA hC ap => ih (n7 + 1) A.2.2 _ _ _ W F' G' (by omega) S1 hA hC okA ap
      have SB := okA.ans_spec (A.2.2.side f (s.o n7) true) (A.2.2.side g (s.o n7) true) (A.2.2.side k (s.o n7) true)
      rw [extA.o] at IB
      rw [hB] at IB SB
      replace A4 := fun W F' (hA : StAt W b F' A.2.2) => A4 A.2.2 W F' hA okA (s.o n7)
      have hv := mayO_range ok.order hn8
      have hspec := ok.ans_spec f g k
      have hE := fun h0 => MS.bld_err0 8 s (iteF (s.tab f) (s.tab g) (s.tab k)) h0
      change (s.ans f g k).2.1 ≠ 0 → (s.ans f g k).1 = 0 at hE
      rw [hans] at hspec hE
      replace hans := Lib.hid hans
      unfold askV at IB A4
      generalize s.side f (s.o n7) false = f0 at *
      generalize s.side g (s.o n7) false = g0 at *
      generalize s.side k (s.o n7) false = k0 at *
      generalize A.2.2.side f (s.o n7) true = f1 at *
      generalize A.2.2.side g (s.o n7) true = g1 at *
      generalize A.2.2.side k (s.o n7) true = k1 at *
      generalize s.o n7 = v at *
      clear ih S0 S1 hAA hB hln
      obtain ⟨A0, A1, sA⟩ := A
      obtain ⟨B0, B1, sB⟩ := Bb
      dsimp only at *
      obtain ⟨okB, extB, errB, resB⟩ := SB
      obtain ⟨x0, x1, x2⟩ := P.out.box.cells
      replace hspec := Lib.hid hspec
      replace hE := Lib.hid hE
      replace h7 := Lib.hid h7
      go_wp2_with fail
      refine (A3 _ _ P.out.a).mono ?_
      rintro e w4 ⟨rfl, hb4⟩
      replace P := Lib.hid (P.out.below H hb4)
      clear A3 x0 x1 x2 hb4
      go_wp2_with fail
      refine (IA _ _ _ P.out.a P.out.k P.out.ap).mono ?_
      intro e w5 hp
      obtain ⟨rfl, F5, G5, P5⟩ := P.out.call hp
      clear IA hp P
      replace P5 := Lib.hid P5
      dsimp only
      by_cases hA1 : A1 = 0
      · subst hA1
        rw [errV0]
        obtain ⟨x0, x1, x2⟩ := P5.out.box.cells
        go_wp2_with fail
        refine (A4 _ _ P5.out.a).mono ?_
        rintro e w6 ⟨rfl, hb6⟩
        replace P5 := Lib.hid (P5.out.below H hb6)
        clear A4 x0 x1 x2 hb6
        go_wp2_with fail
        refine (IB _ _ _ P5.out.a P5.out.k P5.out.ap).mono ?_
        intro e w7 hp
        obtain ⟨rfl, F7, G7, P7⟩ := P5.out.call hp
        clear IB hp P5
        replace P7 := Lib.hid P7
        dsimp only
        by_cases hB1 : B1 = 0
        · subst hB1
          rw [errV0]
          have HM := H.make P7.out.a okB v A0 B0 (okB.toBase.there_i64 (extB.there (resA (by trivial)).1)) (okB.toBase.there_i64 (resB (by trivial)).1)
          have hgr := okB.mk_grows v A0 B0
          have hans2 := Lib.hid (hans.out.trans (show MS.twoB v (A0, 0, sA) (B0, 0, sB) = sB.mk v A0 B0 [] from rfl))
          rw [show MS.twoB v (A0, 0, sA) (B0, 0, sB) = sB.mk v A0 B0 [] from rfl] at hspec hE
          have hext := (extA.trans extB).trans (okB.mk_ext v A0 B0)
          clear hans
          generalize sB.mk v A0 B0 [] = R at *
          obtain ⟨R0, R1, sR⟩ := R
          dsimp only at HM hgr hext
          go_wp2_with fail
          refine HM.mono ?_
          rintro e w8 ⟨rfl, F8, hA8, hK8, hW8⟩
          clear HM
          have P8 := Lib.hid (P7.out.store hgr hA8 hK8 hW8)
          clear P7 hA8 hK8 hW8 hgr
          by_cases hR1 : R1 = 0
          · subst hR1
            rw [errV0]
            obtain ⟨okR, _, _, resR⟩ := hspec.out
            obtain ⟨tR, eR⟩ := resR (by trivial)
            have hRt : MS.Right sR (Ask.of i1 i2 i3) R0 := ⟨hext.there h7.out.tf, hext.there h7.out.tg, hext.there h7.out.tk, tR, by rw [eR]; show _ = iteF (sR.tab f) (sR.tab g) (sR.tab k); rw [hext.tab ok okR h7.out.tf, hext.tab ok okR h7.out.tg, hext.tab ok okR h7.out.tk]⟩
            have HK := iteKeep P8.out.k i1 i2 i3 (okR.toBase.there_i64 tR) hRt
            obtain ⟨x0, x1, x2⟩ := P8.out.box.cells
            unfold askV at HK
            clear hRt tR eR resR okR hspec hE
            go_wp2_with fail
            refine HK.mono ?_
            rintro e w9 ⟨rfl, hC9, hK9⟩
            clear HK x0 x1 x2
            have P9 := Lib.hid (P8.out.cache H hC9 hK9)
            clear hC9 hK9 P8
            go_wp2
            go_ret2
            rw [hans2.out]
            exact P9.out.post
          · have h0 : R0 = 0 := hE.out hR1
            subst h0
            simp only [errV, if_neg hR1]
            go_wp2
            go_ret2
            rw [hans2.out]
            have := P8.out.post (n := 0) (e := R1)
            simp only [errV, if_neg hR1] at this
            exact this
        · have hans2 := Lib.hid (hans.out.trans (show MS.twoB v (A0, 0, sA) (B0, B1, sB) = (0, B1, sB) by unfold MS.twoB; rw [if_neg (by simp), if_pos hB1]))
          clear hspec hE hans
          simp only [errV, if_neg hB1]
          go_wp2
          go_ret2
          rw [hans2.out]
          have := P7.out.post (n := 0) (e := B1)
          simp only [errV, if_neg hB1] at this
          exact this
      · have hans2 := Lib.hid (hans.out.trans (show MS.twoB v (A0, A1, sA) (B0, B1, sB) = (0, A1, sA) by unfold MS.twoB; rw [if_pos hA1]))
        clear hspec hE hans
        simp only [errV, if_neg hA1]
        go_wp2
        go_ret2
        rw [hans2.out]
        have := P5.out.post (n := 0) (e := A1)
        simp only [errV, if_neg hA1] at this
        exact this

set_option maxRecDepth 100000 in
set_option maxHeartbeats 4000000 in
theorem iteIte (H : StoreC StAt) (hA : StAt w b F s) (hC : CacheAt w c G s) (ok : s.Ok) (ap : ∀ q, F q → ¬ G q) (f g k : Int) (hf : I64 f) (hg : I64 g) (hk : I64 k) :
    Calls Tryz.prog 25 #[.pointer (some ⟨c, 0, none⟩), .pointer (some ⟨b, 0, none⟩), .int .i64 f, .int .i64 g, .int .i64 k] w (CallPost StAt CacheAt w b c F G (s.ite f g k)) := by
  have T1 := iteIsThere H hA ok f hf
  have T2 := fun W (hb : Below w.heap.size w W) => iteIsThere H (H.below hA hb) ok g hg
  have T3 := fun W (hb : Below w.heap.size w W) => iteIsThere H (H.below hA hb) ok k hk
  have hno : ∀ W, Below w.heap.size w W → CallPost StAt CacheAt w b c F G (0, 1, s) (.returned (.tuple #[.int .i64 0, .iface 67 (.int .i64 1)])) W := fun W hb => ⟨rfl, F, G, H.below hA hb, hC.below hb, ap, Keeps.of_below hb _, fun q h => .inl (.inl h), fun q h => .inl (.inr h)⟩
  have hyes : s.there f = true → s.there g = true → s.there k = true → ∀ W, Below w.heap.size w W →
      Calls Tryz.prog 62 #[.pointer (some ⟨c, 0, none⟩), .pointer (some ⟨b, 0, none⟩), askV f g k] W (CallPost StAt CacheAt w b c F G (s.ite f g k)) := fun t1 t2 t3 W hb => by
    have h3 : MS.Three s 0 f g k := ⟨t1, t2, t3, fun hh => (ok.lev hh).1, fun hh => (ok.lev hh).1, fun hh => (ok.lev hh).1⟩
    have e : s.ite f g k = s.ans f g k := by unfold MS.ite MS.ans; rw [if_pos ⟨t1, t2, t3⟩]
    rw [e]
    refine (iteAnswer H b c 8 0 s f g k W F G (by omega) h3 (H.below hA hb) (hC.below hb) ok ap).mono ?_
    rintro e W' ⟨he, F', G', h1, h2, h3, h4, h5, h6⟩
    exact ⟨he, F', G', h1, h2, h3, (Keeps.of_below hb _).and h4, fun q hq => (h5 q hq).imp id (fun h => Nat.le_trans hb.size h), fun q hq => (h6 q hq).imp id (fun h => Nat.le_trans hb.size h)⟩
  clear hA hC
  cases t1 : s.there f
  · have e : s.ite f g k = (0, 1, s) := by unfold MS.ite; rw [if_neg (by simp [t1])]
    rw [e]
    rw [t1] at T1
    clear hyes T2 T3 e
    go_enter Tryz.func25, Tryz.ntmps25
    go_wp2_with fail
    refine T1.mono ?_
    rintro e w1 ⟨rfl, hb⟩
    clear T1
    go_wp2
    go_ret2
    exact hno _ hb
  · rw [t1] at T1
    cases t2 : s.there g
    · have e : s.ite f g k = (0, 1, s) := by unfold MS.ite; rw [if_neg (by simp [t2])]
      rw [e]
      rw [t2] at T2
      clear hyes T3 e
      go_enter Tryz.func25, Tryz.ntmps25
      go_wp2_with fail
      refine T1.mono ?_
      rintro e w1 ⟨rfl, hb⟩
      clear T1
      go_wp2_with fail
      refine (T2 _ hb).mono ?_
      rintro e w2 ⟨rfl, hb2⟩
      replace hb := hb.trans (hb2.mono hb.size)
      clear T2 hb2
      go_wp2
      go_ret2
      exact hno _ hb
    · rw [t2] at T2
      cases t3 : s.there k
      · have e : s.ite f g k = (0, 1, s) := by unfold MS.ite; rw [if_neg (by simp [t3])]
        rw [e]
        rw [t3] at T3
        clear hyes e
        go_enter Tryz.func25, Tryz.ntmps25
        go_wp2_with fail
        refine T1.mono ?_
        rintro e w1 ⟨rfl, hb⟩
        clear T1
        go_wp2_with fail
        refine (T2 _ hb).mono ?_
        rintro e w2 ⟨rfl, hb2⟩
        replace hb := hb.trans (hb2.mono hb.size)
        clear T2 hb2
        go_wp2_with fail
        refine (T3 _ hb).mono ?_
        rintro e w3 ⟨rfl, hb2⟩
        replace hb := hb.trans (hb2.mono hb.size)
        clear T3 hb2
        go_wp2
        go_ret2
        exact hno _ hb
      · rw [t3] at T3
        replace hyes := hyes t1 t2 t3
        clear hno
        unfold askV at hyes
        generalize s.ite f g k = r at *
        obtain ⟨r0, r1, t⟩ := r
        go_enter Tryz.func25, Tryz.ntmps25
        go_wp2_with fail
        refine T1.mono ?_
        rintro e w1 ⟨rfl, hb⟩
        clear T1
        go_wp2_with fail
        refine (T2 _ hb).mono ?_
        rintro e w2 ⟨rfl, hb2⟩
        replace hb := hb.trans (hb2.mono hb.size)
        clear T2 hb2
        go_wp2_with fail
        refine (T3 _ hb).mono ?_
        rintro e w3 ⟨rfl, hb2⟩
        replace hb := hb.trans (hb2.mono hb.size)
        clear T3 hb2
        go_wp2_with fail
        refine (hyes _ hb).mono ?_
        rintro e w4 ⟨rfl, hp⟩
        dsimp only
        go_wp2
        go_ret2
        exact ⟨rfl, hp⟩

theorem iteC (H : StoreC StAt) : IteC StAt CacheAt where
  lt h := h.lt
  keep h hK hG := h.keep hK hG
  grows h _ _ g := h.grows g
  new w := iteNew w
  ite hA hC ok ap f g h i1 i2 i3 := iteIte H hA hC ok ap f g h i1 i2 i3
end

end Go.Proofs.YtclkckinpjkglaaGreatDoor

/-
  What is asked of the code's package oper.
-/
namespace Go.Proofs.YtclkckinpjkglaaGreatDoor
open Go Go.RowKit

/-- Each call of package oper. -/
structure OperC (StAt CAt : World → Nat → (Nat → Prop) → MS → Prop) : Prop where ofAll ::
  not : ∀ {w b c F G s}, StAt w b F s → CAt w c G s → s.Ok → (∀ k, F k → ¬ G k) → ∀ f : Int, I64 f → Calls Tryz.prog 9 #[.pointer (some ⟨b, 0, none⟩), .pointer (some ⟨c, 0, none⟩), .int .i64 f] w (CallPost StAt CAt w b c F G (s.ite f 0 1))
  and : ∀ {w b c F G s}, StAt w b F s → CAt w c G s → s.Ok → (∀ k, F k → ¬ G k) → ∀ f g : Int, I64 f → I64 g → Calls Tryz.prog 11 #[.pointer (some ⟨b, 0, none⟩), .pointer (some ⟨c, 0, none⟩), .int .i64 f, .int .i64 g] w (CallPost StAt CAt w b c F G (s.ite f g 0))
  or : ∀ {w b c F G s}, StAt w b F s → CAt w c G s → s.Ok → (∀ k, F k → ¬ G k) → ∀ f g : Int, I64 f → I64 g → Calls Tryz.prog 12 #[.pointer (some ⟨b, 0, none⟩), .pointer (some ⟨c, 0, none⟩), .int .i64 f, .int .i64 g] w (CallPost StAt CAt w b c F G (s.ite f 1 g))
  xor : ∀ {w b c F G s}, StAt w b F s → CAt w c G s → s.Ok → (∀ k, F k → ¬ G k) → ∀ f g : Int, I64 f → I64 g → Calls Tryz.prog 13 #[.pointer (some ⟨b, 0, none⟩), .pointer (some ⟨c, 0, none⟩), .int .i64 f, .int .i64 g] w (CallPost StAt CAt w b c F G (s.xor f g))

end Go.Proofs.YtclkckinpjkglaaGreatDoor

/-
  Mathematics of the own laws of layers 9 to 11: where there is room enough, each call makes its number. Nothing of the program is read here.
-/
namespace Go.Proofs.YtclkckinpjkglaaGreatDoor

/-- All nodes are those of the functions L by order; for each of these there is room for 77. -/
structure MS.Fits (s : MS) (L : List Fn) (o : Nat → Int) (most : Nat) : Prop where
  ok : s.Ok
  may : mayO o = true
  ord : s.o = o
  cap : s.ar.most = most
  nodes : ∀ n, s.has n = true → IsNode L o (s.tab n)

section
variable {s : MS} {L : List Fn} {o : Nat → Int} {most : Nat}

theorem size_77s (o : Nat → Int) (ho : mayO o = true) : ∀ L : List Fn, sizeF L o ≤ 77 * L.length
  | [] => by
    obtain ⟨a, _, hma, hla⟩ := sizeF_is [] o
    rw [← hla]
    have : a = [] := by
      cases a with
      | nil => rfl
      | cons x t =>
        have h := ((hma x).1 (by simp)).1
        exact absurd h (fun h => by
          have key : ∀ g, Reach [] o g → False := fun g hg => by induction hg <;> simp_all
          exact key _ h)
    rw [this]; simp
  | f :: L => by
    have h := size_add [f] L o
    have h1 := size_77 f o (full_of ho)
    have h2 := size_77s o ho L
    have e : ([f] ++ L : List Fn) = f :: L := rfl
    rw [e] at h
    simp only [List.length_cons]
    omega

theorem MS.Fits.none (most : Nat) (h : most ≤ 20000) : (MS.none most).Fits [] plainO most :=
  ⟨MS.none_ok most h, plainO_may, rfl, rfl, fun n h => by simp [MS.has, MS.none] at h⟩

theorem MS.Fits.empty {most : Nat} (h : most ≤ 20000) {o : Nat → Int} (ho : mayO o = true) : (MS.empty most o).Fits [] o most := ⟨MS.empty_ok most h ho, ho, rfl, rfl, fun n h => by rw [MS.empty_has] at h; cases h⟩

/-- One more. -/
theorem MS.Fits.bld (h : s.Fits L o most) (f : Fn) (hs : 77 * (L.length + 1) ≤ most) : ∃ n t, MS.bld 8 s f = (n, 0, t) ∧ t.Fits (f :: L) o most ∧ MS.Ext s t ∧ t.there n = true ∧ t.tab n = f := by
  have mono : ∀ k, IsNode L o k → IsNode (f :: L) o k := fun k hk => ⟨hk.1.mono (fun x hx => by simp [hx]), hk.2⟩
  have mono2 : ∀ k, IsNode [f] o k → IsNode (f :: L) o k := fun k hk => ⟨hk.1.mono (fun x hx => by simp only [List.mem_singleton] at hx; simp [hx]), hk.2⟩
  obtain ⟨h1, h2, h3, h4, h5⟩ := MS.bld_spec 8 s f h.ok (supN_8 f)
  have h0 := MS.bld_room 8 s f (f :: L) h.ok (supN_8 f) (fun n hn => by rw [h.ord]; exact mono _ (h.nodes n hn)) (Reach.base (by simp)) (by
    rw [h.ord, h.cap]; exact Nat.le_trans (size_77s o h.may _) (by simpa using hs))
  obtain ⟨t, e⟩ := h4 h0
  refine ⟨(MS.bld 8 s f).1, (MS.bld 8 s f).2.2, ?_, ⟨h1, h.may, h2.o.trans h.ord, h2.most.trans h.cap, fun n hn => ?_⟩, h2, t, e⟩
  · rw [← h0]
  · rcases h5 n hn with hm | hm
    · rw [h2.tab h.ok h1 (by simp [MS.there, hm])]; exact mono _ (h.nodes n hm)
    · rw [h.ord] at hm; exact mono2 _ hm
/-- If, then, else of numbers that are there. -/
theorem MS.Fits.ite (h : s.Fits L o most) {f g k : Int} (hf : s.there f = true) (hg : s.there g = true) (hk : s.there k = true) (hs : 77 * (L.length + 1) ≤ most) :
    ∃ n t, s.ite f g k = (n, 0, t) ∧ t.Fits (iteF (s.tab f) (s.tab g) (s.tab k) :: L) o most ∧ MS.Ext s t ∧ t.there n = true ∧ t.tab n = iteF (s.tab f) (s.tab g) (s.tab k) := by
  obtain ⟨n, t, e, q⟩ := h.bld (iteF (s.tab f) (s.tab g) (s.tab k)) hs
  exact ⟨n, t, by unfold MS.ite; rw [if_pos ⟨hf, hg, hk⟩]; exact e, q⟩
/-- A number is asked for that is there. -/
theorem MS.Ok.ite_same (h : s.Ok) {f g k n : Int} (hf : s.there f = true) (hg : s.there g = true) (hk : s.there k = true) (hn : s.there n = true) (e : s.tab n = iteF (s.tab f) (s.tab g) (s.tab k)) : s.ite f g k = (n, 0, s) := by
  unfold MS.ite
  rw [if_pos ⟨hf, hg, hk⟩]
  exact MS.bld_same 8 s _ n h (supN_8 _) hn e
theorem MS.tab_zero (s : MS) : s.there 0 = true ∧ s.tab 0 = 0 := by
  have h := const_tab (f := 0) (by decide +kernel) s
  rw [show constN 0 = 0 by decide +kernel] at h
  exact ⟨h.2.1, h.1⟩
theorem MS.tab_one (s : MS) : s.there 1 = true ∧ s.tab 1 = BitVec.allOnes 256 := by
  have h := const_tab (f := BitVec.allOnes 256) (by decide +kernel) s
  rw [show constN (BitVec.allOnes 256) = 1 by decide +kernel] at h
  exact ⟨h.2.1, h.1⟩
theorem iteF_10 (f : Fn) : iteF f (BitVec.allOnes 256) 0 = f := by
  unfold iteF
  show f &&& BitVec.allOnes 256 ||| ~~~f &&& 0#256 = f
  rw [BitVec.and_allOnes, BitVec.and_zero, BitVec.or_zero]
theorem iteF_same (f g : Fn) : iteF f g g = g := by
  unfold iteF
  apply BitVec.eq_of_getElem_eq
  intro i hi
  simp only [BitVec.getElem_or, BitVec.getElem_and, BitVec.getElem_not]
  cases f[i] <;> simp
/-- A number is there, and is this function. -/
def MS.At (s : MS) (n : Int) (f : Fn) : Prop := s.there n = true ∧ s.tab n = f
theorem MS.At.ext {t : MS} {n : Int} {f : Fn} (h : s.At n f) (e : MS.Ext s t) (ok : s.Ok) (ok' : t.Ok) : t.At n f := ⟨e.there h.1, (e.tab ok ok' h.1).trans h.2⟩
theorem MS.At.i64 {n : Int} {f : Fn} (h : s.At n f) (ok : s.Ok) : n ≤ 9223372036854775807 ∧ -9223372036854775808 ≤ n := ok.toBase.there_i64 h.1
theorem MS.at0 (s : MS) : s.At 0 0#256 := s.tab_zero
theorem MS.at1 (s : MS) : s.At 1 (BitVec.allOnes 256) := s.tab_one
theorem MS.Fits.bldAt (h : s.Fits L o most) (f : Fn) (hs : 77 * (L.length + 1) ≤ most) : ∃ n t, MS.bld 8 s f = (n, 0, t) ∧ t.Fits (f :: L) o most ∧ MS.Ext s t ∧ t.At n f := by
  obtain ⟨n, t, e, q1, q2, q3⟩ := h.bld f hs
  exact ⟨n, t, e, q1, q2, q3⟩
theorem MS.Fits.iteAt (h : s.Fits L o most) {f g k : Int} {x y z : Fn} (hf : s.At f x) (hg : s.At g y) (hk : s.At k z) (hs : 77 * (L.length + 1) ≤ most) (v : Fn) (hv : iteF x y z = v) :
    ∃ n t, s.ite f g k = (n, 0, t) ∧ t.Fits (v :: L) o most ∧ MS.Ext s t ∧ t.At n v := by
  obtain ⟨n, t, e, q1, q2, q3, q4⟩ := h.ite hf.1 hg.1 hk.1 hs
  rw [hf.2, hg.2, hk.2, hv] at q1 q4
  exact ⟨n, t, e, q1, q2, q3, q4⟩
theorem MS.At.same {f g k n : Int} {x y z v : Fn} (hn : s.At n v) (ok : s.Ok) (hf : s.At f x) (hg : s.At g y) (hk : s.At k z) (hv : iteF x y z = v) : s.ite f g k = (n, 0, s) :=
  ok.ite_same hf.1 hg.1 hk.1 hn.1 (by rw [hn.2, hf.2, hg.2, hk.2, hv])
theorem MS.At.xor {t : MS} {f g m n : Int} {x y : Fn} (hf : s.At f x) (hg : s.At g y) (ok : s.Ok) (hm : s.At m (~~~y)) (hv : iteF y 0#256 (BitVec.allOnes 256) = ~~~y) (hn : s.ite f m g = (n, 0, t)) : s.xor f g = (n, 0, t) := by
  unfold MS.xor
  rw [if_pos ⟨hf.1, hg.1⟩, hm.same ok hg s.at0 s.at1 hv]
  exact hn

theorem iteF_not (f : Fn) : iteF f 0#256 (BitVec.allOnes 256) = ~~~f := by
  apply BitVec.eq_of_getElem_eq
  intro i hi
  simp only [iteF, BitVec.getElem_or, BitVec.getElem_and, BitVec.getElem_not, BitVec.getElem_zero, BitVec.getElem_allOnes]
  cases f[i] <;> rfl
theorem iteF_not2 (f : Fn) : iteF (~~~f) 0#256 (BitVec.allOnes 256) = f := by
  apply BitVec.eq_of_getElem_eq
  intro i hi
  simp only [iteF, BitVec.getElem_or, BitVec.getElem_and, BitVec.getElem_not, BitVec.getElem_zero, BitVec.getElem_allOnes]
  cases f[i] <;> rfl
theorem iteF_and (f g : Fn) : iteF f g 0#256 = f &&& g := by
  apply BitVec.eq_of_getElem_eq
  intro i hi
  simp only [iteF, BitVec.getElem_or, BitVec.getElem_and, BitVec.getElem_not, BitVec.getElem_zero]
  cases f[i] <;> cases g[i] <;> rfl
theorem iteF_or (f g : Fn) : iteF f (BitVec.allOnes 256) g = f ||| g := by
  apply BitVec.eq_of_getElem_eq
  intro i hi
  simp only [iteF, BitVec.getElem_or, BitVec.getElem_and, BitVec.getElem_not, BitVec.getElem_allOnes]
  cases f[i] <;> cases g[i] <;> rfl
theorem iteF_xor (f g : Fn) : iteF f (~~~g) g = f ^^^ g := by
  apply BitVec.eq_of_getElem_eq
  intro i hi
  simp only [iteF, BitVec.getElem_or, BitVec.getElem_and, BitVec.getElem_not, BitVec.getElem_xor]
  cases f[i] <;> cases g[i] <;> rfl
theorem iteF_and2 (f g : Fn) : iteF g f 0#256 = f &&& g := by rw [iteF_and, BitVec.and_comm]
theorem iteF_or2 (f g : Fn) : iteF g (BitVec.allOnes 256) f = f ||| g := by rw [iteF_or, BitVec.or_comm]
theorem iteF_xor2 (f g : Fn) : iteF g (~~~f) f = f ^^^ g := by rw [iteF_xor, BitVec.xor_comm]
theorem iteF_nand (f g : Fn) : iteF (~~~f) (BitVec.allOnes 256) (~~~g) = ~~~(f &&& g) := by
  apply BitVec.eq_of_getElem_eq
  intro i hi
  simp only [iteF, BitVec.getElem_or, BitVec.getElem_and, BitVec.getElem_not, BitVec.getElem_allOnes]
  cases f[i] <;> cases g[i] <;> rfl
theorem iteF_self (f : Fn) : iteF f (~~~f) f = 0#256 := by
  apply BitVec.eq_of_getElem_eq
  intro i hi
  simp only [iteF, BitVec.getElem_or, BitVec.getElem_and, BitVec.getElem_not, BitVec.getElem_zero]
  cases f[i] <;> rfl
theorem iteF_in (f g : Fn) : iteF f (f ||| g) 0#256 = f := by
  apply BitVec.eq_of_getElem_eq
  intro i hi
  simp only [iteF, BitVec.getElem_or, BitVec.getElem_and, BitVec.getElem_not, BitVec.getElem_zero]
  cases f[i] <;> cases g[i] <;> rfl
end

/-- A store's exchange of a level that is one: no error, or no room. -/
theorem MS.swap_in (s : MS) {l : Int} (h0 : 0 ≤ l) (h6 : l ≤ 6) : (s.swap l).1 = 0 ∨ (s.swap l).1 = 2 := by
  unfold MS.swap
  split
  · omega
  · dsimp only
    split <;> simp

end Go.Proofs.YtclkckinpjkglaaGreatDoor

/-
  The code's package oper walked, over contracts of its package ite.
-/
namespace Go.Proofs.YtclkckinpjkglaaGreatDoor
open Go Go.RowKit

theorem iteF_one (g h : Fn) : iteF (BitVec.allOnes 256) g h = g := by
  unfold iteF
  apply BitVec.eq_of_getElem_eq
  intro i hi
  simp only [BitVec.getElem_or, BitVec.getElem_and, BitVec.getElem_not, BitVec.getElem_allOnes]
  simp
/-- True then f, else g: f, where both are there. -/
theorem MS.Ok.ite_one {s : MS} (ok : s.Ok) (f g : Int) : s.ite 1 f g = if s.there f = true ∧ s.there g = true then (f, 0, s) else (0, 1, s) := by
  by_cases h : s.there f = true ∧ s.there g = true
  · rw [if_pos h]
    exact ok.ite_same s.tab_one.1 h.1 h.2 h.1 (by rw [s.tab_one.2, iteF_one])
  · rw [if_neg h]; unfold MS.ite; rw [if_neg (fun q => h q.2)]

section
variable {StAt CAt : World → Nat → (Nat → Prop) → MS → Prop} {w w1 w2 : World} {b c : Nat} {F G F1 G1 : Nat → Prop} {s : MS}
theorem CallPost.after (hK : Keeps (fun k => F k ∨ G k) w w1) (hF : Within w (fun k => F k ∨ G k) F1) (hG : Within w (fun k => F k ∨ G k) G1) {r : Int × Int × MS} {e : Ending} (h : CallPost StAt CAt w1 b c F1 G1 r e w2) : CallPost StAt CAt w b c F G r e w2 := by
  obtain ⟨he, F2, G2, h1, h2, h3, h4, h5, h6⟩ := h
  have hU : Within w (fun k => F k ∨ G k) (fun k => F1 k ∨ G1 k) := fun k hk => hk.elim (hF k) (hG k)
  exact ⟨he, F2, G2, h1, h2, h3, hK.trans h4 hU, hU.trans h5 hK.size, hU.trans h6 hK.size⟩

set_option maxRecDepth 100000 in
theorem operNot (I : IteC StAt CAt) (hA : StAt w b F s) (hC : CAt w c G s) (ok : s.Ok) (ap : ∀ k, F k → ¬ G k) (f : Int) (hf : I64 f) :
    Calls Tryz.prog 9 #[.pointer (some ⟨b, 0, none⟩), .pointer (some ⟨c, 0, none⟩), .int .i64 f] w (CallPost StAt CAt w b c F G (s.ite f 0 1)) := by
  have M := I.ite hA hC ok ap f 0 1 hf (by unfold I64; decide) (by unfold I64; decide)
  generalize s.ite f 0 1 = r at *
  obtain ⟨r0, r1, t⟩ := r
  clear hA hC
  go_enter Tryz.func9, Tryz.ntmps9
  go_wp2_with fail
  refine M.mono ?_
  rintro e w1 ⟨rfl, hp⟩
  go_wp2
  go_ret2
  exact ⟨rfl, hp⟩
set_option maxRecDepth 100000 in
theorem operAnd (I : IteC StAt CAt) (hA : StAt w b F s) (hC : CAt w c G s) (ok : s.Ok) (ap : ∀ k, F k → ¬ G k) (f g : Int) (hf : I64 f) (hg : I64 g) :
    Calls Tryz.prog 11 #[.pointer (some ⟨b, 0, none⟩), .pointer (some ⟨c, 0, none⟩), .int .i64 f, .int .i64 g] w (CallPost StAt CAt w b c F G (s.ite f g 0)) := by
  have M := I.ite hA hC ok ap f g 0 hf hg (by unfold I64; decide)
  generalize s.ite f g 0 = r at *
  obtain ⟨r0, r1, t⟩ := r
  clear hA hC
  go_enter Tryz.func11, Tryz.ntmps11
  go_wp2_with fail
  refine M.mono ?_
  rintro e w1 ⟨rfl, hp⟩
  go_wp2
  go_ret2
  exact ⟨rfl, hp⟩
set_option maxRecDepth 100000 in
theorem operOr (I : IteC StAt CAt) (hA : StAt w b F s) (hC : CAt w c G s) (ok : s.Ok) (ap : ∀ k, F k → ¬ G k) (f g : Int) (hf : I64 f) (hg : I64 g) :
    Calls Tryz.prog 12 #[.pointer (some ⟨b, 0, none⟩), .pointer (some ⟨c, 0, none⟩), .int .i64 f, .int .i64 g] w (CallPost StAt CAt w b c F G (s.ite f 1 g)) := by
  have M := I.ite hA hC ok ap f 1 g hf (by unfold I64; decide) hg
  generalize s.ite f 1 g = r at *
  obtain ⟨r0, r1, t⟩ := r
  clear hA hC
  go_enter Tryz.func12, Tryz.ntmps12
  go_wp2_with fail
  refine M.mono ?_
  rintro e w1 ⟨rfl, hp⟩
  go_wp2
  go_ret2
  exact ⟨rfl, hp⟩
set_option maxRecDepth 100000 in
theorem operThere (I : IteC StAt CAt) (hA : StAt w b F s) (hC : CAt w c G s) (ok : s.Ok) (ap : ∀ k, F k → ¬ G k) (f g : Int) (hf : I64 f) (hg : I64 g) :
    Calls Tryz.prog 29 #[.pointer (some ⟨b, 0, none⟩), .pointer (some ⟨c, 0, none⟩), .int .i64 f, .int .i64 g] w fun e w' => e = .returned (errV (if s.there f = true ∧ s.there g = true then 0 else 1)) ∧ ∃ F' G', StAt w' b F' s ∧ CAt w' c G' s ∧ (∀ k, F' k → ¬ G' k) ∧ Keeps (fun k => F k ∨ G k) w w' ∧ Within w (fun k => F k ∨ G k) F' ∧ Within w (fun k => F k ∨ G k) G' := by
  have M := I.ite hA hC ok ap 1 f g (by unfold I64; decide) hf hg
  have e1 : ∃ n, s.ite 1 f g = (n, if s.there f = true ∧ s.there g = true then 0 else 1, s) := by
    rw [ok.ite_one]
    by_cases h : s.there f = true ∧ s.there g = true
    · exact ⟨f, by rw [if_pos h, if_pos h]⟩
    · exact ⟨0, by rw [if_neg h, if_neg h]⟩
  obtain ⟨n, e1⟩ := e1
  rw [e1] at M
  generalize (if s.there f = true ∧ s.there g = true then (0 : Int) else 1) = x at *
  clear hA hC e1
  go_enter Tryz.func29, Tryz.ntmps29
  go_wp2_with fail
  refine M.mono ?_
  rintro e w1 ⟨rfl, hp⟩
  go_wp2
  go_ret
  exact ⟨rfl, hp⟩
set_option maxRecDepth 100000 in
theorem operXor (I : IteC StAt CAt) (hA : StAt w b F s) (hC : CAt w c G s) (ok : s.Ok) (ap : ∀ k, F k → ¬ G k) (f g : Int) (hf : I64 f) (hg : I64 g) :
    Calls Tryz.prog 13 #[.pointer (some ⟨b, 0, none⟩), .pointer (some ⟨c, 0, none⟩), .int .i64 f, .int .i64 g] w (CallPost StAt CAt w b c F G (s.xor f g)) := by
  have M := operThere I hA hC ok ap f g hf hg
  by_cases ht : s.there f = true ∧ s.there g = true
  · have e1 : s.xor f g = if (s.ite g 0 1).2.1 ≠ 0 then (0, (s.ite g 0 1).2.1, (s.ite g 0 1).2.2) else (s.ite g 0 1).2.2.ite f (s.ite g 0 1).1 g := by unfold MS.xor; rw [if_pos ht]
    rw [if_pos ht, errV0] at M
    have N := fun W F1 G1 (h1 : StAt W b F1 s) (h2 : CAt W c G1 s) (h3 : ∀ k, F1 k → ¬ G1 k) => operNot I h1 h2 ok h3 g hg
    have spec := ok.ite_spec g 0 1
    generalize s.ite g 0 1 = n at *
    obtain ⟨n0, n1, t⟩ := n
    obtain ⟨ok1, ext, _, res⟩ := spec
    dsimp only at e1 ok1 ext res
    rw [e1]
    clear e1 hA hC
    by_cases hn : n1 = 0
    · subst hn
      rw [if_neg (by simp)]
      have T := fun W F1 G1 (h1 : StAt W b F1 t) (h2 : CAt W c G1 t) (h3 : ∀ k, F1 k → ¬ G1 k) => I.ite h1 h2 ok1 h3 f n0 g hf (ok1.toBase.there_i64 (res rfl).1) hg
      generalize t.ite f n0 g = r at *
      obtain ⟨r0, r1, u⟩ := r
      clear res ext
      go_enter Tryz.func13, Tryz.ntmps13
      go_wp2_with fail
      refine M.mono ?_
      rintro e w1 ⟨rfl, F1, G1, a1, a2, a3, a4, a5, a6⟩
      clear M
      go_wp2_with fail
      refine (N _ _ _ a1 a2 a3).mono ?_
      intro e w2 hp
      obtain ⟨rfl, F2, G2, b1, b2, b3, b4, b5, b6⟩ := hp.after a4 a5 a6
      clear N hp a1 a2 a3 a4 a5 a6
      dsimp only at b1 b2 b3
      rw [errV0]
      go_wp2_with fail
      refine (T _ _ _ b1 b2 b3).mono ?_
      intro e w3 hp
      obtain ⟨rfl, hq⟩ := hp.after b4 b5 b6
      clear T b1 b2 b3 b4 b5 b6 hp
      go_wp2
      go_ret2
      exact ⟨rfl, hq⟩
    · rw [if_pos hn]
      clear res ext
      go_enter Tryz.func13, Tryz.ntmps13
      go_wp2_with fail
      refine M.mono ?_
      rintro e w1 ⟨rfl, F1, G1, a1, a2, a3, a4, a5, a6⟩
      clear M
      go_wp2_with fail
      refine (N _ _ _ a1 a2 a3).mono ?_
      intro e w2 hp
      obtain ⟨rfl, hq⟩ := hp.after a4 a5 a6
      clear N a1 a2 a3 a4 a5 a6 hp
      dsimp only at hq
      have e2 : errV n1 = .iface 67 (.int .i64 n1) := if_neg hn
      dsimp only
      rw [e2]
      go_wp2
      go_ret2
      exact ⟨by rw [e2]; rfl, hq⟩
  · have e1 : s.xor f g = (0, 1, s) := by unfold MS.xor; rw [if_neg ht]
    rw [if_neg ht] at M
    rw [e1]
    have e2 : errV 1 = .iface 67 (.int .i64 1) := if_neg (by decide)
    rw [e2] at M
    clear hA hC
    go_enter Tryz.func13, Tryz.ntmps13
    go_wp2_with fail
    refine M.mono ?_
    rintro e w1 ⟨rfl, hp⟩
    clear M
    go_wp2
    go_ret2
    exact ⟨by rw [e2]; rfl, hp⟩
theorem operC (I : IteC StAt CAt) : OperC StAt CAt := by
  constructor
  · exact fun hA hC ok ap f hf => operNot I hA hC ok ap f hf
  · exact fun hA hC ok ap f g hf hg => operAnd I hA hC ok ap f g hf hg
  · exact fun hA hC ok ap f g hf hg => operOr I hA hC ok ap f g hf hg
  · exact fun hA hC ok ap f g hf hg => operXor I hA hC ok ap f g hf hg
end

end Go.Proofs.YtclkckinpjkglaaGreatDoor

/-
  What is asked of the code's package quant.
-/
namespace Go.Proofs.YtclkckinpjkglaaGreatDoor
open Go Go.RowKit

/-- Each call of package quant. -/
structure QuantC (StAt CAt : World → Nat → (Nat → Prop) → MS → Prop) : Prop where ofAll ::

end Go.Proofs.YtclkckinpjkglaaGreatDoor

/-
  The code's store and a cache, without a model.
-/
namespace Go.Proofs.YtclkckinpjkglaaGreatDoor
open Go Go.RowKit

/-- A store and a cache, apart from each other and from all that stood in w0. -/
structure P1 (StAt CAt : World → Nat → (Nat → Prop) → MS → Prop) (w0 : World) (b c : Nat) (F G : Nat → Prop) (s : MS) (W : World) : Prop where
  a : StAt W b F s
  k : CAt W c G s
  ap : ∀ q, F q → ¬ G q
  lowF : ∀ q, F q → w0.heap.size ≤ q
  lowG : ∀ q, G q → w0.heap.size ≤ q
  below : Below w0.heap.size w0 W

section
variable {StAt CAt : World → Nat → (Nat → Prop) → MS → Prop} {w0 W W' : World} {b c : Nat} {F G F' G' : Nat → Prop} {s t : MS}

theorem P1.keep (H : StoreC StAt) (I : IteC StAt CAt) (h : P1 StAt CAt w0 b c F G s W) (hb : Below W.heap.size W W') : P1 StAt CAt w0 b c F G s W' :=
  ⟨H.below h.a hb, I.keep h.k (Keeps.of_below hb noBlock) (fun _ _ h => h), h.ap, h.lowF, h.lowG, h.below.trans (hb.mono h.below.size)⟩
/-- The store alone has gone on. -/
theorem P1.store (I : IteC StAt CAt) (h : P1 StAt CAt w0 b c F G s W) (ok : s.Ok) (ok' : t.Ok) (hg : MS.Grows s t) (hA : StAt W' b F' t) (hK : Keeps F W W') (hW : Within W F F') : P1 StAt CAt w0 b c F' G t W' :=
  ⟨hA, I.grows (I.keep h.k hK fun q h1 h2 => h.ap q h2 h1) ok ok' hg, fun q h1 h2 => (hW q h1).elim (fun h3 => h.ap q h3 h2) (fun h3 => by have := I.lt h.k q h2; omega),
    fun q h1 => (hW q h1).elim (h.lowF q) (fun h3 => Nat.le_trans h.below.size h3), h.lowG, h.below.trans (hK.below h.below.size h.lowF)⟩
/-- Both have. -/
theorem P1.call (h : P1 StAt CAt w0 b c F G s W) (hA : StAt W' b F' t) (hC : CAt W' c G' t) (hap : ∀ q, F' q → ¬ G' q) (hK : Keeps (fun q => F q ∨ G q) W W') (hA' : Within W (fun q => F q ∨ G q) F') (hC' : Within W (fun q => F q ∨ G q) G') : P1 StAt CAt w0 b c F' G' t W' := by
  have hlow : ∀ q, (F q ∨ G q) → w0.heap.size ≤ q := fun q hq => hq.elim (h.lowF q) (h.lowG q)
  exact ⟨hA, hC, hap, fun q h1 => (hA' q h1).elim (hlow q) (fun h3 => Nat.le_trans h.below.size h3), fun q h1 => (hC' q h1).elim (hlow q) (fun h3 => Nat.le_trans h.below.size h3), h.below.trans (hK.below h.below.size hlow)⟩
/-- The cache alone has turned. -/
theorem P1.flushed (H : StoreC StAt) (h : P1 StAt CAt w0 b c F G s W) (hC : CAt W' c G' s) (hK : Keeps G W W') (hW : Within W G G') : P1 StAt CAt w0 b c F G' s W' :=
  ⟨H.keep h.a hK (fun q h1 h2 => h.ap q h1 h2), hC, fun q h1 h2 => (hW q h2).elim (h.ap q h1) (fun h3 => by have := H.lt h.a q h1; omega), h.lowF, fun q h1 => (hW q h1).elim (h.lowG q) (fun h3 => Nat.le_trans h.below.size h3), h.below.trans (hK.below h.below.size h.lowG)⟩
/-- Both are there. -/
theorem P1.start (H : StoreC StAt) {W1 : World} (hA : StAt W1 b F s) (hF : ∀ q, F q → w0.heap.size ≤ q) (hb : Below w0.heap.size w0 W1) (hC : CAt W c G s) (hG : ∀ q, G q → W1.heap.size ≤ q) (hb2 : Below W1.heap.size W1 W) : P1 StAt CAt w0 b c F G s W :=
  ⟨H.below hA hb2, hC, fun q h1 h2 => by have := H.lt hA q h1; have := hG q h2; omega, hF, fun q h1 => Nat.le_trans hb.size (hG q h1), hb.trans (hb2.mono hb.size)⟩
theorem P1.callPost {r : Int × Int × MS} {e : Ending} (h : P1 StAt CAt w0 b c F G s W) (hp : CallPost StAt CAt W b c F G r e W') : e = .returned (.tuple #[.int .i64 r.1, errV r.2.1]) ∧ ∃ F' G', P1 StAt CAt w0 b c F' G' r.2.2 W' := by
  obtain ⟨he, F', G', hA, hC, hap, hK, hWA, hWC⟩ := hp
  exact ⟨he, F', G', h.call hA hC hap hK hWA hWC⟩
end

end Go.Proofs.YtclkckinpjkglaaGreatDoor
