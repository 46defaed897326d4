/-
  Texts of this proof, one behind the other: Up16, Plays16.
-/
import Derived.Test.YtilcjpaifbcjaaaG9
import Derived.Test.YtilcjpaifbcjaaaG10
import Derived.Test.YtilcjpaifbcjaaaG12
import Derived.Deep.CutRange
/-
  The document's example of layer 16.
-/
namespace Go.Proofs.Ytilcjpaifbcjaaa
open Go Go.RowKit

def upF1 : SF := SF.zero.grant 7
def upF2 : SF := upF1.rel 1 72057594037927936
def upF3 : SF := upF2.grant 8
theorem upF1_ok : upF1.Ok := SF.Ok.zero.grant 7
theorem upF2_ok : upF2.Ok := upF1_ok.rel 1 _
theorem upF3_ok : upF3.Ok := upF2_ok.grant 8

section
variable {w : World} {b : Nat}
theorem up16_1 (s : SlC w b 1 SF.zero) : Calls Try.prog 19 #[.pointer (some ⟨b, 0, none⟩), .int .i64 7] w fun e w' => e = .returned (.tuple #[.int .u64 72057594037927936, .nilIface]) ∧ SlC w' b 1 upF1 ∧ Keeps (only b) w w' := by
  have h := slotsGrant s 7
  rw [show SF.zero.grantH 1 = 72057594037927936 by decide +kernel, show SF.zero.grantE = 0 by decide +kernel] at h
  exact h
theorem up16_2 (s : SlC w b 1 upF1) : Calls Try.prog 9 #[.pointer (some ⟨b, 0, none⟩), .int .u64 72057594037927936] w fun e w' => e = .returned (.tuple #[.int .i64 7, .nilIface]) ∧ Below w.heap.size w w' := by
  have h := slotsGet s upF1_ok (by decide) (by decide) 72057594037927936 (by decide)
  rw [show upF1.getV 1 72057594037927936 = 7 by decide +kernel, show upF1.getE 1 72057594037927936 = 0 by decide +kernel] at h
  exact h
theorem up16_3 (s : SlC w b 1 upF1) : Calls Try.prog 12 #[.pointer (some ⟨b, 0, none⟩), .int .u64 72057594037927936] w fun e w' => e = .returned .nilIface ∧ SlC w' b 1 upF2 ∧ Keeps (only b) w w' := by
  have h := slotsRelease s upF1_ok (by decide) (by decide) 72057594037927936 (by decide)
  rw [show upF1.getE 1 72057594037927936 = 0 by decide +kernel] at h
  exact h
theorem up16_4 (s : SlC w b 1 upF2) : Calls Try.prog 19 #[.pointer (some ⟨b, 0, none⟩), .int .i64 8] w fun e w' => e = .returned (.tuple #[.int .u64 72057594037927937, .nilIface]) ∧ SlC w' b 1 upF3 ∧ Keeps (only b) w w' := by
  have h := slotsGrant s 8
  rw [show upF2.grantH 1 = 72057594037927937 by decide +kernel, show upF2.grantE = 0 by decide +kernel] at h
  exact h
theorem up16_5 (s : SlC w b 1 upF3) : Calls Try.prog 9 #[.pointer (some ⟨b, 0, none⟩), .int .u64 72057594037927936] w fun e w' => e = .returned (.tuple #[.int .i64 0, .iface 65 (.int .i64 5)]) ∧ Below w.heap.size w w' := by
  have h := slotsGet s upF3_ok (by decide) (by decide) 72057594037927936 (by decide)
  rw [show upF3.getV 1 72057594037927936 = 0 by decide +kernel, show upF3.getE 1 72057594037927936 = 5 by decide +kernel] at h
  exact h
theorem up16_6 (w : World) : Calls Try.prog 22 #[.int .i64 1, .int .i64 0, .int .i64 0] w fun e w' => e = .returned (.int .u64 72057594037927936) ∧ w = w' := refHPack 1 0 0 w
theorem up16_7 (w : World) : Calls Try.prog 22 #[.int .i64 1, .int .i64 0, .int .i64 1] w fun e w' => e = .returned (.int .u64 72057594037927937) ∧ w = w' := refHPack 1 0 1 w
theorem up16_8 (w : World) : Calls Try.prog 11 #[.iface 65 (.int .i64 5)] w fun e w' => e = .returned (.int .i64 5) ∧ w = w' := lawCode 5 w (by decide) (by decide)
end

theorem only_below {w0 w w' : World} {b : Nat} (h : Below w0.heap.size w0 w) (hb : w0.heap.size ≤ b) (hK : Keeps (only b) w w') : Below w0.heap.size w0 w' :=
  h.trans (hK.below h.size (fun k hk => by rw [hk]; exact hb))

set_option maxRecDepth 100000 in
set_option maxHeartbeats 4000000 in
theorem up16 (w : World) : Calls Try.prog 5 #[] w fun e w' => e = .returned (.bool true) ∧ Below w.heap.size w w' := by
  go_enter Try.func5, Try.ntmps5
  go_wp2_with fail
  refine (slotsNew 1 w (by decide) (by decide)).mono ?_
  rintro e w1 ⟨b, rfl, hlt, s, hb⟩
  go_wp2_with fail
  refine (up16_1 s).mono ?_
  rintro e w2 ⟨rfl, s1, hK⟩
  replace hb := only_below hb hlt hK
  clear s hK
  go_wp2_with fail
  refine (up16_2 s1).mono ?_
  rintro e w3 ⟨rfl, hb3⟩
  replace s1 := s1.below hb3
  replace hb := hb.trans (hb3.mono hb.size)
  clear hb3
  go_wp2_with fail
  refine (up16_3 s1).mono ?_
  rintro e w4 ⟨rfl, s2, hK⟩
  replace hb := only_below hb hlt hK
  clear s1 hK
  go_wp2_with fail
  refine (up16_4 s2).mono ?_
  rintro e w5 ⟨rfl, s3, hK⟩
  replace hb := only_below hb hlt hK
  clear s2 hK
  go_wp2_with fail
  refine (up16_5 s3).mono ?_
  rintro e w6 ⟨rfl, hb3⟩
  replace hb := hb.trans (hb3.mono hb.size)
  clear hb3 s3
  go_wp2_with fail
  refine (up16_6 w6).mono ?_
  rintro e w7 ⟨rfl, rfl⟩
  go_wp2_with fail
  refine (up16_7 w6).mono ?_
  rintro e w7 ⟨rfl, rfl⟩
  go_wp2_with fail
  refine (up16_8 w6).mono ?_
  rintro e w7 ⟨rfl, rfl⟩
  go_wp2
  go_ret
  exact ⟨rfl, hb⟩

end Go.Proofs.Ytilcjpaifbcjaaa

/-
  SlotsPlays: the walk.
-/
namespace Go.Proofs.Ytilcjpaifbcjaaa
open Go Go.RowKit

/-- A deed. -/
structure Dd where
  what : Int
  n : Int
  h : Nat
deriving Inhabited

/-- Its cells. -/
def encDd : Enc Try.prog Dd where
  slice := 22
  elem := 31
  size := 3
  bytes := 24
  cells d := [.int .i64 d.what, .int .i64 d.n, .int .u64 d.h]
  zero := .agg #[.int .i64 0, .int .i64 0, .int .u64 0]
  und := Try.underlying22
  info := info_of _ _ _ _ _ (by kernel_rfl)
  zsize := rfl
  pos := by decide
  few := by decide
  len _ := rfl
  one d u h := by
    simp only [List.mem_cons, List.not_mem_nil, or_false] at h
    rcases h with rfl | rfl | rfl <;> rfl

theorem Reads.deedAt {w : World} {a : Option Addr} {cap : Nat} {l : List Dd} (h : Reads encDd w (.slice a l.length cap) l) (i : Nat) (hi : i < l.length) : ∃ ad, a = some ad ∧ w.cell? (ad.add (i * 3)) = some (.int .i64 l[i].what) ∧ w.cell? ⟨(ad.add (i * 3)).block, (ad.add (i * 3)).off + 1, none⟩ = some (.int .i64 l[i].n) ∧ w.cell? ⟨(ad.add (i * 3)).block, (ad.add (i * 3)).off + 2, none⟩ = some (.int .u64 l[i].h) := by
  obtain ⟨ad, rfl, H⟩ := h.at i hi
  have h0 := H 0 (by decide)
  have h1 := H 1 (by decide)
  have h2 := H 2 (by decide)
  refine ⟨ad, rfl, by simpa [encDd] using h0, ?_, ?_⟩
  · simp only [encDd] at h1
    rw [← Addr.add_add, Addr.add, if_neg (by omega)] at h1
    simpa using h1
  · simp only [encDd] at h2
    rw [← Addr.add_add, Addr.add, if_neg (by omega)] at h2
    simpa using h2

/-- A deed in a variable. -/
def HoldsDd (w : World) (b : Nat) (d : Dd) : Prop := w.heap[b]? = some (.cells #[.int .i64 d.what, .int .i64 d.n, .int .u64 d.h] 31 (0, 0))
theorem HoldsDd.lt {w : World} {b : Nat} {d : Dd} (h : HoldsDd w b d) : b < w.heap.size := (Array.getElem?_eq_some_iff.1 h).1
theorem HoldsDd.keep {w w' : World} {b : Nat} {d : Dd} (h : HoldsDd w b d) {F : Nat → Prop} (hK : Keeps F w w') (hF : ¬ F b) : HoldsDd w' b d := (hK.block b h.lt hF).trans h
theorem HoldsDd.below {w w' : World} {b : Nat} {d : Dd} (h : HoldsDd w b d) (hb : Below w.heap.size w w') : HoldsDd w' b d := (hb.block b h.lt).trans h
theorem HoldsDd.n {w : World} {b : Nat} {d : Dd} (h : HoldsDd w b d) : w.cell? ⟨b, 1, none⟩ = some (.int .i64 d.n) := by rw [cell_of_row _ _ _ _ _ _ h]; rfl
theorem HoldsDd.what {w : World} {b : Nat} {d : Dd} (h : HoldsDd w b d) : w.cell? ⟨b, 0, none⟩ = some (.int .i64 d.what) := by rw [cell_of_row _ _ _ _ _ _ h]; rfl

/-- N and what follows it. -/
def seqV (N : Int) (j : Nat) : List Int := (List.range j).map fun k : Nat => wrap64 (N + (k : Int))
theorem seqV_succ (N : Int) (j : Nat) : seqV N (j + 1) = seqV N j ++ [wrap64 (N + (j : Int))] := by
  unfold seqV
  rw [List.range_succ, List.map_append]
  rfl
theorem seqV_length (N : Int) (j : Nat) : (seqV N j).length = j := by simp [seqV]

/-- At the loop's head. -/
structure L16 (w : World) (n k : Nat) (b m g : Nat) (t : Int) (f : SF) (vt : Value) (told : List Nat) (W : World) : Prop where
  le : k ≤ n
  ok : f.Ok
  few : told.length ≤ k
  small : ∀ h ∈ told, h < 18446744073709551616
  r : R16 w b m g t f f vt told W

set_option maxRecDepth 100000 in
set_option maxHeartbeats 16000000 in
theorem slotsPlays (t : Int) (l : List Dd) (v : Value) (w : World) (hv : Reads encDd w v l) (_hl : l.length ≤ maxLen) (hwf : ∀ d ∈ l, (Lit.int .i64 d.what).wf = true ∧ (Lit.int .i64 d.n).wf = true ∧ d.h < 18446744073709551616) :
    Calls Try.prog 3 #[.int .i64 t, v] w fun e w' => e = .returned (.bool true) ∧ Below w.heap.size w w' := by
  obtain ⟨a, cap, rfl⟩ := hv.form
  go_enter Try.func3, Try.ntmps3
  go_wp2_with fail
  refine (up16 _).mono ?_
  rintro e w1 ⟨rfl, hb1⟩
  by_cases hten : 1 ≤ t ∧ t ≤ 8
  · obtain ⟨h1, h8⟩ := hten
    have hn0 : ¬ t < 1 := by omega
    have hn1 : ¬ 8 < t := by omega
    go_wp2_with fail
    refine (slotsNew t w1 h1 h8).mono ?_
    rintro e w2 ⟨b, rfl, hlb, s, hb2⟩
    by_cases hlen : l.length ≤ 400
    · have hl4 : ¬ 400 < (l.length : Int) := by omega
      go_wp2_with fail
      refine (refSlNew t w2).mono ?_
      rintro e w3 ⟨m, g, rfl, hlm, hlg, s', hb3⟩
      have hb23 := hb1.trans (hb2.mono hb1.size)
      have hs1 := hb1.size
      have hs2 := hb2.size
      have hblt := s.lt
      have L0 : L16 w l.length 0 b m g t SF.zero (.slice none 0 0) [] w3 :=
        ⟨Nat.zero_le _, SF.Ok.zero, Nat.le_refl _, (fun _ h => by cases h), s.below hb3, s', Owns.nil _ _, (fun _ h => by cases h), by omega, by omega, by omega, by omega, by omega, hb23.trans (hb3.mono hb23.size)⟩
      replace L0 := Lib.hid L0
      have HV := Lib.hid hv
      clear s s' hb1 hb2 hb3 hb23 hs1 hs2 hblt hlb hlm hlg hv
      go_wp2
      go_loopw [8, 9] (fun vt i wr => ∃ (k : Nat) (f : SF) (told : List Nat), i = .int .i64 k ∧ L16 w l.length k b m g t f vt told wr) (fun _ i _ => l.length - (intOf i).toNat)
      case atStart => exact ⟨0, _, _, rfl, L0.out⟩
      case round =>
        clear L0
        obtain ⟨k, f, told, rfl, hk, ok, few, small, R⟩ := hrel
        by_cases hlt : k < l.length
        · have hk0 : (0 : Int) ≤ (k : Int) := by omega
          have hk1 : (k : Int) < (l.length : Int) := by omega
          obtain ⟨ad, rfl, q0, q1, q2⟩ := (HV.out.keep R.below).deedAt k hlt
          have hwk := hwf _ (List.getElem_mem hlt)
          generalize l[k] = d at *
          obtain ⟨What, N, H0⟩ := d
          simp only at q0 q1 q2 hwk
          obtain ⟨g0, g1, g2⟩ := hwk
          have hbV : Below wr.heap.size wr (wr.alloc (.cells #[.int .i64 What, .int .i64 N, .int .u64 H0] 31)) := by go_grown
          have hx : HoldsDd (wr.alloc (.cells #[.int .i64 What, .int .i64 N, .int .u64 H0] 31)) wr.heap.size ⟨What, N, H0⟩ := heap_alloc_new _ _
          have R1 := R.sub hbV
          have nb : wr.heap.size ≠ b := by have := R.c.lt; omega
          have ng : wr.heap.size ≠ g := by have := R.r.ltg; omega
          obtain ⟨av, cv, rfl, _, _, _, _⟩ := R.own.form
          have nt : ∀ j, (Value.slice av told.length cv).ownBlock = some j → wr.heap.size ≠ j := fun j hj => by have := R.own.lt j hj; omega
          clear R hbV
          have ht0 : (0 : Int) ≤ (told.length : Int) := by omega
          have R1 := Lib.hid R1
          go_upto_region 14 with (fail)
          generalize wr.alloc (.cells #[.int .i64 What, .int .i64 N, .int .u64 H0] 31) = V at *
          generalize hbx : wr.heap.size = bx at *
          have hxw := hx.what
          dsimp only at hxw
          go_cut [71] from 52 to 182 (fun s71 wc => (∃ B : Bool, s71 = .bool B ∧ (B = true → 0 < told.length)) ∧ wc = V)
          case first =>
            by_cases hw : What < 0
            · go_wp2
              go_meet
              case rel => exact ⟨⟨_, rfl, fun h => by have := of_decide_eq_true h; omega⟩, rfl⟩
            · go_wp2
              go_meet
              case rel => exact ⟨⟨false, rfl, fun h => Bool.noConfusion h⟩, rfl⟩
          case rest =>
          obtain ⟨⟨B, rfl, hB⟩, rfl⟩ := hcut
          clear hxw
          go_upto_if 71 with (fail)
          go_cut [11] from 52 to 182 (fun s11 wd => ∃ H : Nat, s11 = .int .u64 H ∧ H < 18446744073709551616 ∧ wd = wc)
          case first =>
            have hxn := hx.n
            dsimp only at hxn
            cases B with
            | false =>
              go_wp2
              go_meet
              case rel => exact ⟨H0, rfl, g2, rfl⟩
            | true =>
              have hpos := hB rfl
              have pk := lawPick N told.length wc (by omega) (by omega) g1
              obtain ⟨J, hJ⟩ : ∃ J : Nat, N % (told.length : Int) = J := Int.eq_ofNat_of_zero_le (Int.emod_nonneg N (by omega))
              have hJl : J < told.length := by have := Int.emod_lt_of_pos N (show (0 : Int) < (told.length : Int) by omega); omega
              rw [hJ] at pk
              obtain ⟨gv, cv', ev, _⟩ := R1.out.own.some hpos
              injection ev with ea _ ec
              subst ea ec
              have cJ := R1.out.own.natAt J hJl
              have hs := small _ (List.getElem_mem hJl)
              have hJ0 : (0 : Int) ≤ (J : Int) := by omega
              have hJ1 : (J : Int) < (told.length : Int) := by omega
              have hposI : (0 : Int) < (told.length : Int) := by omega
              generalize told[J] = HJ at *
              go_wp2_with fail
              refine pk.mono ?_
              rintro e wx ⟨rfl, rfl⟩
              go_wp2
              go_meet
              case rel => exact ⟨HJ, rfl, hs, rfl⟩
          case rest =>
          obtain ⟨H, rfl, hH, rfl⟩ := hcut
          clear hB
          have pk8 := lawPick What 8 wc (by decide) (by decide) g0
          have p0 := Int.emod_nonneg What (show (8 : Int) ≠ 0 by decide)
          have p1 := Int.emod_lt_of_pos What (show (0 : Int) < 8 by decide)
          generalize What % 8 = p at *
          have hxw := hx.what
          dsimp only at hxw
          go_wp2_with fail
          refine pk8.mono ?_
          rintro e wx ⟨rfl, rfl⟩
          clear pk8 hxw
          by_cases p4 : p = 4
          · subst p4
            have GV := slotsGet R1.out.c ok h1 h8 H hH
            have GR := fun W (hb : Below wc.heap.size wc W) => refSlGet (R1.out.r.below hb) H
            have hE : 0 ≤ f.getE t H ∧ f.getE t H ≤ 8 := by unfold SF.getE; split <;> decide
            generalize f.getE t H = E at *
            generalize f.getV t H = G at *
            have hGG : (G != G) = false := bne_self_eq_false _
            have hEE : (E != E) = false := bne_self_eq_false _
            go_wp2_with fail
            refine GV.mono ?_
            rintro e w5 ⟨rfl, hb5⟩
            clear GV
            go_wp2_with fail
            refine (GR _ hb5).mono ?_
            rintro e w6 ⟨rfl, hb6⟩
            clear GR
            have R2 := Lib.hid (R1.out.sub (hb5.trans (hb6.mono hb5.size)))
            clear R1 hb5 hb6 hx nt
            go_wp2_with fail
            refine (lawCode E w6 hE.1 hE.2).mono ?_
            rintro e w7 ⟨rfl, rfl⟩
            go_wp2_with fail
            refine (same16 R2.out.c R2.out.r).mono ?_
            rintro e w8 ⟨rfl, hb8⟩
            have R3 := Lib.hid (R2.out.sub hb8)
            clear R2 hb8
            go_wp2
            exact ⟨⟨k + 1, f, told, by go_num, by omega, ok, by omega, small, R3.out⟩, by simp [intOf]; omega⟩
          by_cases p5 : p = 5
          · subst p5
            have GV := slotsRelease R1.out.c ok h1 h8 H hH
            have hE : 0 ≤ f.getE t H ∧ f.getE t H ≤ 8 := by unfold SF.getE; split <;> decide
            have GR := fun W (hb : RfS W m g t f) => refSlRelease hb ok H
            have ok2 := ok.rel t H
            generalize f.getE t H = E at *
            generalize f.rel t H = f2 at *
            have hEE : (E != E) = false := bne_self_eq_false _
            go_wp2_with fail
            refine GV.mono ?_
            rintro e w5 ⟨rfl, s5, hK5⟩
            have R2 := Lib.hid (R1.out.code s5 hK5)
            clear GV R1 s5 hK5 hx nt
            go_wp2_with fail
            refine (lawCode E w5 hE.1 hE.2).mono ?_
            rintro e w7 ⟨rfl, rfl⟩
            go_wp2_with fail
            refine (GR _ R2.out.r).mono ?_
            rintro e w6 ⟨rfl, s6, hK6⟩
            have R3 := Lib.hid (R2.out.doc s6 hK6)
            clear GR R2 s6 hK6
            go_wp2_with fail
            refine (same16 R3.out.c R3.out.r).mono ?_
            rintro e w8 ⟨rfl, hb8⟩
            have R4 := Lib.hid (R3.out.sub hb8)
            clear R3 hb8
            go_wp2
            exact ⟨⟨k + 1, f2, told, by go_num, by omega, ok2, by omega, small, R4.out⟩, by simp [intOf]; omega⟩
          by_cases p6 : p = 6
          · subst p6
            have hxn := hx.n
            dsimp only at hxn
            by_cases hz : N.tmod 5 = 0
            · have hzb : (N.tmod 5 == 0) = true := beq_iff_eq.2 hz
              have GV := slotsClear R1.out.c ok
              have GR := fun W (hb : RfS W m g t f) => refSlClear hb ok
              have ok2 := ok.clear
              generalize f.clear = f2 at *
              go_wp2_with fail
              refine GV.mono ?_
              rintro e w5 ⟨rfl, s5, hK5⟩
              have R2 := Lib.hid (R1.out.code s5 hK5)
              clear GV R1 s5 hK5 hx hxn nt
              go_wp2_with fail
              refine (GR _ R2.out.r).mono ?_
              rintro e w6 ⟨rfl, s6, hK6⟩
              have R3 := Lib.hid (R2.out.doc s6 hK6)
              clear GR R2 s6 hK6
              go_wp2_with fail
              refine (same16 R3.out.c R3.out.r).mono ?_
              rintro e w8 ⟨rfl, hb8⟩
              have R4 := Lib.hid (R3.out.sub hb8)
              clear R3 hb8
              go_wp2
              exact ⟨⟨k + 1, f2, told, by go_num, by omega, ok2, by omega, small, R4.out⟩, by simp [intOf]; omega⟩
            · have hzb : (N.tmod 5 == 0) = false := beq_eq_false_iff_ne.2 hz
              go_wp2_with fail
              refine (same16 R1.out.c R1.out.r).mono ?_
              rintro e w8 ⟨rfl, hb8⟩
              have R4 := Lib.hid (R1.out.sub hb8)
              clear R1 hb8 hx hxn nt
              go_wp2
              exact ⟨⟨k + 1, f, told, by go_num, by omega, ok, by omega, small, R4.out⟩, by simp [intOf]; omega⟩
          by_cases p7 : p = 7
          · subst p7
            have pk9 := fun V => lawPick N 9 V (by decide) (by decide) g1
            obtain ⟨r, hr⟩ : ∃ r : Nat, N % 9 = r := Int.eq_ofNat_of_zero_le (Int.emod_nonneg N (by decide))
            have hr9 : r < 9 := by have := Int.emod_lt_of_pos N (show (0 : Int) < 9 by decide); omega
            simp only [hr] at pk9
            obtain ⟨q, hq, hq1⟩ : ∃ q : Nat, (r : Int).tdiv 8 = q ∧ q ≤ 1 := ⟨r / 8, rfl, by omega⟩
            have hvl : f.vals.length ≤ 16 := by unfold SF.vals; rw [List.length_map]; exact f.heldsN_length 16
            have hvl2 : (f.vals.length : Int) ≤ 16 := by omega
            have hvl0 : (0 : Int) ≤ (f.vals.length : Int) := by omega
            have hq2 : (q : Int) ≤ 1 := by omega
            have hq0 : (0 : Int) ≤ (q : Int) := by omega
            have hw1 : IntKind.i64.wrap (q : Int) = (q : Int) := by rw [IntKind.wrap_i64]; omega
            have hw2 : IntKind.i64.wrap ((f.vals.length : Int) + (q : Int)) = (f.vals.length : Int) + (q : Int) := by rw [IntKind.wrap_i64]; omega
            have hbC := R1.out.c.lt
            have hgC := R1.out.r.ltg
            clear hr
            go_wp2
            go_loopw [18, 19] (fun vo i wi => ∃ j : Nat, j ≤ f.vals.length + q ∧ i = .int .i64 j ∧ NRel encI wc (seqV N j) vo wi) (fun _ i _ => f.vals.length + q - (intOf i).toNat)
            case atStart => exact ⟨0, Nat.zero_le _, rfl, NRel.start _ (Below.refl _ _)⟩
            case round =>
              obtain ⟨j, hj, rfl, RL⟩ := hrel
              have RL1 := Lib.hid (RL.later (Below.refl wr.heap.size wr).drew)
              clear RL
              have RW := Lib.hid (R1.out.sub RL1.out.below)
              have hx1 := hx.below RL1.out.below
              have hS0 := hx1.n
              dsimp only at hS0
              have hx1 := Lib.hid hx1
              have hj0 : (0 : Int) ≤ (j : Int) := by omega
              have hj1 : (j : Int) ≤ 17 := by omega
              by_cases hjl : j < f.vals.length + q
              · have hjl2 : (j : Int) < (f.vals.length : Int) + (q : Int) := by omega
                go_wp2
                go_region_held3 (fun w' => w'.cell? ⟨bx, 1, none⟩ = some (.int .i64 N)) (first | assumption)
                  (first
                    | (go_at_call 8; refine (pk9 _).mono ?_; rintro e W0 ⟨rfl, rfl⟩)
                    | (go_at_call 16; refine (refSlVals RW.out.r).mono ?_; rintro e W1 ⟨v7, rfl, RV⟩; have RV2 := Lib.hid RV.below; obtain ⟨a7, c7, rfl, _⟩ := RV.own.form; have hS1 := (hx1.out.below RV2.out).n; dsimp only at hS1; clear RV))
                have RL2 := Lib.hid (RL1.out.later RV2.out)
                clear RL1 RW RV2 hS0 hx1
                have hA := RL2.out.own.alloc (.cells #[.int .i64 (wrap64 (N + (j : Int)))] 3)
                have hsrc := oneI W1 (wrap64 (N + (j : Int))) W1.heap.size rfl
                have hln : (seqV N j).length + [wrap64 (N + (j : Int))].length ≤ 1000000 := by rw [seqV_length]; simp; omega
                go_wp2_with (at_builtin; refine appendI rfl (.tmp 160) (.tmp 165) rfl _ _ (seqV N j) [wrap64 (N + (j : Int))] rfl hA rfl hsrc hln ?_; intro v' w9 hown hgr hat)
                exact ⟨⟨j + 1, by omega, by go_num, by rw [seqV_succ]; exact RL2.out.push _ hown hgr hat⟩, by simp [intOf]; omega⟩
              · have hjl2 : ¬ (j : Int) < (f.vals.length : Int) + (q : Int) := by omega
                go_wp2
                go_region_held3 (fun w' => w'.cell? ⟨bx, 1, none⟩ = some (.int .i64 N)) (first | assumption)
                  (first
                    | (go_at_call 8; refine (pk9 _).mono ?_; rintro e W0 ⟨rfl, rfl⟩)
                    | (go_at_call 16; refine (refSlVals RW.out.r).mono ?_; rintro e W1 ⟨v7, rfl, RV⟩; have RV2 := Lib.hid RV.below; obtain ⟨a7, c7, rfl, _⟩ := RV.own.form; have hS1 := (hx1.out.below RV2.out).n; dsimp only at hS1; clear RV))
                have RL2 := Lib.hid (RL1.out.later RV2.out)
                have R2 := Lib.hid (R1.out.sub RL2.out.below)
                clear R1 RL1 RW RV2 hS0 hS1 hx1 hx nt pk9
                have GV := slotsLay R2.out.c (seqV N j) u18 RL2.out.own.reads (RL2.out.apart hbC) (by rw [seqV_length]; omega)
                have GR := fun W (hb : RfS W m g t f) (hrd : Reads encI W u18 (seqV N j)) => refSlLay hb (seqV N j) u18 hrd (RL2.out.apart hgC) (by rw [seqV_length]; omega)
                have hrd := fun W (hK : Keeps (only b) W1 W) => RL2.out.own.reads.stay hK (fun ad n c e hf => RL2.out.apart hbC ad n c e hf)
                have hE : 0 ≤ f.layE (seqV N j) ∧ f.layE (seqV N j) ≤ 8 := by unfold SF.layE; split <;> decide
                have ok2 := ok.lay (seqV N j)
                generalize f.layE (seqV N j) = E at *
                generalize f.lay (seqV N j) = f2 at *
                have hEE : (E != E) = false := bne_self_eq_false _
                go_wp2_with fail
                refine GV.mono ?_
                rintro e w5 ⟨rfl, s5, hK5⟩
                have R3 := Lib.hid (R2.out.code s5 hK5)
                have hrd5 := hrd _ hK5
                clear GV R2 s5 hK5 hrd RL2
                go_wp2_with fail
                refine (lawCode E w5 hE.1 hE.2).mono ?_
                rintro e w7 ⟨rfl, rfl⟩
                go_wp2_with fail
                refine (GR _ R3.out.r hrd5).mono ?_
                rintro e w6 ⟨rfl, s6, hK6⟩
                have R4 := Lib.hid (R3.out.doc s6 hK6)
                clear GR R3 s6 hK6 hrd5
                go_wp2_with fail
                refine (same16 R4.out.c R4.out.r).mono ?_
                rintro e w8 ⟨rfl, hb8⟩
                have R5 := Lib.hid (R4.out.sub hb8)
                clear R4 hb8
                go_wp2
                exact ⟨⟨k + 1, f2, told, by go_num, by omega, ok2, by omega, small, R5.out⟩, by simp [intOf]; omega⟩
          · have q4 : (p == 4) = false := beq_eq_false_iff_ne.2 p4
            have q5 : (p == 5) = false := beq_eq_false_iff_ne.2 p5
            have q6 : (p == 6) = false := beq_eq_false_iff_ne.2 p6
            have q7 : (p == 7) = false := beq_eq_false_iff_ne.2 p7
            have hxn := hx.n
            dsimp only at hxn
            have GV := slotsGrant R1.out.c N
            have GR := fun W (hb : RfS W m g t f) => refSlGrant hb N
            have hE : 0 ≤ f.grantE ∧ f.grantE ≤ 8 := by unfold SF.grantE; split <;> decide
            have ok2 := ok.grant N
            have hGl := f.grantH_lt t
            generalize f.grantE = E at *
            generalize f.grantH t = G at *
            generalize f.grant N = f2 at *
            have hGG : ((G : Int) != (G : Int)) = false := bne_self_eq_false _
            have hEE : (E != E) = false := bne_self_eq_false _
            go_wp2_with fail
            refine GV.mono ?_
            rintro e w5 ⟨rfl, s5, hK5⟩
            have R2 := Lib.hid (R1.out.code s5 hK5)
            have hx5 := hx.keep hK5 nb
            have hxn5 := hx5.n
            dsimp only at hxn5
            clear GV R1 s5 hK5 hx hxn hx5
            go_wp2_with fail
            refine (GR _ R2.out.r).mono ?_
            rintro e w6 ⟨rfl, s6, hK6⟩
            have R3 := Lib.hid (R2.out.doc s6 hK6)
            clear GR R2 s6 hK6 hxn5
            go_wp2_with fail
            refine (lawCode E w6 hE.1 hE.2).mono ?_
            rintro e w7 ⟨rfl, rfl⟩
            have hA := R3.out.own.alloc (.cells #[.int .u64 G] 29)
            have hsrc := oneU w6 G w6.heap.size rfl
            have hln : told.length + [G].length ≤ 1000000 := by simp; omega
            go_wp2_with (at_builtin; refine appendU rfl (.tmp 103) (.tmp 105) rfl _ _ told [G] rfl hA rfl hsrc hln ?_; intro v' w7 hown hgr hat; have R4 := Lib.hid (R3.out.push _ hown hgr hat); clear hown hgr hat)
            clear hA hsrc R3
            refine (same16 R4.out.c R4.out.r).mono ?_
            rintro e w8 ⟨rfl, hb8⟩
            have R5 := Lib.hid (R4.out.sub hb8)
            clear R4 hb8
            go_wp2
            exact ⟨⟨k + 1, f2, told ++ [G], by go_num, by omega, ok2, by simp; omega, fun h hh => by
              rcases List.mem_append.1 hh with hh | hh
              · exact small h hh
              · rw [List.mem_singleton.1 hh]; exact hGl, R5.out⟩, by simp [intOf]; omega⟩
        · obtain rfl : k = l.length := by omega
          have hbl := R.below
          clear R HV hwf small
          go_wp2
          go_ret
          exact ⟨rfl, hbl⟩
    · have hl4 : 400 < (l.length : Int) := by omega
      have hb := hb1.trans (hb2.mono hb1.size)
      clear s hv hwf hb1 hb2
      go_wp2
      go_ret
      exact ⟨rfl, hb⟩
  · have hno : t < 1 ∨ 8 < t := by omega
    clear hv hwf
    go_wp2_with fail
    refine (slotsNone t w1 hno).mono ?_
    rintro e w2 ⟨rfl, rfl⟩
    by_cases h0 : t < 1
    · go_wp2
      go_ret
      exact ⟨rfl, hb1⟩
    · have h8 : 8 < t := by omega
      clear hno
      go_wp2
      go_ret
      exact ⟨rfl, hb1⟩

end Go.Proofs.Ytilcjpaifbcjaaa
