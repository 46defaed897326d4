/-
  Texts of this proof, one behind the other: Once16.
-/
import Derived.Test.YtilcjpaifbcjaaaG9
import Derived.Test.YtilcjpaifbcjaaaG11
import Derived.Deep.CutRange
/-
  SlotsOnce: the walk.
-/
namespace Go.Proofs.Ytilcjpaifbcjaaa
open Go Go.RowKit

/-- The slots, the list of what was told and the list of what is good, apart from each other and from all that stood in w0. -/
structure O16 (w0 : World) (b : Nat) (t : Int) (f : SF) (vt : Value) (told : List Nat) (vg : Value) (good : List Bool) (w : World) : Prop where
  c : SlC w b t f
  own : Owns encU w vt told
  gown : Owns encB w vg good
  new : ∀ k, vt.ownBlock = some k → w0.heap.size ≤ k ∧ k ≠ b
  gnew : ∀ k, vg.ownBlock = some k → w0.heap.size ≤ k ∧ k ≠ b
  apart : ∀ k, vt.ownBlock = some k → vg.ownBlock ≠ some k
  lowB : w0.heap.size ≤ b
  below : Below w0.heap.size w0 w

section
variable {w0 w w' : World} {b : Nat} {t : Int} {f f' : SF} {vt vg v' : Value} {told told' : List Nat} {good good' : List Bool}

theorem O16.sub (h : O16 w0 b t f vt told vg good w) (hb : Below w.heap.size w w') : O16 w0 b t f vt told vg good w' :=
  ⟨h.c.below hb, h.own.block fun k hk => hb.block k (h.own.lt k hk), h.gown.block fun k hk => hb.block k (h.gown.lt k hk), h.new, h.gnew, h.apart, h.lowB, h.below.trans (hb.mono h.below.size)⟩
theorem O16.code (h : O16 w0 b t f vt told vg good w) (s : SlC w' b t f') (hK : Keeps (only b) w w') : O16 w0 b t f' vt told vg good w' :=
  ⟨s, h.own.keep hK (fun k hk e => (h.new k hk).2 e), h.gown.keep hK (fun k hk e => (h.gnew k hk).2 e), h.new, h.gnew, h.apart, h.lowB, h.below.trans (hK.below h.below.size fun k hk => by rw [hk]; exact h.lowB)⟩
theorem O16.push (h : O16 w0 b t f vt told vg good w) (o : Obj) (hown : Owns encU w' v' told') (hgr : (w.alloc o).grownBy w' vt.ownBlock) (hat : v'.ownBlock = vt.ownBlock ∨ v'.ownBlock = some (w.alloc o).heap.size) : O16 w0 b t f v' told' vg good w' := by
  have hK : Keeps (fun k => vt.ownBlock = some k) (w.alloc o) w' := Keeps.of_grown hgr (fun k hk => hk)
  have hA := Keeps.of_alloc (fun k => vt.ownBlock = some k) w o
  have hB := h.below
  have hs := hB.size
  have hc := h.c.lt
  have hS : (w.alloc o).heap.size = w.heap.size + 1 := by simp
  refine ⟨(h.c.keep hA (fun e => (h.new _ e).2 rfl)).keep hK (fun e => (h.new _ e).2 rfl), hown, (h.gown.keep hA (fun k hk e => h.apart k e hk)).keep hK (fun k hk e => h.apart k e hk), fun k hk => ?_, h.gnew, fun k hk hk2 => ?_, h.lowB, (hB.alloc hB.size o).grown hgr (by rw [hS]; omega) (fun k hk => (h.new k hk).1)⟩
  · rcases hat with hat | hat
    · exact h.new k (hat ▸ hk)
    · rw [hat] at hk
      injection hk with hk
      rw [hS] at hk
      omega
  · have hg := h.gown.lt k hk2
    rcases hat with hat | hat
    · exact h.apart k (hat ▸ hk) hk2
    · rw [hat] at hk
      injection hk with hk
      rw [hS] at hk
      omega
theorem O16.gpush (h : O16 w0 b t f vt told vg good w) (o : Obj) (hown : Owns encB w' v' good') (hgr : (w.alloc o).grownBy w' vg.ownBlock) (hat : v'.ownBlock = vg.ownBlock ∨ v'.ownBlock = some (w.alloc o).heap.size) : O16 w0 b t f vt told v' good' w' := by
  have hK : Keeps (fun k => vg.ownBlock = some k) (w.alloc o) w' := Keeps.of_grown hgr (fun k hk => hk)
  have hA := Keeps.of_alloc (fun k => vg.ownBlock = some k) w o
  have hB := h.below
  have hs := hB.size
  have hc := h.c.lt
  have hS : (w.alloc o).heap.size = w.heap.size + 1 := by simp
  refine ⟨(h.c.keep hA (fun e => (h.gnew _ e).2 rfl)).keep hK (fun e => (h.gnew _ e).2 rfl), (h.own.keep hA (fun k hk e => h.apart k hk e)).keep hK (fun k hk e => h.apart k hk e), hown, h.new, fun k hk => ?_, fun k hk hk2 => ?_, h.lowB, (hB.alloc hB.size o).grown hgr (by rw [hS]; omega) (fun k hk => (h.gnew k hk).1)⟩
  · rcases hat with hat | hat
    · exact h.gnew k (hat ▸ hk)
    · rw [hat] at hk
      injection hk with hk
      rw [hS] at hk
      omega
  · have hg := h.own.lt k hk
    rcases hat with hat | hat
    · exact h.apart k hk (hat ▸ hk2)
    · rw [hat] at hk2
      injection hk2 with hk2
      rw [hS] at hk2
      omega
theorem O16.drop {g c k : Nat} (h : O16 w0 b t f vt told (.slice (some ⟨g, 0, none⟩) good.length c) good w) (hk : k < good.length) : O16 w0 b t f vt told (.slice (some ⟨g, 0, none⟩) good.length c) (good.set k false) (w.setCell ⟨g, k, none⟩ (.bool false)) := by
  have hK := Keeps.of_setCell (only g) w ⟨g, k, none⟩ (.bool false) rfl
  have hg := h.gnew g rfl
  have hown := h.gown.put (a := false) (u := .bool false) rfl rfl hk
  refine ⟨h.c.keep hK (fun e => hg.2 e.symm), h.own.keep hK (fun k hk e => h.apart k hk (by rw [e]; rfl)), ?_, h.new, h.gnew, h.apart, h.lowB, h.below.trans (hK.below h.below.size fun k hk => by rw [hk]; exact hg.1)⟩
  exact hown
end

set_option maxRecDepth 100000 in
set_option maxHeartbeats 16000000 in
theorem slotsOnce (t : Int) (l : List Int) (v : Value) (w : World) (hv : Reads encI w v l) (_hl : l.length ≤ maxLen) (hwf : ∀ d ∈ l, (Lit.int .i64 d).wf = true) :
    Calls Try.prog 4 #[.int .i64 t, v] w fun e w' => e = .returned (.bool true) ∧ Below w.heap.size w w' := by
  obtain ⟨a, cap, rfl⟩ := hv.form
  go_enter Try.func4, Try.ntmps4
  go_wp2_with fail
  refine (up16 _).mono ?_
  rintro e w1 ⟨rfl, hb1⟩
  by_cases hten : 1 ≤ t ∧ t ≤ 8
  · obtain ⟨h1, h8⟩ := hten
    have hn0 : ¬ t < 1 := by omega
    have hn1 : ¬ 8 < t := by omega
    go_wp2_with fail
    refine (slotsNew t w1 h1 h8).mono ?_
    rintro e w2 ⟨b, rfl, hlb, s, hb2⟩
    by_cases hlen : l.length ≤ 400
    · have hl4 : ¬ 400 < (l.length : Int) := by omega
      have hs1 := hb1.size
      have L0 : O16 w b t SF.zero (.slice none 0 0) [] (.slice none 0 0) [] w2 :=
        ⟨s, Owns.nil _ _, Owns.nil _ _, (fun _ h => by cases h), (fun _ h => by cases h), (fun _ h => by cases h), by omega, hb1.trans (hb2.mono hb1.size)⟩
      replace L0 := Lib.hid L0
      have HV := Lib.hid hv
      clear s hb1 hb2 hs1 hlb hv
      go_wp2
      go_loopw [7, 8, 9] (fun vt vg i wr => ∃ (k : Nat) (f : SF) (told : List Nat) (good : List Bool), k ≤ l.length ∧ i = .int .i64 k ∧ Onc t f told good ∧ O16 w b t f vt told vg good wr) (fun _ _ i _ => l.length - (intOf i).toNat)
      case atStart => exact ⟨0, _, _, _, Nat.zero_le _, rfl, Onc.zero t, L0.out⟩
      case round =>
        clear L0
        obtain ⟨k, f, told, good, hk, rfl, O, R⟩ := hrel
        by_cases hlt : k < l.length
        · have hk0 : (0 : Int) ≤ (k : Int) := by omega
          have hk1 : (k : Int) < (l.length : Int) := by omega
          obtain ⟨ad, rfl, q0⟩ := (HV.out.keep R.below).intAt k hlt
          have hwk := hwf _ (List.getElem_mem hlt)
          generalize l[k] = x at *
          have hfew := O.few
          obtain ⟨av, cv, rfl, _⟩ := R.own.form
          obtain ⟨ag, cg, rfl, _⟩ := R.gown.form
          have hglen := Lib.hid O.len
          by_cases hrel : x.tmod 2 = 0 ∧ 0 < told.length
          · obtain ⟨hx2, hpos⟩ := hrel
            have hxb : (x.tmod 2 == 0) = true := beq_iff_eq.2 hx2
            have hposI : (0 : Int) < (told.length : Int) := by omega
            have pk := lawPick x told.length wr (by omega) (by omega) hwk
            obtain ⟨J, hJ⟩ : ∃ J : Nat, x % (told.length : Int) = J := Int.eq_ofNat_of_zero_le (Int.emod_nonneg x (by omega))
            have hJl : J < told.length := by have := Int.emod_lt_of_pos x (show (0 : Int) < (told.length : Int) by omega); omega
            have hJg : J < good.length := by rw [hglen.out]; exact hJl
            rw [hJ] at pk
            obtain ⟨gv, cv', ev, _⟩ := R.own.some hpos
            injection ev with ea _ ec
            subst ea ec
            obtain ⟨gg, cg', eg, _⟩ := R.gown.some (by rw [hglen.out]; exact hpos)
            injection eg with ea _ ec
            subst ea ec
            have cT := R.own.natAt J hJl
            have cG := R.gown.boolAt J hJg
            have hs := O.small _ (List.getElem_mem hJl)
            have hJ0 : (0 : Int) ≤ (J : Int) := by omega
            have hJ1 : (J : Int) < (told.length : Int) := by omega
            have hJ2 : (J : Int) < (good.length : Int) := by omega
            have hgood : good[J] = decide (f.find t told[J] < 16) := by
              have := O.tells J hJl
              rw [List.getElem?_eq_getElem hJg] at this
              exact Option.some.inj this
            have O2 := O.release h1 h8 hJl
            have R1 := R.sub (Below.refl wr.heap.size wr).drew
            have GV := slotsRelease R1.c O.ok h1 h8 _ hs
            replace R1 := Lib.hid R1
            have hcT : ∀ W {f' : SF}, O16 w b t f' (.slice (some ⟨gv, 0, none⟩) told.length cv) told (.slice (some ⟨gg, 0, none⟩) good.length cg) good W → W.cell? ⟨gv, J, none⟩ = some (.int .u64 told[J]) := fun W _ h => h.own.natAt J hJl
            have hcG : ∀ W {f' : SF}, O16 w b t f' (.slice (some ⟨gv, 0, none⟩) told.length cv) told (.slice (some ⟨gg, 0, none⟩) good.length cg) good W → W.cell? ⟨gg, J, none⟩ = some (.bool (decide (f.find t told[J] < 16))) := fun W _ h => by rw [← hgood]; exact h.gown.boolAt J hJg
            clear hJ R
            by_cases hl : f.find t told[J] < 16
            · rw [decide_eq_true hl] at hgood hcG
              rw [hgood] at cG
              have hE : f.getE t told[J] = 0 := if_pos hl
              rw [hE, errV0'] at GV
              clear hgood hE hl
              generalize f.rel t told[J] = f2 at *
              generalize told[J] = HJ at *
              go_wp2_with fail
              refine pk.mono ?_
              rintro e wx ⟨rfl, rfl⟩
              clear pk
              go_wp2
              go_region_held3 (fun w' => w'.cell? ⟨gv, J, none⟩ = some (.int .u64 HJ) ∧ w'.cell? ⟨gg, J, none⟩ = some (.bool true)) (first | assumption | exact ⟨by assumption, by assumption⟩)
                (first
                  | (go_at_call 12; refine GV.mono ?_; rintro e W1 ⟨rfl, s5, hK5⟩; have R2 := Lib.hid (R1.out.code s5 hK5); have cT2 := hcT _ R2.out; have cG2 := hcG _ R2.out; clear s5 hK5))
              have z2 := R2.out.gown.free J
              have R3 := Lib.hid (R2.out.drop hJg)
              clear R1 R2 GV cT cG hcT hcG
              go_wp2
              exact ⟨⟨k + 1, f2, told, good.set J false, by omega, by go_num, O2, R3.out⟩, by simp [intOf]; omega⟩
            · rw [decide_eq_false hl] at hgood hcG
              rw [hgood] at cG
              have hE : f.getE t told[J] = 5 := if_neg hl
              rw [hE, errV5] at GV
              clear hgood hE hl
              generalize f.rel t told[J] = f2 at *
              generalize told[J] = HJ at *
              go_wp2_with fail
              refine pk.mono ?_
              rintro e wx ⟨rfl, rfl⟩
              clear pk
              go_wp2
              go_region_held3 (fun w' => w'.cell? ⟨gv, J, none⟩ = some (.int .u64 HJ) ∧ w'.cell? ⟨gg, J, none⟩ = some (.bool false)) (first | assumption | exact ⟨by assumption, by assumption⟩)
                (first
                  | (go_at_call 12; refine GV.mono ?_; rintro e W1 ⟨rfl, s5, hK5⟩; have R2 := Lib.hid (R1.out.code s5 hK5); have cT2 := hcT _ R2.out; have cG2 := hcG _ R2.out; clear s5 hK5))
              have z2 := R2.out.gown.free J
              have R3 := Lib.hid (R2.out.drop hJg)
              clear R1 R2 GV cT cG hcT hcG
              go_wp2
              exact ⟨⟨k + 1, f2, told, good.set J false, by omega, by go_num, O2, R3.out⟩, by simp [intOf]; omega⟩
          · have GV := fun W (hb : Below wr.heap.size wr W) => slotsGrant (R.sub hb).c (k : Int)
            have hcT : ∀ (W : World) {f' : SF}, O16 w b t f' (.slice av told.length cv) told (.slice ag good.length cg) good W → ∀ j (hj : j < told.length), ∃ g, av = some ⟨g, 0, none⟩ ∧ W.cell? ⟨g, j, none⟩ = some (.int .u64 told[j]) := fun W _ h j hj => by
              obtain ⟨g, c', e, _⟩ := h.own.some (by omega)
              injection e with ea _ ec
              subst ea ec
              exact ⟨g, rfl, h.own.natAt j hj⟩
            have hcG : ∀ (W : World) {f' : SF}, O16 w b t f' (.slice av told.length cv) told (.slice ag good.length cg) good W → ∀ j (hj : j < good.length), ∃ g, ag = some ⟨g, 0, none⟩ ∧ W.cell? ⟨g, j, none⟩ = some (.bool good[j]) := fun W _ h j hj => by
              obtain ⟨g, c', e, _⟩ := h.gown.some (by omega)
              injection e with ea _ ec
              subst ea ec
              exact ⟨g, rfl, h.gown.boolAt j hj⟩
            have hfewI : (told.length : Int) ≤ 256 := by omega
            have hR := Lib.hid R
            clear R
            go_upto_region 10 with (fail)
            go_cut [64] from 48 to 130 (fun s64 wc => s64 = .bool false ∧ wc = wr)
            case first =>
              by_cases hx2 : x.tmod 2 = 0
              · have hxb : (x.tmod 2 == 0) = true := beq_iff_eq.2 hx2
                have hle : ¬ (0 : Int) < (told.length : Int) := by omega
                go_wp2
                go_meet
                case rel => exact ⟨congrArg Value.bool (decide_eq_false (by omega)), rfl⟩
              · have hxb : (x.tmod 2 == 0) = false := beq_eq_false_iff_ne.2 hx2
                go_wp2
                go_meet
                case rel => exact ⟨rfl, rfl⟩
            case rest =>
            obtain ⟨rfl, rfl⟩ := hcut
            clear q0 hwk
            by_cases hn : f.next < 16
            · have O2 := O.granted h1 h8 hn (k : Int)
              have hfr := O.fresh h1 h8 hn
              have gv := GV _ (Below.refl _ _)
              rw [show f.grantE = 0 from if_pos hn, errV0'] at gv
              clear GV O
              generalize f.grantH t = G at *
              generalize f.grant (k : Int) = f2 at *
              go_wp2_with fail
              refine gv.mono ?_
              rintro e w5 ⟨rfl, s5, hK5⟩
              have R2 := Lib.hid (hR.out.code s5 hK5)
              clear gv s5 hK5 hR
              go_wp2
              go_loop [13, 14] (fun hv i => ∃ c j : Nat, c ≤ j ∧ j ≤ told.length ∧ hv = .int .i64 c ∧ i = .int .i64 j) (fun _ i => told.length - (intOf i).toNat)
              case atStart => exact ⟨0, 0, Nat.le_refl _, Nat.zero_le _, rfl, rfl⟩
              case round =>
                obtain ⟨c, j, hcj, hj, rfl, rfl⟩ := hrel
                by_cases hjl : j < told.length
                · have hjg : j < good.length := by rw [hglen.out]; exact hjl
                  obtain ⟨gt, rfl, cT⟩ := hcT _ R2.out j hjl
                  obtain ⟨gg, rfl, cG⟩ := hcG _ R2.out j hjg
                  have hne := hfr _ (List.getElem_mem hjl)
                  generalize told[j] = y at *
                  generalize good[j] = z at *
                  have hyb : ((y : Int) == (G : Int)) = false := by rw [beq_eq_false_iff_ne]; omega
                  have hj0 : (0 : Int) ≤ (j : Int) := by omega
                  have hj1 : (j : Int) < (told.length : Int) := by omega
                  have hj2 : (j : Int) < (good.length : Int) := by omega
                  have hc0 : (c : Int) ≤ 256 := by omega
                  clear hcT hcG hne hfr
                  cases z with
                  | true =>
                    go_wp2
                    exact ⟨⟨c + 1, j + 1, by omega, by omega, by go_num, by go_num⟩, by simp [intOf]; omega⟩
                  | false =>
                    go_wp2
                    exact ⟨⟨c, j + 1, by omega, by omega, rfl, by go_num⟩, by simp [intOf]; omega⟩
                · obtain rfl : j = told.length := by omega
                  clear hcT hcG hfr
                  have hA := R2.out.own.alloc (.cells #[.int .u64 G] 29)
                  have hsrc := oneU w5 G w5.heap.size rfl
                  have hln : told.length + [G].length ≤ 1000000 := by simp; omega
                  have hln2 : good.length + [true].length ≤ 1000000 := by rw [hglen.out]; simp; omega
                  go_wp2_with (first
                    | (at_builtin; refine appendU rfl (.tmp 124) (.tmp 126) rfl _ _ told [G] rfl hA rfl hsrc hln ?_; intro v' w7 hown hgr hat; have R4 := Lib.hid (R2.out.push _ hown hgr hat); have hA2 := R4.out.gown.alloc (.cells #[.bool true] 4); have hsrc2 := oneB w7 true w7.heap.size rfl; clear hown hgr hat hA hsrc)
                    | (at_builtin; refine appendB rfl (.tmp 128) (.tmp 129) rfl _ _ good [true] rfl hA2 rfl hsrc2 hln2 ?_; intro v2 w8 hown hgr hat; have R5 := Lib.hid (R4.out.gpush _ hown hgr hat); clear hown hgr hat hA2 hsrc2))
                  exact ⟨⟨k + 1, f2, told ++ [G], good ++ [true], by omega, by go_num, O2, R5.out⟩, by simp [intOf]; omega⟩
            · have hmany := O.many hn
              have hmI : ¬ (told.length : Int) < 16 := by omega
              have gv := GV _ (Below.refl _ _)
              rw [show f.grantE = 6 from if_neg hn, errV6, show f.grantH t = 0 from if_neg hn, show f.grant (k : Int) = f from if_neg hn] at gv
              clear GV
              go_wp2_with fail
              refine gv.mono ?_
              rintro e w5 ⟨rfl, s5, hK5⟩
              have R2 := Lib.hid (hR.out.code s5 hK5)
              clear gv s5 hK5 hR
              go_wp2
              go_loop [13, 14] (fun hv i => ∃ c j : Nat, c ≤ j ∧ j ≤ told.length ∧ hv = .int .i64 c ∧ i = .int .i64 j) (fun _ i => told.length - (intOf i).toNat)
              case atStart => exact ⟨0, 0, Nat.le_refl _, Nat.zero_le _, rfl, rfl⟩
              case round =>
                obtain ⟨c, j, hcj, hj, rfl, rfl⟩ := hrel
                by_cases hjl : j < told.length
                · have hjg : j < good.length := by rw [hglen.out]; exact hjl
                  obtain ⟨gt, rfl, cT⟩ := hcT _ R2.out j hjl
                  obtain ⟨gg, rfl, cG⟩ := hcG _ R2.out j hjg
                  generalize told[j] = y at *
                  generalize good[j] = z at *
                  have hj0 : (0 : Int) ≤ (j : Int) := by omega
                  have hj1 : (j : Int) < (told.length : Int) := by omega
                  have hj2 : (j : Int) < (good.length : Int) := by omega
                  have hc0 : (c : Int) ≤ 256 := by omega
                  clear hcT hcG
                  generalize hyz : ((y : Int) == 0) = yz at *
                  cases z <;> cases yz
                  · go_wp2
                    exact ⟨⟨c, j + 1, by omega, by omega, rfl, by go_num⟩, by simp [intOf]; omega⟩
                  · go_wp2
                    exact ⟨⟨c, j + 1, by omega, by omega, rfl, by go_num⟩, by simp [intOf]; omega⟩
                  · go_wp2
                    exact ⟨⟨c + 1, j + 1, by omega, by omega, by go_num, by go_num⟩, by simp [intOf]; omega⟩
                  · go_wp2
                    exact ⟨⟨c + 1, j + 1, by omega, by omega, by go_num, by go_num⟩, by simp [intOf]; omega⟩
                · obtain rfl : j = told.length := by omega
                  clear hcT hcG
                  by_cases hc16 : (c : Int) < 16
                  · go_wp2
                    exact ⟨⟨k + 1, f, told, good, by omega, by go_num, O, R2.out⟩, by simp [intOf]; omega⟩
                  · go_wp2
                    exact ⟨⟨k + 1, f, told, good, by omega, by go_num, O, R2.out⟩, by simp [intOf]; omega⟩
        · obtain rfl : k = l.length := by omega
          have hfew := O.few
          have hfewI : (told.length : Int) ≤ 256 := by omega
          have hglen := Lib.hid O.len
          obtain ⟨av, cv, rfl, _⟩ := R.own.form
          obtain ⟨ag, cg, rfl, _⟩ := R.gown.form
          have hbl := R.below
          have hR := Lib.hid R
          clear R HV hwf
          go_wp2
          go_loopw [15] (fun i wr' => ∃ j : Nat, j ≤ told.length ∧ i = .int .i64 j ∧ Below wr.heap.size wr wr') (fun i _ => told.length - (intOf i).toNat)
          case atStart => exact ⟨0, Nat.zero_le _, rfl, Below.refl _ _⟩
          case round =>
            obtain ⟨j, hj, rfl, hb⟩ := hrel
            by_cases hjl : j < told.length
            · have hjg : j < good.length := by rw [hglen.out]; exact hjl
              have R := hR.out.sub hb
              obtain ⟨gt, ct, e, _⟩ := R.own.some (by omega)
              injection e with ea _ ec
              subst ea ec
              obtain ⟨gg, cg', e, _⟩ := R.gown.some (by omega)
              injection e with ea _ ec
              subst ea ec
              have cT := R.own.natAt j hjl
              have cG2 : ∀ W, Below wr.heap.size wr W → W.cell? ⟨gg, j, none⟩ = some (.bool good[j]) := fun W hb => (R.sub hb).gown.boolAt j hjg
              have GV := slotsGet R.c O.ok h1 h8 told[j] (O.small _ (List.getElem_mem hjl))
              have hgood : good[j] = decide (f.find t told[j] < 16) := by
                have := O.tells j hjl
                rw [List.getElem?_eq_getElem hjg] at this
                exact Option.some.inj this
              have hj0 : (0 : Int) ≤ (j : Int) := by omega
              have hj1 : (j : Int) < (told.length : Int) := by omega
              have hj2 : (j : Int) < (good.length : Int) := by omega
              clear hR R
              by_cases hl : f.find t told[j] < 16
              · rw [decide_eq_true hl] at hgood
                have hE : f.getE t told[j] = 0 := if_pos hl
                rw [hE, errV0'] at GV
                rw [hgood] at cG2
                clear hgood hE hl
                generalize f.getV t told[j] = x at *
                generalize told[j] = y at *
                go_wp2_with fail
                refine GV.mono ?_
                rintro e w6 ⟨rfl, hb6⟩
                have cG3 : ∀ u : Sub w6, u.1.cell? ⟨gg, j, none⟩ = some (.bool true) := fun u => cG2 _ (hb6.trans (u.2.mono hb6.size))
                have hb7 := hb.trans (hb6.mono hb.size)
                clear GV cG2 cT hb hb6
                go_wp2
                refine wp_region_quiet_all (C := fun w' => ∃ u : Sub w6, w' = u.1) (by kernel_rfl) (by kernel_rfl) (InSub.drew w6) ?_
                iterate 7 (go_big_quiet_step (fail))
                refine wpQuiet_nil ?_
                clear cG3
                intro w' hw'
                obtain ⟨u, rfl⟩ := hw'
                go_wp2
                exact ⟨⟨j + 1, by omega, by go_num, hb7.trans (u.2.mono hb7.size)⟩, by simp [intOf]; omega⟩
              · rw [decide_eq_false hl] at hgood
                have hE : f.getE t told[j] = 5 := if_neg hl
                rw [hE, errV5] at GV
                rw [hgood] at cG2
                clear hgood hE hl
                generalize f.getV t told[j] = x at *
                generalize told[j] = y at *
                go_wp2_with fail
                refine GV.mono ?_
                rintro e w6 ⟨rfl, hb6⟩
                have cG3 : ∀ u : Sub w6, u.1.cell? ⟨gg, j, none⟩ = some (.bool false) := fun u => cG2 _ (hb6.trans (u.2.mono hb6.size))
                have hb7 := hb.trans (hb6.mono hb.size)
                clear GV cG2 cT hb hb6
                go_wp2
                refine wp_region_quiet_all (C := fun w' => ∃ u : Sub w6, w' = u.1) (by kernel_rfl) (by kernel_rfl) (InSub.drew w6) ?_
                iterate 7 (go_big_quiet_step (fail))
                refine wpQuiet_nil ?_
                clear cG3
                intro w' hw'
                obtain ⟨u, rfl⟩ := hw'
                go_wp2
                exact ⟨⟨j + 1, by omega, by go_num, hb7.trans (u.2.mono hb7.size)⟩, by simp [intOf]; omega⟩
            · obtain rfl : j = told.length := by omega
              replace hbl := Lib.hid (hbl.trans (hb.mono hbl.size))
              clear hR hb
              go_wp2
              go_ret
              exact ⟨rfl, hbl.out⟩
    · have hl4 : 400 < (l.length : Int) := by omega
      have hb := hb1.trans (hb2.mono hb1.size)
      clear s hv hwf hb1 hb2
      go_wp2
      go_ret
      exact ⟨rfl, hb⟩
  · have hno : t < 1 ∨ 8 < t := by omega
    clear hv hwf
    go_wp2_with fail
    refine (slotsNone t w1 hno).mono ?_
    rintro e w2 ⟨rfl, rfl⟩
    by_cases h0 : t < 1
    · go_wp2
      go_ret
      exact ⟨rfl, hb1⟩
    · have h8 : 8 < t := by omega
      have h9 : decide (t ≤ 8) = false := decide_eq_false (by omega)
      clear hno
      go_wp2
      go_ret
      exact ⟨rfl, hb1⟩

end Go.Proofs.Ytilcjpaifbcjaaa
