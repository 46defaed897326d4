/-
  Texts of this proof, one behind the other: IteC, Built9, ReadN, CanonT, Inst14, Open, Open3.
-/
import Derived.Test.YtipocmbplcdmjaaGreatDoorG16
import Derived.Test.YtipocmbplcdmjaaGreatDoorG9
import Derived.Test.YtipocmbplcdmjaaGreatDoorG19
import Derived.Test.YtipocmbplcdmjaaGreatDoorG18
import Derived.OwnWalk
import Derived.Test.YtipocmbplcdmjaaGreatDoorG15
import Derived.Test.YtipocmbplcdmjaaGreatDoorG11
import Derived.Test.YtipocmbplcdmjaaGreatDoorRows
import Derived.Test.YtipocmbplcdmjaaGreatDoorG14
import Derived.ProofKit
import Derived.OpenShut
import Derived.LaidLaws
import Derived.ChangeVars
import Derived.Laws.IdiomArrays
import Derived.Stop.Joined
import Derived.Test.YtipocmbplcdmjaaGreatDoorG6
import Derived.Deep.Slices
import Derived.Carry
import Derived.SizedLaws
/-
  What is asked of the code's packages ite, oper, quant, whatever they are; both stores and a cache side by side.
-/
namespace Go.Proofs.YtipocmbplcdmjaaGreatDoor
open Go Go.RowKit

/-- Both stores, and the code's cache, apart from each other and from all that stood in w0. -/
structure P3 (StAt CAt : World → Nat → (Nat → Prop) → MS → Prop) (w0 : World) (bA bM bC : Nat) (FA FM FC : Nat → Prop) (s : MS) (W : World) : Prop where
  p : P2 StAt w0 bA bM FA FM s s W
  c : CAt W bC FC s
  apA : ∀ k, FA k → ¬ FC k
  apM : ∀ k, FM k → ¬ FC k
  lowC : ∀ k, FC k → w0.heap.size ≤ k

section
variable {StAt CAt : World → Nat → (Nat → Prop) → MS → Prop} {w0 W W' : World} {bA bM bC : Nat} {FA FM FC FA' FM' FC' : Nat → Prop} {s t : MS}

end

end Go.Proofs.YtipocmbplcdmjaaGreatDoor

/-
  Both stores, in which functions were built, and levels changed places.
-/
namespace Go.Proofs.YtipocmbplcdmjaaGreatDoor
open Go Go.RowKit

set_option maxRecDepth 100000 in
set_option maxHeartbeats 8000000 in
theorem lawBuilt {StAt : World → Nat → (Nat → Prop) → MS → Prop} (H : StoreC StAt) (R : ReadC StAt) (most : Int) (k : List Fn) (sw : List Int) (vk vs : Value) (w : World) (hL : LowW w) (hk : SliceF w vk k) (hs : Reads encI w vs sw) (hsw : ∀ a ∈ sw, (Lit.int .i64 a).wf = true) :
    Calls Tryz.prog 5 #[.int .i64 most, vk, vs] w fun e w' => (e = .returned (.tuple #[.pointer none, .pointer none, .int .i64 0]) ∧ Below w.heap.size w w') ∨
      ∃ bA bM FA FM s, e = .returned (.tuple #[.pointer (some ⟨bA, 0, none⟩), .pointer (some ⟨bM, 0, none⟩), .int .i64 1]) ∧ s.Ok ∧ P2 StAt w bA bM FA FM s s w' := by
  obtain ⟨ak, ck, rfl⟩ := hk.form
  obtain ⟨as', cs, rfl⟩ := hs.form
  go_enter Tryz.func5, Tryz.ntmps5
  by_cases hmost : 0 ≤ most ∧ most ≤ 20000
  · obtain ⟨h0, h1⟩ := hmost
    go_wp2_with fail
    refine (lawBegin H most _ h0 h1).mono ?_
    rintro e w2 ⟨bA, bM, FA, FM, rfl, P⟩
    have ok := MS.none_ok most.toNat (by omega)
    generalize MS.none most.toNat = s at *
    by_cases hk6 : k.length ≤ 6
    · have hk3 : ¬ 6 < (k.length : Int) := by omega
      by_cases hs30 : sw.length ≤ 30
      · have hs3 : ¬ 30 < (sw.length : Int) := by omega
        replace P := Lib.hid P
        replace ok := Lib.hid ok
        go_wp2
        go_loopw [11] (fun i wr => ∃ (j : Nat) (s : MS) (FA FM : Nat → Prop), j ≤ k.length ∧ i = .int .i64 j ∧ s.Ok ∧ P2 StAt w bA bM FA FM s s wr) (fun i _ => k.length - (intOf i).toNat)
        case atStart => exact ⟨0, s, _, _, Nat.zero_le _, rfl, ok.out, P.out⟩
        case round =>
          clear P ok
          obtain ⟨j, s, FA, FM, hj, rfl, ok, P⟩ := hrel
          by_cases hlt : j < k.length
          · have hk0 : (0 : Int) ≤ (j : Int) := by omega
            have hk1 : (j : Int) < (k.length : Int) := by omega
            have hbw := P.below
            have hLr := hL.keep hbw
            have hlow : ∀ q, FA q → 0 < q := fun q hq => by have := P.lowA q hq; have := hL.pos; omega
            have hkc : ∀ V, Below w.heap.size w V → SliceF V (.slice ak k.length ck) k := fun V hV => hk.keep hV (Nat.le_refl _)
            obtain ⟨ad, rfl, c0, c1, c2, c3⟩ := (hkc _ hbw).fnAt j hlt
            have hB := R.build hLr hlow P.a ok k[j]
            have hM := fun V F (hV : RefSAt V bM F s) => refSBuild 8 s k[j] V F hV ok (supN_8 _)
            have hE := MS.bld_err s k[j] ok
            have okB := (MS.bld_spec 8 s k[j] ok (supN_8 _)).1
            unfold MkPost at hM
            have hkc2 : ∀ V, Below w.heap.size w V → V.cell? (ad.add (j * 4)) = some (.int .u64 (wd k[j] 0)) ∧ V.cell? ⟨(ad.add (j * 4)).block, (ad.add (j * 4)).off + 1, none⟩ = some (.int .u64 (wd k[j] 1)) ∧ V.cell? ⟨(ad.add (j * 4)).block, (ad.add (j * 4)).off + 2, none⟩ = some (.int .u64 (wd k[j] 2)) ∧ V.cell? ⟨(ad.add (j * 4)).block, (ad.add (j * 4)).off + 3, none⟩ = some (.int .u64 (wd k[j] 3)) := fun V hV => by
              obtain ⟨ad2, e, h⟩ := (hkc V hV).fnAt j hlt
              cases e
              exact h
            generalize k[j] = f at *
            generalize MS.bld 8 s f = r at *
            obtain ⟨r0, r1, S⟩ := r
            dsimp only at hB hM hE okB
            simp only [fv] at hB hM
            clear hkc hLr hlow
            go_wp2_with fail
            refine hB.mono ?_
            rintro e w4 ⟨rfl, FA1, hA1, hK1, hW1⟩
            have P1 := P.code H hA1 hK1 hW1
            obtain ⟨c0', c1', c2', c3'⟩ := hkc2 _ P1.below
            clear hB c0 c1 c2 c3 hA1 hK1 hW1 hkc2
            go_wp2_with fail
            refine (hM _ _ P1.m).mono ?_
            rintro e w5 ⟨rfl, FM1, hM1, hK1, hW1⟩
            have P2' := P1.ref H hM1 hK1 hW1
            clear hM c0' c1' c2' c3' hM1 hK1 hW1 P1 P
            go_wp2_with fail
            refine (lawCode _ _ hE.1 hE.2).mono ?_
            rintro e wx ⟨rfl, rfl⟩
            go_wp2
            exact ⟨⟨j + 1, S, FA1, FM1, by omega, by go_num, okB, P2'⟩, by simp [intOf]; omega⟩
          · obtain rfl : j = k.length := by omega
            replace P := Lib.hid P
            replace ok := Lib.hid ok
            go_wp2
            clear hlt hj
            go_loopw [16] (fun i wr => ∃ (j : Nat) (s : MS) (FA FM : Nat → Prop), j ≤ sw.length ∧ i = .int .i64 j ∧ s.Ok ∧ P2 StAt w bA bM FA FM s s wr) (fun i _ => sw.length - (intOf i).toNat)
            case atStart => exact ⟨0, s, _, _, Nat.zero_le _, rfl, ok.out, P.out⟩
            case round =>
              clear P ok
              obtain ⟨j, s, FA, FM, hj, rfl, ok, P⟩ := hrel
              by_cases hlt : j < sw.length
              · have hk0 : (0 : Int) ≤ (j : Int) := by omega
                have hk1 : (j : Int) < (sw.length : Int) := by omega
                obtain ⟨ad, rfl, c0⟩ := (hs.keep P.below).intAt j hlt
                have wA := hsw _ (List.getElem_mem hlt)
                generalize sw[j] = A at *
                have pk7 := fun V => lawPick A 7 V (by decide) (by decide) wA
                go_wp2_with fail
                refine (pk7 _).mono ?_
                rintro e w3 ⟨rfl, rfl⟩
                clear pk7 c0
                generalize A % 7 = l at *
                have hE := s.swap_err l
                have ok' := ok.swapped l
                have hM := fun V F (hV : RefSAt V bM F s) => refSSwap hV ok l
                have hS := H.swap P.a ok l
                generalize s.swap l = r at *
                obtain ⟨E, S⟩ := r
                dsimp only at hE ok' hM hS
                go_wp2_with fail
                refine hS.mono ?_
                rintro e w4 ⟨rfl, FA1, hA1, hK1, hW1⟩
                have P1 := P.code H hA1 hK1 hW1
                clear hS hA1 hK1 hW1 P
                go_wp2_with fail
                refine (lawCode _ _ hE.1 hE.2).mono ?_
                rintro e wx ⟨rfl, rfl⟩
                go_wp2_with fail
                refine (hM _ _ P1.m).mono ?_
                rintro e w5 ⟨rfl, FM1, hM1, hK1, hW1⟩
                have P2' := P1.ref H hM1 hK1 hW1
                clear hM hM1 hK1 hW1 P1
                go_wp2
                exact ⟨⟨j + 1, S, FA1, FM1, by omega, by go_num, ok', P2'⟩, by simp [intOf]; omega⟩
              · obtain rfl : j = sw.length := by omega
                clear hlt hj
                go_wp2_with fail
                refine (lawSame H P ok).mono ?_
                rintro e w6 ⟨rfl, hb6⟩
                have P3 := P.keep H hb6
                clear P hb6
                go_wp2
                go_ret3
                exact .inr ⟨bA, bM, FA, FM, s, rfl, ok, P3⟩
      · have hs3 : 30 < (sw.length : Int) := by omega
        go_wp2
        go_ret3
        exact .inl ⟨rfl, P.below⟩
    · have hk3 : 6 < (k.length : Int) := by omega
      go_wp2
      go_ret3
      exact .inl ⟨rfl, P.below⟩
  · have hm : most < 0 ∨ 20000 < most := by omega
    go_wp2_with fail
    refine (lawBegin_no H most _ hm).mono ?_
    rintro e w2 ⟨rfl, hb2⟩
    go_wp2
    go_ret3
    exact .inl ⟨rfl, hb2⟩

end Go.Proofs.YtipocmbplcdmjaaGreatDoor

/-
  Nodes of bowerlaw00: nodes of a model's store, by any numbers.
-/
namespace Go.Proofs.YtipocmbplcdmjaaGreatDoor
open Go Go.RowKit

/-- Nodes by any numbers. -/
def MS.picks (s : MS) (l : List Int) : List Int := l.map fun n => s.pick n (decide (n < 0))
theorem MS.Base.picks_le {s : MS} (ok : s.Base) {l : List Int} (h : ∀ n ∈ l, n ≤ 9223372036854775807) : ∀ n ∈ s.picks l, n ≤ 9223372036854775807 := by
  intro n hn
  obtain ⟨m, hm, rfl⟩ := List.mem_map.1 hn
  exact ok.pick_le (h m hm)
theorem MS.Base.picks_ge {s : MS} (ok : s.Base) {l : List Int} (h : ∀ n ∈ l, -9223372036854775808 ≤ n) : ∀ n ∈ s.picks l, -9223372036854775808 ≤ n := by
  intro n hn
  obtain ⟨m, hm, rfl⟩ := List.mem_map.1 hn
  exact ok.pick_ge (h m hm)
theorem MS.picks_step {s : MS} {l : List Int} {k : Nat} (hk : k < l.length) : s.picks (l.take (k + 1)) = s.picks (l.take k) ++ [s.pick l[k] (decide (l[k] < 0))] := by
  unfold MS.picks
  rw [List.take_succ_eq_append_getElem hk, List.map_append]
  rfl
theorem MS.picks_length (s : MS) (l : List Int) : (s.picks l).length = l.length := by simp [MS.picks]

set_option maxRecDepth 100000 in
set_option maxHeartbeats 2000000 in
theorem lawNodes {w : World} {b : Nat} {F : Nat → Prop} {s : MS} (h : RefSAt w b F s) (ok : s.Base) (l : List Int) (v : Value) (hv : Reads encI w v l) (hl : l.length ≤ 100000) (hwf : ∀ n ∈ l, (Lit.int .i64 n).wf = true) :
    Calls Tryz.prog 6 #[.pointer (some ⟨b, 0, none⟩), v] w fun e w' => ∃ v', e = .returned v' ∧ WRel w (s.picks l) v' w' := by
  obtain ⟨a, cap, rfl⟩ := hv.form
  have HP := fun wr (hb : Below w.heap.size w wr) (n : Int) (hn : (Lit.int .i64 n).wf = true) => lawNode (h.below hb) ok n (decide (n < 0)) hn
  clear h
  go_enter Tryz.func6, Tryz.ntmps6
  go_wp2
  go_loopw [5, 6] (fun vo i wr => ∃ k : Nat, k ≤ l.length ∧ i = .int .i64 k ∧ WRel w (s.picks (l.take k)) vo wr) (fun _ i _ => l.length - (intOf i).toNat)
  case atStart => exact ⟨0, Nat.zero_le _, rfl, Owns.nil _ _, (fun g h => by cases h), Below.refl _ _⟩
  case round =>
    obtain ⟨k, hk, rfl, R⟩ := hrel
    by_cases hlt : k < l.length
    · obtain ⟨ad, rfl, _⟩ := (hv.keep R.below).intAt k hlt
      have hc : ∀ u : Sub wr, u.1.cell? (ad.add k) = some (.int .i64 l[k]) := fun u => by
        obtain ⟨ad', e, h⟩ := (hv.keep (R.below.trans (u.2.mono R.below.size))).intAt k hlt
        cases e
        exact h
      have HS := MS.picks_step (s := s) hlt
      have hln := MS.picks_length s (l.take k)
      rw [List.length_take] at hln
      have hw := hwf _ (List.getElem_mem hlt)
      have HN := fun u : Sub wr => HP u.1 (R.below.trans (u.2.mono R.below.size)) _ hw
      generalize l[k] = x at *
      generalize s.pick x (decide (x < 0)) = y at *
      generalize s.picks (l.take k) = out at *
      replace HS := Lib.hid HS
      have hk0 : (0 : Int) ≤ (k : Int) := by omega
      have hk1 : (k : Int) < (l.length : Int) := by omega
      clear hv HP hwf hw
      go_wp2
      refine wp_region_move_tail (C := fun w' => ∃ u : Sub wr, w' = u.1) 11 (.tmp 5) rfl rfl (by kernel_rfl) (by kernel_rfl) (fun _ _ _ _ h => h) (InSub.drew wr) ?_
      simp only [List.take_succ_cons, List.take_zero, List.drop_succ_cons, List.drop_zero, Act.put, Act.eval, List.setIfInBounds_toArray, List.set_cons_zero, List.set_cons_succ]
      iterate 10 (go_big_quiet_step (fail))
      go_big_quiet_step (exact subBelow (HN _))
      refine wpQuiet_nil ?_
      intro w' hw'
      obtain ⟨u, rfl⟩ := hw'
      have hb5 := R.below.trans (u.2.mono R.below.size)
      have hO := R.own.block (w' := u.1) fun g hg => u.2.block g (R.own.lt g hg)
      have hnew := R.new
      clear HN hc
      generalize u.1 = w5 at *
      have hA := hO.alloc (.cells #[.int .i64 y] 3)
      have hsrc := oneI w5 y w5.heap.size rfl
      have hl2 : out.length + [y].length ≤ 1000000 := by simp; omega
      go_wp2_with (at_builtin; refine appendI rfl (.tmp 13) (.tmp 25) rfl _ _ out [y] rfl hA rfl hsrc hl2 ?_; intro v' w2 hown hgr hat)
      refine ⟨⟨k + 1, by omega, by go_num, by rw [HS.out]; exact hown, fun g hg => ?_, ?_⟩, by simp [intOf]; omega⟩
      · rcases hat with hat | hat
        · exact hnew g (hat ▸ hg)
        · rw [hat] at hg; injection hg with hg; have := hb5.size; simp at hg; omega
      · exact (hb5.alloc hb5.size _).grown hgr (by have := hb5.size; simp; omega) hnew
    · clear hv HP hwf
      go_wp2
      go_ret
      refine ⟨_, rfl, ?_⟩
      rw [List.take_of_length_le (by omega)] at R
      exact R

end Go.Proofs.YtipocmbplcdmjaaGreatDoor

/-
  CanonTells over contracts.
-/
namespace Go.Proofs.YtipocmbplcdmjaaGreatDoor
open Go Go.RowKit

theorem MS.canon_err (s : MS) (most : Int) (roots : List Int) : 0 ≤ (s.canon most roots).1 ∧ (s.canon most roots).1 ≤ 8 ∧ ((s.canon most roots).1 = 0 → (s.canon most roots).2.2.Ok ∧ (s.canon most roots).2.1.length = roots.length) := by
  unfold MS.canon
  split
  · refine ⟨?_, ?_, fun h => absurd (show (1 : Int) = 0 from h) (by decide)⟩ <;> dsimp only <;> omega
  · rename_i h
    have I := CanI.whole s (most := most.toNat) (by
      by_cases h1 : 20000 < most
      · exact absurd (.inr (.inl h1)) h
      · omega) roots
    refine ⟨?_, ?_, fun h => ⟨I.ok, I.len h⟩⟩ <;> rcases I.err with h | h <;> omega

set_option maxRecDepth 100000 in
set_option maxHeartbeats 8000000 in
theorem canonTells' {StAt : World → Nat → (Nat → Prop) → MS → Prop} (H : StoreC StAt) (R : ReadC StAt) (C : CanonC StAt)
    (most : Int) (k : List Fn) (sw roots : List Int) (room : Int) (hroom : room ≤ 9223372036854775807 ∧ -9223372036854775808 ≤ room) (vk vs vr : Value) (w : World) (hL : LowW w) (hk : SliceF w vk k) (hs : Reads encI w vs sw) (hsw : ∀ a ∈ sw, (Lit.int .i64 a).wf = true) (hr : Reads encI w vr roots) (hrw : ∀ a ∈ roots, (Lit.int .i64 a).wf = true) :
    Calls Tryz.prog 3 #[.int .i64 most, vk, vs, vr, .int .i64 room] w fun e w' => e = .returned (.bool true) ∧ Below w.heap.size w w' := by
  obtain ⟨ar, cr, rfl⟩ := hr.form
  go_enter Tryz.func3, Tryz.ntmps3
  go_wp2_with fail
  refine (up14 H C _ hL).mono ?_
  rintro e w1 ⟨rfl, hb1⟩
  have HB := lawBuilt H R most k sw vk vs w1 (hL.keep hb1) (hk.keep hb1 (Nat.le_refl _)) (hs.keep hb1) hsw
  go_wp2_with fail
  refine HB.mono ?_
  clear HB hk hs hsw
  rintro e w2 (⟨rfl, hb2⟩ | ⟨bA, bM, FA, FM, s, rfl, ok, P⟩)
  · go_wp2
    go_ret
    exact ⟨rfl, hb1.trans (hb2.mono hb1.size)⟩
  by_cases hl20 : roots.length ≤ 20
  · have hl3 : ¬ 20 < (roots.length : Int) := by omega
    have hp1 := ok.toBase.picks_le (l := roots) (fun n hn => le_of_wf (hrw n hn))
    have hp2 := ok.toBase.picks_ge (l := roots) (fun n hn => ge_of_wf (hrw n hn))
    have hpl := MS.picks_length s roots
    have HN := lawNodes P.m ok.toBase roots _ (hr.keep (hb1.trans (P.below.mono hb1.size))) (by omega) hrw
    have hrp : ∀ r ∈ s.picks roots, r ≤ 9223372036854775807 ∧ -9223372036854775808 ≤ r := fun r hr => ⟨hp1 r hr, hp2 r hr⟩
    have hpl2 : (s.picks roots).length ≤ 100000 := by omega
    have hpl3 : (s.picks roots).length ≤ 20 := by omega
    generalize s.picks roots = pk at *
    replace P := Lib.hid P
    clear hr
    go_wp2_with fail
    refine HN.mono ?_
    rintro e w3 ⟨vs, rfl, RS⟩
    clear HN
    have P3 := P.out.keep H RS.below
    have hL3 := hL.keep (hb1.trans (P3.below.mono hb1.size))
    have hrd := RS.own.reads
    have hC := C.canon hL3 P3.a ok room pk vs hroom hrd hpl2 hrp
    have hD := fun W (hV : RefSAt W bM FM s) (hrd : Reads encI W vs pk) => refSCanon hV ok room pk vs hrd hpl2 hp1
    have hE := s.canon_err room pk
    generalize s.canon room pk = z at *
    obtain ⟨z1, ns, S⟩ := z
    dsimp only at *
    obtain ⟨hE1, hE2, hE3⟩ := hE
    have HC := fun V => lawCode z1 V hE1 hE2
    have hSm := fun V (P : P2 StAt w1 bA bM FA FM s s V) => lawSame H P ok
    replace P3 := Lib.hid P3
    clear P hrp hp1 hp2
    by_cases hz : z1 = 0
    · subst hz
      obtain ⟨okS, hlen⟩ := hE3 rfl
      go_wp2_with fail
      refine hC.mono ?_
      rintro e w4 (⟨_, b2, F2, v2, rfl, hSt, hF2, hown, hog, hb7⟩ | ⟨h, _⟩)
      case inr => exact absurd rfl h
      have P4 := P3.out.keep H hb7
      have hrd4 := hrd.keep hb7
      replace P4 := Lib.hid P4
      rw [errV0] at HC
      clear hC hrd
      go_wp2_with fail
      refine (hD _ P4.out.m hrd4).mono ?_
      rintro e w5 (⟨_, b3, F3, v3, rfl, hM, hF3, hown3, hb8⟩ | ⟨h, _⟩)
      case inr => exact absurd rfl h
      have P5 := P4.out.keep H hb8
      have hown5 := hown.keep (Keeps.of_below hb8 noBlock) (fun _ _ h => h)
      have Q : P2 StAt w1 b2 b3 F2 F3 S S w5 := ⟨H.below hSt hb8, hM, fun k h1 h2 => by have := H.lt hSt k h1; have := hF3 k h2; omega, fun k h1 => Nat.le_trans P3.out.below.size (hF2 k h1), fun k h1 => Nat.le_trans P4.out.below.size (hF3 k h1), P5.below⟩
      replace P5 := Lib.hid P5
      replace Q := Lib.hid Q
      replace hown3 := Lib.hid hown3
      replace hown5 := Lib.hid hown5
      clear hD P4 P3 hSt hF2 hown hog hb7 hb8 hrd4 hM hF3 RS
      go_wp2_with fail
      refine (HC _).mono ?_
      rintro e w6 ⟨rfl, rfl⟩
      go_wp2_with fail
      refine (hSm _ P5.out).mono ?_
      rintro e w7 ⟨rfl, hb9⟩
      have P7 := Lib.hid (P5.out.keep H hb9)
      have Q7 := Lib.hid (Q.out.keep H hb9)
      have HI := lawInts ns v2 v3 w7 (hown5.out.keep (Keeps.of_below hb9 noBlock) (fun _ _ h => h)).reads (hown3.out.keep (Keeps.of_below hb9 noBlock) (fun _ _ h => h)).reads (by omega)
      clear P5 Q hSm HC hown3 hown5 hb9
      go_wp2_with fail
      refine HI.mono ?_
      rintro e w8 ⟨rfl, hb9⟩
      clear HI
      have Q8 := Lib.hid (Q7.out.keep H hb9)
      have hSn := lawSame H Q8.out okS
      clear P7 Q7 hb9
      go_wp2_with fail
      refine hSn.mono ?_
      rintro e w9 ⟨rfl, hb9⟩
      have Q9 := Lib.hid (Q8.out.keep H hb9)
      clear hSn Q8 hb9
      go_wp2
      go_ret
      exact ⟨rfl, hb1.trans (Q9.out.below.mono hb1.size)⟩
    · have hzb : (z1 == 0) = false := by rw [beq_eq_false_iff_ne]; exact hz
      go_wp2_with fail
      refine hC.mono ?_
      rintro e w4 (⟨h, _⟩ | ⟨_, a2, c2, rfl, hb7⟩)
      case inl => exact absurd h hz
      have P4 := P3.out.keep H hb7
      have hrd4 := hrd.keep hb7
      replace P4 := Lib.hid P4
      clear hC hrd hE3 hb7
      go_wp2_with fail
      refine (hD _ P4.out.m hrd4).mono ?_
      rintro e w5 (⟨h, _⟩ | ⟨_, a3, c3, rfl, hb8⟩)
      case inl => exact absurd h hz
      have P5 := Lib.hid (P4.out.keep H hb8)
      clear hD P4 P3 hb8 hrd4 RS
      go_wp2_with fail
      refine (HC _).mono ?_
      rintro e w6 ⟨rfl, rfl⟩
      go_wp2_with fail
      refine (hSm _ P5.out).mono ?_
      rintro e w7 ⟨rfl, hb9⟩
      have P7 := Lib.hid (P5.out.keep H hb9)
      clear P5 hSm HC hb9
      go_wp2
      go_ret
      exact ⟨rfl, hb1.trans (P7.out.below.mono hb1.size)⟩
  · have hl3 : 20 < (roots.length : Int) := by omega
    go_wp2
    go_ret
    exact ⟨rfl, hb1.trans (P.below.mono hb1.size)⟩

end Go.Proofs.YtipocmbplcdmjaaGreatDoor

/-
  The laws of layer 14 over the landed code.
-/
namespace Go.Proofs.YtipocmbplcdmjaaGreatDoor
open Go Go.RowKit

theorem canonTells (most : Int) (k : List Fn) (sw roots : List Int) (room : Int) (vk vs vr : Value) (w : World) (hL : LowW w) (hk : SliceF w vk k) (_ : k.length ≤ maxLen) (hs : Reads encI w vs sw) (_ : sw.length ≤ maxLen) (hsw : ∀ a ∈ sw, (Lit.int .i64 a).wf = true)
    (hr : Reads encI w vr roots) (_ : roots.length ≤ maxLen) (hrw : ∀ a ∈ roots, (Lit.int .i64 a).wf = true) (hroom : (Lit.int .i64 room).wf = true) :
    Calls Tryz.prog 3 #[.int .i64 most, vk, vs, vr, .int .i64 room] w fun e w' => e = .returned (.bool true) ∧ Below w.heap.size w w' :=
  canonTells' storeC (readC storeC) (canonC storeC (readC storeC)) most k sw roots room ⟨le_of_wf hroom, ge_of_wf hroom⟩ vk vs vr w hL hk hs hsw hr hrw

end Go.Proofs.YtipocmbplcdmjaaGreatDoor

/-
  How a function of eight variables comes in and reads; the table of words as it is laid.
-/
namespace Go.Proofs.YtipocmbplcdmjaaGreatDoor
open Go Go.ChangeShapes Go.WideShapes Go.ChangeAt Go.RowKit

/-- The function of four words. -/
def ofWords (a b c d : Nat) : Fn := ofRow fun x => if x < 64 then a.testBit x else if x < 128 then b.testBit (x - 64) else if x < 192 then c.testBit (x - 128) else d.testBit (x - 192)

set_option maxRecDepth 100000 in
theorem wd_of_bits (f : Fn) (i a : Nat) (ha : a < 2 ^ 64) (h : ∀ j, j < 64 → f.getLsbD (64 * i + j) = a.testBit j) : wd f i = a := by
  refine Nat.eq_of_testBit_eq fun j => ?_
  unfold wd
  rw [BitVec.testBit_toNat, BitVec.getLsbD_extractLsb']
  by_cases hj : j < 64
  · rw [h j hj]; simp [hj]
  · have : a.testBit j = false := Nat.testBit_lt_two_pow (Nat.lt_of_lt_of_le ha (Nat.pow_le_pow_right (by decide) (by omega)))
    rw [this]; simp [hj]

set_option maxRecDepth 100000 in
theorem wd_ofWords (a b c d : Nat) (ha : a < 2 ^ 64) (hb : b < 2 ^ 64) (hc : c < 2 ^ 64) (hd : d < 2 ^ 64) :
    wd (ofWords a b c d) 0 = a ∧ wd (ofWords a b c d) 1 = b ∧ wd (ofWords a b c d) 2 = c ∧ wd (ofWords a b c d) 3 = d := by
  refine ⟨wd_of_bits _ _ _ ha fun j hj => ?_, wd_of_bits _ _ _ hb fun j hj => ?_, wd_of_bits _ _ _ hc fun j hj => ?_, wd_of_bits _ _ _ hd fun j hj => ?_⟩
  · rw [ofWords, ofRow_bit _ _ (by omega), if_pos (by omega), show 64 * 0 + j = j by omega]
  · rw [ofWords, ofRow_bit _ _ (by omega), if_neg (by omega), if_pos (by omega), show 64 * 1 + j - 64 = j by omega]
  · rw [ofWords, ofRow_bit _ _ (by omega), if_neg (by omega), if_neg (by omega), if_pos (by omega), show 64 * 2 + j - 128 = j by omega]
  · rw [ofWords, ofRow_bit _ _ (by omega), if_neg (by omega), if_neg (by omega), if_neg (by omega), show 64 * 3 + j - 192 = j by omega]

set_option maxRecDepth 100000 in
theorem Tryz.cellsF : Tryz.prog.cellsOf 48 = 4 := by kernel_rfl
set_option maxRecDepth 100000 in
theorem Tryz.cellsU : Tryz.prog.cellsOf 46 = 1 := by kernel_rfl
set_option maxRecDepth 100000 in
theorem Tryz.own : ownKnob Tryz.prog.godebug = none := by kernel_rfl

set_option maxRecDepth 100000 in
theorem list4 {α : Type} (l : List α) (h : (⟨l⟩ : Array α).size = 4) : ∃ a b c d, l = [a, b, c, d] := by
  match l, h with
  | [a, b, c, d], _ => exact ⟨a, b, c, d, rfl⟩

set_option maxRecDepth 100000 in
theorem wf_u64 {n : Int} (h : (Lit.int .u64 n).wf = true) : ∃ m : Nat, n = (m : Int) ∧ m < 2 ^ 64 := by
  simp [Lit.wf, IntKind.min, IntKind.max, IntKind.signed, IntKind.bits] at h
  exact ⟨n.toNat, by omega, by omega⟩

section
variable {H : Type} {enc : TypeId × Value → H} {w : World} {base : Nat} {spare : Nat → Bool} {held : Bool}

end

/-- The table's cells. -/
def lowCells : Array Value := #[.int .u64 12297829382473034410, .int .u64 14757395258967641292, .int .u64 17361641481138401520, .int .u64 18374966859414961920, .int .u64 18446462603027742720, .int .u64 18446744069414584320]

set_option maxRecDepth 100000 in
theorem Tryz.low : Tryz.prog.globalNamed "bower/tab.lowWords" = some 0 := by kernel_rfl
set_option maxRecDepth 100000 in
theorem Tryz.lowType : (Tryz.prog.globals[0]?).map (·.type) = some 129 := by kernel_rfl
set_option maxRecDepth 100000 in
theorem Tryz.cellsLow : Tryz.prog.cellsOf 129 = 6 := by kernel_rfl

set_option maxRecDepth 100000 in
theorem list6 {α : Type} (l : List α) (h : l.length = 6) : ∃ a b c d e f, l = [a, b, c, d, e, f] := by
  match l, h with
  | [a, b, c, d, e, f], _ => exact ⟨a, b, c, d, e, f, rfl⟩

set_option maxRecDepth 100000 in
theorem low_of_laid {W : World} (h : laidMet Tryz.prog [("bower/tab.lowWords", Rows.laid_bower_tab_lowWords)] W) : W.var? Tryz.prog "bower/tab.lowWords" = some lowCells := by
  obtain ⟨ps, ⟨g, t, cs, fuel, p, q, hg, ht, hvar, hd, _, _⟩, _⟩ := h
  obtain rfl := Option.some.inj (Tryz.low.symm.trans hg)
  obtain rfl := Option.some.inj (Tryz.lowType.symm.trans ht)
  rw [hvar]
  congr 1
  obtain ⟨l⟩ := cs
  cases fuel with
  | zero => simp [DataW.trod] at hd
  | succ fuel =>
    simp only [DataW.trod, Tryz.underlying129, Tryz.cellsLow, Tryz.cellsU] at hd
    split at hd
    · rename_i hl
      obtain ⟨c0, c1, c2, c3, c4, c5, rfl⟩ := list6 l (by simpa using hl)
      have e : List.range 6 = [0, 1, 2, 3, 4, 5] := rfl
      rw [e] at hd
      simp only [Option.map_eq_some_iff, List.mapM_cons, List.mapM_nil, Option.bind_eq_bind, Option.bind_eq_some_iff, Option.pure_def, Option.some.injEq] at hd
      obtain ⟨xs, ⟨y0, h0, _, ⟨y1, h1, _, ⟨y2, h2, _, ⟨y3, h3, _, ⟨y4, h4, _, ⟨y5, h5, _, rfl, rfl⟩, rfl⟩, rfl⟩, rfl⟩, rfl⟩, rfl⟩, hx⟩ := hd
      obtain ⟨n0, e0, rfl, _⟩ := DataW.trod_int Tryz.underlying46 h0
      obtain ⟨n1, e1, rfl, _⟩ := DataW.trod_int Tryz.underlying46 h1
      obtain ⟨n2, e2, rfl, _⟩ := DataW.trod_int Tryz.underlying46 h2
      obtain ⟨n3, e3, rfl, _⟩ := DataW.trod_int Tryz.underlying46 h3
      obtain ⟨n4, e4, rfl, _⟩ := DataW.trod_int Tryz.underlying46 h4
      obtain ⟨n5, e5, rfl, _⟩ := DataW.trod_int Tryz.underlying46 h5
      simp at e0 e1 e2 e3 e4 e5
      subst e0 e1 e2 e3 e4 e5
      simp [Rows.laid_bower_tab_lowWords] at hx
      obtain ⟨⟨rfl, rfl, rfl, rfl, rfl, rfl⟩, _⟩ := hx
      rfl
    · cases hd

set_option maxRecDepth 100000 in
theorem lowW_of_laid {W : World} (h : laidMet Tryz.prog [("bower/tab.lowWords", Rows.laid_bower_tab_lowWords)] W) : LowW W := by
  intro i hi
  rw [World.var?_cell Tryz.low (low_of_laid h) i]
  rcases (by omega : i = 0 ∨ i = 1 ∨ i = 2 ∨ i = 3 ∨ i = 4 ∨ i = 5) with rfl | rfl | rfl | rfl | rfl | rfl <;> rfl

/-- A world in which the table is laid. -/
noncomputable def laidWorld (os : Os) : World :=
  { World.holding Tryz.prog os ⟨#[], #[], []⟩ with heap := (World.holding Tryz.prog os ⟨#[], #[], []⟩).heap.modify 0 fun
      | .cells _ t frozen => .cells lowCells t frozen
      | o => o }

set_option maxRecDepth 100000 in
theorem laidWorld_row (os : Os) (args : Array Value) : ((laidWorld os).forCall (fun _ _ => 0) ⟨#[], args, []⟩).memory.heap[0]? = some (.cells lowCells 129 (0, 0)) := by kernel_rfl

set_option maxRecDepth 100000 in
theorem laidWorld_met (os : Os) (args : Array Value) : laidMet Tryz.prog [("bower/tab.lowWords", Rows.laid_bower_tab_lowWords)] ((laidWorld os).forCall (fun _ _ => 0) ⟨#[], args, []⟩).memory :=
  ⟨_, ⟨0, 129, lowCells, 8, [], [], by kernel_rfl, by kernel_rfl, by kernel_rfl, by kernel_rfl, rfl, rfl⟩, by decide, fun b off h => by
    have h' : MemPlace.cell b off ∈ [MemPlace.cell 0 0, .cell 0 1, .cell 0 2, .cell 0 3, .cell 0 4, .cell 0 5] := h
    have hb : b = 0 := by
      simp at h'
      omega
    subst hb
    refine ⟨⟨_, _, laidWorld_row os args⟩, fun u v hc => ?_⟩
    simp only [World.cell?, laidWorld_row os args] at hc
    simp at h'
    rcases h' with rfl | rfl | rfl | rfl | rfl | rfl <;> simp [lowCells] at hc⟩

end Go.Proofs.YtipocmbplcdmjaaGreatDoor

/-
  How slices of functions and orders come in; arguments that read behind a call as they did.
-/
namespace Go.Proofs.YtipocmbplcdmjaaGreatDoor
open Go Go.ChangeShapes Go.WideShapes Go.ChangeAt Go.RowKit

section
variable {H : Type} {enc : TypeId × Value → H}

set_option maxRecDepth 100000 in
theorem trodAll_stays {P : Program} (hl : laidOutB P = true) {W W' : World} (hb : Below W.heap.size W W') : ∀ {ts : List TypeId} {vs : List Value} {ds : List (DataW H)} {ps : List MemPlace}, (∀ t ∈ ts, P.readableRec t = true ∧ t < P.types.size) →
    DataW.TrodAll enc P W 0 (fun _ => true) true ts vs ds ps → (∀ x ∈ ps, x.block < W.heap.size) → DataW.TrodAll enc P W' 0 (fun b => decide (b < W.heap.size)) true ts vs ds ps
  | [], [], [], _, _, h, _ => h
  | _ :: _, _ :: _, _ :: _, _, hT, ⟨p, q, h1, h2, e⟩, hs =>
    ⟨p, q, Below.trod hl (hT _ (List.mem_cons.2 (Or.inl rfl))).1 (hT _ (List.mem_cons.2 (Or.inl rfl))).2 h1 hb (fun x hx => hs x (by rw [e]; exact List.mem_append_left _ hx)),
      trodAll_stays hl hb (fun t ht => hT t (List.mem_cons.2 (Or.inr ht))) h2 (fun x hx => hs x (by rw [e]; exact List.mem_append_right _ hx)), e⟩

variable {w : World} {base : Nat} {spare : Nat → Bool} {held : Bool}

set_option maxRecDepth 100000 in
theorem trod_fn {fuel : Nat} {cs : List Value} {x : DataW H × List MemPlace} (hlen : cs.length = 4) (h : DataW.trod enc Tryz.prog w base spare held fuel 48 cs = some x) :
    ∃ f : Fn, cs = [.int .u64 (wd f 0), .int .u64 (wd f 1), .int .u64 (wd f 2), .int .u64 (wd f 3)] := by
  obtain ⟨c0, c1, c2, c3, rfl⟩ := list4 cs (by simpa using hlen)
  obtain ⟨y0, y1, y2, y3, m, hx, hy0, hy1, hy2, hy3⟩ := trod_array4 Tryz.underlying48 Tryz.cellsU h
  obtain ⟨x0, e0, _, w0⟩ := DataW.trod_int Tryz.underlying46 hy0
  obtain ⟨x1, e1, _, w1⟩ := DataW.trod_int Tryz.underlying46 hy1
  obtain ⟨x2, e2, _, w2⟩ := DataW.trod_int Tryz.underlying46 hy2
  obtain ⟨x3, e3, _, w3⟩ := DataW.trod_int Tryz.underlying46 hy3
  simp at e0 e1 e2 e3
  subst e0 e1 e2 e3
  obtain ⟨a, rfl, ha⟩ := wf_u64 w0
  obtain ⟨b, rfl, hb⟩ := wf_u64 w1
  obtain ⟨c, rfl, hc⟩ := wf_u64 w2
  obtain ⟨e, rfl, he⟩ := wf_u64 w3
  obtain ⟨i0, i1, i2, i3⟩ := wd_ofWords a b c e ha hb hc he
  exact ⟨ofWords a b c e, by rw [i0, i1, i2, i3]⟩

set_option maxRecDepth 100000 in
theorem cellsL_at (l : List Fn) (j : Nat) (u : Value) (h : (cellsL l)[j]? = some u) : ∃ (i r : Nat) (hi : i < l.length), r < 4 ∧ j = i * 4 + r ∧ u = .int .u64 (wd l[i] r) := by
  have hj : j < (cellsL l).length := by
    rcases Nat.lt_or_ge j (cellsL l).length with h' | h'
    · exact h'
    · rw [List.getElem?_eq_none h'] at h; cases h
  rw [cellsL_length] at hj
  have hi : j / 4 < l.length := by omega
  have e : j = j / 4 * 4 + j % 4 := by omega
  have h2 := cellsL_get l (j / 4) hi (j % 4) (by omega)
  rw [← e] at h2
  exact ⟨j / 4, j % 4, hi, by omega, e, Option.some.inj (h.symm.trans h2)⟩

set_option maxRecDepth 100000 in
/-- A slice of functions that came in. -/
theorem open_fns {r : Go.Reach} {b0 : Nat} {v : Value} {d : DataW H} {ps : List MemPlace} (hval : Value.okWide Tryz.prog w r b0 22 v) (hd : DataW.Trod enc Tryz.prog w base spare held 22 v d ps) :
    ∃ l : List Fn, SliceF w v l ∧ l.length ≤ maxLen ∧ ((l = [] ∧ d = .nil) ∨ ∃ xs ys, d = .slice xs ys ∧ xs.length = l.length) := by
  obtain ⟨a, len, cap, rfl⟩ := okWide_slice Tryz.underlying22 hval
  obtain ⟨fuel, hf⟩ := hd
  rcases Deep.open_slice Tryz.underlying22 hf with ⟨hcs, hx⟩ | ⟨ad, len', cap', m, n, D, Pl, hcs, _, hl, hm, hmm, hx, hall⟩
  · have hcs' : Value.slice a len cap = .slice none 0 0 := by simpa [Value.cells] using hcs
    rw [hcs']
    exact ⟨[], .inl ⟨rfl, rfl⟩, Nat.zero_le _, .inl ⟨rfl, congrArg Prod.fst hx⟩⟩
  · have hcs' : Value.slice a len cap = .slice (some ad) len' cap' := by simpa [Value.cells] using hcs
    rw [hcs']
    have hle : len' ≤ m := by rw [hmm]; split <;> omega
    have hall2 : ∀ i, i < len' → ∃ f : Fn, ∀ j, j < 4 → w.cell? (ad.add (i * 4 + j)) = some (.int .u64 (wd f j)) := fun i hi => by
      obtain ⟨cs', h1, h2⟩ := hall i (by omega)
      rw [Tryz.cellsF] at h1
      obtain ⟨_, hlen, hc⟩ := World.cells?_some h1
      obtain ⟨f, rfl⟩ := trod_fn hlen h2
      refine ⟨f, fun j hj => ?_⟩
      have h3 := hc j hj
      rw [Addr.add_add] at h3
      rw [h3]
      rcases (by omega : j = 0 ∨ j = 1 ∨ j = 2 ∨ j = 3) with rfl | rfl | rfl | rfl <;> rfl
    obtain ⟨F, hF⟩ := Deep.choose_lt (α := Fn) hall2
    refine ⟨(List.range len').map F, .inr ⟨ad, cap', by simp, fun j u hj => ?_⟩, by simp; omega, .inr ⟨_, _, congrArg Prod.fst hx, by simp⟩⟩
    obtain ⟨i, q, hi, hq, rfl, rfl⟩ := cellsL_at _ j u hj
    have hi' : i < len' := by simpa using hi
    rw [hF i hi' q hq]
    simp

end

set_option maxRecDepth 100000 in
/-- By the reach. -/
theorem fns_short {H : Type} {ts : List TypeId} {ds : List (DataW H)} (h : (DataW.weightsEach Tryz.prog ts ds).all (· ≤ reachBytes) = true) {j : Nat} {l : List Fn} {d : DataW H} (ht : ts[j]? = some 22) (hd : ds[j]? = some d)
    (hl : (l = [] ∧ d = .nil) ∨ ∃ xs ys, d = .slice xs ys ∧ xs.length = l.length) : l.length ≤ 4611686018427387 := by
  rcases hl with ⟨rfl, _⟩ | ⟨xs, ys, rfl, hx⟩
  · exact Nat.zero_le _
  · have h1 := sized_slice h ht hd Tryz.underlying22
    rw [show Tryz.prog.bytesOf 48 = 32 by kernel_rfl, show reachBytes = 140737488351232 by kernel_rfl] at h1
    omega

end Go.Proofs.YtipocmbplcdmjaaGreatDoor
