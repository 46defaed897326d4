/-
  Texts of this proof, one behind the other: SlotY.
-/
import Derived.Test.YtilcjpaifbcjaaaG8
/-
  Walks of package slots: New, Grant, Release, Clear, Lay.
-/
namespace Go.Proofs.Ytilcjpaifbcjaaa
open Go Go.RowKit

section
variable {w : World} {b : Nat} {t : Int} {f : SF}

theorem SlRow.zero (t : Int) : SlRow #[.int .i64 t, .bool false, .int .i64 0, .int .i64 0, .bool false, .int .i64 0, .int .i64 0, .bool false, .int .i64 0, .int .i64 0, .bool false, .int .i64 0, .int .i64 0,
    .bool false, .int .i64 0, .int .i64 0, .bool false, .int .i64 0, .int .i64 0, .bool false, .int .i64 0, .int .i64 0, .bool false, .int .i64 0, .int .i64 0,
    .bool false, .int .i64 0, .int .i64 0, .bool false, .int .i64 0, .int .i64 0, .bool false, .int .i64 0, .int .i64 0, .bool false, .int .i64 0, .int .i64 0,
    .bool false, .int .i64 0, .int .i64 0, .bool false, .int .i64 0, .int .i64 0, .bool false, .int .i64 0, .int .i64 0, .bool false, .int .i64 0, .int .i64 0] t SF.zero := by
  refine ⟨rfl, rfl, fun i hi => ?_⟩
  rcases (by omega : i = 0 ∨ i = 1 ∨ i = 2 ∨ i = 3 ∨ i = 4 ∨ i = 5 ∨ i = 6 ∨ i = 7 ∨ i = 8 ∨ i = 9 ∨ i = 10 ∨ i = 11 ∨ i = 12 ∨ i = 13 ∨ i = 14 ∨ i = 15) with rfl | rfl | rfl | rfl | rfl | rfl | rfl | rfl | rfl | rfl | rfl | rfl | rfl | rfl | rfl | rfl <;> exact ⟨rfl, rfl, rfl⟩

set_option maxRecDepth 100000 in
set_option maxHeartbeats 4000000 in
theorem slotsNew (t : Int) (w : World) (h1 : 1 ≤ t) (h8 : t ≤ 8) :
    Calls Try.prog 6 #[.int .i64 t] w fun e w' => ∃ b, e = .returned (.pointer (some ⟨b, 0, none⟩)) ∧ w.heap.size ≤ b ∧ SlC w' b t SF.zero ∧ Below w.heap.size w w' := by
  have hz := SlRow.zero t
  generalize hcs : (#[.int .i64 t, .bool false, .int .i64 0, .int .i64 0, .bool false, .int .i64 0, .int .i64 0, .bool false, .int .i64 0, .int .i64 0, .bool false, .int .i64 0, .int .i64 0,
    .bool false, .int .i64 0, .int .i64 0, .bool false, .int .i64 0, .int .i64 0, .bool false, .int .i64 0, .int .i64 0, .bool false, .int .i64 0, .int .i64 0,
    .bool false, .int .i64 0, .int .i64 0, .bool false, .int .i64 0, .int .i64 0, .bool false, .int .i64 0, .int .i64 0, .bool false, .int .i64 0, .int .i64 0,
    .bool false, .int .i64 0, .int .i64 0, .bool false, .int .i64 0, .int .i64 0, .bool false, .int .i64 0, .int .i64 0, .bool false, .int .i64 0, .int .i64 0] : Array Value) = cs at hz
  replace hz := Lib.hid hz
  go_enter Try.func6, Try.ntmps6
  go_wp2
  go_ret
  exact ⟨_, rfl, Nat.le_refl _, ⟨cs, by rw [heap_alloc_new, ← hcs], hz.out⟩, (Below.refl _ _).alloc (Nat.le_refl _) _⟩

set_option maxRecDepth 100000 in
set_option maxHeartbeats 4000000 in
theorem slotsNone (t : Int) (w : World) (h : t < 1 ∨ 8 < t) :
    Calls Try.prog 6 #[.int .i64 t] w fun e w' => e = .returned (.pointer none) ∧ w = w' := by
  by_cases h1 : t < 1
  · go_enter Try.func6, Try.ntmps6
    go_wp2
    go_ret
    exact ⟨rfl, rfl⟩
  · have h8 : 8 < t := by omega
    clear h
    go_enter Try.func6, Try.ntmps6
    go_wp2
    go_ret
    exact ⟨rfl, rfl⟩

theorem errV6 : errV 6 = .iface 65 (.int .i64 6) := rfl

set_option maxRecDepth 100000 in
set_option maxHeartbeats 4000000 in
theorem slotsGrant (s : SlC w b t f) (v : Int) :
    Calls Try.prog 19 #[.pointer (some ⟨b, 0, none⟩), .int .i64 v] w fun e w' => e = .returned (.tuple #[.int .u64 (f.grantH t), errV f.grantE]) ∧ SlC w' b t (f.grant v) ∧ Keeps (only b) w w' := by
  have H := slotsLeast s
  unfold SF.grantH SF.grantE SF.grant
  by_cases hl : f.next < 16
  · rw [if_pos hl, decide_eq_true hl] at H
    rw [if_pos hl, if_pos hl, if_pos hl, errV0']
    generalize f.next = n at *
    have hn1 : (n : Int) < 16 := by omega
    have hn0 : (0 : Int) ≤ (n : Int) := by omega
    have S := fun W (hb : Below w.heap.size w W) => s.below hb
    clear s
    go_enter Try.func19, Try.ntmps19
    go_wp2_with fail
    refine H.mono ?_
    rintro e w1 ⟨rfl, hb⟩
    have s := S _ hb
    obtain ⟨c0, c1, c2⟩ := s.cells n hl
    have z0 := s.free (1 + n * 3)
    have z2 := s.free (1 + n * 3 + 2)
    clear H S
    replace s := Lib.hid s
    generalize hG : packN t n (f n).gen = G
    replace hG := Lib.hid hG
    go_wp2
    go_region
    have s2 := (s.out.setTwo hl true v).below ((Below.refl _ _).drew)
    have hk := ((Keeps.of_below hb (only b)).and ((Keeps.of_setCell (only b) w1 ⟨b, 1 + n * 3, none⟩ (.bool true) rfl).and (Keeps.of_setCell (only b) _ ⟨b, 1 + n * 3 + 2, none⟩ (.int .i64 v) rfl))).and (Keeps.of_drew _ _)
    have HH := slotsHandle s2 n hl
    rw [SF.put_same, hG.out] at HH
    clear c0 c1 c2 z0 z2 s
    generalize World.drew _ = w2 at *
    go_wp2_with fail
    refine HH.mono ?_
    rintro e w3 ⟨rfl, hb3⟩
    clear HH
    replace s2 := Lib.hid (s2.below hb3)
    replace hk := Lib.hid (hk.and (Keeps.of_below hb3 _))
    go_wp2
    refine bodyPost_ret (results_tmp2 rfl _ _ _) rfl ?_
    exact ⟨by rw [hG.out]; rfl, s2.out, hk.out⟩
  · rw [if_neg hl, decide_eq_false hl] at H
    rw [if_neg hl, if_neg hl, if_neg hl, errV6]
    have S := fun W (hb : Below w.heap.size w W) => s.below hb
    clear s hl
    replace S := Lib.hid S
    go_enter Try.func19, Try.ntmps19
    go_wp2_with fail
    refine H.mono ?_
    rintro e w1 ⟨rfl, hb⟩
    clear H
    go_wp2
    refine bodyPost_ret (results_tmp2 rfl _ _ _) rfl ?_
    exact ⟨rfl, S.out _ hb, Keeps.of_below hb _⟩

set_option maxRecDepth 100000 in
set_option maxHeartbeats 4000000 in
theorem slotsRelease (s : SlC w b t f) (ok : f.Ok) (h1 : 1 ≤ t) (h8 : t ≤ 8) (h : Nat) (hh : h < 18446744073709551616) :
    Calls Try.prog 12 #[.pointer (some ⟨b, 0, none⟩), .int .u64 h] w fun e w' => e = .returned (errV (f.getE t h)) ∧ SlC w' b t (f.rel t h) ∧ Keeps (only b) w w' := by
  have H := slotsFind s ok h1 h8 h hh
  unfold SF.rel SF.getE
  by_cases hl : f.find t h < 16
  · rw [if_pos hl, decide_eq_true hl] at H
    rw [if_pos hl, if_pos hl, errV0']
    have G := fun W (hb : Below w.heap.size w W) => slotsLetGo (s.below hb) _ hl (ok.low _ hl) (ok.top _ hl)
    clear s ok
    generalize f.find t h = n at *
    have hn1 : (n : Int) < 16 := by omega
    have hn0 : (0 : Int) ≤ (n : Int) := by omega
    go_enter Try.func12, Try.ntmps12
    go_wp2_with fail
    refine H.mono ?_
    rintro e w1 ⟨rfl, hb⟩
    have g := G _ hb
    clear H G
    go_wp2_with fail
    refine g.mono ?_
    rintro e w2 ⟨rfl, s2, hk⟩
    clear g
    replace s2 := Lib.hid s2
    replace hk := Lib.hid ((Keeps.of_below hb _).and hk)
    go_wp2
    go_ret
    exact ⟨rfl, s2.out, hk.out⟩
  · rw [if_neg hl, decide_eq_false hl] at H
    rw [if_neg hl, if_neg hl, errV5]
    have S := fun W (hb : Below w.heap.size w W) => s.below hb
    clear s hl
    replace S := Lib.hid S
    go_enter Try.func12, Try.ntmps12
    go_wp2_with fail
    refine H.mono ?_
    rintro e w1 ⟨rfl, hb⟩
    clear H
    go_wp2
    go_ret
    exact ⟨rfl, S.out _ hb, Keeps.of_below hb _⟩

theorem upd_at {f : SF} {k : Nat} (hk : k < f.helds.length) (g : Nat → Slo) : f.upd (f.below k) g f.helds[k] = f f.helds[k] := by
  refine if_neg fun h => ?_
  have := (SF.rank_of hk).1
  have h2 := h.2.2
  omega

set_option maxRecDepth 100000 in
set_option maxHeartbeats 4000000 in
theorem slotsClear (s : SlC w b t f) (ok : f.Ok) :
    Calls Try.prog 14 #[.pointer (some ⟨b, 0, none⟩)] w fun e w' => e = .returned (.tuple #[]) ∧ SlC w' b t f.clear ∧ Keeps (only b) w w' := by
  have H := slotsHeld s
  have hlen : f.helds.length ≤ 16 := f.heldsN_length 16
  have hend : f.upd (f.below f.helds.length) f.goes = f.clear := SF.upd_congr f _ _ _ fun j => (SF.below_all j).symm
  have hstart : f.upd (f.below 0) f.goes = f := SF.upd_none f _ _ SF.below_zero
  have hround : ∀ k (hk : k < f.helds.length), f.helds[k] < 16 ∧ ∀ W, SlC W b t (f.upd (f.below k) f.goes) → Calls Try.prog 25 #[.pointer (some ⟨b, 1 + f.helds[k] * 3, none⟩)] W fun e w' => e = .returned (.tuple #[]) ∧ SlC w' b t (f.upd (f.below (k + 1)) f.goes) ∧ Keeps (only b) W w' := fun k hk => by
    obtain ⟨_, h16, _⟩ := SF.rank_of hk
    refine ⟨h16, fun W hW => ?_⟩
    have hg := slotsLetGo hW _ h16 (by rw [upd_at hk]; exact ok.low _ h16) (by rw [upd_at hk]; exact ok.top _ h16)
    rw [upd_at hk, show (f f.helds[k]).go = f.goes f.helds[k] from rfl, SF.upd_put f _ _ f.goes _ (SF.below_succ hk)] at hg
    exact hg
  have hlt0 := s.lt
  rw [← hend]
  generalize f.goes = G at *
  have s0 : SlC w b t (f.upd (f.below 0) G) := by rw [hstart]; exact s
  clear hend hstart ok s
  generalize f.helds = L at *
  generalize hU : (fun k : Nat => f.upd (f.below k) G) = U at *
  have hU2 : ∀ k, f.upd (f.below k) G = U k := fun k => by rw [← hU]
  simp only [hU2] at *
  clear hU2 hU
  go_enter Try.func14, Try.ntmps14
  go_wp2_with fail
  refine H.mono ?_
  rintro e w1 ⟨vL, rfl, RL⟩
  clear H
  have s1 := s0.below RL.below
  have hb1 := RL.below
  obtain ⟨a, cap, rfl, hc⟩ := listView RL
  clear RL s0
  go_wp2
  go_loopw [7] (fun i wr => ∃ k : Nat, k ≤ L.length ∧ i = .int .i64 k ∧ SlC wr b t (U k) ∧ Keeps (only b) w1 wr) (fun i _ => L.length - (intOf i).toNat)
  case atStart => exact ⟨0, by omega, rfl, s1, Keeps.refl _ _⟩
  case round =>
    obtain ⟨k, hk, rfl, sk, hK⟩ := hrel
    clear s1
    by_cases hlt : k < L.length
    · obtain ⟨g, rfl, hg⟩ := hc k hlt
      have c1 := hg wr _ hK (fun j hj => by rw [hj]; exact hlt0)
      obtain ⟨h16, HG⟩ := hround k hlt
      have hg2 := HG _ sk
      clear hg hc HG hround sk
      generalize L[k] = n at *
      have hn1 : (n : Int) < 16 := by omega
      have hn0 : (0 : Int) ≤ (n : Int) := by omega
      have hk1 : (k : Int) < (L.length : Int) := by omega
      go_wp2_with fail
      refine hg2.mono ?_
      rintro e w2 ⟨rfl, s2, hk2⟩
      clear hg2 c1
      have hK2 := hK.and hk2
      clear hK hk2
      go_wp2
      exact ⟨⟨k + 1, by omega, by go_num, s2, hK2⟩, by simp [intOf]; omega⟩
    · obtain rfl : k = L.length := by omega
      clear hc hround
      replace sk := Lib.hid sk
      replace hK := Lib.hid ((Keeps.of_below hb1 _).and hK)
      go_wp2
      exact bodyPost_end (v := .tuple #[]) (by simp [results, Try.results14, go_sem]) rfl ⟨rfl, sk.out, hK.out⟩

theorem errV1 : errV 1 = .iface 65 (.int .i64 1) := rfl

set_option maxRecDepth 100000 in
set_option maxHeartbeats 4000000 in
theorem slotsLay (s : SlC w b t f) (l : List Int) (v : Value) (hv : Reads encI w v l) (hne : ∀ ad n c, v = .slice (some ad) n c → ad.block ≠ b) (hl : l.length ≤ 1000000) :
    Calls Try.prog 17 #[.pointer (some ⟨b, 0, none⟩), v] w fun e w' => e = .returned (errV (f.layE l)) ∧ SlC w' b t (f.lay l) ∧ Keeps (only b) w w' := by
  have H := slotsHeld s
  have hlen : f.helds.length ≤ 16 := f.heldsN_length 16
  unfold SF.lay SF.layE
  by_cases he : l.length = f.helds.length
  · rw [if_pos he, if_pos he, errV0']
    have hend : f.upd (f.below f.helds.length) (f.lays l) = f.upd (f.upto 16) (f.lays l) := SF.upd_congr f _ _ _ fun j => (SF.below_all j).symm
    have hstart : f.upd (f.below 0) (f.lays l) = f := SF.upd_none f _ _ SF.below_zero
    have hround : ∀ k (hk : k < f.helds.length), f.helds[k] < 16 ∧ ∀ W, SlC W b t (f.upd (f.below k) (f.lays l)) → SlC (W.setCell ⟨b, 1 + f.helds[k] * 3 + 2, none⟩ (.int .i64 (l.getD k 0))) b t (f.upd (f.below (k + 1)) (f.lays l)) := fun k hk => by
      obtain ⟨hr, h16, _⟩ := SF.rank_of hk
      refine ⟨h16, fun W hW => ?_⟩
      have hg := hW.setVal h16 (l.getD k 0)
      rw [upd_at hk] at hg
      have e : (⟨(f f.helds[k]).gen, (f f.helds[k]).held, l.getD k 0⟩ : Slo) = f.lays l f.helds[k] := by
        unfold SF.lays
        rw [hr]
      rw [e, SF.upd_put f _ _ (f.lays l) _ (SF.below_succ hk)] at hg
      exact hg
    have hlt0 := s.lt
    rw [← hend]
    generalize f.lays l = G at *
    have s0 : SlC w b t (f.upd (f.below 0) G) := by rw [hstart]; exact s
    clear hend hstart s
    generalize f.helds = L at *
    generalize hU : (fun k : Nat => f.upd (f.below k) G) = U at *
    have hU2 : ∀ k, f.upd (f.below k) G = U k := fun k => by rw [← hU]
    simp only [hU2] at *
    clear hU2 hU
    obtain ⟨av, cv, rfl⟩ := hv.form
    go_enter Try.func17, Try.ntmps17
    go_wp2_with fail
    refine H.mono ?_
    rintro e w1 ⟨vL, rfl, RL⟩
    clear H
    have s1 := s0.below RL.below
    have hv1 := hv.keep RL.below
    have hb1 := RL.below
    obtain ⟨a, cap, rfl, hc⟩ := listView RL
    have heI : ((l.length : Int) != (L.length : Int)) = false := by rw [he]; exact bne_self_eq_false _
    clear RL s0 hv
    go_wp2
    go_loopw [18] (fun i wr => ∃ k : Nat, k ≤ L.length ∧ i = .int .i64 k ∧ SlC wr b t (U k) ∧ Keeps (only b) w1 wr) (fun i _ => L.length - (intOf i).toNat)
    case atStart => exact ⟨0, by omega, rfl, s1, Keeps.refl _ _⟩
    case round =>
      obtain ⟨k, hk, rfl, sk, hK⟩ := hrel
      clear s1
      by_cases hlt : k < L.length
      · obtain ⟨g, rfl, hg⟩ := hc k hlt
        have c1 := hg wr _ hK (fun j hj => by rw [hj]; exact hlt0)
        obtain ⟨h16, HG⟩ := hround k hlt
        have hg2 := HG _ sk
        obtain ⟨ad, rfl, cx⟩ := (hv1.stay hK (fun ad n c e hf => hne ad n c e hf)).intAt k (he ▸ hlt)
        obtain ⟨_, _, c2⟩ := sk.cells _ h16
        have z2 := sk.free (1 + L[k] * 3 + 2)
        have hK2 := hK.and (Keeps.of_setCell (only b) wr ⟨b, 1 + L[k] * 3 + 2, none⟩ (.int .i64 (l.getD k 0)) rfl)
        have hkl : k < l.length := by omega
        have hgd : l.getD k 0 = l[k] := by rw [List.getD, List.getElem?_eq_getElem hkl, Option.getD_some]
        rw [hgd] at hg2 hK2
        clear hgd
        clear hg hc HG hround sk hK hv1 hne
        generalize l[k] = x at *
        generalize L[k] = n at *
        generalize (U k n).val = y at *
        have hn1 : (n : Int) < 16 := by omega
        have hn0 : (0 : Int) ≤ (n : Int) := by omega
        have hk0 : (0 : Int) ≤ (k : Int) := by omega
        have hk1 : (k : Int) < (L.length : Int) := by omega
        have hk2 : (k : Int) < (l.length : Int) := by omega
        have hg3 := Lib.hid (hg2.below (Below.refl _ _).drew)
        have hK3 := Lib.hid (hK2.and (Keeps.of_drew _ _))
        clear hg2 hK2 he
        go_wp2
        go_region
        go_wp2
        exact ⟨⟨k + 1, by omega, by go_num, hg3.out, hK3.out⟩, by simp [intOf]; omega⟩
      · obtain rfl : k = L.length := by omega
        clear hc hround hv1 hne
        replace sk := Lib.hid sk
        replace hK := Lib.hid ((Keeps.of_below hb1 _).and hK)
        go_wp2
        go_ret
        exact ⟨rfl, sk.out, hK.out⟩
  · rw [if_neg he, if_neg he, errV1]
    have S := fun W (hb : Below w.heap.size w W) => s.below hb
    clear s hne
    obtain ⟨av, cv, rfl⟩ := hv.form
    generalize f.helds = L at *
    replace S := Lib.hid S
    have heI : ((l.length : Int) != (L.length : Int)) = true := by rw [bne_iff_ne]; omega
    go_enter Try.func17, Try.ntmps17
    go_wp2_with fail
    refine H.mono ?_
    rintro e w1 ⟨vL, rfl, RL⟩
    clear H
    obtain ⟨a, cap, rfl, hc⟩ := listView RL
    have hb := RL.below
    clear RL hc hv
    go_wp2
    go_ret
    exact ⟨rfl, S.out _ hb, Keeps.of_below hb _⟩
end

end Go.Proofs.Ytilcjpaifbcjaaa
