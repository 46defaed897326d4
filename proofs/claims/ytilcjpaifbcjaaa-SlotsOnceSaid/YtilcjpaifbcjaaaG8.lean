/-
  Texts of this proof, one behind the other: SlotX.
-/
import Derived.Test.YtilcjpaifbcjaaaG7
/-
  Walks of package slots: what turns them.
-/
namespace Go.Proofs.Ytilcjpaifbcjaaa
open Go Go.RowKit

/-- A list of places just made, as it reads later. -/
theorem listView {w w1 : World} {v : Value} {L : List Nat} (R : NRel encI w (ints L) v w1) : ∃ a cap, v = .slice a L.length cap ∧ ∀ k (hk : k < L.length), ∃ g, a = some ⟨g, 0, none⟩ ∧ ∀ W F, Keeps F w1 W → (∀ j, F j → j < w.heap.size) → W.cell? ⟨g, k, none⟩ = some (.int .i64 (L[k] : Nat)) := by
  obtain ⟨a, cap, rfl, _, _, _, H⟩ := R.own.form
  refine ⟨a, cap, by rw [ints_length], fun k hk => ?_⟩
  have hk' : k < (ints L).length := by rwa [ints_length]
  obtain ⟨g, cap', e, _⟩ := R.own.some (by omega)
  injection e with ea _ ec
  subst ea ec
  refine ⟨g, rfl, fun W F hK hF => ?_⟩
  have h2 := (R.own.keep hK (fun j hj hFj => by
    have h3 := R.new j hj
    have h4 := hF j hFj
    omega)).intAt k hk'
  rw [h2, ints_get]

section
variable {w : World} {b : Nat} {t : Int} {f : SF}

theorem errV5 : errV 5 = .iface 65 (.int .i64 5) := rfl
theorem errV0' : errV 0 = .nilIface := rfl

set_option maxRecDepth 100000 in
set_option maxHeartbeats 4000000 in
theorem slotsGet (s : SlC w b t f) (ok : f.Ok) (h1 : 1 ≤ t) (h8 : t ≤ 8) (h : Nat) (hh : h < 18446744073709551616) :
    Calls Try.prog 9 #[.pointer (some ⟨b, 0, none⟩), .int .u64 h] w fun e w' => e = .returned (.tuple #[.int .i64 (f.getV t h), errV (f.getE t h)]) ∧ Below w.heap.size w w' := by
  have H := slotsFind s ok h1 h8 h hh
  unfold SF.getV SF.getE
  by_cases hl : f.find t h < 16
  · rw [if_pos hl, decide_eq_true hl] at H
    rw [if_pos hl, if_pos hl, errV0']
    have cv := fun W (hb : Below w.heap.size w W) => ((s.below hb).cells _ hl).2.2
    clear s ok
    generalize f.find t h = n at *
    generalize (f n).val = x at *
    have hn1 : (n : Int) < 16 := by omega
    have hn0 : (0 : Int) ≤ (n : Int) := by omega
    go_enter Try.func9, Try.ntmps9
    go_wp2_with fail
    refine H.mono ?_
    rintro e w' ⟨rfl, hb⟩
    have c := cv _ hb
    clear H cv
    go_wp2
    refine bodyPost_ret (results_tmp2 rfl _ _ _) rfl ?_
    exact ⟨rfl, hb⟩
  · rw [if_neg hl, decide_eq_false hl] at H
    rw [if_neg hl, if_neg hl, errV5]
    clear s ok hl
    go_enter Try.func9, Try.ntmps9
    go_wp2_with fail
    refine H.mono ?_
    rintro e w' ⟨rfl, hb⟩
    clear H
    go_wp2
    refine bodyPost_ret (results_tmp2 rfl _ _ _) rfl ?_
    exact ⟨rfl, hb⟩

theorem map_take_succ {β : Type} (l : List Nat) (g : Nat → β) (k : Nat) (hk : k < l.length) : (l.take (k + 1)).map g = (l.take k).map g ++ [g l[k]] := by
  rw [List.take_add_one, List.getElem?_eq_getElem hk, List.map_append]; rfl

set_option maxRecDepth 100000 in
set_option maxHeartbeats 4000000 in
theorem slotsVals (h : SlC w b t f) :
    Calls Try.prog 34 #[.pointer (some ⟨b, 0, none⟩)] w fun e w' => ∃ v, e = .returned v ∧ NRel encI w f.vals v w' := by
  have H := slotsHeld h
  have hm : ∀ k (hk : k < f.helds.length), f.helds[k] < 16 := fun k hk => (SF.rank_of hk).2.1
  have hlen : f.helds.length ≤ 16 := f.heldsN_length 16
  unfold SF.vals
  generalize f.helds = L at *
  go_enter Try.func34, Try.ntmps34
  go_wp2_with fail
  refine H.mono ?_
  rintro e w1 ⟨vL, rfl, RL⟩
  clear H
  have h1 := h.below RL.below
  have hb1 := RL.below
  obtain ⟨a, cap, rfl, hc⟩ := listView RL
  clear RL h
  go_wp2
  go_loopw [3, 9] (fun vo i wr => ∃ k : Nat, k ≤ L.length ∧ i = .int .i64 k ∧ NRel encI w1 ((L.take k).map fun i : Nat => (f i).val) vo wr) (fun _ i _ => L.length - (intOf i).toNat)
  case atStart => exact ⟨0, by omega, rfl, NRel.start _ (Below.refl _ _)⟩
  case round =>
    obtain ⟨k, hk, rfl, R⟩ := hrel
    by_cases hlt : k < L.length
    · obtain ⟨g, rfl, hg⟩ := hc k hlt
      have c1 := hg wr noBlock (Keeps.of_below R.below _) (fun _ h => h.elim)
      have h16 := hm k hlt
      have c2 := ((h1.below R.below).cells _ h16).2.2
      have hs := map_take_succ L (fun i : Nat => (f i).val) k hlt
      have hll : ((L.take k).map fun i : Nat => (f i).val).length ≤ k := by simp; omega
      clear hg hc hm h1
      generalize L[k] = n at *
      generalize (f n).val = x at *
      generalize (L.take k).map (fun i : Nat => (f i).val) = out at *
      have hn1 : (n : Int) < 16 := by omega
      have hn0 : (0 : Int) ≤ (n : Int) := by omega
      have hk1 : (k : Int) < (L.length : Int) := by omega
      have hA := R.own.alloc (.cells #[.int .i64 x] 3)
      have hsrc := oneI wr x wr.heap.size rfl
      have hln : out.length + [x].length ≤ 1000000 := by simp; omega
      replace hs := Lib.hid hs
      go_wp2_with (at_builtin; refine appendI rfl (.tmp 13) (.tmp 21) rfl _ _ out [x] rfl hA rfl hsrc hln ?_; intro v' w2 hown hgr hat)
      exact ⟨⟨k + 1, by omega, by go_num, by rw [hs.out]; exact R.push _ hown hgr hat⟩, by simp [intOf]; omega⟩
    · obtain rfl : k = L.length := by omega
      clear hc hm h1
      go_wp2
      go_ret
      rw [List.take_length] at R
      exact ⟨_, rfl, R.own, (fun g hg => Nat.le_trans hb1.size (R.new g hg)), hb1.trans (R.below.mono hb1.size)⟩

set_option maxRecDepth 100000 in
set_option maxHeartbeats 4000000 in
theorem slotsHandles (h : SlC w b t f) :
    Calls Try.prog 31 #[.pointer (some ⟨b, 0, none⟩)] w fun e w' => ∃ v, e = .returned v ∧ NRel encU w (f.hands t) v w' := by
  have H := slotsHeld h
  have hm : ∀ k (hk : k < f.helds.length), f.helds[k] < 16 := fun k hk => (SF.rank_of hk).2.1
  have hlen : f.helds.length ≤ 16 := f.heldsN_length 16
  unfold SF.hands
  generalize f.helds = L at *
  go_enter Try.func31, Try.ntmps31
  go_wp2_with fail
  refine H.mono ?_
  rintro e w1 ⟨vL, rfl, RL⟩
  clear H
  have h1 := h.below RL.below
  have hb1 := RL.below
  obtain ⟨a, cap, rfl, hc⟩ := listView RL
  clear RL h
  go_wp2
  go_loopw [3, 9] (fun vo i wr => ∃ k : Nat, k ≤ L.length ∧ i = .int .i64 k ∧ NRel encU w1 ((L.take k).map fun i : Nat => packN t i (f i).gen) vo wr) (fun _ i _ => L.length - (intOf i).toNat)
  case atStart => exact ⟨0, by omega, rfl, NRel.start _ (Below.refl _ _)⟩
  case round =>
    obtain ⟨k, hk, rfl, R⟩ := hrel
    by_cases hlt : k < L.length
    · obtain ⟨g, rfl, hg⟩ := hc k hlt
      have c1 := hg wr noBlock (Keeps.of_below R.below _) (fun _ h => h.elim)
      have h16 := hm k hlt
      have HH := slotsHandle (h1.below R.below) _ h16
      have hs := map_take_succ L (fun i : Nat => packN t i (f i).gen) k hlt
      have hll : ((L.take k).map fun i : Nat => packN t i (f i).gen).length ≤ k := by simp; omega
      clear hg hc hm h1
      generalize L[k] = n at *
      generalize packN t n (f n).gen = x at *
      generalize (L.take k).map (fun i : Nat => packN t i (f i).gen) = out at *
      have hn1 : (n : Int) < 16 := by omega
      have hn0 : (0 : Int) ≤ (n : Int) := by omega
      have hk1 : (k : Int) < (L.length : Int) := by omega
      have hln : out.length + [x].length ≤ 1000000 := by simp; omega
      replace hs := Lib.hid hs
      go_wp2_with fail
      refine HH.mono ?_
      rintro e w2 ⟨rfl, hb2⟩
      clear HH
      have R1 := R.later hb2
      have hA := R1.own.alloc (.cells #[.int .u64 x] 29)
      have hsrc := oneU w2 x w2.heap.size rfl
      go_wp2_with (at_builtin; refine appendU rfl (.tmp 13) (.tmp 17) rfl _ _ out [x] rfl hA rfl hsrc hln ?_; intro v' w3 hown hgr hat)
      exact ⟨⟨k + 1, by omega, by go_num, by rw [hs.out]; exact R1.push _ hown hgr hat⟩, by simp [intOf]; omega⟩
    · obtain rfl : k = L.length := by omega
      clear hc hm h1
      go_wp2
      go_ret
      rw [List.take_length] at R
      exact ⟨_, rfl, R.own, (fun g hg => Nat.le_trans hb1.size (R.new g hg)), hb1.trans (R.below.mono hb1.size)⟩

set_option maxRecDepth 100000 in
set_option maxHeartbeats 4000000 in
theorem slotsLetGo (h : SlC w b t f) (n : Nat) (hn : n < 16) (g0 : 0 ≤ (f n).gen) (g1 : (f n).gen ≤ 16) :
    Calls Try.prog 25 #[.pointer (some ⟨b, 1 + n * 3, none⟩)] w fun e w' => e = .returned (.tuple #[]) ∧ SlC w' b t (f.put n (f n).go) ∧ Keeps (only b) w w' := by
  obtain ⟨c0, c1, c2⟩ := h.cells n hn
  have z0 := h.free (1 + n * 3)
  have z1 := h.free (1 + n * 3 + 1)
  have z2 := h.free (1 + n * 3 + 2)
  have h2 := h.setAll hn false ((f n).gen + 1) 0
  have hK : Keeps (only b) w (((w.setCell ⟨b, 1 + n * 3, none⟩ (.bool false)).setCell ⟨b, 1 + n * 3 + 1, none⟩ (.int .i64 ((f n).gen + 1))).setCell ⟨b, 1 + n * 3 + 2, none⟩ (.int .i64 0)) :=
    ((Keeps.of_setCell (only b) w ⟨b, 1 + n * 3, none⟩ _ rfl).and (Keeps.of_setCell (only b) _ ⟨b, 1 + n * 3 + 1, none⟩ _ rfl)).and (Keeps.of_setCell (only b) _ ⟨b, 1 + n * 3 + 2, none⟩ _ rfl)
  unfold Slo.go
  replace h2 := Lib.hid h2
  replace hK := Lib.hid hK
  clear h
  generalize (f n).gen = g at *
  generalize (f n).held = hd at *
  generalize (f n).val = vv at *
  go_enter Try.func25, Try.ntmps25
  go_wp2
  exact bodyPost_end (v := .tuple #[]) (by simp [results, Try.results25, go_sem]) rfl ⟨rfl, h2.out, hK.out⟩
end

end Go.Proofs.Ytilcjpaifbcjaaa
