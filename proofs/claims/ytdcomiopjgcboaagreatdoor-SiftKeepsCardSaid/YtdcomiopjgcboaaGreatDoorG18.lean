/-
  Texts of this proof, one behind the other: Built9, ReadN, RefW, RefV.
-/
import Derived.Test.YtdcomiopjgcboaaGreatDoorG15
import Derived.Test.YtdcomiopjgcboaaGreatDoorG17
import Derived.OwnWalk
import Derived.Test.YtdcomiopjgcboaaGreatDoorG8
import Derived.Test.YtdcomiopjgcboaaGreatDoorG13
import Derived.Test.YtdcomiopjgcboaaGreatDoorG7
import Derived.Test.YtdcomiopjgcboaaGreatDoorG16
import Derived.Test.YtdcomiopjgcboaaGreatDoorG5
import Derived.Deep.LoopGhost
/-
  Both stores, in which functions were built, and levels changed places.
-/
namespace Go.Proofs.YtdcomiopjgcboaaGreatDoor
open Go Go.RowKit

set_option maxRecDepth 100000 in
set_option maxHeartbeats 8000000 in
theorem lawBuilt {StAt : World → Nat → (Nat → Prop) → MS → Prop} (H : StoreC StAt) (R : ReadC StAt) (most : Int) (k : List Fn) (sw : List Int) (vk vs : Value) (w : World) (hL : LowW w) (hk : SliceF w vk k) (hs : Reads encI w vs sw) (hsw : ∀ a ∈ sw, (Lit.int .i64 a).wf = true) :
    Calls Tryz.prog 6 #[.int .i64 most, vk, vs] w fun e w' => (e = .returned (.tuple #[.pointer none, .pointer none, .int .i64 0]) ∧ Below w.heap.size w w') ∨
      ∃ bA bM FA FM s, e = .returned (.tuple #[.pointer (some ⟨bA, 0, none⟩), .pointer (some ⟨bM, 0, none⟩), .int .i64 1]) ∧ s.Ok ∧ P2 StAt w bA bM FA FM s s w' := by
  obtain ⟨ak, ck, rfl⟩ := hk.form
  obtain ⟨as', cs, rfl⟩ := hs.form
  go_enter Tryz.func6, Tryz.ntmps6
  by_cases hmost : 0 ≤ most ∧ most ≤ 20000
  · obtain ⟨h0, h1⟩ := hmost
    go_wp2_with fail
    refine (lawBegin H most _ h0 h1).mono ?_
    rintro e w2 ⟨bA, bM, FA, FM, rfl, P⟩
    have ok := MS.none_ok most.toNat (by omega)
    generalize MS.none most.toNat = s at *
    by_cases hk6 : k.length ≤ 6
    · have hk3 : ¬ 6 < (k.length : Int) := by omega
      by_cases hs30 : sw.length ≤ 30
      · have hs3 : ¬ 30 < (sw.length : Int) := by omega
        replace P := Lib.hid P
        replace ok := Lib.hid ok
        go_wp2
        go_loopw [11] (fun i wr => ∃ (j : Nat) (s : MS) (FA FM : Nat → Prop), j ≤ k.length ∧ i = .int .i64 j ∧ s.Ok ∧ P2 StAt w bA bM FA FM s s wr) (fun i _ => k.length - (intOf i).toNat)
        case atStart => exact ⟨0, s, _, _, Nat.zero_le _, rfl, ok.out, P.out⟩
        case round =>
          clear P ok
          obtain ⟨j, s, FA, FM, hj, rfl, ok, P⟩ := hrel
          by_cases hlt : j < k.length
          · have hk0 : (0 : Int) ≤ (j : Int) := by omega
            have hk1 : (j : Int) < (k.length : Int) := by omega
            have hbw := P.below
            have hLr := hL.keep hbw
            have hlow : ∀ q, FA q → 0 < q := fun q hq => by have := P.lowA q hq; have := hL.pos; omega
            have hkc : ∀ V, Below w.heap.size w V → SliceF V (.slice ak k.length ck) k := fun V hV => hk.keep hV (Nat.le_refl _)
            obtain ⟨ad, rfl, c0, c1, c2, c3⟩ := (hkc _ hbw).fnAt j hlt
            have hB := R.build hLr hlow P.a ok k[j]
            have hM := fun V F (hV : RefSAt V bM F s) => refSBuild 8 s k[j] V F hV ok (supN_8 _)
            have hE := MS.bld_err s k[j] ok
            have okB := (MS.bld_spec 8 s k[j] ok (supN_8 _)).1
            unfold MkPost at hM
            have hkc2 : ∀ V, Below w.heap.size w V → V.cell? (ad.add (j * 4)) = some (.int .u64 (wd k[j] 0)) ∧ V.cell? ⟨(ad.add (j * 4)).block, (ad.add (j * 4)).off + 1, none⟩ = some (.int .u64 (wd k[j] 1)) ∧ V.cell? ⟨(ad.add (j * 4)).block, (ad.add (j * 4)).off + 2, none⟩ = some (.int .u64 (wd k[j] 2)) ∧ V.cell? ⟨(ad.add (j * 4)).block, (ad.add (j * 4)).off + 3, none⟩ = some (.int .u64 (wd k[j] 3)) := fun V hV => by
              obtain ⟨ad2, e, h⟩ := (hkc V hV).fnAt j hlt
              cases e
              exact h
            generalize k[j] = f at *
            generalize MS.bld 8 s f = r at *
            obtain ⟨r0, r1, S⟩ := r
            dsimp only at hB hM hE okB
            simp only [fv] at hB hM
            clear hkc hLr hlow
            go_wp2_with fail
            refine hB.mono ?_
            rintro e w4 ⟨rfl, FA1, hA1, hK1, hW1⟩
            have P1 := P.code H hA1 hK1 hW1
            obtain ⟨c0', c1', c2', c3'⟩ := hkc2 _ P1.below
            clear hB c0 c1 c2 c3 hA1 hK1 hW1 hkc2
            go_wp2_with fail
            refine (hM _ _ P1.m).mono ?_
            rintro e w5 ⟨rfl, FM1, hM1, hK1, hW1⟩
            have P2' := P1.ref H hM1 hK1 hW1
            clear hM c0' c1' c2' c3' hM1 hK1 hW1 P1 P
            go_wp2_with fail
            refine (lawCode _ _ hE.1 hE.2).mono ?_
            rintro e wx ⟨rfl, rfl⟩
            go_wp2
            exact ⟨⟨j + 1, S, FA1, FM1, by omega, by go_num, okB, P2'⟩, by simp [intOf]; omega⟩
          · obtain rfl : j = k.length := by omega
            replace P := Lib.hid P
            replace ok := Lib.hid ok
            go_wp2
            clear hlt hj
            go_loopw [16] (fun i wr => ∃ (j : Nat) (s : MS) (FA FM : Nat → Prop), j ≤ sw.length ∧ i = .int .i64 j ∧ s.Ok ∧ P2 StAt w bA bM FA FM s s wr) (fun i _ => sw.length - (intOf i).toNat)
            case atStart => exact ⟨0, s, _, _, Nat.zero_le _, rfl, ok.out, P.out⟩
            case round =>
              clear P ok
              obtain ⟨j, s, FA, FM, hj, rfl, ok, P⟩ := hrel
              by_cases hlt : j < sw.length
              · have hk0 : (0 : Int) ≤ (j : Int) := by omega
                have hk1 : (j : Int) < (sw.length : Int) := by omega
                obtain ⟨ad, rfl, c0⟩ := (hs.keep P.below).intAt j hlt
                have wA := hsw _ (List.getElem_mem hlt)
                generalize sw[j] = A at *
                have pk7 := fun V => lawPick A 7 V (by decide) (by decide) wA
                go_wp2_with fail
                refine (pk7 _).mono ?_
                rintro e w3 ⟨rfl, rfl⟩
                clear pk7 c0
                generalize A % 7 = l at *
                have hE := s.swap_err l
                have ok' := ok.swapped l
                have hM := fun V F (hV : RefSAt V bM F s) => refSSwap hV ok l
                have hS := H.swap P.a ok l
                generalize s.swap l = r at *
                obtain ⟨E, S⟩ := r
                dsimp only at hE ok' hM hS
                go_wp2_with fail
                refine hS.mono ?_
                rintro e w4 ⟨rfl, FA1, hA1, hK1, hW1⟩
                have P1 := P.code H hA1 hK1 hW1
                clear hS hA1 hK1 hW1 P
                go_wp2_with fail
                refine (lawCode _ _ hE.1 hE.2).mono ?_
                rintro e wx ⟨rfl, rfl⟩
                go_wp2_with fail
                refine (hM _ _ P1.m).mono ?_
                rintro e w5 ⟨rfl, FM1, hM1, hK1, hW1⟩
                have P2' := P1.ref H hM1 hK1 hW1
                clear hM hM1 hK1 hW1 P1
                go_wp2
                exact ⟨⟨j + 1, S, FA1, FM1, by omega, by go_num, ok', P2'⟩, by simp [intOf]; omega⟩
              · obtain rfl : j = sw.length := by omega
                clear hlt hj
                go_wp2_with fail
                refine (lawSame H P ok).mono ?_
                rintro e w6 ⟨rfl, hb6⟩
                have P3 := P.keep H hb6
                clear P hb6
                go_wp2
                go_ret3
                exact .inr ⟨bA, bM, FA, FM, s, rfl, ok, P3⟩
      · have hs3 : 30 < (sw.length : Int) := by omega
        go_wp2
        go_ret3
        exact .inl ⟨rfl, P.below⟩
    · have hk3 : 6 < (k.length : Int) := by omega
      go_wp2
      go_ret3
      exact .inl ⟨rfl, P.below⟩
  · have hm : most < 0 ∨ 20000 < most := by omega
    go_wp2_with fail
    refine (lawBegin_no H most _ hm).mono ?_
    rintro e w2 ⟨rfl, hb2⟩
    go_wp2
    go_ret3
    exact .inl ⟨rfl, hb2⟩

end Go.Proofs.YtdcomiopjgcboaaGreatDoor

/-
  Nodes of bowerlaw00: nodes of a model's store, by any numbers.
-/
namespace Go.Proofs.YtdcomiopjgcboaaGreatDoor
open Go Go.RowKit

/-- Nodes by any numbers. -/
def MS.picks (s : MS) (l : List Int) : List Int := l.map fun n => s.pick n (decide (n < 0))
theorem MS.Base.picks_le {s : MS} (ok : s.Base) {l : List Int} (h : ∀ n ∈ l, n ≤ 9223372036854775807) : ∀ n ∈ s.picks l, n ≤ 9223372036854775807 := by
  intro n hn
  obtain ⟨m, hm, rfl⟩ := List.mem_map.1 hn
  exact ok.pick_le (h m hm)
theorem MS.Base.picks_ge {s : MS} (ok : s.Base) {l : List Int} (h : ∀ n ∈ l, -9223372036854775808 ≤ n) : ∀ n ∈ s.picks l, -9223372036854775808 ≤ n := by
  intro n hn
  obtain ⟨m, hm, rfl⟩ := List.mem_map.1 hn
  exact ok.pick_ge (h m hm)
theorem MS.picks_step {s : MS} {l : List Int} {k : Nat} (hk : k < l.length) : s.picks (l.take (k + 1)) = s.picks (l.take k) ++ [s.pick l[k] (decide (l[k] < 0))] := by
  unfold MS.picks
  rw [List.take_succ_eq_append_getElem hk, List.map_append]
  rfl
theorem MS.picks_length (s : MS) (l : List Int) : (s.picks l).length = l.length := by simp [MS.picks]

set_option maxRecDepth 100000 in
set_option maxHeartbeats 2000000 in
theorem lawNodes {w : World} {b : Nat} {F : Nat → Prop} {s : MS} (h : RefSAt w b F s) (ok : s.Base) (l : List Int) (v : Value) (hv : Reads encI w v l) (hl : l.length ≤ 100000) (hwf : ∀ n ∈ l, (Lit.int .i64 n).wf = true) :
    Calls Tryz.prog 7 #[.pointer (some ⟨b, 0, none⟩), v] w fun e w' => ∃ v', e = .returned v' ∧ WRel w (s.picks l) v' w' := by
  obtain ⟨a, cap, rfl⟩ := hv.form
  have HP := fun wr (hb : Below w.heap.size w wr) (n : Int) (hn : (Lit.int .i64 n).wf = true) => lawNode (h.below hb) ok n (decide (n < 0)) hn
  clear h
  go_enter Tryz.func7, Tryz.ntmps7
  go_wp2
  go_loopw [5, 6] (fun vo i wr => ∃ k : Nat, k ≤ l.length ∧ i = .int .i64 k ∧ WRel w (s.picks (l.take k)) vo wr) (fun _ i _ => l.length - (intOf i).toNat)
  case atStart => exact ⟨0, Nat.zero_le _, rfl, Owns.nil _ _, (fun g h => by cases h), Below.refl _ _⟩
  case round =>
    obtain ⟨k, hk, rfl, R⟩ := hrel
    by_cases hlt : k < l.length
    · obtain ⟨ad, rfl, _⟩ := (hv.keep R.below).intAt k hlt
      have hc : ∀ u : Sub wr, u.1.cell? (ad.add k) = some (.int .i64 l[k]) := fun u => by
        obtain ⟨ad', e, h⟩ := (hv.keep (R.below.trans (u.2.mono R.below.size))).intAt k hlt
        cases e
        exact h
      have HS := MS.picks_step (s := s) hlt
      have hln := MS.picks_length s (l.take k)
      rw [List.length_take] at hln
      have hw := hwf _ (List.getElem_mem hlt)
      have HN := fun u : Sub wr => HP u.1 (R.below.trans (u.2.mono R.below.size)) _ hw
      generalize l[k] = x at *
      generalize s.pick x (decide (x < 0)) = y at *
      generalize s.picks (l.take k) = out at *
      replace HS := Lib.hid HS
      have hk0 : (0 : Int) ≤ (k : Int) := by omega
      have hk1 : (k : Int) < (l.length : Int) := by omega
      clear hv HP hwf hw
      go_wp2
      refine wp_region_move_tail (C := fun w' => ∃ u : Sub wr, w' = u.1) 11 (.tmp 5) rfl rfl (by kernel_rfl) (by kernel_rfl) (fun _ _ _ _ h => h) (InSub.drew wr) ?_
      simp only [List.take_succ_cons, List.take_zero, List.drop_succ_cons, List.drop_zero, Act.put, Act.eval, List.setIfInBounds_toArray, List.set_cons_zero, List.set_cons_succ]
      iterate 10 (go_big_quiet_step (fail))
      go_big_quiet_step (exact subBelow (HN _))
      refine wpQuiet_nil ?_
      intro w' hw'
      obtain ⟨u, rfl⟩ := hw'
      have hb5 := R.below.trans (u.2.mono R.below.size)
      have hO := R.own.block (w' := u.1) fun g hg => u.2.block g (R.own.lt g hg)
      have hnew := R.new
      clear HN hc
      generalize u.1 = w5 at *
      have hA := hO.alloc (.cells #[.int .i64 y] 3)
      have hsrc := oneI w5 y w5.heap.size rfl
      have hl2 : out.length + [y].length ≤ 1000000 := by simp; omega
      go_wp2_with (at_builtin; refine appendI rfl (.tmp 13) (.tmp 25) rfl _ _ out [y] rfl hA rfl hsrc hl2 ?_; intro v' w2 hown hgr hat)
      refine ⟨⟨k + 1, by omega, by go_num, by rw [HS.out]; exact hown, fun g hg => ?_, ?_⟩, by simp [intOf]; omega⟩
      · rcases hat with hat | hat
        · exact hnew g (hat ▸ hg)
        · rw [hat] at hg; injection hg with hg; have := hb5.size; simp at hg; omega
      · exact (hb5.alloc hb5.size _).grown hgr (by have := hb5.size; simp; omega) hnew
    · clear hv HP hwf
      go_wp2
      go_ret
      refine ⟨_, rfl, ?_⟩
      rw [List.take_of_length_le (by omega)] at R
      exact R

end Go.Proofs.YtdcomiopjgcboaaGreatDoor

/-
  The document's store: Sweep.
-/
namespace Go.Proofs.YtdcomiopjgcboaaGreatDoor
open Go Go.RowKit

theorem sw1_ok {K : List Int} {r : Int × MS} (h : r.2.Ok) (v n : Int) : (MS.sw1 K v r n).2.Ok := by
  unfold MS.sw1; split
  · exact h.freed n
  · exact h
theorem foldl_take_succ {α β : Type} (f : β → α → β) (b : β) (l : List α) (k : Nat) (h : k < l.length) : (l.take (k + 1)).foldl f b = f ((l.take k).foldl f b) l[k] := by
  rw [List.take_add_one, List.getElem?_eq_getElem h, List.foldl_append]; rfl
theorem SwI.count_le {s : MS} {K : List Int} {r : Int × MS} (h : SwI s K r) : r.1 ≤ s.all.length ∧ 0 ≤ r.2.all.length := ⟨by have := h.cnt; omega, Nat.zero_le _⟩

/-- Within a level: the state behind the first k of its numbers. -/
def swPart (K : List Int) (r : Int × MS) (v : Int) (k : Nat) : Int × MS := (r.2.all.take k).foldl (MS.sw1 K v) r
theorem swPart_zero (K : List Int) (r : Int × MS) (v : Int) : swPart K r v 0 = r := rfl
theorem swPart_succ (K : List Int) (r : Int × MS) (v : Int) (k : Nat) (h : k < r.2.all.length) : swPart K r v (k + 1) = MS.sw1 K v (swPart K r v k) r.2.all[k] := foldl_take_succ _ _ _ k h
theorem swPart_all (K : List Int) (r : Int × MS) (l : Nat) : swPart K r (r.2.o l) r.2.all.length = MS.swLevel K r l := by unfold swPart MS.swLevel; rw [List.take_length]
/-- What is so there. -/
theorem SwI.part {s : MS} {K : List Int} {r : Int × MS} (h : SwI s K r) (hc : SwClosed s K) {l : Nat} (hl : l < 8) (hd : SwDone s K r l) (k : Nat) (hk : k ≤ r.2.all.length) :
    SwI s K (swPart K r (s.o l) k) ∧ SwDone s K (swPart K r (s.o l) k) l ∧ (∀ j (hj : j < r.2.all.length), k ≤ j → (swPart K r (s.o l) k).2.has r.2.all[j] = true) := by
  have hN := r.2.all_nodup
  obtain ⟨t1, t2, _, t4, _⟩ := SwI.level hc hl (r.2.all.take k) r h hd (hN.sublist (List.take_sublist _ _)) (fun n hn => h.ok.toBase.mem_all.1 (List.mem_of_mem_take hn))
  refine ⟨t1, t2, fun j hj hkj => t4 _ (h.ok.toBase.mem_all.1 (List.getElem_mem hj)) fun hm => ?_⟩
  obtain ⟨i, hi, e⟩ := List.mem_iff_getElem.1 hm
  rw [List.length_take] at hi
  rw [List.getElem_take] at e
  have := (List.getElem_inj hN).1 e
  omega

set_option maxRecDepth 100000 in
set_option maxHeartbeats 8000000 in
theorem refSSweep {w : World} {b : Nat} {F : Nat → Prop} {s : MS} (h : RefSAt w b F s) (ok : s.Ok) (roots : List Int) (v : Value) (hv : Reads encI w v roots) (hrl : roots.length ≤ 100000) (hwf : ∀ r ∈ roots, r ≤ 9223372036854775807) :
    Calls Tryz.prog 35 #[.pointer (some ⟨b, 0, none⟩), v] w fun e w' => e = .returned (.int .i64 (s.sweep roots).1) ∧ ∃ F', RefSAt w' b F' (s.sweep roots).2 ∧ Keeps F w w' ∧ Within w F F' := by
  have HR := refSReach h ok roots v hv hrl hwf
  have hcl := ok.reach_closed roots
  have hKl : (s.reach roots).length ≤ 20000 := met_few ok.toBase (List.Pairwise.imp (fun h e => by omega) (s.reach_sorted roots)) (fun m hm => (ok.toBase.reach_iff.1 hm).has)
  have hal : (s.all.length : Int) ≤ 20000 := by have := met_few ok.toBase s.all_nodup (fun m hm => ok.toBase.mem_all.1 hm); omega
  have hupto := fun l hl => SwI.upto (K := s.reach roots) ok hcl l hl
  simp only [MS.sweep_eq]
  generalize s.reach roots = K at *
  clear hv hwf hrl
  go_enter Tryz.func35, Tryz.ntmps35
  go_wp2_with fail
  refine HR.mono ?_
  rintro e w1 ⟨vK, rfl, RK⟩
  clear HR
  have hFlt := h.lt
  have h1 := h.below RK.below
  have hKF : ∀ g, vK.ownBlock = some g → ¬ F g := fun g hg hf => by have := RK.new g hg; have := hFlt g hf; omega
  obtain ⟨aK, cK, rfl, _⟩ := RK.own.form
  have HK1 := Keeps.of_below RK.below F
  go_wp2
  go_loopw [6, 7] (fun vf i wr => ∃ (l : Nat) (F1 : Nat → Prop) (r : Int × MS), Hid (r = MS.swTo K (0, s) l) ∧ l ≤ 8 ∧ i = .int .i64 l ∧ vf = .int .i64 r.1 ∧ RefSAt wr b F1 r.2 ∧ Keeps F w1 wr ∧ Within w1 F F1) (fun _ i _ => 8 - (intOf i).toNat)
  case atStart => exact ⟨0, F, (0, s), rfl, Nat.zero_le _, rfl, rfl, h1, Keeps.refl _ _, Within.refl _ _⟩
  case round =>
    clear h1
    obtain ⟨l, F1, r, hr, hl, rfl, rfl, h1, K1, W1⟩ := hrel
    by_cases hlt : l < 8
    · obtain ⟨hI, hD⟩ := hupto l hl
      have hsucc := MS.swTo_succ K (0, s) l
      rw [← hr.out] at hI hD hsucc
      have hAll := refSAll h1 hI.ok.toBase
      have hral : (r.2.all.length : Int) ≤ 20000 := by have := met_few hI.ok.toBase r.2.all_nodup (fun m hm => hI.ok.toBase.mem_all.1 hm); omega
      have hl0 : (0 : Int) ≤ (l : Int) := by omega
      have hl8 : (l : Int) < 8 := by omega
      rw [← swPart_all, hI.o] at hsucc
      have hpart := fun k hk => hI.part hcl hlt hD k hk
      replace hsucc := Lib.hid hsucc
      clear hupto
      go_wp2_with fail
      refine hAll.mono ?_
      rintro e w2 ⟨vA, rfl, RA⟩
      clear hAll
      have h2 := h1.below RA.below
      have hF1lt := h1.lt
      have hAF : ∀ g, vA.ownBlock = some g → ¬ F1 g := fun g hg hf => by have := RA.new g hg; have := hF1lt g hf; omega
      obtain ⟨aA, cA, rfl, _⟩ := RA.own.form
      have K2 := K1.and (Keeps.of_below RA.below F)
      have W2 : Within w1 F F1 := W1
      have hK1b := RK.own.keep K1 hKF
      have hK2b := hK1b.block (w' := w2) fun g hg => RA.below.block g (hK1b.lt g hg)
      have hKF1 : ∀ g, (Value.slice aK K.length cK).ownBlock = some g → ¬ F1 g := fun g hg hf => (W1 g hf).elim (hKF g hg) (fun h => by have := (RK.own.lt g hg); omega)
      clear K1 hK1b h1
      replace h2 := Lib.hid h2
      go_wp2
      go_loopw [6, 9] (fun vf i wr => ∃ (k : Nat) (F2 : Nat → Prop) (p : Int × MS), Hid (p = swPart K r (s.o l) k) ∧ k ≤ r.2.all.length ∧ i = .int .i64 k ∧ vf = .int .i64 p.1 ∧ RefSAt wr b F2 p.2 ∧ Keeps F1 w2 wr ∧ Within w2 F1 F2) (fun _ i _ => r.2.all.length - (intOf i).toNat)
      case atStart => exact ⟨0, F1, r, rfl, Nat.zero_le _, rfl, rfl, h2.out, Keeps.refl _ _, Within.refl _ _⟩
      case round =>
        clear h2
        obtain ⟨k, F2, p, hp, hk, rfl, rfl, h3, K3, W3⟩ := hrel
        by_cases hltk : k < r.2.all.length
        · obtain ⟨pI, pD, pH⟩ := hpart k hk
          have hps := swPart_succ K r (s.o l) k hltk
          have hn := pH k hltk (Nat.le_refl _)
          rw [← hp.out] at pI pD hps hn
          clear hp pH hpart
          have hAr := (RA.own.keep K3 hAF).reads
          obtain ⟨ad, rfl, _⟩ := hAr.intAt k hltk
          have hAt : ∀ V, Below wr.heap.size wr V → V.cell? (ad.add k) = some (.int .i64 r.2.all[k]) := fun V hV => by
            obtain ⟨ad', e', hc'⟩ := (hAr.keep hV).intAt k hltk
            cases e'
            exact hc'
          have hKr := (hK2b.keep K3 hKF1).reads
          have hk0 : (0 : Int) ≤ (k : Int) := by omega
          have hk1 : (k : Int) < (r.2.all.length : Int) := by omega
          have hcnt := pI.count_le.1
          have hcnt0 : 0 ≤ p.1 := by have := pI.cnt; have := List.Nodup.length_le_of_subset (l₁ := p.2.all) (l₂ := s.all) (MS.all_nodup _) (fun m hm => ok.toBase.mem_all.2 (pI.has m (pI.ok.toBase.mem_all.1 hm))); omega
          have hfree := fun hvv hnk => (pI.free hcl pD hlt hn hvv hnk).1
          have hFr := fun V (hV : RefSAt V b F2 p.2) => refSFree hV pI.ok.toBase r.2.all[k]
          have hpo := pI.o
          have hpok := pI.ok
          clear pI pD
          generalize r.2.all[k] = n at *
          have hle := hpok.toBase.has_le hn
          obtain ⟨p1, S⟩ := p
          dsimp only at hcnt hcnt0 hfree hFr hpo hpok hn h3 hps
          have hIn := fun (u : Sub wr) => refSIn K n (.slice aK K.length cK) u.1 (hKr.keep u.2) (by omega)
          have h3' := h3
          obtain ⟨bA, FA, vN, rfl, hR⟩ := h3
          obtain ⟨g, cN, e5, g2, i0, i1, _, _, _⟩ := hR.node hpok.toBase hn
          subst e5
          have hNd : ∀ V, Below wr.heap.size wr V → V.cell? ⟨b, 1, none⟩ = some (.slice (some ⟨g, 0, none⟩) S.N.length cN) ∧ V.cell? ⟨g, (n - 2).toNat * 3, none⟩ = some (.int .i64 (S.nd n).var) ∧ V.cell? ⟨b, 2 + l, none⟩ = some (.int .i64 (s.o l)) := fun V hV => by
            obtain ⟨g', c', e', _, _, _, q0, _, _⟩ := (hR.below hV).node hpok.toBase hn
            cases e'
            exact ⟨(hR.below hV).cells.2, q0, by rw [← hpo]; exact (hR.below hV).place l hlt⟩
          have cN1 := fun u : Sub wr => (hNd _ u.2).1
          have q1 := fun u : Sub wr => (hNd _ u.2).2.1
          have o1 := fun u : Sub wr => (hNd _ u.2).2.2
          have cA1 := fun u : Sub wr => hAt _ u.2
          replace hps := Lib.hid hps
          unfold MS.sw1 at hps
          dsimp only at hps
          have hnext : ∀ (u : Sub wr), RefSAt u.1 b (footS b FA (.slice (some ⟨g, 0, none⟩) S.N.length cN)) S := fun u => h3'.below u.2
          have K3' := fun (u : Sub wr) => K3.and (Keeps.of_below u.2 F1)
          clear hR h3' hAr hKr hNd K3 hK2b hD
          by_cases hv : (S.nd n).var = s.o l
          · have hvb : ((S.nd n).var == s.o l) = true := by rw [beq_iff_eq]; exact hv
            by_cases hk' : n ∈ K
            · have hkb : K.contains n = true := by rw [List.contains_eq_mem]; exact decide_eq_true hk'
              have hp2 : Hid ((p1, S) = swPart K r (s.o l) (k + 1)) := by rw [hps.out, if_neg (fun h => h.2 hk')]; exact rfl
              simp only [hkb] at hIn
              clear hps hfree hFr hkb hv hk'
              go_wp2
              refine wp_region_quiet_all (C := fun w' => ∃ u : Sub wr, w' = u.1) (by kernel_rfl) (by kernel_rfl) (InSub.drew wr) ?_
              iterate 25 (go_big_quiet_step (fail))
              go_big_quiet_step (exact subSame (hIn _))
              iterate 2 (go_big_quiet_step (fail))
              refine wpQuiet_nil ?_
              clear cN1 q1 o1 cA1 hIn
              intro w' hw'
              obtain ⟨u, rfl⟩ := hw'
              have hnx := hnext u
              have hkk := K3' u
              generalize u.1 = W4 at *
              clear hnext K3'
              go_wp2
              exact ⟨⟨k + 1, _, (p1, S), hp2, by omega, by go_num, rfl, hnx, hkk, W3⟩, by simp [intOf]; omega⟩
            · have hkb : K.contains n = false := by rw [List.contains_eq_mem]; exact decide_eq_false hk'
              have hp2 : Hid ((p1 + 1, (S.free n).2) = swPart K r (s.o l) (k + 1)) := by rw [hps.out, if_pos ⟨hv, hk'⟩]; exact rfl
              simp only [hkb] at hIn
              have hf0 := hfree (by rw [hpo]; exact hv) hk'
              clear hps hfree hkb hv hk'
              go_wp2
              refine wp_region_quiet_all (C := fun w' => ∃ u : Sub wr, w' = u.1) (by kernel_rfl) (by kernel_rfl) (InSub.drew wr) ?_
              iterate 25 (go_big_quiet_step (fail))
              go_big_quiet_step (exact subSame (hIn _))
              iterate 2 (go_big_quiet_step (fail))
              refine wpQuiet_nil ?_
              clear cN1 q1 o1 hIn
              intro w' hw'
              obtain ⟨u, rfl⟩ := hw'
              have hnx := hnext u
              have hkk := K3' u
              have cA2 := cA1 u
              generalize u.1 = W4 at *
              clear hnext K3' cA1
              have hF4 := hFr _ hnx (by omega)
              rw [hf0] at hF4
              clear hFr
              go_wp2_with fail
              refine hF4.mono ?_
              rintro e w5 ⟨rfl, F5, h5, K5, W5⟩
              clear hF4
              go_wp2
              exact ⟨⟨k + 1, F5, (p1 + 1, (S.free n).2), hp2, by omega, by go_num, by go_num, h5, hkk.trans K5 W3, W3.trans W5 hkk.size⟩, by simp [intOf]; omega⟩
          · have hvb : ((S.nd n).var == s.o l) = false := by rw [beq_eq_false_iff_ne]; exact hv
            have hp2 : Hid ((p1, S) = swPart K r (s.o l) (k + 1)) := by rw [hps.out, if_neg (fun h => hv h.1)]; exact rfl
            clear hps hfree hFr hv hIn
            go_wp2
            refine wp_region_quiet_all (C := fun w' => ∃ u : Sub wr, w' = u.1) (by kernel_rfl) (by kernel_rfl) (InSub.drew wr) ?_
            iterate 20 (go_big_quiet_step (fail))
            iterate 7 (go_big_quiet_skip)
            go_big_quiet_step (fail)
            refine wpQuiet_nil ?_
            clear cN1 q1 o1 cA1
            intro w' hw'
            obtain ⟨u, rfl⟩ := hw'
            have hnx := hnext u
            have hkk := K3' u
            generalize u.1 = W4 at *
            clear hnext K3'
            go_wp2
            exact ⟨⟨k + 1, _, (p1, S), hp2, by omega, by go_num, rfl, hnx, hkk, W3⟩, by simp [intOf]; omega⟩
        · obtain rfl : k = r.2.all.length := by omega
          have hfin : Hid (p = MS.swTo K (0, s) (l + 1)) := by rw [hp.out]; exact hsucc.out.symm
          clear hp hpart hsucc
          go_wp2
          exact ⟨⟨l + 1, F2, p, hfin, by omega, by go_num, rfl, h3, K2.trans K3 W2, W2.trans W3 K2.size⟩, by simp [intOf]; omega⟩
    · obtain rfl : l = 8 := by omega
      have hfin : r = MS.swTo K (0, s) 8 := hr.out
      replace hfin := Lib.hid hfin
      clear hupto hr
      go_wp2
      go_ret
      exact ⟨by rw [← hfin.out]; rfl, F1, by rw [← hfin.out]; exact h1, HK1.trans K1 (Within.refl _ _), fun k hk => (W1 k hk).imp id (fun h => Nat.le_trans RK.below.size h)⟩

end Go.Proofs.YtdcomiopjgcboaaGreatDoor

/-
  The document's store: step, Sift, SiftAll.
-/
namespace Go.Proofs.YtdcomiopjgcboaaGreatDoor
open Go Go.RowKit

/-- The cells that Sift reads. -/
theorem RefSAt.taken {w : World} {b : Nat} {F : Nat → Prop} {s : MS} (h : RefSAt w b F s) (ok : s.Base) : ∃ bA a k, w.cell? ⟨b, 0, none⟩ = some (.pointer (some ⟨bA, 0, none⟩)) ∧ w.cell? ⟨bA, 1, none⟩ = some (.slice a s.all.length k) := by
  obtain ⟨bA, FA, v, rfl, h⟩ := h
  obtain ⟨c0, c1⟩ := h.cells
  obtain ⟨v1, v2, _, hR⟩ := h.ar
  obtain ⟨d0, d1, _, _⟩ := hR.cells
  obtain ⟨a1, k1, a2, k2, rfl, rfl⟩ := hR.forms
  exact ⟨bA, a1, k1, c0, by rw [ok.count]; exact d1⟩
theorem RefSAt.order {w : World} {b : Nat} {F : Nat → Prop} {s : MS} (h : RefSAt w b F s) : w.cell? ⟨b, 2, none⟩ = some (.int .i64 (s.o 0)) ∧ w.cell? ⟨b, 3, none⟩ = some (.int .i64 (s.o 1)) ∧ w.cell? ⟨b, 4, none⟩ = some (.int .i64 (s.o 2)) ∧ w.cell? ⟨b, 5, none⟩ = some (.int .i64 (s.o 3)) ∧
    w.cell? ⟨b, 6, none⟩ = some (.int .i64 (s.o 4)) ∧ w.cell? ⟨b, 7, none⟩ = some (.int .i64 (s.o 5)) ∧ w.cell? ⟨b, 8, none⟩ = some (.int .i64 (s.o 6)) ∧ w.cell? ⟨b, 9, none⟩ = some (.int .i64 (s.o 7)) := by
  obtain ⟨bA, FA, v, rfl, h⟩ := h
  exact h.order

/-- What a step of the document's comes to. -/
def StepPost (w : World) (b : Nat) (F : Nat → Prop) (r : Bool × MS) (e : Ending) (w' : World) : Prop :=
  e = .returned (.bool r.1) ∧ ∃ F', RefSAt w' b F' r.2 ∧ Keeps F w w' ∧ Within w F F'

set_option maxRecDepth 100000 in
set_option maxHeartbeats 4000000 in
theorem refSStep {w : World} {b : Nat} {F : Nat → Prop} {s : MS} (h : RefSAt w b F s) (ok : s.Ok) (roots : List Int) (v : Value) (hv : RootsAt w F v roots) (hrl : roots.length ≤ 100000) (hwf : ∀ r ∈ roots, r ≤ 9223372036854775807) (x : Int) (down : Bool) :
    Calls Tryz.prog 36 #[.pointer (some ⟨b, 0, none⟩), v, .int .i64 x, .bool down] w (StepPost w b F (s.step roots x down)) := by
  have hlev := levO_range s.o x
  have HL := fun W => refLevel s.o x W
  have HS := fun W (hb : Below w.heap.size w W) => refSSwap (h.below hb) ok (levO s.o x - if down then 0 else 1)
  have hokS := ok.swapped (levO s.o x - if down then 0 else 1)
  have HW := fun W F' (hW : RefSAt W b F' (s.swap (levO s.o x - if down then 0 else 1)).2) (hvW : Reads encI W v roots) => refSSweep hW hokS roots v hvW hrl hwf
  obtain ⟨o0, o1, o2, o3, o4, o5, o6, o7⟩ := h.order
  generalize hr : s.step roots x down = r
  replace hr : (if (s.swap (levO s.o x - if down then 0 else 1)).1 ≠ 0 then (false, (s.swap (levO s.o x - if down then 0 else 1)).2) else (true, ((s.swap (levO s.o x - if down then 0 else 1)).2.sweep roots).2)) = r := hr
  unfold StepPost
  simp only [ov] at HL
  clear h hwf hrl hokS
  generalize levO s.o x = L at *
  cases down
  · simp only [Bool.false_eq_true, if_false] at *
    generalize s.swap (L - 1) = sw at *
    obtain ⟨e1, S⟩ := sw
    dsimp only at *
    generalize S.sweep roots = z at *
    go_enter Tryz.func36, Tryz.ntmps36
    go_wp2_with fail
    refine (HL _).mono ?_
    rintro e w1 ⟨rfl, hb1⟩
    have HS1 := HS _ hb1
    clear HL HS o0 o1 o2 o3 o4 o5 o6 o7
    go_wp2_with fail
    refine HS1.mono ?_
    rintro e w2 ⟨rfl, F2, h2, K2, W2⟩
    have HK := (Keeps.of_below hb1 F).and K2
    have HWi := (Within.refl w F).trans W2 hb1.size
    clear HS1
    by_cases he : e1 = 0
    · subst he
      rw [if_neg (by decide)] at hr
      subst hr
      have HW2 := HW _ _ h2 (hv _ HK)
      go_wp2_with fail
      refine HW2.mono ?_
      rintro e w3 ⟨rfl, F3, h3, K3, W3⟩
      go_wp2
      go_ret
      exact ⟨rfl, F3, h3, HK.trans K3 HWi, HWi.trans W3 HK.size⟩
    · have heb : (e1 == 0) = false := by rw [beq_eq_false_iff_ne]; exact he
      rw [if_pos he] at hr
      subst hr
      clear HW he
      go_wp2
      go_ret
      exact ⟨rfl, F2, h2, HK, HWi⟩
  · simp only [if_true, Int.sub_zero] at *
    generalize s.swap L = sw at *
    obtain ⟨e1, S⟩ := sw
    dsimp only at *
    generalize S.sweep roots = z at *
    go_enter Tryz.func36, Tryz.ntmps36
    go_wp2_with fail
    refine (HL _).mono ?_
    rintro e w1 ⟨rfl, hb1⟩
    have HS1 := HS _ hb1
    clear HL HS o0 o1 o2 o3 o4 o5 o6 o7
    go_wp2_with fail
    refine HS1.mono ?_
    rintro e w2 ⟨rfl, F2, h2, K2, W2⟩
    have HK := (Keeps.of_below hb1 F).and K2
    have HWi := (Within.refl w F).trans W2 hb1.size
    clear HS1
    by_cases he : e1 = 0
    · subst he
      rw [if_neg (by decide)] at hr
      subst hr
      have HW2 := HW _ _ h2 (hv _ HK)
      go_wp2_with fail
      refine HW2.mono ?_
      rintro e w3 ⟨rfl, F3, h3, K3, W3⟩
      go_wp2
      go_ret
      exact ⟨rfl, F3, h3, HK.trans K3 HWi, HWi.trans W3 HK.size⟩
    · have heb : (e1 == 0) = false := by rw [beq_eq_false_iff_ne]; exact he
      rw [if_pos he] at hr
      subst hr
      clear HW he
      go_wp2
      go_ret
      exact ⟨rfl, F2, h2, HK, HWi⟩


/-- The store on its way: what always holds, what stays of w. -/
def SAt (w : World) (b : Nat) (F : Nat → Prop) (t : MS) (W : World) : Prop := t.Ok ∧ ∃ F', RefSAt W b F' t ∧ Keeps F w W ∧ Within w F F'
section
variable {w W W' : World} {b : Nat} {F : Nat → Prop} {t : MS} {v : Value} {roots : List Int}
theorem SAt.below (h : SAt w b F t W) (hb : Below W.heap.size W W') : SAt w b F t W' := by
  obtain ⟨ok, F', h1, h2, h3⟩ := h
  exact ⟨ok, F', h1.below hb, h2.and (Keeps.of_below hb F), h3⟩
theorem SAt.order (h : SAt w b F t W) : W.cell? ⟨b, 2, none⟩ = some (.int .i64 (t.o 0)) ∧ W.cell? ⟨b, 3, none⟩ = some (.int .i64 (t.o 1)) ∧ W.cell? ⟨b, 4, none⟩ = some (.int .i64 (t.o 2)) ∧ W.cell? ⟨b, 5, none⟩ = some (.int .i64 (t.o 3)) ∧
    W.cell? ⟨b, 6, none⟩ = some (.int .i64 (t.o 4)) ∧ W.cell? ⟨b, 7, none⟩ = some (.int .i64 (t.o 5)) ∧ W.cell? ⟨b, 8, none⟩ = some (.int .i64 (t.o 6)) ∧ W.cell? ⟨b, 9, none⟩ = some (.int .i64 (t.o 7)) := by
  obtain ⟨ok, F', h1, h2, h3⟩ := h
  exact h1.order
theorem SAt.taken (h : SAt w b F t W) : ∃ bA a k, W.cell? ⟨b, 0, none⟩ = some (.pointer (some ⟨bA, 0, none⟩)) ∧ W.cell? ⟨bA, 1, none⟩ = some (.slice a t.all.length k) := by
  obtain ⟨ok, F', h1, h2, h3⟩ := h
  exact h1.taken ok.toBase
theorem SAt.turn (h : SAt w b F t W) {u : MS} (ok : u.Ok) (hF : ∀ F1, RefSAt W b F1 t → Keeps F w W → Within w F F1 → ∃ F2, RefSAt W' b F2 u ∧ Keeps F1 W W' ∧ Within W F1 F2) : SAt w b F u W' := by
  obtain ⟨_, F1, h1, h2, h3⟩ := h
  obtain ⟨F2, k1, k2, k3⟩ := hF F1 h1 h2 h3
  exact ⟨ok, F2, k1, h2.trans k2 h3, h3.trans k3 h2.size⟩
theorem SAt.step (h : SAt w b F t W) (hv : RootsAt w F v roots) (hrl : roots.length ≤ 100000) (hwf : ∀ r ∈ roots, r ≤ 9223372036854775807) (x : Int) (down : Bool) :
    Calls Tryz.prog 36 #[.pointer (some ⟨b, 0, none⟩), v, .int .i64 x, .bool down] W fun e W' => e = .returned (.bool (t.step roots x down).1) ∧ SAt w b F (t.step roots x down).2 W' := by
  obtain ⟨ok, F1, h1, h2, h3⟩ := h
  refine (refSStep h1 ok roots v (hv.keep h2 h3) hrl hwf x down).mono ?_
  rintro e W' ⟨he, F2, k1, k2, k3⟩
  exact ⟨he, ok.step _ _ _, F2, k1, h2.trans k2 h3, h3.trans k3 h2.size⟩
theorem SAt.sweep (h : SAt w b F t W) (hv : RootsAt w F v roots) (hrl : roots.length ≤ 100000) (hwf : ∀ r ∈ roots, r ≤ 9223372036854775807) :
    Calls Tryz.prog 35 #[.pointer (some ⟨b, 0, none⟩), v] W fun e W' => e = .returned (.int .i64 (t.sweep roots).1) ∧ SAt w b F (t.sweep roots).2 W' := by
  obtain ⟨ok, F1, h1, h2, h3⟩ := h
  refine (refSSweep h1 ok roots v (hv.keep h2 h3).reads hrl hwf).mono ?_
  rintro e W' ⟨he, F2, k1, k2, k3⟩
  exact ⟨he, (ok.swept roots).1.ok, F2, k1, h2.trans k2 h3, h3.trans k3 h2.size⟩
end

/-- Both ways. -/
noncomputable def siftWays (roots : List Int) (v grow : Int) (x : Sft) : Nat → Sft
  | 0 => x
  | m + 1 => siftGo roots v grow (decide (m = 0)) 8 (siftWays roots v grow x m)
theorem siftGo_eqs (roots : List Int) (v grow : Int) (down : Bool) (k : Nat) (y : Sft) :
    (y.s.last v down = true → siftGo roots v grow down k y = y) ∧
    (∀ j, k = j + 1 → y.s.last v down = false → (y.s.step roots v down).1 = false → siftGo roots v grow down k y = ⟨(y.s.step roots v down).2, y.few, y.best⟩) ∧
    (∀ j, k = j + 1 → y.s.last v down = false → (y.s.step roots v down).1 = true → grow < ((y.s.step roots v down).2.all.length : Int) → siftGo roots v grow down k y = y.met (y.s.step roots v down).2 v) ∧
    (∀ j, k = j + 1 → y.s.last v down = false → (y.s.step roots v down).1 = true → ¬ grow < ((y.s.step roots v down).2.all.length : Int) → siftGo roots v grow down k y = siftGo roots v grow down j (y.met (y.s.step roots v down).2 v)) := by
  refine ⟨fun h => ?_, fun j hj h1 h2 => ?_, fun j hj h1 h2 h3 => ?_, fun j hj h1 h2 h3 => ?_⟩
  · cases k with
    | zero => rfl
    | succ k => unfold siftGo; rw [if_pos h]
  · subst hj; rw [siftGo, if_neg (by rw [h1]; decide), if_pos h2]
  · subst hj; rw [siftGo, if_neg (by rw [h1]; decide), if_neg (by rw [h2]; decide), if_pos h3]
  · subst hj; rw [siftGo, if_neg (by rw [h1]; decide), if_neg (by rw [h2]; decide), if_neg h3]
theorem siftEnd_eqs (roots : List Int) (v best : Int) (k : Nat) (t : MS) :
    (levO t.o v = best → siftEnd roots v best k t = t) ∧
    (∀ j, k = j + 1 → levO t.o v ≠ best → (t.step roots v (decide (levO t.o v < best))).1 = false → siftEnd roots v best k t = (t.step roots v (decide (levO t.o v < best))).2) ∧
    (∀ j, k = j + 1 → levO t.o v ≠ best → (t.step roots v (decide (levO t.o v < best))).1 = true → siftEnd roots v best k t = siftEnd roots v best j (t.step roots v (decide (levO t.o v < best))).2) := by
  refine ⟨fun h => ?_, fun j hj h1 h2 => ?_, fun j hj h1 h2 => ?_⟩
  · cases k with
    | zero => rfl
    | succ k => unfold siftEnd; rw [if_pos h]
  · subst hj; rw [siftEnd, if_neg h1, if_pos h2]
  · subst hj; rw [siftEnd, if_neg h1, if_neg (by rw [h2]; decide)]

set_option maxRecDepth 100000 in
set_option maxHeartbeats 8000000 in
theorem refSSift {w : World} {b : Nat} {F : Nat → Prop} {s : MS} (h : RefSAt w b F s) (ok : s.Ok) (roots : List Int) (v : Value) (hv : RootsAt w F v roots) (hrl : roots.length ≤ 100000) (hwf : ∀ r ∈ roots, r ≤ 9223372036854775807) (x grow : Int) :
    Calls Tryz.prog 12 #[.pointer (some ⟨b, 0, none⟩), v, .int .i64 x, .int .i64 grow] w fun e w' => e = .returned (.int .i64 (s.sift roots x grow).1) ∧ SAt w b F (s.sift roots x grow).2 w' := by
  have A0 : SAt w b F s w := ⟨ok, F, h, Keeps.refl _ _, Within.refl _ _⟩
  generalize hr : s.sift roots x grow = r
  unfold MS.sift at hr
  clear h ok
  by_cases hno : x < 0 ∨ 7 < x ∨ grow < 0
  · rw [if_pos hno] at hr
    subst hr
    go_enter Tryz.func12, Tryz.ntmps12
    by_cases h0 : x < 0
    · clear hno
      go_wp2
      go_ret
      exact ⟨rfl, A0⟩
    · by_cases h7 : 7 < x
      · clear hno
        go_wp2
        go_ret
        exact ⟨rfl, A0⟩
      · have hg : grow < 0 := by omega
        clear hno
        go_wp2
        go_ret
        exact ⟨rfl, A0⟩
  · rw [if_neg hno] at hr
    have hx0 : 0 ≤ x := by omega
    have hx7 : x ≤ 7 := by omega
    have hg0 : 0 ≤ grow := by omega
    have hSw := A0.sweep hv hrl hwf
    clear hno A0
    dsimp only at hr
    generalize s.sweep roots = z at *
    obtain ⟨z1, s0⟩ := z
    dsimp only at *
    have HL := fun W => refLevel s0.o x W
    simp only [ov] at HL
    replace hr := Lib.hid hr
    go_enter Tryz.func12, Tryz.ntmps12
    go_wp2_with fail
    refine hSw.mono ?_
    rintro e w1 ⟨rfl, A1⟩
    clear hSw
    obtain ⟨o0, o1, o2, o3, o4, o5, o6, o7⟩ := A1.order
    go_wp2_with fail
    refine (HL _).mono ?_
    rintro e w2 ⟨rfl, hb2⟩
    have A2 := A1.below hb2
    have hbest := A1.1.lev07 hx0 hx7
    clear HL o0 o1 o2 o3 o4 o5 o6 o7 hb2 A1
    obtain ⟨bA, aT, kT, c0, c1⟩ := A2.taken
    obtain ⟨x0, hx0d⟩ : ∃ x0 : Sft, Hid (x0 = ⟨s0, s0.all.length, levO s0.o x⟩) := ⟨_, rfl⟩
    have hx0s : s0 = x0.s := by rw [hx0d.out]
    have hx0f : (s0.all.length : Int) = x0.few := by rw [hx0d.out]
    have hx0b : levO s0.o x = x0.best := by rw [hx0d.out]
    have hws0 : Hid (siftGo roots x grow true 8 x0 = siftWays roots x grow x0 1) := rfl
    have hfin : Hid ((0, siftEnd roots x (siftWays roots x grow x0 2).best 8 (siftWays roots x grow x0 2).s) = r) := by rw [← hr.out, hx0d.out]; exact rfl
    replace hx0s := Lib.hid hx0s
    replace hx0f := Lib.hid hx0f
    replace hx0b := Lib.hid hx0b
    clear hr hx0d
    go_wp2
    go_loopw [9, 10, 11] (fun best few way wr => ∃ (m : Nat) (y : Sft), m ≤ 2 ∧ way = .int .i64 m ∧ best = .int .i64 y.best ∧ few = .int .i64 y.few ∧ Hid (y = siftWays roots x grow x0 m) ∧ (0 ≤ y.best ∧ y.best ≤ 7) ∧ SAt w b F y.s wr) (fun _ _ way _ => 2 - (intOf way).toNat)
    case atStart => exact ⟨0, x0, by decide, rfl, by rw [hx0b.out], by rw [hx0f.out], rfl, by rw [← hx0b.out]; exact hbest, by rw [← hx0s.out]; exact A2⟩
    case round =>
      clear A2 c0 c1 hbest hx0s hx0f hx0b
      obtain ⟨m, y0, hm, rfl, rfl, rfl, hy0, hbest, A⟩ := hrel
      rcases (by omega : m = 0 ∨ m = 1 ∨ m = 2) with rfl | rfl | rfl
      · have hws0 : Hid (siftGo roots x grow true 8 y0 = siftWays roots x grow x0 1) := by rw [hy0.out]; exact rfl
        have hws1 : True := trivial
        clear hy0
        have hle := A.1.lev07 hx0 hx7
        go_wp2
        go_loopg [9, 10] 8 (fun k best few wr => ∃ y : Sft, best = .int .i64 y.best ∧ few = .int .i64 y.few ∧ Hid (siftGo roots x grow true k y = siftGo roots x grow true 8 y0) ∧ (7 - levO y.s.o x ≤ (k : Int)) ∧ (0 ≤ y.best ∧ y.best ≤ 7) ∧ SAt w b F y.s wr)
        case atStart => exact ⟨y0, rfl, rfl, rfl, by omega, hbest, A⟩
        case round =>
          clear A hbest hle
          obtain ⟨y, rfl, rfl, hgo, hbd, hbest, A⟩ := hrel
          have hle := A.1.lev07 hx0 hx7
          have HL := fun W => refLevel y.s.o x W
          simp only [ov] at HL
          obtain ⟨o0, o1, o2, o3, o4, o5, o6, o7⟩ := A.order
          go_wp2_with fail
          refine (HL _).mono ?_
          rintro e w1 ⟨rfl, hb1⟩
          have A1 := A.below hb1
          clear HL A o0 o1 o2 o3 o4 o5 o6 o7 hb1
          have hlast : y.s.last x true = decide (levO y.s.o x = 7) := rfl
          have hG := siftGo_eqs roots x grow true gk y
          rw [hlast] at hG
          clear hlast
          have hSt := A1.step hv hrl hwf x true
          have hlev := fun hs => A1.1.step_lev (roots := roots) hx0 hx7 (down := true) hs
          have hok := A1.1.step roots x true
          obtain ⟨hG0, hG1, hG2, hG3⟩ := hG
          by_cases hl : levO y.s.o x = 7
          · have hfin : siftGo roots x grow true gk y = y := hG0 (decide_eq_true hl)
            rw [hfin] at hgo
            have hb : (levO y.s.o x == 7) = true := by rw [beq_iff_eq]; exact hl
            have hS' : Hid (y = siftWays roots x grow x0 1) := by rw [← hws0.out]; exact hgo.out
            replace hl := Lib.hid hl
            clear hgo hfin hG0 hG1 hG2 hG3 hSt hlev hok hws0 hws1
            go_wp2
            exact ⟨⟨1, y, by decide, by go_num, rfl, rfl, hS', hbest, A1⟩, by simp [intOf]⟩
          · have hb : (levO y.s.o x == 7) = false := by rw [beq_eq_false_iff_ne]; exact hl
            have hnl := decide_eq_false hl
            obtain ⟨j, rfl⟩ : ∃ j, gk = j + 1 := ⟨gk - 1, by omega⟩
            replace hG1 := hG1 j rfl hnl
            replace hG2 := hG2 j rfl hnl
            replace hG3 := hG3 j rfl hnl
            clear hG0
            generalize y.s.step roots x true = st at *
            obtain ⟨b1, t⟩ := st
            dsimp only at *
            generalize levO y.s.o x = L at *
            cases b1
            · replace hG1 := hG1 rfl
              rw [hG1] at hgo
              have hS' : Hid (Sft.mk t y.few y.best = siftWays roots x grow x0 1) := by rw [← hws0.out]; exact hgo.out
              clear hG1 hG2 hG3 hgo hlev hws0 hws1 hnl
              replace hl := Lib.hid hl
              go_wp2_with fail
              refine hSt.mono ?_
              rintro e w2 ⟨rfl, A2⟩
              clear hSt
              go_wp2
              exact ⟨⟨1, ⟨t, y.few, y.best⟩, by decide, by go_num, rfl, rfl, hS', hbest, A2⟩, by simp [intOf]⟩
            · replace hG2 := hG2 rfl
              replace hG3 := hG3 rfl
              replace hlev := hlev rfl
              have hle2 := hok.lev07 hx0 hx7
              clear hG1
              replace hl := Lib.hid hl
              replace hnl := Lib.hid hnl
              go_wp2_with fail
              refine hSt.mono ?_
              rintro e w2 ⟨rfl, A2⟩
              clear hSt A1
              obtain ⟨bA, aT, kT, c0, c1⟩ := A2.taken
              have HL := fun W => refLevel t.o x W
              simp only [ov] at HL
              by_cases hfew : (t.all.length : Int) < y.few
              · have hmet : y.met t x = ⟨t, t.all.length, levO t.o x⟩ := by unfold Sft.met; rw [if_pos hfew, if_pos hfew]
                rw [hmet] at hG2 hG3
                obtain ⟨o0, o1, o2, o3, o4, o5, o6, o7⟩ := A2.order
                clear hmet
                by_cases hfar : grow < (t.all.length : Int)
                · replace hG2 := hG2 hfar
                  rw [hG2] at hgo
                  have hS' : Hid (Sft.mk t t.all.length (levO t.o x) = siftWays roots x grow x0 1) := by rw [← hws0.out]; exact hgo.out
                  clear hG2 hG3 hgo hws0 hws1
                  go_wp2_with fail
                  refine (HL _).mono ?_
                  rintro e w3 ⟨rfl, hb3⟩
                  have A3 := A2.below hb3
                  clear HL A2 o0 o1 o2 o3 o4 o5 o6 o7 hb3 c0 c1 hlev
                  generalize levO t.o x = L2 at *
                  go_wp2
                  exact ⟨⟨1, ⟨t, t.all.length, L2⟩, by decide, by go_num, rfl, rfl, hS', hle2, A3⟩, by simp [intOf]⟩
                · replace hG3 := hG3 (by omega)
                  rw [hG3] at hgo
                  clear hG2 hG3
                  replace hgo := Lib.hid hgo.out
                  go_wp2_with fail
                  refine (HL _).mono ?_
                  rintro e w3 ⟨rfl, hb3⟩
                  have A3 := A2.below hb3
                  clear HL A2 o0 o1 o2 o3 o4 o5 o6 o7 hb3 c0 c1
                  generalize hL2 : levO t.o x = L2 at *
                  replace hL2 := Lib.hid hL2
                  replace hlev := Lib.hid hlev
                  go_wp2
                  go_roundg j
                  case measure => omega
                  case rel => exact ⟨⟨t, t.all.length, L2⟩, rfl, rfl, hgo, by dsimp only; rw [hL2.out]; have := hlev.out; simp only [if_true] at this; omega, hle2, A3⟩
              · have hmet : y.met t x = ⟨t, y.few, y.best⟩ := by unfold Sft.met; rw [if_neg hfew, if_neg hfew]
                rw [hmet] at hG2 hG3
                clear hmet
                by_cases hfar : grow < (t.all.length : Int)
                · replace hG2 := hG2 hfar
                  rw [hG2] at hgo
                  have hS' : Hid (Sft.mk t y.few y.best = siftWays roots x grow x0 1) := by rw [← hws0.out]; exact hgo.out
                  clear hG2 hG3 hgo hws0 hws1 HL hlev
                  go_wp2
                  exact ⟨⟨1, ⟨t, y.few, y.best⟩, by decide, by go_num, rfl, rfl, hS', hbest, A2⟩, by simp [intOf]⟩
                · replace hG3 := hG3 (by omega)
                  rw [hG3] at hgo
                  clear hG2 hG3 HL
                  replace hgo := Lib.hid hgo.out
                  replace hlev := Lib.hid hlev
                  go_wp2
                  go_roundg j
                  case measure => omega
                  case rel => exact ⟨⟨t, y.few, y.best⟩, rfl, rfl, hgo, by dsimp only; have := hlev.out; simp only [if_true] at this; omega, hbest, A2⟩
      · have hws1 : Hid (siftGo roots x grow false 8 y0 = siftWays roots x grow x0 2) := by rw [hy0.out]; exact rfl
        clear hy0
        have hle := A.1.lev07 hx0 hx7
        go_wp2
        go_loopg [9, 10] 8 (fun k best few wr => ∃ y : Sft, best = .int .i64 y.best ∧ few = .int .i64 y.few ∧ Hid (siftGo roots x grow false k y = siftGo roots x grow false 8 y0) ∧ (levO y.s.o x ≤ (k : Int)) ∧ (0 ≤ y.best ∧ y.best ≤ 7) ∧ SAt w b F y.s wr)
        case atStart => exact ⟨y0, rfl, rfl, rfl, by omega, hbest, A⟩
        case round =>
          clear A hbest hle
          obtain ⟨y, rfl, rfl, hgo, hbd, hbest, A⟩ := hrel
          have hle := A.1.lev07 hx0 hx7
          have HL := fun W => refLevel y.s.o x W
          simp only [ov] at HL
          obtain ⟨o0, o1, o2, o3, o4, o5, o6, o7⟩ := A.order
          go_wp2_with fail
          refine (HL _).mono ?_
          rintro e w1 ⟨rfl, hb1⟩
          have A1 := A.below hb1
          clear HL A o0 o1 o2 o3 o4 o5 o6 o7 hb1
          have hlast : y.s.last x false = decide (levO y.s.o x = 0) := rfl
          have hG := siftGo_eqs roots x grow false gk y
          rw [hlast] at hG
          clear hlast
          have hSt := A1.step hv hrl hwf x false
          have hlev := fun hs => A1.1.step_lev (roots := roots) hx0 hx7 (down := false) hs
          have hok := A1.1.step roots x false
          obtain ⟨hG0, hG1, hG2, hG3⟩ := hG
          by_cases hl : levO y.s.o x = 0
          · have hfin : siftGo roots x grow false gk y = y := hG0 (decide_eq_true hl)
            rw [hfin] at hgo
            have hb : (levO y.s.o x == 0) = true := by rw [beq_iff_eq]; exact hl
            have hS' : Hid (y = siftWays roots x grow x0 2) := by rw [← hws1.out]; exact hgo.out
            replace hl := Lib.hid hl
            clear hgo hfin hG0 hG1 hG2 hG3 hSt hlev hok hws0 hws1
            go_wp2
            exact ⟨⟨2, y, by decide, by go_num, rfl, rfl, hS', hbest, A1⟩, by simp [intOf]⟩
          · have hb : (levO y.s.o x == 0) = false := by rw [beq_eq_false_iff_ne]; exact hl
            have hnl := decide_eq_false hl
            obtain ⟨j, rfl⟩ : ∃ j, gk = j + 1 := ⟨gk - 1, by omega⟩
            replace hG1 := hG1 j rfl hnl
            replace hG2 := hG2 j rfl hnl
            replace hG3 := hG3 j rfl hnl
            clear hG0
            generalize y.s.step roots x false = st at *
            obtain ⟨b1, t⟩ := st
            dsimp only at *
            generalize levO y.s.o x = L at *
            cases b1
            · replace hG1 := hG1 rfl
              rw [hG1] at hgo
              have hS' : Hid (Sft.mk t y.few y.best = siftWays roots x grow x0 2) := by rw [← hws1.out]; exact hgo.out
              clear hG1 hG2 hG3 hgo hlev hws0 hws1 hnl
              replace hl := Lib.hid hl
              go_wp2_with fail
              refine hSt.mono ?_
              rintro e w2 ⟨rfl, A2⟩
              clear hSt
              go_wp2
              exact ⟨⟨2, ⟨t, y.few, y.best⟩, by decide, by go_num, rfl, rfl, hS', hbest, A2⟩, by simp [intOf]⟩
            · replace hG2 := hG2 rfl
              replace hG3 := hG3 rfl
              replace hlev := hlev rfl
              have hle2 := hok.lev07 hx0 hx7
              clear hG1
              replace hl := Lib.hid hl
              replace hnl := Lib.hid hnl
              go_wp2_with fail
              refine hSt.mono ?_
              rintro e w2 ⟨rfl, A2⟩
              clear hSt A1
              obtain ⟨bA, aT, kT, c0, c1⟩ := A2.taken
              have HL := fun W => refLevel t.o x W
              simp only [ov] at HL
              by_cases hfew : (t.all.length : Int) < y.few
              · have hmet : y.met t x = ⟨t, t.all.length, levO t.o x⟩ := by unfold Sft.met; rw [if_pos hfew, if_pos hfew]
                rw [hmet] at hG2 hG3
                obtain ⟨o0, o1, o2, o3, o4, o5, o6, o7⟩ := A2.order
                clear hmet
                by_cases hfar : grow < (t.all.length : Int)
                · replace hG2 := hG2 hfar
                  rw [hG2] at hgo
                  have hS' : Hid (Sft.mk t t.all.length (levO t.o x) = siftWays roots x grow x0 2) := by rw [← hws1.out]; exact hgo.out
                  clear hG2 hG3 hgo hws0 hws1
                  go_wp2_with fail
                  refine (HL _).mono ?_
                  rintro e w3 ⟨rfl, hb3⟩
                  have A3 := A2.below hb3
                  clear HL A2 o0 o1 o2 o3 o4 o5 o6 o7 hb3 c0 c1 hlev
                  generalize levO t.o x = L2 at *
                  go_wp2
                  exact ⟨⟨2, ⟨t, t.all.length, L2⟩, by decide, by go_num, rfl, rfl, hS', hle2, A3⟩, by simp [intOf]⟩
                · replace hG3 := hG3 (by omega)
                  rw [hG3] at hgo
                  clear hG2 hG3
                  replace hgo := Lib.hid hgo.out
                  go_wp2_with fail
                  refine (HL _).mono ?_
                  rintro e w3 ⟨rfl, hb3⟩
                  have A3 := A2.below hb3
                  clear HL A2 o0 o1 o2 o3 o4 o5 o6 o7 hb3 c0 c1
                  generalize hL2 : levO t.o x = L2 at *
                  replace hL2 := Lib.hid hL2
                  replace hlev := Lib.hid hlev
                  go_wp2
                  go_roundg j
                  case measure => omega
                  case rel => exact ⟨⟨t, t.all.length, L2⟩, rfl, rfl, hgo, by dsimp only; rw [hL2.out]; have := hlev.out; simp only [Bool.false_eq_true, if_false] at this; omega, hle2, A3⟩
              · have hmet : y.met t x = ⟨t, y.few, y.best⟩ := by unfold Sft.met; rw [if_neg hfew, if_neg hfew]
                rw [hmet] at hG2 hG3
                clear hmet
                by_cases hfar : grow < (t.all.length : Int)
                · replace hG2 := hG2 hfar
                  rw [hG2] at hgo
                  have hS' : Hid (Sft.mk t y.few y.best = siftWays roots x grow x0 2) := by rw [← hws1.out]; exact hgo.out
                  clear hG2 hG3 hgo hws0 hws1 HL hlev
                  go_wp2
                  exact ⟨⟨2, ⟨t, y.few, y.best⟩, by decide, by go_num, rfl, rfl, hS', hbest, A2⟩, by simp [intOf]⟩
                · replace hG3 := hG3 (by omega)
                  rw [hG3] at hgo
                  clear hG2 hG3 HL
                  replace hgo := Lib.hid hgo.out
                  replace hlev := Lib.hid hlev
                  go_wp2
                  go_roundg j
                  case measure => omega
                  case rel => exact ⟨⟨t, y.few, y.best⟩, rfl, rfl, hgo, by dsimp only; have := hlev.out; simp only [Bool.false_eq_true, if_false] at this; omega, hbest, A2⟩
      · clear hws0
        have hR : Hid ((0, siftEnd roots x y0.best 8 y0.s) = r) := by rw [hy0.out]; exact hfin.out
        clear hfin hy0
        have hle := A.1.lev07 hx0 hx7
        go_wp2
        go_loopg [] 8 (fun k wr => ∃ t : MS, Hid (siftEnd roots x y0.best k t = siftEnd roots x y0.best 8 y0.s) ∧ (y0.best - levO t.o x ≤ (k : Int) ∧ levO t.o x - y0.best ≤ (k : Int)) ∧ SAt w b F t wr)
        case atStart => exact ⟨y0.s, rfl, by omega, A⟩
        case round =>
          clear A hle
          obtain ⟨t, hgo, hbd, A⟩ := hrel
          have hle := A.1.lev07 hx0 hx7
          have HL := fun W => refLevel t.o x W
          simp only [ov] at HL
          obtain ⟨o0, o1, o2, o3, o4, o5, o6, o7⟩ := A.order
          go_wp2_with fail
          refine (HL _).mono ?_
          rintro e w3 ⟨rfl, hb3⟩
          have A1 := A.below hb3
          clear A o0 o1 o2 o3 o4 o5 o6 o7 hb3
          obtain ⟨hE0, hE1, hE2⟩ := siftEnd_eqs roots x y0.best gk t
          by_cases hl : levO t.o x = y0.best
          · have hbb : (levO t.o x == y0.best) = true := by rw [beq_iff_eq]; exact hl
            have hfin : Hid ((0, t) = r) := by rw [← hR.out, ← hgo.out, hE0 hl]; exact rfl
            clear hE0 hE1 hE2 hgo hR HL
            replace hl := Lib.hid hl
            go_wp2
            go_ret
            exact ⟨by rw [← hfin.out]; rfl, by rw [← hfin.out]; exact A1⟩
          · have hbb : (levO t.o x == y0.best) = false := by rw [beq_eq_false_iff_ne]; exact hl
            obtain ⟨j, rfl⟩ : ∃ j, gk = j + 1 := ⟨gk - 1, by omega⟩
            replace hE1 := hE1 j rfl hl
            replace hE2 := hE2 j rfl hl
            have hSt := fun W (hA : SAt w b F t W) => hA.step hv hrl hwf x (decide (levO t.o x < y0.best))
            have hlev := fun hs => A1.1.step_lev (roots := roots) hx0 hx7 (down := decide (levO t.o x < y0.best)) hs
            have hok := A1.1.step roots x (decide (levO t.o x < y0.best))
            obtain ⟨o0, o1, o2, o3, o4, o5, o6, o7⟩ := A1.order
            generalize t.step roots x (decide (levO t.o x < y0.best)) = st at *
            obtain ⟨b1, u⟩ := st
            dsimp only at *
            clear hE0
            replace hl := Lib.hid hl
            go_wp2_with fail
            refine (HL _).mono ?_
            rintro e w4 ⟨rfl, hb4⟩
            have A2 := A1.below hb4
            clear A1 o0 o1 o2 o3 o4 o5 o6 o7 hb4 HL
            replace hSt := hSt _ A2
            go_wp2_with fail
            refine hSt.mono ?_
            rintro e w5 ⟨rfl, A3⟩
            clear hSt A2
            cases b1
            · have hfin : Hid ((0, u) = r) := by rw [← hR.out, ← hgo.out, hE1 rfl]; exact rfl
              clear hE1 hE2 hgo hR hlev
              go_wp2
              go_ret
              exact ⟨by rw [← hfin.out]; rfl, by rw [← hfin.out]; exact A3⟩
            · have hgo' : Hid (siftEnd roots x y0.best j u = siftEnd roots x y0.best 8 y0.s) := by rw [← hgo.out, hE2 rfl]; exact rfl
              have hlv := Lib.hid (hlev rfl)
              clear hE1 hE2 hgo hlev
              go_wp2
              go_roundg j
              case measure => omega
              case rel =>
                refine ⟨u, hgo', ?_, A3⟩
                have h1 := hlv.out
                have h2 := hl.out
                by_cases h3 : levO t.o x < y0.best
                · rw [decide_eq_true h3, if_pos rfl] at h1; omega
                · rw [decide_eq_false h3, if_neg (by decide)] at h1; omega

set_option maxRecDepth 100000 in
set_option maxHeartbeats 4000000 in
theorem refSSiftAll {w : World} {b : Nat} {F : Nat → Prop} {s : MS} (h : RefSAt w b F s) (ok : s.Ok) (roots : List Int) (v : Value) (hv : RootsAt w F v roots) (hrl : roots.length ≤ 100000) (hwf : ∀ r ∈ roots, r ≤ 9223372036854775807) (grow : Int) :
    Calls Tryz.prog 10 #[.pointer (some ⟨b, 0, none⟩), v, .int .i64 grow] w fun e w' => e = .returned (.int .i64 (s.siftAll roots grow).1) ∧ SAt w b F (s.siftAll roots grow).2 w' := by
  have A0 : SAt w b F s w := ⟨ok, F, h, Keeps.refl _ _, Within.refl _ _⟩
  generalize hr : s.siftAll roots grow = r
  unfold MS.siftAll at hr
  clear h ok
  by_cases hno : grow < 0
  · rw [if_pos hno] at hr
    subst hr
    go_enter Tryz.func10, Tryz.ntmps10
    go_wp2
    go_ret
    exact ⟨rfl, A0⟩
  · rw [if_neg hno] at hr
    replace hr := Lib.hid hr
    go_enter Tryz.func10, Tryz.ntmps10
    go_wp2
    go_loopw [7] (fun x wr => ∃ (k : Nat) (t : MS), k ≤ 8 ∧ x = .int .i64 k ∧ Hid (t = s.siftTo roots grow k) ∧ SAt w b F t wr) (fun x _ => 8 - (intOf x).toNat)
    case atStart => exact ⟨0, s, by decide, rfl, rfl, A0⟩
    case round =>
      clear A0
      obtain ⟨k, t, hk, rfl, ht, A⟩ := hrel
      by_cases hlt : k < 8
      · have hk0 : (0 : Int) ≤ (k : Int) := by omega
        have hk8 : (k : Int) < 8 := by omega
        obtain ⟨ok, F1, h1, h2, h3⟩ := A
        have hS := refSSift h1 ok roots v (hv.keep h2 h3) hrl hwf k grow
        have hnext : Hid ((t.sift roots k grow).2 = s.siftTo roots grow (k + 1)) := by rw [ht.out]; exact rfl
        generalize t.sift roots k grow = z at *
        clear ht
        go_wp2_with fail
        refine hS.mono ?_
        rintro e w1 ⟨rfl, ok2, F2, k1, k2, k3⟩
        clear hS
        go_wp2
        exact ⟨⟨k + 1, z.2, by omega, by go_num, hnext, ok2, F2, k1, h2.trans k2 h3, h3.trans k3 h2.size⟩, by simp [intOf]; omega⟩
      · obtain rfl : k = 8 := by omega
        have hfin : Hid ((0, t) = r) := by rw [← hr.out, ht.out]; exact rfl
        clear ht hr
        go_wp2
        go_ret
        exact ⟨by rw [← hfin.out]; rfl, by rw [← hfin.out]; exact A⟩

end Go.Proofs.YtdcomiopjgcboaaGreatDoor
