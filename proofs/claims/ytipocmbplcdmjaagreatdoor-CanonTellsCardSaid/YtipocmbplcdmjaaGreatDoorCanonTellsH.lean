/-
  CanonTells: for every input the call returns true, and each argument reads behind it as it read before. Conditions: the table bower/tab.lowWords starts as the program's text lays it (the card ties it).
-/
import Derived.Test.YtipocmbplcdmjaaGreatDoorG20
import Derived.Test.YtipocmbplcdmjaaGreatDoorG21
import Derived.Test.YtipocmbplcdmjaaGreatDoorTie
import Derived.Test.YtipocmbplcdmjaaGreatDoorCards
import Derived.SevenTiedAt
namespace Go.Proofs.YtipocmbplcdmjaaGreatDoor
open Go Go.ChangeShapes Go.WideShapes Go.ChangeAt Go.RowKit

set_option maxRecDepth 100000 in
theorem canonTells_lifted (os : Os) (started : os.Started) (H : Type) (enc : TypeId × Value → H) :
    ReturnsInHanded {} Tryz.checked os 3 .any (fun w args => (Rows.canonTellsSpec.pre enc Tryz.prog Tryz.f3 [] false w args ∧ laidMet Tryz.prog [("bower/tab.lowWords", Rows.laid_bower_tab_lowWords)] w) ∧ sizedMet enc Tryz.prog Tryz.f3 (OpenSpec.ofChange Rows.canonTellsSpec) false w args)
      (Rows.canonTellsSpec.post enc Tryz.prog Tryz.f3 false true false false) := by
  refine returnsInHanded_of_change_and (C := Tryz.checked) (X := fun w _ => laidMet Tryz.prog [("bower/tab.lowWords", Rows.laid_bower_tab_lowWords)] w) (fun _ _ _ hh h => h.of_heap hh) Tryz.own started (by kernel_rfl) Tryz.func3
    (ChangeSpec.witness_at (enc := enc) (C := Tryz.checked) (os := os) (X := fun w _ => laidMet Tryz.prog [("bower/tab.lowWords", Rows.laid_bower_tab_lowWords)] w) false (laidWorld os) #[.int .i64 0, .slice none 0 0, .slice none 0 0, .slice none 0 0, .int .i64 0] 8 rfl (by kernel_rfl) (by kernel_rfl) (by kernel_rfl) (by kernel_rfl) (by kernel_rfl) (laidWorld_met os _)) ?_
  intro W base args ds gs before hval0 hW _ hz hL _
  have hval : ∀ (j : Nat) t v, Tryz.f3.params[j]? = some t → args[j]? = some v → Value.okWide Tryz.prog W .any base t v := hval0
  have hW' := hW
  obtain ⟨p, q, hA0, hV0, rfl, hfz, hnd⟩ := hW
  have hA : DataW.TrodAll enc Tryz.prog W 0 (fun _ => true) true Tryz.f3.params.toList args.toList ds p := hA0
  have hV : DataW.TrodVars enc Tryz.prog W (fun _ => true) [] gs q := hV0
  rw [Tryz.params3] at hA hval
  obtain ⟨rfl, rfl⟩ := trodVars_none hV
  have hAk := hA0
  clear hA0 hval0 hfz hnd
  obtain ⟨al⟩ := args
  obtain ⟨v0, l0, d0, m0, p0, q0, ea, rfl, rfl, h0, hA⟩ := trodAll_cons hA
  obtain ⟨v1, l1, d1, m1, p1, q1, rfl, rfl, rfl, h1, hA⟩ := trodAll_cons hA
  obtain ⟨v2, l2, d2, m2, p2, q2, rfl, rfl, rfl, h2, hA⟩ := trodAll_cons hA
  obtain ⟨v3, l3, d3, m3, p3, q3, rfl, rfl, rfl, h3, hA⟩ := trodAll_cons hA
  obtain ⟨v4, l4, d4, m4, p4, q4, rfl, rfl, rfl, h4, hA⟩ := trodAll_cons hA
  obtain ⟨rfl, rfl, rfl⟩ := trodAll_nil hA
  obtain rfl : al = _ := ea
  clear hA
  obtain ⟨most, rfl, _, _, w0⟩ := open_int Tryz.underlying3 (hval 0 _ v0 rfl rfl) h0
  obtain ⟨l, hs1, hm1, hd1⟩ := open_fns (hval 1 _ v1 rfl rfl) h1
  have hr1 := fns_short hz (j := 1) (l := l) rfl rfl hd1
  obtain ⟨swaps, hs2, hm2, hg2⟩ := open_ints_list (hval 2 _ v2 rfl rfl) h2
  obtain ⟨roots, hs3, hm3, hg3⟩ := open_ints_list (hval 3 _ v3 rfl rfl) h3
  obtain ⟨room, rfl, _, _, w4⟩ := open_int Tryz.underlying3 (hval 4 _ v4 rfl rfl) h4
  have e1 : Rows.canonTellsSpec.fn H ([d0, d1, d2, d3, d4] ++ []) = { results := [.lit (.bool true)], args := [d0, d1, d2, d3, d4] } := rfl
  refine (canonTells most l swaps roots room v1 v2 v3 W (lowW_of_laid hL) hs1 hm1 hs2 hm2 hg2 hs3 hm3 hg3 w4).mono fun e W' ⟨he, hw⟩ => ?_
  subst he
  refine ⟨_, rfl, _, _, _, [], (p0 ++ (p1 ++ (p2 ++ (p3 ++ (p4 ++ []))))), [], hW', ?_, ?_, ?_, hw.frame _, fun h => by cases h⟩
  · rw [e1]; exact trodAll_mk1 (shut_bool Tryz.underlying4 true)
  · rw [e1]
    exact trodAll_stays Tryz.laidOut hw (by rw [Tryz.params3]; exact fun t ht => ⟨(List.all_eq_true.1 (show [3, 22, 23, 23, 3].all (fun t => Tryz.prog.readableRec t) = true by kernel_rfl)) t ht, of_decide_eq_true ((List.all_eq_true.1 (show [3, 22, 23, 23, 3].all (fun t => decide (t < Tryz.prog.types.size)) = true by kernel_rfl)) t ht)⟩) hAk (fun x hx => hAk.lt x hx)
  · rw [e1]; rfl

theorem canonTells_holds : Rows.CanonTellsSaid :=
  OpenClaim.holds_of_wide 3 Tryz.f3 rfl rfl rfl rfl rfl rfl rfl ⟨rfl, rfl, rfl, rfl, rfl⟩ rfl rfl rfl rfl rfl (by kernel_rfl) Tryz.func3 (by kernel_rfl)
    (of_decide_eq_true (by kernel_rfl)) (by unfold Func.isWrapper; first | (rw [if_pos (by decide +kernel)]; kernel_rfl) | (rw [if_neg (by decide +kernel)]; exact ⟨rfl, rfl⟩))
    (fun os started H enc _ => canonTells_lifted os started H enc)

theorem canonTells_card : Rows.CanonTellsCardSaid :=
  Claim7.holds_tied_plain_at .later [] [.data] true Rows.canonTellsCard.stood.harness Rows.canonTellsCard.stood.looks
    canonTells_holds (fun _ h => by cases h) (by kernel_rfl) (fun _ h => by cases h) canonTells_row_tie rfl ⟨rfl, rfl⟩ (by kernel_rfl) rfl
    (fun f fn hf hfn => by
      obtain rfl : f = 3 := Option.some.inj ((show Tryz.prog.funcNamed "bower/bowerlaw14.CanonTells" = some 3 by kernel_rfl).symm.trans hf) |>.symm
      obtain rfl : fn = Tryz.f3 := (Option.some.inj (Tryz.func3.symm.trans hfn)).symm
      exact ⟨by kernel_rfl, fun j t ht => by
        rw [Tryz.params3] at ht
        have hm : t ∈ [3, 22, 23, 23, 3] := by simpa using Array.mem_of_getElem? ht
        have hall : ([3, 22, 23, 23, 3].all fun u => !Tryz.prog.wantsStandIn u) = true := by kernel_rfl
        exact (show Tryz.prog.wantsStandIn t = false by simpa using List.all_eq_true.1 hall t hm)⟩)
    (by kernel_rfl)

end Go.Proofs.YtipocmbplcdmjaaGreatDoor
