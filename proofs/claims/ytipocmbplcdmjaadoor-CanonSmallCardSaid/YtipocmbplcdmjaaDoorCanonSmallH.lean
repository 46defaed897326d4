/-
  CanonSmall: for every input the call returns true, and each argument reads behind it as it read before. Conditions: the table bower/tab.lowWords starts as the program's text lays it (the card ties it).
-/
import Derived.Test.YtipocmbplcdmjaaDoorG21
import Derived.Test.YtipocmbplcdmjaaDoorG22
import Derived.Test.YtipocmbplcdmjaaDoorTie
import Derived.Test.YtipocmbplcdmjaaDoorCards
import Derived.SevenTiedAt
namespace Go.Proofs.YtipocmbplcdmjaaDoor
open Go Go.ChangeShapes Go.WideShapes Go.ChangeAt Go.RowKit

set_option maxRecDepth 100000 in
theorem canonSmall_lifted (os : Os) (started : os.Started) (H : Type) (enc : TypeId × Value → H) :
    ReturnsInHanded {} Tryd.checked os 3 .any (fun w args => (Rows.canonSmallSpec.pre enc Tryd.prog Tryd.f3 [] false w args ∧ laidMet Tryd.prog [("bower/tab.lowWords", Rows.laid_bower_tab_lowWords)] w) ∧ sizedMet enc Tryd.prog Tryd.f3 (OpenSpec.ofChange Rows.canonSmallSpec) false w args)
      (Rows.canonSmallSpec.post enc Tryd.prog Tryd.f3 false true false false) := by
  refine returnsInHanded_of_change_and (C := Tryd.checked) (X := fun w _ => laidMet Tryd.prog [("bower/tab.lowWords", Rows.laid_bower_tab_lowWords)] w) (fun _ _ _ hh h => h.of_heap hh) Tryd.own started (by kernel_rfl) Tryd.func3
    (ChangeSpec.witness_at (enc := enc) (C := Tryd.checked) (os := os) (X := fun w _ => laidMet Tryd.prog [("bower/tab.lowWords", Rows.laid_bower_tab_lowWords)] w) false (laidWorld os) #[.slice none 0 0, .slice none 0 0] 8 rfl (by kernel_rfl) (by kernel_rfl) (by kernel_rfl) (by kernel_rfl) (by kernel_rfl) (laidWorld_met os _)) ?_
  intro W base args ds gs before hval0 hW _ hz hL _
  have hval : ∀ (j : Nat) t v, Tryd.f3.params[j]? = some t → args[j]? = some v → Value.okWide Tryd.prog W .any base t v := hval0
  have hW' := hW
  obtain ⟨p, q, hA0, hV0, rfl, hfz, hnd⟩ := hW
  have hA : DataW.TrodAll enc Tryd.prog W 0 (fun _ => true) true Tryd.f3.params.toList args.toList ds p := hA0
  have hV : DataW.TrodVars enc Tryd.prog W (fun _ => true) [] gs q := hV0
  rw [Tryd.params3] at hA hval
  obtain ⟨rfl, rfl⟩ := trodVars_none hV
  have hAk := hA0
  clear hA0 hval0 hfz hnd
  obtain ⟨al⟩ := args
  obtain ⟨v0, l0, d0, m0, p0, q0, ea, rfl, rfl, h0, hA⟩ := trodAll_cons hA
  obtain ⟨v1, l1, d1, m1, p1, q1, rfl, rfl, rfl, h1, hA⟩ := trodAll_cons hA
  obtain ⟨rfl, rfl, rfl⟩ := trodAll_nil hA
  obtain rfl : al = _ := ea
  clear hA
  obtain ⟨l, hs0, hm0, hd0⟩ := open_fns (hval 0 _ v0 rfl rfl) h0
  have hr0 := fns_short hz (j := 0) (l := l) rfl rfl hd0
  obtain ⟨swaps, hs1, hm1, hg1⟩ := open_ints_list (hval 1 _ v1 rfl rfl) h1
  have e1 : Rows.canonSmallSpec.fn H ([d0, d1] ++ []) = { results := [.lit (.bool true)], args := [d0, d1] } := rfl
  refine (canonSmall l swaps v0 v1 W (lowW_of_laid hL) hs0 hm0 hs1 hm1 hg1).mono fun e W' ⟨he, hw⟩ => ?_
  subst he
  refine ⟨_, rfl, _, _, _, [], (p0 ++ (p1 ++ [])), [], hW', ?_, ?_, ?_, hw.frame _, fun h => by cases h⟩
  · rw [e1]; exact trodAll_mk1 (shut_bool Tryd.underlying4 true)
  · rw [e1]
    exact trodAll_stays Tryd.laidOut hw (by rw [Tryd.params3]; exact fun t ht => ⟨(List.all_eq_true.1 (show [22, 23].all (fun t => Tryd.prog.readableRec t) = true by kernel_rfl)) t ht, of_decide_eq_true ((List.all_eq_true.1 (show [22, 23].all (fun t => decide (t < Tryd.prog.types.size)) = true by kernel_rfl)) t ht)⟩) hAk (fun x hx => hAk.lt x hx)
  · rw [e1]; rfl

theorem canonSmall_holds : Rows.CanonSmallSaid :=
  OpenClaim.holds_of_wide 3 Tryd.f3 rfl rfl rfl rfl rfl rfl rfl ⟨rfl, rfl, rfl, rfl, rfl⟩ rfl rfl rfl rfl rfl (by kernel_rfl) Tryd.func3 (by kernel_rfl)
    (of_decide_eq_true (by kernel_rfl)) (by unfold Func.isWrapper; first | (rw [if_pos (by decide +kernel)]; kernel_rfl) | (rw [if_neg (by decide +kernel)]; exact ⟨rfl, rfl⟩))
    (fun os started H enc _ => canonSmall_lifted os started H enc)

theorem canonSmall_card : Rows.CanonSmallCardSaid :=
  Claim7.holds_tied_plain_at .later [] [.data] true Rows.canonSmallCard.stood.harness Rows.canonSmallCard.stood.looks
    canonSmall_holds (fun _ h => by cases h) (by kernel_rfl) (fun _ h => by cases h) canonSmall_row_tie rfl ⟨rfl, rfl⟩ (by kernel_rfl) rfl
    (fun f fn hf hfn => by
      obtain rfl : f = 3 := Option.some.inj ((show Tryd.prog.funcNamed "bower/bowerlaw14.CanonSmall" = some 3 by kernel_rfl).symm.trans hf) |>.symm
      obtain rfl : fn = Tryd.f3 := (Option.some.inj (Tryd.func3.symm.trans hfn)).symm
      exact ⟨by kernel_rfl, fun j t ht => by
        rw [Tryd.params3] at ht
        have hm : t ∈ [22, 23] := by simpa using Array.mem_of_getElem? ht
        have hall : ([22, 23].all fun u => !Tryd.prog.wantsStandIn u) = true := by kernel_rfl
        exact (show Tryd.prog.wantsStandIn t = false by simpa using List.all_eq_true.1 hall t hm)⟩)
    (by kernel_rfl)

end Go.Proofs.YtipocmbplcdmjaaDoor
