/-
  SiftKeeps: for every input the call returns true, and each argument reads behind it as it read before. Conditions: the table bower/tab.lowWords starts as the program's text lays it (the card ties it).
-/
import Derived.Test.YtdcomiopjgcboaaGreatDoorG22
import Derived.Test.YtdcomiopjgcboaaGreatDoorG20
import Derived.Test.YtdcomiopjgcboaaGreatDoorG21
import Derived.Test.YtdcomiopjgcboaaGreatDoorTie
import Derived.Test.YtdcomiopjgcboaaGreatDoorCards
import Derived.SevenTiedAt
namespace Go.Proofs.YtdcomiopjgcboaaGreatDoor
open Go Go.ChangeShapes Go.WideShapes Go.ChangeAt Go.RowKit

set_option maxRecDepth 100000 in
theorem siftKeeps_lifted (os : Os) (started : os.Started) (H : Type) (enc : TypeId × Value → H) :
    ReturnsInHanded {} Tryz.checked os 4 .any (fun w args => (Rows.siftKeepsSpec.pre enc Tryz.prog Tryz.f4 [] false w args ∧ laidMet Tryz.prog [("bower/tab.lowWords", Rows.laid_bower_tab_lowWords)] w) ∧ sizedMet enc Tryz.prog Tryz.f4 (OpenSpec.ofChange Rows.siftKeepsSpec) false w args)
      (Rows.siftKeepsSpec.post enc Tryz.prog Tryz.f4 false true false false) := by
  refine returnsInHanded_of_change_and (C := Tryz.checked) (X := fun w _ => laidMet Tryz.prog [("bower/tab.lowWords", Rows.laid_bower_tab_lowWords)] w) (fun _ _ _ hh h => h.of_heap hh) Tryz.own started (by kernel_rfl) Tryz.func4
    (ChangeSpec.witness_at (enc := enc) (C := Tryz.checked) (os := os) (X := fun w _ => laidMet Tryz.prog [("bower/tab.lowWords", Rows.laid_bower_tab_lowWords)] w) false (laidWorld os) #[.slice none 0 0, .slice none 0 0, .int .i64 0, .int .i64 0] 8 rfl (by kernel_rfl) (by kernel_rfl) (by kernel_rfl) (by kernel_rfl) (by kernel_rfl) (laidWorld_met os _)) ?_
  intro W base args ds gs before hval0 hW _ hz hL _
  have hval : ∀ (j : Nat) t v, Tryz.f4.params[j]? = some t → args[j]? = some v → Value.okWide Tryz.prog W .any base t v := hval0
  have hW' := hW
  obtain ⟨p, q, hA0, hV0, rfl, hfz, hnd⟩ := hW
  have hA : DataW.TrodAll enc Tryz.prog W 0 (fun _ => true) true Tryz.f4.params.toList args.toList ds p := hA0
  have hV : DataW.TrodVars enc Tryz.prog W (fun _ => true) [] gs q := hV0
  rw [Tryz.params4] at hA hval
  obtain ⟨rfl, rfl⟩ := trodVars_none hV
  have hAk := hA0
  clear hA0 hval0 hfz hnd
  obtain ⟨al⟩ := args
  obtain ⟨v0, l0, d0, m0, p0, q0, ea, rfl, rfl, h0, hA⟩ := trodAll_cons hA
  obtain ⟨v1, l1, d1, m1, p1, q1, rfl, rfl, rfl, h1, hA⟩ := trodAll_cons hA
  obtain ⟨v2, l2, d2, m2, p2, q2, rfl, rfl, rfl, h2, hA⟩ := trodAll_cons hA
  obtain ⟨v3, l3, d3, m3, p3, q3, rfl, rfl, rfl, h3, hA⟩ := trodAll_cons hA
  obtain ⟨rfl, rfl, rfl⟩ := trodAll_nil hA
  obtain rfl : al = _ := ea
  clear hA
  obtain ⟨l, hs0, hm0, hd0⟩ := open_fns (hval 0 _ v0 rfl rfl) h0
  have hr0 := fns_short hz (j := 0) (l := l) rfl rfl hd0
  obtain ⟨swaps, hs1, hm1, hg1⟩ := open_ints_list (hval 1 _ v1 rfl rfl) h1
  obtain ⟨x, rfl, _, _, w2⟩ := open_int Tryz.underlying3 (hval 2 _ v2 rfl rfl) h2
  obtain ⟨grow, rfl, _, _, w3⟩ := open_int Tryz.underlying3 (hval 3 _ v3 rfl rfl) h3
  have e1 : Rows.siftKeepsSpec.fn H ([d0, d1, d2, d3] ++ []) = { results := [.lit (.bool true)], args := [d0, d1, d2, d3] } := rfl
  refine (siftKeeps l swaps x grow v0 v1 W (lowW_of_laid hL) hs0 hm0 hs1 hm1 hg1).mono fun e W' ⟨he, hw⟩ => ?_
  subst he
  refine ⟨_, rfl, _, _, _, [], (p0 ++ (p1 ++ (p2 ++ (p3 ++ [])))), [], hW', ?_, ?_, ?_, hw.frame _, fun h => by cases h⟩
  · rw [e1]; exact trodAll_mk1 (shut_bool Tryz.underlying4 true)
  · rw [e1]
    exact trodAll_stays Tryz.laidOut hw (by rw [Tryz.params4]; exact fun t ht => ⟨(List.all_eq_true.1 (show [22, 23, 3, 3].all (fun t => Tryz.prog.readableRec t) = true by kernel_rfl)) t ht, of_decide_eq_true ((List.all_eq_true.1 (show [22, 23, 3, 3].all (fun t => decide (t < Tryz.prog.types.size)) = true by kernel_rfl)) t ht)⟩) hAk (fun x hx => hAk.lt x hx)
  · rw [e1]; rfl

theorem siftKeeps_holds : Rows.SiftKeepsSaid :=
  OpenClaim.holds_of_wide 4 Tryz.f4 rfl rfl rfl rfl rfl rfl rfl ⟨rfl, rfl, rfl, rfl, rfl⟩ rfl rfl rfl rfl rfl (by kernel_rfl) Tryz.func4 (by kernel_rfl)
    (of_decide_eq_true (by kernel_rfl)) (by unfold Func.isWrapper; first | (rw [if_pos (by decide +kernel)]; kernel_rfl) | (rw [if_neg (by decide +kernel)]; exact ⟨rfl, rfl⟩))
    (fun os started H enc _ => siftKeeps_lifted os started H enc)

theorem siftKeeps_card : Rows.SiftKeepsCardSaid :=
  Claim7.holds_tied_plain_at .later [] [.data] true Rows.siftKeepsCard.stood.harness Rows.siftKeepsCard.stood.looks
    siftKeeps_holds (fun _ h => by cases h) (by kernel_rfl) (fun _ h => by cases h) siftKeeps_row_tie rfl ⟨rfl, rfl⟩ (by kernel_rfl) rfl
    (fun f fn hf hfn => by
      obtain rfl : f = 4 := Option.some.inj ((show Tryz.prog.funcNamed "bower/bowerlaw13.SiftKeeps" = some 4 by kernel_rfl).symm.trans hf) |>.symm
      obtain rfl : fn = Tryz.f4 := (Option.some.inj (Tryz.func4.symm.trans hfn)).symm
      exact ⟨by kernel_rfl, fun j t ht => by
        rw [Tryz.params4] at ht
        have hm : t ∈ [22, 23, 3, 3] := by simpa using Array.mem_of_getElem? ht
        have hall : ([22, 23, 3, 3].all fun u => !Tryz.prog.wantsStandIn u) = true := by kernel_rfl
        exact (show Tryz.prog.wantsStandIn t = false by simpa using List.all_eq_true.1 hall t hm)⟩)
    (by kernel_rfl)

end Go.Proofs.YtdcomiopjgcboaaGreatDoor
