/-
  WireGets: for every input the call returns true, and each argument reads behind it as it read before. No conditions.
-/
import Derived.Test.YtnnkkedflfmaoaaG15
import Derived.Test.YtnnkkedflfmaoaaG16
namespace Go.Proofs.Ytnnkkedflfmaoaa
open Go Go.ChangeShapes Go.WideShapes Go.ChangeAt Go.RowKit

set_option maxRecDepth 100000 in
theorem wireGets_lifted (os : Os) (started : os.Started) (H : Type) (enc : TypeId × Value → H) :
    ReturnsInHanded {} Try.checked os 4 .any (Rows.wireGetsSpec.pre6 enc Try.prog Try.f4 [] false) (Rows.wireGetsSpec.post enc Try.prog Try.f4 false true false false) := by
  refine returnsInHanded_of_change_sized (C := Try.checked) Try.ownG started (by kernel_rfl) Try.func4
    (ChangeSpec.witness6 (enc := enc) (C := Try.checked) (os := os) false ⟨#[], #[.slice none 0 0], []⟩ 8 (by kernel_rfl) (by kernel_rfl) (by kernel_rfl) (by kernel_rfl) (by kernel_rfl)) ?_
  intro W base args ds gs before hval0 hW _ hz _
  have hval : ∀ (j : Nat) t v, Try.f4.params[j]? = some t → args[j]? = some v → Value.okWide Try.prog W .any base t v := hval0
  have hW' := hW
  obtain ⟨p, q, hA0, hV0, rfl, hfz, hnd⟩ := hW
  have hA : DataW.TrodAll enc Try.prog W 0 (fun _ => true) true Try.f4.params.toList args.toList ds p := hA0
  have hV : DataW.TrodVars enc Try.prog W (fun _ => true) [] gs q := hV0
  rw [Try.params4] at hA hval
  obtain ⟨rfl, rfl⟩ := trodVars_none hV
  have hAk := hA0
  clear hA0 hval0 hfz hnd hz
  obtain ⟨al⟩ := args
  obtain ⟨v0, l0, d0, m0, p0, q0, ea, rfl, rfl, h0, hA⟩ := trodAll_cons hA
  obtain ⟨rfl, rfl, rfl⟩ := trodAll_nil hA
  obtain rfl : al = _ := ea
  clear hA
  obtain ⟨l, hs0, hm0, hg0⟩ := open_bytes (hval 0 _ v0 rfl rfl) h0
  have e1 : ∀ x0 : DataW H, Rows.wireGetsSpec.fn H ([x0] ++ []) = { results := [.lit (.bool true)], args := [x0] } := fun _ => rfl
  refine (wireGets l v0 W hs0 hm0 hg0).mono fun e W' ⟨he, hw⟩ => ?_
  subst he
  refine ⟨_, rfl, _, _, _, [], (p0 ++ []), [], hW', ?_, ?_, ?_, hw.frame _, fun h => by cases h⟩
  · rw [e1]; exact trodAll_mk1 (shut_bool Try.underlying4 true)
  · rw [e1]
    exact argsStay Try.laidOutG hw (by rw [Try.params4]; exact fun t ht => ⟨(List.all_eq_true.1 (show [28].all (fun t => Try.prog.readableRec t) = true by kernel_rfl)) t ht, of_decide_eq_true ((List.all_eq_true.1 (show [28].all (fun t => decide (t < Try.prog.types.size)) = true by kernel_rfl)) t ht)⟩) hAk (fun x hx => hAk.lt x hx)
  · rw [e1]; rfl

theorem wireGets_holds : Rows.WireGetsSaid :=
  OpenClaim.holds_of_wide 4 Try.f4 rfl rfl rfl rfl rfl rfl rfl ⟨rfl, rfl, rfl, rfl, rfl⟩ rfl rfl rfl rfl rfl (by kernel_rfl) Try.func4 (by kernel_rfl)
    (of_decide_eq_true (by kernel_rfl)) (by unfold Func.isWrapper; first | (rw [if_pos (by decide +kernel)]; kernel_rfl) | (rw [if_neg (by decide +kernel)]; exact ⟨rfl, rfl⟩))
    (fun os started H enc _ => wireGets_lifted os started H enc)

end Go.Proofs.Ytnnkkedflfmaoaa
