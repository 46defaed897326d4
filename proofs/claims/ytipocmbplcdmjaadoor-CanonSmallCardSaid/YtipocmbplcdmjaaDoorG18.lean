/-
  Texts of this proof, one behind the other: SweepC, CanonC, EncF, CanW, CanonX, IteM.
-/
import Derived.Test.YtipocmbplcdmjaaDoorG8
import Derived.Test.YtipocmbplcdmjaaDoorG17
import Derived.Test.YtipocmbplcdmjaaDoorG2
import Derived.Test.YtipocmbplcdmjaaDoorG14
import Derived.OwnWalk
import Derived.Test.YtipocmbplcdmjaaDoorG3
import Derived.Test.YtipocmbplcdmjaaDoorG5
import Derived.Test.YtipocmbplcdmjaaDoorG7
import Derived.Test.YtipocmbplcdmjaaDoorG6
import Derived.Test.YtipocmbplcdmjaaDoorG16
/-
  What is asked of the code's package sweep, whatever it is; its example.
-/
namespace Go.Proofs.YtipocmbplcdmjaaDoor
open Go Go.RowKit

end Go.Proofs.YtipocmbplcdmjaaDoor

/-
  What is asked of the code's package canon; the document's example.
-/
namespace Go.Proofs.YtipocmbplcdmjaaDoor
open Go Go.RowKit

/-- What Canon comes to: a new store and a new list, or an error and nothing. -/
def CanonPost (StAt : World → Nat → (Nat → Prop) → MS → Prop) (w : World) (r : Int × List Int × MS) (e : Ending) (w' : World) : Prop :=
  (r.1 = 0 ∧ ∃ b F v, e = .returned (.tuple #[.pointer (some ⟨b, 0, none⟩), v, .nilIface]) ∧ StAt w' b F r.2.2 ∧ (∀ k, F k → w.heap.size ≤ k) ∧ Owns encI w' v r.2.1 ∧ (∀ g, v.ownBlock = some g → w.heap.size ≤ g ∧ ¬ F g) ∧ Below w.heap.size w w') ∨
  (r.1 ≠ 0 ∧ ∃ a c, e = .returned (.tuple #[.pointer none, .slice a 0 c, errV r.1]) ∧ Below w.heap.size w w')

/-- Each call of package canon. -/
structure CanonC (StAt : World → Nat → (Nat → Prop) → MS → Prop) : Prop where ofAll ::
  canon : ∀ {w b F s}, LowW w → StAt w b F s → s.Ok → ∀ (most : Int) (roots : List Int) (v : Value), (most ≤ 9223372036854775807 ∧ -9223372036854775808 ≤ most) → Reads encI w v roots → roots.length ≤ 100000 → (∀ r ∈ roots, r ≤ 9223372036854775807 ∧ -9223372036854775808 ≤ r) →
    Calls Tryd.prog 11 #[.pointer (some ⟨b, 0, none⟩), .int .i64 most, v] w (CanonPost StAt w (s.canon most roots))

theorem up14_a : (MS.none 3).canon 5 [0, 1] = (0, [0, 1], MS.none 5) := by
  unfold MS.canon
  rw [if_neg (by decide)]
  kernel_rfl
theorem up14_b : (MS.none 3).canon 5 [2] = (1, [], MS.none 3) := by
  unfold MS.canon
  rw [if_pos (by decide)]

set_option maxRecDepth 100000 in
set_option maxHeartbeats 4000000 in
theorem up14 {StAt : World → Nat → (Nat → Prop) → MS → Prop} (H : StoreC StAt) (C : CanonC StAt) (w : World) (hL : LowW w) : Calls Tryd.prog 4 #[] w fun e w' => e = .returned (.bool true) ∧ Below w.heap.size w w' := by
  go_enter Tryd.func4, Tryd.ntmps4
  go_wp2_with fail
  refine (H.new 3 w (by decide) (by decide)).mono ?_
  rintro e w1 ⟨b, rfl, ⟨F, hA, hF⟩, hb⟩
  rw [show (3 : Int).toNat = 3 from rfl] at hA
  have ok := MS.none_ok 3 (by decide)
  have hb1 := (Below.refl w1.heap.size w1).alloc (Nat.le_refl _) (.cells #[.int .i64 0, .int .i64 1] 3)
  have hr1 : Reads encI (w1.alloc (.cells #[.int .i64 0, .int .i64 1] 3)) (.slice (some ⟨w1.heap.size, 0, none⟩) 2 2) [0, 1] := Owns.reads (World.ownsRow_lit w1 #[.int .i64 0, .int .i64 1] 2 (Nat.zero_le _) (by unfold maxLen; omega) rfl)
  have C1 := C.canon (hL.keep (hb.trans (hb1.mono hb.size))) (H.below hA hb1) ok 5 [0, 1] _ (by decide) hr1 (by decide) (by decide)
  rw [up14_a] at C1
  go_wp2_with fail
  refine C1.mono ?_
  rintro e w2 (⟨_, b2, F2, v2, rfl, hA2, hF2, hown, _, hb2⟩ | ⟨h, _⟩)
  case inr => exact absurd rfl h
  have hbs := hb1.trans (hb2.mono hb1.size)
  replace hA := H.below hA hbs
  replace hb := hb.trans (hbs.mono hb.size)
  clear C1 hr1 hb1 hb2 hbs
  have hb1 := (Below.refl w2.heap.size w2).alloc (Nat.le_refl _) (.cells #[.int .i64 2] 3)
  have C1 := C.canon (hL.keep (hb.trans (hb1.mono hb.size))) (H.below hA hb1) ok 5 [2] _ (by decide) (oneI w2 2 w2.heap.size rfl) (by decide) (by decide)
  rw [up14_b] at C1
  replace hA2 := H.below hA2 hb1
  replace hown := hown.keep (Keeps.of_below hb1 noBlock) (fun _ _ h => h)
  go_wp2_with fail
  refine C1.mono ?_
  rintro e w3 (⟨h, _⟩ | ⟨_, a3, c3, rfl, hb3⟩)
  case inl => cases h
  replace hA2 := H.below hA2 hb3
  replace hown := hown.keep (Keeps.of_below hb3 noBlock) (fun _ _ h => h)
  replace hb := (hb.trans (hb1.mono hb.size)).trans (hb3.mono (hb.trans (hb1.mono hb.size)).size)
  clear C1 hb1 hb3 hA
  have hb1 := (Below.refl w3.heap.size w3).alloc (Nat.le_refl _) (.cells #[.int .i64 0, .int .i64 1] 3)
  have hr1 : Reads encI (w3.alloc (.cells #[.int .i64 0, .int .i64 1] 3)) (.slice (some ⟨w3.heap.size, 0, none⟩) 2 2) [0, 1] := Owns.reads (World.ownsRow_lit w3 #[.int .i64 0, .int .i64 1] 2 (Nat.zero_le _) (by unfold maxLen; omega) rfl)
  have HI := lawInts [0, 1] v2 (.slice (some ⟨w3.heap.size, 0, none⟩) 2 2) _ (hown.keep (Keeps.of_below hb1 noBlock) (fun _ _ h => h)).reads hr1 (by decide)
  replace hA2 := H.below hA2 hb1
  go_wp2_with fail
  refine HI.mono ?_
  rintro e w4 ⟨rfl, hb4⟩
  replace hA2 := H.below hA2 hb4
  replace hb := (hb.trans (hb1.mono hb.size)).trans (hb4.mono (hb.trans (hb1.mono hb.size)).size)
  clear HI hr1 hb1 hb4 hown
  go_wp2_with fail
  refine (H.live hA2 (MS.none_ok 5 (by decide))).mono ?_
  rintro e w5 ⟨rfl, hb4⟩
  replace hA2 := H.below hA2 hb4
  replace hb := hb.trans (hb4.mono hb.size)
  rw [show (MS.none 5).all.length = 0 from rfl]
  clear hb4
  go_wp2_with fail
  refine (H.room hA2 (MS.none_ok 5 (by decide))).mono ?_
  rintro e w6 ⟨rfl, hb4⟩
  replace hb := hb.trans (hb4.mono hb.size)
  rw [show (MS.none 5).room = 5 from rfl]
  clear hb4
  have HC := fun V => lawCode 1 V (by decide) (by decide)
  go_wp2_with fail
  refine (HC _).mono ?_
  rintro e w7 ⟨rfl, rfl⟩
  go_wp2
  go_ret
  exact ⟨rfl, hb⟩

end Go.Proofs.YtipocmbplcdmjaaDoor

/-
  Functions as elements of slices of somebody's own; a slice of one's own beside a footprint.
-/
namespace Go.Proofs.YtipocmbplcdmjaaDoor
open Go Go.RowKit

/-- A slice of one's own, of blocks that are new since w0, outside of a footprint. -/
structure Mine {α : Type} (E : Enc Tryd.prog α) (w0 : World) (F : Nat → Prop) (v : Value) (l : List α) (W : World) : Prop where
  own : Owns E W v l
  low : ∀ g, v.ownBlock = some g → w0.heap.size ≤ g
  out : ∀ g, v.ownBlock = some g → ¬ F g
section
variable {α : Type} {E : Enc Tryd.prog α} {w0 W W' : World} {F F' : Nat → Prop} {v v' u : Value} {l k : List α}
theorem Mine.nil (E : Enc Tryd.prog α) (w0 : World) (F : Nat → Prop) (W : World) : Mine E w0 F (.slice none 0 0) [] W := ⟨Owns.nil _ _, (fun g h => by cases h), (fun g h => by cases h)⟩
theorem Mine.below (h : Mine E w0 F v l W) (hb : Below W.heap.size W W') : Mine E w0 F v l W' := ⟨h.own.keep (Keeps.of_below hb noBlock) (fun _ _ h => h), h.low, h.out⟩
theorem Mine.store (h : Mine E w0 F v l W) (hK : Keeps F W W') (hW : Within W F F') : Mine E w0 F' v l W' :=
  ⟨h.own.keep hK h.out, h.low, fun g hg hF => (hW g hF).elim (h.out g hg) (fun h3 => by have := h.own.lt g hg; omega)⟩
/-- It was appended to. -/
theorem Mine.push (h : Mine E w0 F v l W) (hb : w0.heap.size ≤ W.heap.size) (hF : ∀ q, F q → q < W.heap.size) (hown : Owns E W' v' k) (hat : v'.ownBlock = v.ownBlock ∨ v'.ownBlock = some W.heap.size) : Mine E w0 F v' k W' :=
by
  refine ⟨hown, fun g hg => ?_, fun g hg hq => ?_⟩
  · rcases hat with e | e
    · exact h.low g (e ▸ hg)
    · rw [e] at hg; cases hg; exact hb
  · rcases hat with e | e
    · exact h.out g (e ▸ hg) hq
    · rw [e] at hg; cases hg; have := hF _ hq; omega
end

end Go.Proofs.YtipocmbplcdmjaaDoor

/-
  A store made anew, on the way: what Canon comes to, step by step; the old store, the new one and the list, in memory.
-/
namespace Go.Proofs.YtipocmbplcdmjaaDoor
open Go Go.RowKit

theorem MS.can_stop (s : MS) (x : Int × List Int × MS) (l : List Int) (k : Nat) (h : ((l.take k).foldl (MS.can1 s) x).1 ≠ 0) : l.foldl (MS.can1 s) x = (l.take k).foldl (MS.can1 s) x := by
  have e : l.foldl (MS.can1 s) x = (l.drop k).foldl (MS.can1 s) ((l.take k).foldl (MS.can1 s) x) := by rw [← List.foldl_append, List.take_append_drop]
  rw [e, MS.can_bad s h]
theorem MS.can_next (s : MS) (most : Nat) (roots : List Int) (k : Nat) (hk : k < roots.length) {l : List Int} {t : MS} (h : (roots.take k).foldl (MS.can1 s) (0, [], MS.none most) = (0, l, t)) {n e : Int} {u : MS} (hb : MS.bld 8 t (s.tab roots[k]) = (n, e, u)) :
    (e = 0 → (roots.take (k + 1)).foldl (MS.can1 s) (0, [], MS.none most) = (0, l ++ [n], u)) ∧ (e ≠ 0 → s.canAll most roots = (e, [], u)) := by
  have h1 := MS.can_take s (0, [], MS.none most) roots k hk
  rw [h] at h1
  unfold MS.can1 at h1
  dsimp only at h1
  rw [if_neg (by simp), hb] at h1
  dsimp only at h1
  refine ⟨fun he => ?_, fun he => ?_⟩
  · rw [if_neg (by simpa using he)] at h1
    exact h1
  · rw [if_pos he] at h1
    have h2 := MS.can_stop s (0, [], MS.none most) roots (k + 1) (by
      have : ((roots.take (k + 1)).foldl (MS.can1 s) (0, [], MS.none most)).1 = e := congrArg (·.1) h1
      rw [this]; exact he)
    unfold MS.canAll
    rw [h2]
    exact h1
theorem MS.canon_all (s : MS) {most : Int} {roots : List Int} (h0 : 0 ≤ most) (h1 : most ≤ 20000) (h : ∀ r ∈ roots, s.there r = true) : s.canon most roots = s.canAll most.toNat roots := by
  unfold MS.canon
  rw [if_neg]
  rintro (h2 | h2 | ⟨r, hr, h2⟩)
  · omega
  · omega
  · rw [h r hr] at h2; cases h2
theorem MS.canon_no (s : MS) {most : Int} (roots : List Int) (h : most < 0 ∨ 20000 < most) : s.canon most roots = (1, [], s) := by
  unfold MS.canon
  rw [if_pos]
  exact h.elim .inl fun h => .inr (.inl h)
theorem MS.canon_not (s : MS) (most : Int) {roots : List Int} {r : Int} (hr : r ∈ roots) (h : s.there r = false) : s.canon most roots = (1, [], s) := by
  unfold MS.canon
  rw [if_pos]
  exact .inr (.inr ⟨r, hr, h⟩)

/-- What stays as it is where nothing is written to it. -/
structure StK (St : World → Nat → (Nat → Prop) → MS → Prop) : Prop where
  lt : ∀ {w b F s}, St w b F s → ∀ k, F k → k < w.heap.size
  keep : ∀ {w w' b F s} {G : Nat → Prop}, St w b F s → Keeps G w w' → (∀ k, F k → ¬ G k) → St w' b F s

/-- The old store, the new one, the list. -/
structure CanW (St : World → Nat → (Nat → Prop) → MS → Prop) (w : World) (b : Nat) (F : Nat → Prop) (s : MS) (bn : Nat) (Fn : Nat → Prop) (t : MS) (v : Value) (l : List Int) (W : World) : Prop where
  old : St W b F s
  olt : ∀ q, F q → q < w.heap.size
  new : St W bn Fn t
  lowN : ∀ q, Fn q → w.heap.size ≤ q
  own : Owns encI W v l
  low : ∀ g, v.ownBlock = some g → w.heap.size ≤ g
  out : ∀ g, v.ownBlock = some g → ¬ Fn g
  below : Below w.heap.size w W
section
variable {St : World → Nat → (Nat → Prop) → MS → Prop} {w W W' : World} {b bn : Nat} {F Fn Fn' : Nat → Prop} {s t u : MS} {v v' : Value} {l l' : List Int}
theorem CanW.keep (K : StK St) (h : CanW St w b F s bn Fn t v l W) (hb : Below W.heap.size W W') : CanW St w b F s bn Fn t v l W' :=
  ⟨K.keep h.old (Keeps.of_below hb noBlock) (fun _ _ h => h), h.olt, K.keep h.new (Keeps.of_below hb noBlock) (fun _ _ h => h), h.lowN, h.own.keep (Keeps.of_below hb noBlock) (fun _ _ h => h), h.low, h.out, h.below.trans (hb.mono h.below.size)⟩
theorem CanW.store (K : StK St) (h : CanW St w b F s bn Fn t v l W) (hA : St W' bn Fn' u) (hK : Keeps Fn W W') (hW : Within W Fn Fn') : CanW St w b F s bn Fn' u v l W' :=
  ⟨K.keep h.old hK (fun q h1 h2 => by have := h.olt q h1; have := h.lowN q h2; omega), h.olt, hA, fun q hq => (hW q hq).elim (h.lowN q) (fun h3 => Nat.le_trans h.below.size h3), h.own.keep hK h.out, h.low,
    fun g hg h1 => (hW g h1).elim (h.out g hg) (fun h3 => by have := h.own.lt g hg; omega), h.below.trans (hK.below h.below.size h.lowN)⟩
theorem CanW.set (K : StK St) {g c n : Nat} (h : CanW St w b F s bn Fn t (.slice (some ⟨g, 0, none⟩) n c) l W) (hn : n = l.length) {i : Nat} (hi : i < l.length) (x : Int) : CanW St w b F s bn Fn t (.slice (some ⟨g, 0, none⟩) n c) (l.set i x) (W.setCell ⟨g, i, none⟩ (.int .i64 x)) := by
  have hk : Keeps (fun q => q = g) W (W.setCell ⟨g, i, none⟩ (.int .i64 x)) := Keeps.of_setCell _ _ _ _ rfl
  have hlo := h.low g rfl
  refine ⟨K.keep h.old hk (fun q h1 h2 => by have := h.olt q h1; omega), h.olt, K.keep h.new hk (fun q h1 h2 => h.out g rfl (h2 ▸ h1)), h.lowN, ?_, h.low, h.out, h.below.trans (hk.below h.below.size fun q hq => by omega)⟩
  subst hn
  exact h.own.put rfl rfl hi
theorem CanW.cell {g c n : Nat} (h : CanW St w b F s bn Fn t (.slice (some ⟨g, 0, none⟩) n c) l W) (hn : n = l.length) {i : Nat} (hi : i < l.length) : W.cell? ⟨g, i, none⟩ = some (.int .i64 l[i]) ∧ W.frozen? ⟨g, i, none⟩ = false := by
  subst hn
  exact ⟨h.own.intAt i hi, h.own.free i⟩
end
theorem set_mid (l : List Int) (m : Nat) (x : Int) : (l ++ List.replicate (m + 1) 0).set l.length x = (l ++ [x]) ++ List.replicate m 0 := by
  rw [List.replicate_succ, List.set_append_right _ _ (Nat.le_refl _)]
  simp

end Go.Proofs.YtipocmbplcdmjaaDoor

/-
  The landed package canon keeps its contract.
-/
namespace Go.Proofs.YtipocmbplcdmjaaDoor
open Go Go.RowKit

section
variable {StAt : World → Nat → (Nat → Prop) → MS → Prop} {w : World} {b : Nat} {F : Nat → Prop} {s : MS}
set_option maxRecDepth 100000 in
set_option maxHeartbeats 4000000 in
theorem canonAreThere (H : StoreC StAt) (h : StAt w b F s) (ok : s.Ok) (roots : List Int) (v : Value) (hv : Reads encI w v roots) (hl : roots.length ≤ 100000) (hr : ∀ r ∈ roots, r ≤ 9223372036854775807 ∧ -9223372036854775808 ≤ r) :
    Calls Tryd.prog 30 #[.pointer (some ⟨b, 0, none⟩), v] w fun e w' => e = .returned (.bool (roots.all s.there)) ∧ Below w.heap.size w w' := by
  obtain ⟨av, cv, rfl⟩ := hv.form
  have HN := fun W (hb : Below w.heap.size w W) (n : Int) hn => H.node (H.below h hb) ok n hn
  go_enter Tryd.func30, Tryd.ntmps30
  clear h
  go_wp2
  go_loopw [11] (fun i wr => ∃ k : Nat, k ≤ roots.length ∧ i = .int .i64 k ∧ Below w.heap.size w wr ∧ Hid ((roots.take k).all s.there = true)) (fun i _ => roots.length - (intOf i).toNat)
  case atStart => exact ⟨0, Nat.zero_le _, rfl, Below.refl _ _, Lib.hid rfl⟩
  case round =>
    obtain ⟨k, hk, rfl, hb, hth⟩ := hrel
    by_cases hlt : k < roots.length
    · obtain ⟨ad, rfl, hc⟩ := (hv.keep hb).intAt k hlt
      have hrk := hr _ (List.getElem_mem hlt)
      have hk0 : (0 : Int) ≤ (k : Int) := by omega
      have hk1 : (k : Int) < (roots.length : Int) := by omega
      have hnext : s.there roots[k] = true → (roots.take (k + 1)).all s.there = true := fun e => by rw [List.take_succ_eq_append_getElem hlt]; simp only [List.all_append, List.all_cons, List.all_nil, Bool.and_true]; rw [hth.out, e]; rfl
      have hnot : s.there roots[k] = false → roots.all s.there = false := fun e => by
        rw [List.all_eq_false]
        exact ⟨roots[k], List.getElem_mem hlt, by simp [e]⟩
      have HN1 := fun W hb => HN W hb roots[k] hrk
      simp only [nodeV, nv] at HN1
      generalize roots[k] = n at *
      clear HN hth hv
      cases hh : s.has n
      · simp only [hh, Bool.false_eq_true, if_false] at HN1
        by_cases h0 : n = 0
        · subst h0
          have HTH : s.there 0 = true := rfl
          have hnx := Lib.hid (hnext HTH)
          clear hnext hnot HTH hh
          go_wp2_with fail
          refine (HN1 wr hb).mono ?_
          rintro e w1 ⟨rfl, hb1⟩
          have hb3 := hb1.alloc hb1.size (.cells #[.int .i64 0, .int .i64 0, .int .i64 0] 58)
          clear HN1 hc hb1
          go_wp2
          exact ⟨⟨k + 1, by omega, by go_num, hb.trans (hb3.mono hb.size), hnx⟩, by simp [intOf]; omega⟩
        · by_cases h1 : n = 1
          · subst h1
            have HTH : s.there 1 = true := rfl
            have hnx := Lib.hid (hnext HTH)
            clear hnext hnot HTH hh
            go_wp2_with fail
            refine (HN1 wr hb).mono ?_
            rintro e w1 ⟨rfl, hb1⟩
            have hb3 := hb1.alloc hb1.size (.cells #[.int .i64 0, .int .i64 0, .int .i64 0] 58)
            clear HN1 hc hb1
            go_wp2
            exact ⟨⟨k + 1, by omega, by go_num, hb.trans (hb3.mono hb.size), hnx⟩, by simp [intOf]; omega⟩
          · have e0 : (n == 0) = false := by rw [beq_eq_false_iff_ne]; exact h0
            have e1 : (n == 1) = false := by rw [beq_eq_false_iff_ne]; exact h1
            have HTH : s.there n = false := by simp [MS.there, e0, e1, hh]
            replace e0 : (n != 0) = true := by rw [bne, e0]; rfl
            replace e1 : (n != 1) = true := by rw [bne, e1]; rfl
            have hnx := Lib.hid (hnot HTH)
            clear hnext hnot HTH hh
            go_wp2_with fail
            refine (HN1 wr hb).mono ?_
            rintro e w1 ⟨rfl, hb1⟩
            have hb3 := hb1.alloc hb1.size (.cells #[.int .i64 0, .int .i64 0, .int .i64 0] 58)
            clear HN1 hc hb1
            go_wp2
            go_ret
            exact ⟨by rw [hnx.out]; rfl, hb.trans (hb3.mono hb.size)⟩
      · simp only [hh, if_true] at HN1
        have HTH : s.there n = true := by simp [MS.there, hh]
        generalize s.nd n = x at *
        obtain ⟨x0, x1, x2⟩ := x
        dsimp only at HN1
        have hnx := Lib.hid (hnext HTH)
        clear hnext hnot HTH hh
        go_wp2_with fail
        refine (HN1 wr hb).mono ?_
        rintro e w1 ⟨rfl, hb1⟩
        have hb3 := hb1.alloc hb1.size (.cells #[.int .i64 x0, .int .i64 x1, .int .i64 x2] 58)
        clear HN1 hc hb1
        go_wp2
        exact ⟨⟨k + 1, by omega, by go_num, hb.trans (hb3.mono hb.size), hnx⟩, by simp [intOf]; omega⟩
    · obtain rfl : k = roots.length := by omega
      rw [List.take_length] at hth
      clear HN hv
      go_wp2
      go_ret
      exact ⟨by rw [hth.out]; rfl, hb⟩

theorem storeK (H : StoreC StAt) : StK StAt := ⟨fun h => H.lt h, fun h hk ha => H.keep h hk ha⟩

set_option maxRecDepth 100000 in
set_option maxHeartbeats 8000000 in
theorem canonCanon (H : StoreC StAt) (R : ReadC StAt) (hL : LowW w) (h : StAt w b F s) (ok : s.Ok) (most : Int) (roots : List Int) (v : Value) (hv : Reads encI w v roots) (hl : roots.length ≤ 100000) (hr : ∀ r ∈ roots, r ≤ 9223372036854775807 ∧ -9223372036854775808 ≤ r) :
    Calls Tryd.prog 11 #[.pointer (some ⟨b, 0, none⟩), .int .i64 most, v] w (CanonPost StAt w (s.canon most roots)) := by
  obtain ⟨av, cv, rfl⟩ := hv.form
  have hat := fun W (hb : Below w.heap.size w W) => canonAreThere H (H.below h hb) ok roots _ (hv.keep hb) hl hr
  by_cases hm : most < 0 ∨ 20000 < most
  · rw [MS.canon_no s roots hm]
    unfold CanonPost
    clear hat h hv hr
    go_enter Tryd.func11, Tryd.ntmps11
    go_wp2_with fail
    refine (H.no most w hm).mono ?_
    rintro e w1 ⟨rfl, hb1⟩
    go_wp2
    go_ret3
    exact .inr ⟨by decide, none, 0, rfl, hb1⟩
  have h0 : 0 ≤ most := by omega
  have h1 : most ≤ 20000 := by omega
  have HNW := H.new most w h0 h1
  cases hth : roots.all s.there
  · obtain ⟨r, hr1, hr2⟩ := List.all_eq_false.1 hth
    rw [MS.canon_not s most hr1 (by simpa using hr2)]
    rw [hth] at hat
    unfold CanonPost
    clear h hv hr hth hr1 hr2
    go_enter Tryd.func11, Tryd.ntmps11
    go_wp2_with fail
    refine HNW.mono ?_
    rintro e w1 ⟨bn, rfl, ⟨Fn, hN, hFn⟩, hb1⟩
    go_wp2_with fail
    refine (hat w1 hb1).mono ?_
    rintro e w2 ⟨rfl, hb2⟩
    replace hb1 := hb1.trans (hb2.mono hb1.size)
    clear hat hb2 HNW
    go_wp2
    go_ret3
    exact .inr ⟨by decide, none, 0, rfl, hb1⟩
  · rw [MS.canon_all s h0 h1 (by simpa using hth)]
    rw [hth] at hat
    unfold CanonPost
    generalize hz : s.canAll most.toNat roots = z
    obtain ⟨z1, zs, zt⟩ := z
    dsimp only
    go_enter Tryd.func11, Tryd.ntmps11
    go_wp2_with fail
    refine HNW.mono ?_
    rintro e w1 ⟨bn, rfl, ⟨Fn, hN, hFn⟩, hb1⟩
    go_wp2_with fail
    refine (hat w1 hb1).mono ?_
    rintro e w2 ⟨rfl, hb2⟩
    replace hN := H.below hN hb2
    replace hb1 := hb1.trans (hb2.mono hb1.size)
    clear hat hb2 HNW
    have hm20 : most.toNat ≤ 20000 := by omega
    have I := fun k hk => CanI.upto s hm20 roots k hk
    have HX := fun k hk (l : List Int) (t : MS) (n e : Int) (u : MS) => MS.can_next s most.toNat roots k hk (l := l) (t := t) (n := n) (e := e) (u := u)
    generalize most.toNat = mo at *
    have hmk : (Instr.makeSlice 23 (.int .i64 (roots.length : Int)) (.int .i64 (roots.length : Int))).run Tryd.prog w2 = .ok (.slice (some ⟨w2.heap.size, 0, none⟩) roots.length roots.length) (w2.alloc (.cells (madeCells encI.zero.cells (roots.length * encI.size)) encI.elem)) := run_made encI roots.length (by omega) w2
    have hOS := owns_made encI 0 rfl roots.length (by omega) w2
    have hbS : Below w2.heap.size w2 (w2.alloc (.cells (madeCells encI.zero.cells (roots.length * encI.size)) encI.elem)) := (Below.refl _ _).alloc (Nat.le_refl _) _
    have C0 : CanW StAt w b F s bn Fn (MS.none mo) (.slice (some ⟨w2.heap.size, 0, none⟩) roots.length roots.length) (List.replicate roots.length 0) (w2.alloc (.cells (madeCells encI.zero.cells (roots.length * encI.size)) encI.elem)) :=
      ⟨H.below (H.below h hb1) hbS, H.lt h, H.below hN hbS, hFn, hOS, fun g hg => by have hg' : some w2.heap.size = some g := hg; injection hg' with hg'; have := hb1.size; omega, fun g hg hf => by have hg' : some w2.heap.size = some g := hg; injection hg' with hg'; have := H.lt hN g hf; omega, hb1.trans (hbS.mono hb1.size)⟩
    have hRT := fun W (hb : Below w.heap.size w W) (hW : StAt W b F s) (n : Int) hn => R.table (hL.keep hb) hW ok n hn
    have hRB := fun W (hb : Below w.heap.size w W) F' t (hF : ∀ q, F' q → w.heap.size ≤ q) (hW : StAt W bn F' t) (okt : t.Ok) f => R.build (F := F') (hL.keep hb) (fun k hk => Nat.lt_of_lt_of_le hL.pos (hF k hk)) hW okt f
    have K := storeK H
    generalize w2.alloc (.cells (madeCells encI.zero.cells (roots.length * encI.size)) encI.elem) = W1 at *
    generalize hg0 : w2.heap.size = g0 at *
    replace C0 := Lib.hid C0
    replace I := Lib.hid I
    replace HX := Lib.hid HX
    replace hRT := Lib.hid hRT
    replace hRB := Lib.hid hRB
    replace hv := Lib.hid hv
    replace hr := Lib.hid hr
    replace hz := Lib.hid hz
    clear hOS hbS hN hFn h hL ok hth
    go_wp2
    go_loopw [31] (fun i wr => ∃ (k : Nat) (l : List Int) (t : MS) (F' : Nat → Prop), k ≤ roots.length ∧ i = .int .i64 k ∧ Hid ((roots.take k).foldl (MS.can1 s) (0, [], MS.none mo) = (0, l, t)) ∧ Hid (CanW StAt w b F s bn F' t (.slice (some ⟨g0, 0, none⟩) roots.length roots.length) (l ++ List.replicate (roots.length - k) 0) wr)) (fun i _ => roots.length - (intOf i).toNat)
    case atStart => exact ⟨0, [], MS.none mo, Fn, Nat.zero_le _, rfl, Lib.hid rfl, by rw [List.nil_append, Nat.sub_zero]; exact C0⟩
    case round =>
      clear C0
      obtain ⟨k, l, t, F', hk, rfl, hx, C⟩ := hrel
      by_cases hlt : k < roots.length
      · obtain ⟨ad, rfl, hc⟩ := (hv.out.keep C.out.below).intAt k hlt
        have hrk := hr.out _ (List.getElem_mem hlt)
        have hk0 : (0 : Int) ≤ (k : Int) := by omega
        have hk1 : (k : Int) < (roots.length : Int) := by omega
        have Ik := I.out k hk
        rw [hx.out] at Ik
        have okt : t.Ok := Ik.ok
        have hlen : l.length = k := by have := Ik.len rfl; simpa [List.length_take, Nat.min_eq_left hk] using this
        rcases hbld : MS.bld 8 t (s.tab roots[k]) with ⟨n, e, u⟩
        obtain ⟨X1, X2⟩ := HX.out k hlt l t n e u hx.out hbld
        have RT := fun W (hb : Below wr.heap.size wr W) => hRT.out W (C.out.below.trans (hb.mono C.out.below.size)) (C.out.keep K hb).old roots[k] hrk
        have RB := fun W (hb : Below wr.heap.size wr W) => hRB.out W (C.out.below.trans (hb.mono C.out.below.size)) F' t C.out.lowN (C.out.keep K hb).new okt (s.tab roots[k])
        rw [hbld] at RB
        dsimp only at RB
        have CL := fun W n F2 u (C2 : CanW StAt w b F s bn F2 u (.slice (some ⟨g0, 0, none⟩) roots.length roots.length) (l ++ List.replicate (roots.length - k) 0) W) => C2.set K (i := k) (by simp; omega) (by simp; omega) n
        have CC := fun W F2 u (C2 : CanW StAt w b F s bn F2 u (.slice (some ⟨g0, 0, none⟩) roots.length roots.length) (l ++ List.replicate (roots.length - k) 0) W) => (show (∃ y : Int, W.cell? ⟨g0, k, none⟩ = some (.int .i64 y)) ∧ W.frozen? ⟨g0, k, none⟩ = false from (fun x => ⟨⟨_, x.1⟩, x.2⟩) (C2.cell (i := k) (by simp; omega) (by simp; omega)))
        have hmid := fun n : Int => set_mid l (roots.length - (k + 1)) n
        rw [show roots.length - (k + 1) + 1 = roots.length - k by omega, hlen] at hmid
        simp only [hmid] at CL
        generalize (l ++ List.replicate (roots.length - k) 0) = L at *
        generalize s.tab roots[k] = f at *
        generalize roots[k] = m at *
        replace X1 := Lib.hid X1
        replace X2 := Lib.hid X2
        replace CL := Lib.hid CL
        replace CC := Lib.hid CC
        clear hmid hbld Ik I HX hRT hRB hv hr hx
        simp only [fv] at RT RB
        go_wp2_with fail
        refine (RT _ (Below.refl _ _)).mono ?_
        rintro e3 w3 ⟨rfl, hb3⟩
        go_wp2_with fail
        refine (RB _ hb3).mono ?_
        rintro e4 w4 ⟨rfl, F2, hA, hK, hW⟩
        have C2 := Lib.hid ((C.out.keep K hb3).store K hA hK hW)
        clear RT RB hA hK hW hb3 hc C
        by_cases he : e = 0
        · subst he
          rw [errV0]
          have hx := Lib.hid (X1.out rfl)
          have C3 := Lib.hid (CL.out _ n _ _ C2.out)
          obtain ⟨⟨y, c0⟩, z0⟩ := CC.out _ _ _ C2.out
          clear X1 X2 CL CC
          go_wp2
          exact ⟨⟨k + 1, l ++ [n], u, F2, by omega, by go_num, hx, C3⟩, by simp [intOf]; omega⟩
        · have ez := hz.out.symm.trans (X2.out he)
          have e1 : z1 = e := congrArg (·.1) ez
          rw [show errV e = .iface 54 (.int .i64 e) from if_neg he]
          clear X1 X2 CL CC
          go_wp2
          go_ret3
          exact .inr ⟨by rw [e1]; exact he, none, 0, by rw [e1]; simp only [errV, if_neg he]; rfl, C2.out.below⟩
      · obtain rfl : k = roots.length := by omega
        rw [List.take_length] at hx
        rw [Nat.sub_self, List.replicate_zero, List.append_nil] at C
        have ez : (z1, zs, zt) = (0, l, t) := hz.out.symm.trans hx.out
        have e1 : z1 = 0 := congrArg (·.1) ez
        have e2 : zs = l := congrArg (·.2.1) ez
        have e3 : zt = t := congrArg (·.2.2) ez
        subst e2 e3
        clear hx I HX hRT hRB hv hr
        go_wp2
        go_ret3
        exact .inl ⟨e1, bn, F', _, rfl, C.out.new, C.out.lowN, C.out.own, fun g hg => ⟨C.out.low g hg, C.out.out g hg⟩, C.out.below⟩
end

/-- The landed package canon keeps its contract. -/
theorem canonC {StAt : World → Nat → (Nat → Prop) → MS → Prop} (H : StoreC StAt) (R : ReadC StAt) : CanonC StAt where
  canon hL h ok most roots v _ hv hl hr := canonCanon H R hL h ok most roots v hv hl hr

end Go.Proofs.YtipocmbplcdmjaaDoor

/-
  Mathematics of layers 9 to 11: if, then, else of nodes; what grows. Nothing of the program is read here.
-/
namespace Go.Proofs.YtipocmbplcdmjaaDoor

/-- No number's function is another one. -/
structure MS.Grows (s t : MS) : Prop where
  there : ∀ n, s.there n = true → t.there n = true
  val : ∀ (b : Int → Bool) n, s.there n = true → t.val b n = s.val b n

section
variable {s t u : MS}
theorem MS.Grows.of_ext (e : MS.Ext s t) (hs : s.Ok) (ht : t.Ok) : MS.Grows s t := ⟨fun _ hn => e.there hn, fun b n hn => e.val hs ht b _ n (Nat.le_refl _) hn⟩
theorem MS.Grows.tab (h : MS.Grows s t) {n : Int} (hn : s.there n = true) : t.tab n = s.tab n := fn_ext fun k hk => by
  rw [MS.tab_bit _ _ hk, MS.tab_bit _ _ hk, h.val _ n hn]

end

end Go.Proofs.YtipocmbplcdmjaaDoor
