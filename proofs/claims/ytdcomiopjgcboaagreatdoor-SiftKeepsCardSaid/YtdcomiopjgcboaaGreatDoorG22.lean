/-
  Texts of this proof, one behind the other: ISet, ReadR, ReadI, Slb, SweepW, SweepX, Inst13.
-/
import Derived.Test.YtdcomiopjgcboaaGreatDoorG10
import Derived.Lib.SlKeysI
import Derived.Test.YtdcomiopjgcboaaGreatDoorG12
import Derived.Test.YtdcomiopjgcboaaGreatDoorG8
import Derived.Test.YtdcomiopjgcboaaGreatDoorG6
import Derived.Test.YtdcomiopjgcboaaGreatDoorG14
import Derived.Test.YtdcomiopjgcboaaGreatDoorG15
import Derived.Shelf.Slices.SearchI
import Derived.Shelf.Slices.Empties
import Derived.Test.YtdcomiopjgcboaaGreatDoorProg
import Derived.Test.YtdcomiopjgcboaaGreatDoorG16
import Derived.Test.YtdcomiopjgcboaaGreatDoorG17
import Derived.Test.YtdcomiopjgcboaaGreatDoorG19
import Derived.Test.YtdcomiopjgcboaaGreatDoorG20
/-
  A map of bools whose keys are numbers, as the list of these keys.
-/
namespace Go.Proofs.YtdcomiopjgcboaaGreatDoor
open Go Go.RowKit Go.Maps

theorem BSet.owns {P : Program} {K e : TypeId} {α : Type} [DecidableEq α] {E : KeyEnc P K α} {w : World} {b : Nat} {S : List α} (h : BSet E e w b S) :
    ∃ D : DataW Unit, w.ownsMap P K (plainElem P e) b S.length D ∧ (∀ a, has D (E.lit a) = true ↔ a ∈ S) ∧ Maps.size D = S.length := by
  obtain ⟨D, ho, _, hh, hs⟩ := h
  exact ⟨D, ho, fun a => by rw [hh a, decide_eq_true_iff], hs⟩

/-- A number of the language. -/
def In64 (n : Int) : Prop := n ≤ 9223372036854775807 ∧ -9223372036854775808 ≤ n
theorem In64.wf {n : Int} (h : In64 n) : (Lit.int .i64 n).wf = true := by
  obtain ⟨h1, h2⟩ := h
  simp [Lit.wf, IntKind.min, IntKind.max, IntKind.signed, IntKind.bits]
  omega

/-- Numbers of the language. -/
abbrev KI := { n : Int // (Lit.int .i64 n).wf = true }

/-- Numbers as keys. -/
def encK : KeyEnc Tryz.prog 3 KI where
  val n := .int .i64 n.1
  lit n := .int .i64 n.1
  key n := keyOf_int_mk Tryz.underlying3 n.2
  inj _ _ h := Subtype.ext (encZ_inj h)
  law := int_keyed Tryz.underlying3

/-- Block b is a map that holds true at the numbers S, and nothing else. -/
def ISet (w : World) (b : Nat) (S : List Int) : Prop := ∃ T : List KI, T.map (·.1) = S ∧ BSet encK 4 w b T

theorem ISet.made (w : World) : ISet (w.alloc (.map #[] 0)) w.heap.size [] := ⟨[], rfl, BSet.made _ _ _⟩
theorem ISet.block {w w' : World} {b : Nat} {S : List Int} (h : ISet w b S) (hb : w'.heap[b]? = w.heap[b]?) : ISet w' b S := by
  obtain ⟨T, e, h⟩ := h; exact ⟨T, e, h.block hb⟩
theorem ISet.lt {w : World} {b : Nat} {S : List Int} (h : ISet w b S) : b < w.heap.size := by obtain ⟨_, _, h⟩ := h; exact h.lt
theorem ISet.keep {w w' : World} {b B : Nat} {S : List Int} (h : ISet w b S) (hb : Below B w w') (hB : b < B) : ISet w' b S := h.block (hb.block b hB)
theorem mem_val {T : List KI} {a : KI} : a.1 ∈ T.map (·.1) ↔ a ∈ T := by
  rw [List.mem_map]
  exact ⟨fun ⟨x, hx, e⟩ => (Subtype.ext e : x = a) ▸ hx, fun h => ⟨a, h, rfl⟩⟩
theorem zeroBool (w : World) : (zeroValue 4).run Tryz.prog w = .ok (.bool false) w := by kernel_rfl
theorem ISet.look {w : World} {b : Nat} {S : List Int} (h : ISet w b S) (n : Int) (hn : In64 n) : (Instr.lookup 144 (.map (some b)) (.int .i64 n) false).run Tryz.prog w = .ok (.bool (decide (n ∈ S))) w := by
  obtain ⟨T, rfl, h⟩ := h
  have := h.look Tryz.underlying144 Tryz.underlying4 (zeroBool w) (⟨n, hn.wf⟩ : KI)
  exact this.trans (congrArg (fun x => Result.ok (Value.bool x) w) (decide_eq_decide.2 (mem_val (a := ⟨n, hn.wf⟩)).symm))
theorem ISet.put {ops : Array Oper} {rest : List Oper} {o : Oper} {A : Act} {Q : Exit → Act → World → Prop} {w : World} {b : Nat} {S : List Int}
    (h : ISet w b S) (hl : S.length < maxLen) (hg : o.guard = none) (x y v : Operand) (hop : o.op = Op.mapUpdate 144 x y v)
    (n : Int) (hn : In64 n) (hna : n ∉ S) (hx : A.eval x = .map (some b)) (hy : A.eval y = .int .i64 n) (hv : A.eval v = .bool true)
    (hK : ∀ w', ISet w' b (S ++ [n]) → w.grownBy w' (some b) → wpList Tryz.prog ops Q rest (A.put o.dst undef) w') : wpList Tryz.prog ops Q (o :: rest) A w := by
  obtain ⟨T, rfl, h⟩ := h
  refine BSet.put h Tryz.underlying144 Tryz.underlying4 (by simpa using hl) hg x y v hop (⟨n, hn.wf⟩ : KI) (fun e => hna (mem_val.2 e)) hx hy hv ?_
  intro w' h' hgr
  exact hK w' ⟨T ++ [⟨n, hn.wf⟩], by simp, h'⟩ hgr
/-- As maps.Keys finds it. -/
theorem ISet.owns {w : World} {b : Nat} {S : List Int} (h : ISet w b S) (hS : S.Nodup) : ∃ D : DataW Unit, w.ownsMap Tryz.prog 3 (plainElem Tryz.prog 4) b S.length D ∧ Maps.size D = S.length ∧ S.Perm (intKeys D) := by
  obtain ⟨T, rfl, h⟩ := h
  obtain ⟨D, ho, hh, hs⟩ := h.owns
  refine ⟨D, by simpa using ho, by simpa using hs, ?_⟩
  obtain ⟨es, hD, hpw, _⟩ := ho.entries (int_keyed Tryz.underlying3)
  obtain ⟨es', hD', hko⟩ := ho.keysOf
  obtain rfl : es = es' := by rw [hD] at hD'; simpa using hD'
  subst hD
  refine perm_intKeys hpw (fun p hp => by obtain ⟨v, hv⟩ := hko p hp; obtain ⟨x, _, hx, _⟩ := Maps.keyOf_i64 Tryz.underlying3 hv; exact ⟨x, hx⟩) hS (fun x => ?_)
  constructor
  · intro hx
    obtain ⟨a, ha, rfl⟩ := List.mem_map.1 hx
    exact (hh a).2 ha
  · intro hx
    have hwf : (Lit.int .i64 x).wf = true := by
      rw [has_eq, List.any_eq_true] at hx
      obtain ⟨p, hp, hsame⟩ := hx
      obtain ⟨v, hv⟩ := hko p hp
      obtain ⟨y, _, hy, hw⟩ := Maps.keyOf_i64 Tryz.underlying3 hv
      rw [hy] at hsame
      have : y = x := by simpa [Lit.sameKey] using hsame
      exact this ▸ hw
    exact mem_val.2 ((hh ⟨x, hwf⟩).1 hx)

end Go.Proofs.YtdcomiopjgcboaaGreatDoor

/-
  Walks of package read over the store's contracts: gather, Reach.
-/
namespace Go.Proofs.YtdcomiopjgcboaaGreatDoor
open Go Go.RowKit Go.Maps Go.Sort Go.Shelf

/-- slices.Sort's two contracts. -/
theorem sortsA (m : Nat) : AnyZI.SortsIn Tryz.prog Tryz.sortedA_ren Fence.wide m :=
  ⟨fun blk off cap ss W hH hblk hsz => callsIn_wide.2 (AnyM.slices_Sort_int Tryz.sortA blk off cap ss W hH hblk hsz),
   fun p cap W => callsIn_wide.2 (AnyM.slices_Sort_int_none Tryz.sortA p cap W)⟩

/-- maps.Keys. -/
theorem goKeys (mb : Option Nat) (W : World) : Calls Tryz.prog 115 #[.map mb] W fun e w' => e = .returned (.func (.func 126) #[] #[.pointer (some ⟨W.heap.size, 0, none⟩)]) ∧ w' = W.alloc (.cells #[.map mb] 144) :=
  (callsIn_wide (n := 5)).1 (AnyZI.keys_in Tryz.keysA Fence.wide 5 trivial rfl mb W)

/-- slices.Sorted of what maps.Keys handed back. -/
theorem goSorted (b nn : Nat) (D0 : DataW Unit) (R : Value → Option (DataW Unit × List MemPlace)) (w : World) (hown : w.ownsMap Tryz.prog 3 R b nn D0) (hmax : Maps.size D0 ≤ maxLen) (hbytes : Maps.size D0 * 8 ≤ 140737488355328) :
    Calls Tryz.prog 114 #[.func (.func 126) #[] #[.pointer (some ⟨w.heap.size, 0, none⟩)]] (w.alloc (.cells #[.map (some b)] 144)) fun e w' => ∃ (v : Value) (ss : List Int), e = .returned v ∧ ss.Perm (intKeys D0) ∧
      w'.ownsRow (w.alloc (.cells #[.map (some b)] 144)).heap.size 3 1 v ss.length ((ss.mergeSort (fun x y => decide (x ≤ y))).map encZ) ∧ Below (w.alloc (.cells #[.map (some b)] 144)).heap.size (w.alloc (.cells #[.map (some b)] 144)) w' := by
  refine (callsIn_wide (n := 5)).1 ?_
  have hbl := hown.lt
  have hseq : SeqGives Fence.wide 2 Tryz.prog 126 #[.pointer (some ⟨w.heap.size, 0, none⟩)] encZ (fun ss => ss.Perm (intKeys D0)) (Maps.size D0) (w.alloc (.cells #[.map (some b)] 144)) :=
    AnyZI.keys_gives (ρ := Tryz.keysA_ren) { Tryz.keysA with } Fence.wide _ trivial rfl (by omega) w.heap.size b nn D0 _ (by simp) (by simp) (by
      obtain ⟨es, clock, hb, Ft, hs, hD⟩ := hown
      exact ⟨es, clock, (Below.heap_alloc _ _ b hbl).trans hb, Ft, hs, hD⟩)
  have cS := AnyZI.sorted_in Tryz.sortedA Fence.wide 5 trivial trivial trivial trivial rfl (by omega) (sortsA _) (enters_of Tryz.func125 (by kernel_rfl) rfl) 126 #[.pointer (some ⟨w.heap.size, 0, none⟩)] trivial (enters_of Tryz.func126 (by kernel_rfl) rfl) _ _ hmax hbytes _ hseq
  change CallsIn _ _ Tryz.prog 114 _ _ _ at cS
  refine cS.mono ?_
  rintro e w' ⟨v, ss, rfl, hS, hrow, _, hb⟩
  exact ⟨v, ss, rfl, hS, hrow, hb⟩

/-- Within a call of gather: the store, and what was met. -/
structure GSt8 (StAt : World → Nat → (Nat → Prop) → MS → Prop) (w : World) (b : Nat) (F : Nat → Prop) (s : MS) (bm : Nat) (S : List Int) (W : World) : Prop where
  st : StAt W b F s
  map : ISet W bm S
  keeps : Keeps (fun k => k = bm) w W

section
variable {StAt : World → Nat → (Nat → Prop) → MS → Prop} {w W W' : World} {b bm : Nat} {F : Nat → Prop} {s : MS} {S S' : List Int}
theorem GSt8.keep (H : StoreC StAt) (h : GSt8 StAt w b F s bm S W) (hb : Below W.heap.size W W') : GSt8 StAt w b F s bm S W' :=
  ⟨H.below h.st hb, h.map.keep hb h.map.lt, h.keeps.and (Keeps.of_below hb _)⟩
theorem GSt8.turn (H : StoreC StAt) (h : GSt8 StAt w b F s bm S W) (hF : ∀ k, F k → ¬ k = bm) (hM : ISet W' bm S') (hk : Keeps (fun k => k = bm) W W') : GSt8 StAt w b F s bm S' W' :=
  ⟨H.keep h.st hk hF, hM, h.keeps.and hk⟩
end

set_option maxRecDepth 100000 in
set_option maxHeartbeats 2000000 in
theorem readGather {StAt : World → Nat → (Nat → Prop) → MS → Prop} (H : StoreC StAt) {b : Nat} {F : Nat → Prop} {s : MS} (ok : s.Ok) {bm : Nat} (hF : ∀ k, F k → ¬ k = bm) (k : Nat) : ∀ (n : Int) (S : List Int) (w : World), s.dep n < k → In64 n → StAt w b F s → ISet w bm S → S.Nodup → (∀ m ∈ S, s.has m = true) →
    Calls Tryz.prog 113 #[.map (some bm), .pointer (some ⟨b, 0, none⟩), .int .i64 n] w fun e w' => e = .returned (.tuple #[]) ∧ ∃ T, GthP s n S T ∧ GSt8 StAt w b F s bm (S ++ T) w' := by
  induction k with
  | zero => intro n S w h; omega
  | succ k ih =>
    intro n S w hk hn h hM hS hSh
    have HN := H.node h ok n hn
    have G0 : GSt8 StAt w b F s bm S w := ⟨h, hM, Keeps.refl _ _⟩
    have hlen := met_few ok.toBase hS hSh
    have hbw : bm < w.heap.size := hM.lt
    have hnx : s.has n = true → In64 (s.nd n).lo ∧ In64 (s.nd n).hi ∧ s.dep (s.nd n).lo < s.dep n ∧ s.dep (s.nd n).hi < s.dep n := fun hh => by
      have b1 := ok.toBase.behind_le (ok.lo n hh)
      have b2 := ok.toBase.behind_le (ok.hi n hh)
      exact ⟨⟨by omega, by omega⟩, ⟨by omega, by omega⟩, ok.dep_behind hh (ok.lo n hh), ok.dep_behind hh (ok.hi n hh)⟩
    have HG := fun (T1 T2 : List Int) hh hna => GthP.node (s := s) ok (n := n) (S := S) (T1 := T1) (T2 := T2) hh hna
    have hnone := fun hh => GthP.none (s := s) (n := n) hS hh
    clear h hM
    simp only [nodeV, nv] at HN
    go_enter Tryz.func113, Tryz.ntmps113
    cases hh : s.has n
    · simp only [hh, Bool.false_eq_true, if_false] at HN
      go_wp2_with fail
      refine HN.mono ?_
      rintro e w1 ⟨rfl, hb1⟩
      have G := (G0.keep H hb1).keep H ((Below.refl w1.heap.size w1).alloc (Nat.le_refl _) (.cells #[.int .i64 0, .int .i64 0, .int .i64 0] 78))
      have hR := hnone (fun e => by rw [hh] at e; cases e)
      clear HN G0 hb1 hnx HG ih hnone
      go_wp2
      exact bodyPost_ret (v := .tuple #[]) (by simp [results, Tryz.results113, go_sem]) rfl ⟨rfl, [], hR, by rw [List.append_nil]; exact G⟩
    · simp only [hh, if_true] at HN
      obtain ⟨l1, l2, d1, d2⟩ := hnx hh
      replace HG := fun (T1 T2 : List Int) => HG T1 T2 hh
      clear hnx
      generalize hx : s.nd n = x at *
      obtain ⟨x0, x1, x2⟩ := x
      dsimp only at *
      go_wp2_with fail
      refine HN.mono ?_
      rintro e w1 ⟨rfl, hb1⟩
      have hX := HoldsN.new w1 ⟨x0, x1, x2⟩
      have G := (G0.keep H hb1).keep H ((Below.refl w1.heap.size w1).alloc (Nat.le_refl _) (.cells #[.int .i64 x0, .int .i64 x1, .int .i64 x2] 78))
      dsimp only at hX
      have hlook := G.map.look n hn
      have hbX : ¬ w1.heap.size = bm := by have := hb1.size; omega
      clear HN G0 hb1
      by_cases hin : n ∈ S
      · rw [decide_eq_true hin] at hlook
        have hR := hnone (fun _ => hin)
        clear HG ih hnone
        go_wp2
        exact bodyPost_ret (v := .tuple #[]) (by simp [results, Tryz.results113, go_sem]) rfl ⟨rfl, [], hR, by rw [List.append_nil]; exact G⟩
      · rw [decide_eq_false hin] at hlook
        replace HG := Lib.hid fun (T1 T2 : List Int) => HG T1 T2 hin
        have hn2 : (S ++ [n]).Nodup := List.nodup_append.2 ⟨hS, by simp, fun a ha b hb => by simp at hb; subst hb; exact fun e => hin (e ▸ ha)⟩
        have hS2 : ∀ m ∈ S ++ [n], s.has m = true := fun m hm => by
          rcases List.mem_append.1 hm with hm | hm
          · exact hSh m hm
          · rw [List.mem_singleton.1 hm]; exact hh
        have hML : S.length < maxLen := by unfold maxLen; omega
        have hM1 := G.map
        replace G := Lib.hid G
        clear hnone
        go_wp2_with (at_mapUpdate; refine ISet.put hM1 hML rfl (.tmp 21) (.tmp 22) (.const (.bool true)) rfl n hn hin rfl rfl rfl ?_; intro w2 hM2 hgr2; replace hX := hX.keep (Keeps.of_grown (F := fun k => k = bm) hgr2 (fun k e => (Option.some.inj e).symm)) hbX; replace G := Lib.hid (G.out.turn H hF hM2 (Keeps.of_grown hgr2 (fun k e => (Option.some.inj e).symm))); clear hM2 hgr2 hM1 hlook; have e1 := hX.cells.2.1)
        refine (ih _ _ _ (by omega) l1 G.out.st G.out.map hn2 hS2).mono ?_
        rintro e w3 ⟨rfl, T1, P1, G1⟩
        replace hX := hX.keep G1.keeps hbX
        replace G := Lib.hid (G.out.turn H hF G1.map G1.keeps)
        have hS3 : ∀ m ∈ S ++ [n] ++ T1, s.has m = true := fun m hm => by
          rcases List.mem_append.1 hm with hm | hm
          · exact hS2 m hm
          · exact (P1.rch m hm).1.has
        have hn3 := P1.nodup
        have H1 := Lib.hid P1
        have e2 := hX.cells.2.2
        clear P1 G1 e1
        go_wp2_with fail
        refine (ih _ _ _ (by omega) l2 G.out.st G.out.map hn3 hS3).mono ?_
        rintro e w4 ⟨rfl, T2, P2, G2⟩
        replace G := Lib.hid (G.out.turn H hF G2.map G2.keeps)
        have H2 := Lib.hid P2
        clear P2 G2 e2 ih
        go_wp2
        exact bodyPost_end (v := .tuple #[]) (by simp [results, Tryz.results113, go_sem]) rfl ⟨rfl, [n] ++ T1 ++ T2, HG.out T1 T2 H1.out H2.out, by rw [show S ++ ([n] ++ T1 ++ T2) = S ++ [n] ++ T1 ++ T2 by simp]; exact G.out⟩

theorem encI_all (l : List Int) : encI.all l = l.map encZ := by
  induction l with
  | nil => rfl
  | cons a l ih => exact congrArg (Value.int .i64 a :: ·) ih
theorem wrel_of {w w1 w' : World} {v : Value} {l : List Int} {n : Nat} (hrow : w'.ownsRow w1.heap.size 3 1 v n (l.map encZ)) (hn : n = l.length) (h1 : w.heap.size ≤ w1.heap.size) (hb : Below w.heap.size w w') : WRel w l v w' := by
  subst hn
  refine ⟨?_, fun g hg => Nat.le_trans h1 (World.ownsRow.lt hrow g hg).1, hb⟩
  unfold Owns
  rw [encI_all]
  exact ⟨hrow.1, hrow.2.elim Or.inl (fun ⟨g, cap, cur, hv, _, r⟩ => Or.inr ⟨g, cap, cur, hv, Nat.zero_le _, r⟩)⟩

set_option maxRecDepth 100000 in
set_option maxHeartbeats 2000000 in
theorem readReach {StAt : World → Nat → (Nat → Prop) → MS → Prop} (H : StoreC StAt) {b : Nat} {F : Nat → Prop} {s : MS} {w : World} (h : StAt w b F s) (ok : s.Ok) (roots : List Int) (v : Value) (hv : Reads encI w v roots) (hl : roots.length ≤ 100000) (hr : ∀ r ∈ roots, r ≤ 9223372036854775807 ∧ -9223372036854775808 ≤ r) :
    Calls Tryz.prog 90 #[.pointer (some ⟨b, 0, none⟩), v] w fun e w' => ∃ v', e = .returned v' ∧ WRel w (s.reach roots) v' w' := by
  have hmm := @run_makeMap Tryz.prog
  have hF : ∀ k, F k → ¬ k = w.heap.size := fun k hk => by have := H.lt h k hk; omega
  have hbw : ∀ W, Keeps (fun k => k = w.heap.size) (w.alloc (.map #[] 0)) W → Below w.heap.size w W := fun W hk => ((Below.refl w.heap.size w).alloc (Nat.le_refl _) (.map #[] 0)).trans (hk.below (by simp) (fun k e => by omega))
  have G0 : GSt8 StAt (w.alloc (.map #[] 0)) b F s w.heap.size [] (w.alloc (.map #[] 0)) := ⟨H.below h ((Below.refl w.heap.size w).alloc (Nat.le_refl _) _), ISet.made w, Keeps.refl _ _⟩
  have hC := fun (i : Nat) (S : List Int) (ss : List Int) (hI : RchI s roots i S) (hi : roots.length ≤ i) => RchI.sorted ok.toBase (ss := ss) hI hi
  clear h
  obtain ⟨a, cap, rfl⟩ := hv.form
  replace hv := Lib.hid hv
  go_enter Tryz.func90, Tryz.ntmps90
  go_wp2
  clear hmm
  go_loopw [11] (fun i wr => ∃ (n : Nat) (S : List Int), n ≤ roots.length ∧ i = .int .i64 n ∧ RchI s roots n S ∧ GSt8 StAt (w.alloc (.map #[] 0)) b F s w.heap.size S wr) (fun i _ => roots.length - (intOf i).toNat)
  case atStart => exact ⟨0, [], Nat.zero_le _, rfl, RchI.start s roots, G0⟩
  case round =>
    clear G0
    obtain ⟨n, S, hnl, rfl, hI, G⟩ := hrel
    by_cases hlt : n < roots.length
    · have hk0 : (0 : Int) ≤ (n : Int) := by omega
      have hk1 : (n : Int) < (roots.length : Int) := by omega
      obtain ⟨ad, rfl, hc⟩ := (hv.out.keep (hbw _ G.keeps)).intAt n hlt
      have hn64 := hr _ (List.getElem_mem hlt)
      have hGa := readGather H ok hF (s.dep roots[n] + 1) roots[n] S wr (by omega) hn64 G.st G.map hI.nodup (fun m hm => (hI.rch m hm).has)
      have hst := fun T => hI.step (T := T) hlt
      replace G := Lib.hid G
      replace hI := Lib.hid hI
      replace hst := Lib.hid hst
      clear hC
      generalize roots[n] = r at *
      go_wp2_with fail
      refine hGa.mono ?_
      rintro e w1 ⟨rfl, T, P, G1⟩
      have hI1 := hst.out T P
      have G2 := G.out.turn H hF G1.map G1.keeps
      clear hGa P G1 G hI hst hc
      go_wp2
      exact ⟨⟨n + 1, S ++ T, by omega, by go_num, hI1, G2⟩, by simp [intOf]; omega⟩
    · obtain rfl : n = roots.length := by omega
      have hlen := met_few ok.toBase hI.nodup (fun m hm => (hI.rch m hm).has)
      obtain ⟨D, ho, hsz, hp⟩ := G.map.owns hI.nodup
      have hSo := goSorted _ _ D _ wr ho (by rw [hsz]; unfold maxLen; omega) (by rw [hsz]; omega)
      have hsrt := fun ss hss => hC _ S ss hI (Nat.le_refl _) (hss : ss.Perm S)
      replace hsrt := Lib.hid hsrt
      have hKe := goKeys (some w.heap.size) wr
      have hB := hbw _ G.keeps
      have hb1 := (Below.refl wr.heap.size wr).alloc (Nat.le_refl _) (.cells #[.map (some w.heap.size)] 144)
      replace hp := Lib.hid hp
      clear hC hI G hv ho hbw
      go_wp2_with fail
      refine hKe.mono ?_
      rintro e w1 ⟨rfl, rfl⟩
      clear hKe
      generalize wr.alloc (.cells #[.map (some w.heap.size)] 144) = w1 at *
      go_wp2_with fail
      refine hSo.mono ?_
      rintro e w2 ⟨v2, ss, rfl, hS, hrow, hb2⟩
      rw [hsrt.out ss (hS.trans hp.out.symm)] at hrow
      have hn : ss.length = (s.reach roots).length := by rw [← hsrt.out ss (hS.trans hp.out.symm), List.length_mergeSort]
      clear hSo
      go_wp2
      go_ret
      exact ⟨v2, rfl, wrel_of hrow hn (Nat.le_trans hB.size hb1.size) (hB.trans ((hb1.trans (hb2.mono hb1.size)).mono hB.size))⟩

end Go.Proofs.YtdcomiopjgcboaaGreatDoor

/-
  The code's package read keeps its contracts.
-/
namespace Go.Proofs.YtdcomiopjgcboaaGreatDoor
open Go Go.RowKit

theorem readC {StAt : World → Nat → (Nat → Prop) → MS → Prop} (H : StoreC StAt) : ReadC StAt where
  table hL h ok n hn := readTable H ok 8 n _ hL h (ok.dep_le n) hn
  reach h ok roots v hv hl hr := readReach H h ok roots v hv hl hr
  build hL hlow h ok f := readBuild H 8 _ f _ _ hL hlow h ok (supN_8 f)

end Go.Proofs.YtdcomiopjgcboaaGreatDoor

/-
  The library's contracts of slices.BinarySearch at numbers, laid over this program: a table of numbers, and one theorem.
-/
namespace Go.Proofs
open Go.Shelf
def Tryz.searchA_ren : Go.Shelf.Ren := ⟨fun | 25 => 91 | 31 => 116 | 32 => 117 | 37 => 127 | n => n, fun | 22 => 23 | 3 => 3 | 4 => 4 | 40 => 138 | 0 => 0 | n => n, fun | n => n⟩
theorem Tryz.searchA : Go.Proofs.Lays2.n25 Tryz.prog Tryz.searchA_ren := {
  mixed := by kernel_rfl
  f25 := Tryz.func91.trans (congrArg some (by kernel_rfl))
  f31 := Tryz.func116.trans (congrArg some (by kernel_rfl))
  f32 := Tryz.func117.trans (congrArg some (by kernel_rfl))
  f37 := Tryz.func127.trans (congrArg some (by kernel_rfl))
  t0 := Tryz.underlying0
  a0 := Tryz.isAgg0
  z0 := Tryz.sizeOf0
  v0 := Tryz.zeroValue0
  t3 := Tryz.underlying3
  a3 := Tryz.isAgg3
  z3 := Tryz.sizeOf3
  v3 := Tryz.zeroValue3
  t4 := Tryz.underlying4
  a4 := Tryz.isAgg4
  z4 := Tryz.sizeOf4
  v4 := Tryz.zeroValue4
  t22 := Tryz.underlying23
  a22 := Tryz.isAgg23
  z22 := Tryz.sizeOf23
  v22 := Tryz.zeroValue23
  t40 := Tryz.underlying138
  a40 := Tryz.isAgg138
  z40 := Tryz.sizeOf138
  v40 := Tryz.zeroValue138 }
end Go.Proofs

/-
  The code's package sweep walked, over contracts of its store and of package read.
-/
namespace Go.Proofs.YtdcomiopjgcboaaGreatDoor
open Go Go.RowKit Go.Shelf

theorem numsTo_sorted (k : Nat) : (numsTo k).Pairwise (· ≤ ·) := by
  unfold numsTo
  rw [List.pairwise_map]
  exact List.pairwise_lt_range.imp fun h => by omega
theorem MS.all_sorted (s : MS) : s.all.Pairwise (· ≤ ·) := (numsTo_sorted s.N.length).filter _
open Classical in
theorem MS.reach_len (s : MS) (roots : List Int) : (s.reach roots).length ≤ s.all.length := List.length_filter_le _ _
theorem MS.Base.all_few {s : MS} (ok : s.Base) : s.all.length ≤ 20000 := Nat.le_trans (numsTo_filter_length s.has s.N.length) ok.few
theorem idx_o (o : Nat → Int) (n : Nat) (hn : n < 8) (w : World) : (Instr.index 49 (.agg #[.int .i64 (o 0), .int .i64 (o 1), .int .i64 (o 2), .int .i64 (o 3), .int .i64 (o 4), .int .i64 (o 5), .int .i64 (o 6), .int .i64 (o 7)]) (.int .i64 (n : Int))).run Tryz.prog w = .ok (.int .i64 (o n)) w := by
  rcases (by omega : n = 0 ∨ n = 1 ∨ n = 2 ∨ n = 3 ∨ n = 4 ∨ n = 5 ∨ n = 6 ∨ n = 7) with rfl | rfl | rfl | rfl | rfl | rfl | rfl | rfl <;> kernel_rfl

open Classical in
theorem MS.reach_rises (s : MS) (roots : List Int) : (s.reach roots).Pairwise (· ≤ ·) := s.all_sorted.filter _
/-- Of package read what package sweep calls. -/
structure ReachC (StAt : World → Nat → (Nat → Prop) → MS → Prop) : Prop where ofAll ::
  reach : ∀ {w b F s}, StAt w b F s → s.Ok → ∀ (roots : List Int) (v : Value), Reads encI w v roots → roots.length ≤ 100000 → (∀ r ∈ roots, r ≤ 9223372036854775807 ∧ -9223372036854775808 ≤ r) → Calls Tryz.prog 90 #[.pointer (some ⟨b, 0, none⟩), v] w fun e w' => ∃ v', e = .returned v' ∧ WRel w (s.reach roots) v' w'

/-- slices.BinarySearch of somebody's own numbers that rise. -/
theorem searchI {w : World} {v : Value} {l : List Int} (h : Owns encI w v l) (hs : l.Pairwise (· ≤ ·)) (hl : l.length ≤ 1000000) (x : Int) :
    Calls Tryz.prog 91 #[v, .int .i64 x] w fun e w' => ∃ p : Int, e = .returned (.tuple #[.int .i64 p, .bool (decide (x ∈ l))]) ∧ Below w.heap.size w w' := by
  obtain ⟨a, cap, rfl, h1, h2, h3, H⟩ := h.form
  cases a with
  | none =>
    have hc := h3 rfl
    obtain rfl : l = [] := List.eq_nil_of_length_eq_zero (by omega)
    have C := Any.slices_BinarySearch_int_empty Tryz.searchA none cap x w
    change Calls Tryz.prog 91 _ _ _ at C
    refine C.mono ?_
    rintro e w' ⟨rfl, rfl⟩
    exact ⟨0, by simp, Below.refl _ _⟩
  | some ad =>
    obtain ⟨g, rfl, _⟩ := H ad rfl
    have C := Any.slices_BinarySearch_int Tryz.searchA g 0 l.length cap l x w (Nat.le_refl _) (by omega) (fun j hj => by
      rw [Nat.zero_add, h.intAt j hj, List.getD, List.getElem?_eq_getElem hj, Option.getD_some]) (by rw [List.take_length]; exact hs)
    change Calls Tryz.prog 91 _ _ _ at C
    refine C.mono ?_
    rintro e w' ⟨rfl, q, rfl⟩
    rw [List.take_length]
    exact ⟨_, by rw [List.contains_eq_mem], ⟨rfl, rfl, rfl, Nat.le_refl _, fun _ _ => rfl⟩⟩

section
variable {StAt : World → Nat → (Nat → Prop) → MS → Prop} {w : World} {b : Nat} {F : Nat → Prop} {s : MS}

set_option maxRecDepth 100000 in
set_option maxHeartbeats 4000000 in
theorem sweepUnreached (H : StoreC StAt) (R : ReachC StAt) (h : StAt w b F s) (ok : s.Ok) (roots : List Int) (v : Value) (hv : Reads encI w v roots) (hl : roots.length ≤ 100000) (hr : ∀ r ∈ roots, r ≤ 9223372036854775807 ∧ -9223372036854775808 ≤ r) :
    Calls Tryz.prog 54 #[.pointer (some ⟨b, 0, none⟩), v] w fun e w' => ∃ (A : Nat → Option Addr) (C N : Nat → Nat), e = .returned (iv8 fun k => .slice (A k) (N k) (C k)) ∧ (∀ k, k < 8 → N k = (s.idle (s.reach roots) k).length ∧ Owns encI w' (.slice (A k) (N k) (C k)) (s.idle (s.reach roots) k) ∧ ∀ g, (Value.slice (A k) (N k) (C k)).ownBlock = some g → w.heap.size ≤ g) ∧ Below w.heap.size w w' := by
  have hFl := H.lt h
  have hX := HoldsI.new w (fun _ => .slice none 0 0)
  have hb1 : Below w.heap.size w (w.alloc (.cells #[.slice none 0 0, .slice none 0 0, .slice none 0 0, .slice none 0 0, .slice none 0 0, .slice none 0 0, .slice none 0 0, .slice none 0 0] 100)) := (Below.refl _ _).alloc (Nat.le_refl _) _
  replace h := H.below h hb1
  replace hv := hv.keep hb1
  have HR := R.reach h ok roots v hv hl hr
  clear hv hl hr
  have hKs := s.reach_rises roots
  have hKl : (s.reach roots).length ≤ 1000000 := by
    have h1 := s.reach_len roots
    have h2 := ok.toBase.all_few
    omega
  generalize s.reach roots = K at *
  go_enter Tryz.func54, Tryz.ntmps54
  go_wp2_with fail
  generalize w.alloc (.cells #[.slice none 0 0, .slice none 0 0, .slice none 0 0, .slice none 0 0, .slice none 0 0, .slice none 0 0, .slice none 0 0, .slice none 0 0] 100) = w1 at *
  refine HR.mono ?_
  rintro e w2 ⟨vR, rfl, RR⟩
  have hb2 : Below w.heap.size w w2 := hb1.trans (RR.below.mono hb1.size)
  replace hX := hX.below RR.below
  have hXlt := hX.lt
  replace h := H.below h RR.below
  have hK := RR.own
  have hKlt := hK.lt
  clear HR RR hb1
  have hI := HoldsI.new w2 (fun _ => .slice none 0 0)
  have hb3 : Below w2.heap.size w2 (w2.alloc (.cells #[.slice none 0 0, .slice none 0 0, .slice none 0 0, .slice none 0 0, .slice none 0 0, .slice none 0 0, .slice none 0 0, .slice none 0 0] 100)) := (Below.refl _ _).alloc (Nat.le_refl _) _
  have e3 : (w2.alloc (.cells #[.slice none 0 0, .slice none 0 0, .slice none 0 0, .slice none 0 0, .slice none 0 0, .slice none 0 0, .slice none 0 0, .slice none 0 0] 100)).heap.size = w2.heap.size + 1 := by simp only [World.alloc, Array.size_push]
  replace hX := hX.below hb3
  replace h := H.below h hb3
  replace hK := hK.block (w' := (w2.alloc (.cells #[.slice none 0 0, .slice none 0 0, .slice none 0 0, .slice none 0 0, .slice none 0 0, .slice none 0 0, .slice none 0 0, .slice none 0 0] 100))) fun g hg => hb3.block g (hKlt g hg)
  have HA := H.all h ok
  have hbI := hb2.size
  have hXI : ¬ w.heap.size = w2.heap.size := by have := hXlt; omega
  replace hb2 := hb2.trans (hb3.mono hb2.size)
  clear hb3
  go_wp2_with fail
  generalize w2.alloc (.cells #[.slice none 0 0, .slice none 0 0, .slice none 0 0, .slice none 0 0, .slice none 0 0, .slice none 0 0, .slice none 0 0, .slice none 0 0] 100) = w3 at *
  refine HA.mono ?_
  rintro e w4 ⟨vA, rfl, RA⟩
  generalize w2.heap.size = bI at *
  have hA := RA.own
  have hAn : ∀ g, vA.ownBlock = some g → bI < g := fun g hg => by have := RA.new g hg; omega
  have hbA := RA.below
  replace hX := hX.below hbA
  replace h := H.below h hbA
  replace hK := hK.block (w' := w4) fun g hg => hbA.block g (by have := hKlt g hg; omega)
  replace hI := Idle.start (hI.below hbA)
  replace hb2 := hb2.trans (hbA.mono hb2.size)
  have hsz := hbA.size
  have hFI : ∀ q, F q → ¬ q = bI := fun q hq => by have := hFl q hq; omega
  obtain ⟨aA, cA, rfl⟩ := hA.reads.form
  have hall := fun n => (ok.toBase.mem_all (n := n)).1
  have hfew := ok.toBase.all_few
  clear HA RA hbA e3
  replace h := Lib.hid h
  replace hK := Lib.hid hK
  replace hA := Lib.hid hA
  replace hI := Lib.hid hI
  replace hX := Lib.hid hX
  go_wp2
  go_loopw [19] (fun i wr => ∃ (k : Nat) (V : Nat → Value), k ≤ s.all.length ∧ i = .int .i64 k ∧ Idle wr w4.heap.size bI V (fun x => (s.all.take k).filter (s.out K x)) ∧ Keeps (fun g => g = bI) w4 wr) (fun i _ => s.all.length - (intOf i).toNat)
  case atStart => exact ⟨0, _, Nat.zero_le _, rfl, hI.out.congr fun k _ => by simp, Keeps.refl _ _⟩
  case round =>
    clear hI
    obtain ⟨k, V, hk, rfl, hI, hKe⟩ := hrel
    by_cases hlt : k < s.all.length
    · have hA1 := hA.out.keep hKe (fun g hg e => by have := hAn g hg; omega)
      have hK1 := hK.out.keep hKe (fun g hg e => by have := hKlt g hg; omega)
      have hst := H.keep h.out hKe hFI
      obtain ⟨ad, rfl, hc⟩ := hA1.reads.intAt k hlt
      have htk : s.all.take (k + 1) = s.all.take k ++ [s.all[k]] := List.take_succ_eq_append_getElem hlt
      have hh := hall _ (List.getElem_mem hlt)
      have hrg := ok.toBase.has_le hh
      have hk0 : (0 : Int) ≤ (k : Int) := by omega
      have hk1 : (k : Int) < (s.all.length : Int) := by omega
      generalize s.all[k] = n at *
      have HS := searchI hK1 hKs hKl n
      clear hA1 hK1
      replace hKe := Lib.hid hKe
      by_cases hin : n ∈ K
      · rw [decide_eq_true hin] at HS
        replace hI := Lib.hid (hI.congr (M := fun x => (s.all.take (k + 1)).filter (s.out K x)) fun x _ => by
          have : s.out K x n = false := decide_eq_false fun q => q.2 hin
          simp only [htk, List.filter_append, List.filter_cons, List.filter_nil, this]; simp)
        clear hst htk
        go_wp2_with fail
        refine HS.mono ?_
        rintro e w5 ⟨p, rfl, hb5⟩
        replace hI := Lib.hid (hI.out.keep hb5)
        replace hKe := Lib.hid (hKe.out.and (Keeps.of_below hb5 _))
        clear HS hb5 hc
        go_wp2
        exact ⟨⟨k + 1, V, by omega, by go_num, hI.out, hKe.out⟩, by simp [intOf]; omega⟩
      · rw [decide_eq_false hin] at HS
        have hvar := ok.var n hh
        obtain ⟨X, hXv⟩ := Int.eq_ofNat_of_zero_le hvar.1
        have hX8 : X < 8 := by omega
        have hpick : ∀ x, x < 8 → putV (fun x => (s.all.take k).filter (s.out K x)) X ((s.all.take k).filter (s.out K X) ++ [n]) x = (s.all.take (k + 1)).filter (s.out K x) := fun x hx => by
          by_cases e : x = X
          · subst e
            have : s.out K x n = true := decide_eq_true ⟨hXv, hin⟩
            simp only [putV, if_true, htk, List.filter_append, List.filter_cons, List.filter_nil, this]
          · have : s.out K x n = false := decide_eq_false fun q => by have := q.1; omega
            simp only [putV, if_neg e, htk, List.filter_append, List.filter_cons, List.filter_nil, this]; simp
        have hln : ((s.all.take k).filter (s.out K X)).length + [n].length ≤ 1000000 := by
          have := List.length_filter_le (s.out K X) (s.all.take k)
          have := List.length_take_le k s.all
          simp only [List.length_cons, List.length_nil]; omega
        replace hI := Lib.hid hI
        replace hpick := Lib.hid hpick
        replace hh := Lib.hid hh
        clear htk hvar
        go_wp2_with fail
        refine HS.mono ?_
        rintro e w5 ⟨p, rfl, hb5⟩
        replace hI := Lib.hid (hI.out.keep hb5)
        replace hKe := Lib.hid (hKe.out.and (Keeps.of_below hb5 _))
        have HN := H.node (H.below hst hb5) ok n ⟨by omega, by omega⟩
        simp only [nodeV, nv, hh.out, if_true, hXv] at HN
        generalize (s.nd n).lo = y1 at *
        generalize (s.nd n).hi = y2 at *
        clear HS hb5 hc hst
        go_wp2_with fail
        refine HN.mono ?_
        rintro e w6 ⟨rfl, hb6⟩
        replace hI := Lib.hid (hI.out.keep hb6)
        replace hKe := Lib.hid (hKe.out.and (Keeps.of_below hb6 _))
        have hVlt : ∀ g, (V X).ownBlock = some g → w6.heap.size ≠ g := fun g hg => by have := (hI.out.own X hX8).lt g hg; omega
        have hxN := HoldsN.new w6 ⟨X, y1, y2⟩
        have hb7 : Below w6.heap.size w6 (w6.alloc (.cells #[.int .i64 X, .int .i64 y1, .int .i64 y2] 78)) := (Below.refl _ _).alloc (Nat.le_refl _) _
        dsimp only at hxN
        replace hI := Lib.hid (hI.out.keep hb7)
        replace hKe := Lib.hid (hKe.out.and (Keeps.of_below hb7 _))
        clear HN hb6 hb7
        go_wp2
        generalize w6.alloc (.cells #[.int .i64 X, .int .i64 y1, .int .i64 y2] 78) = W6 at *
        have hwA : Below W6.heap.size W6 ((W6.alloc (.cells #[.int .i64 n] 3)).drew) := by go_grown
        have hIA := Lib.hid (hI.out.keep hwA)
        have hKA := Lib.hid (hKe.out.and (Keeps.of_below hwA _))
        have x0 := hxN.cells.1
        have hxA := hxN.below hwA
        have x0A := hxA.cells.1
        replace hxA := Lib.hid hxA
        have c1 := hI.out.holds.cell X hX8
        have c1A := hIA.out.holds.cell X hX8
        have hsrc : Reads encI ((W6.alloc (.cells #[.int .i64 n] 3)).drew) (.slice (some ⟨W6.heap.size, 0, none⟩) 1 1) [n] := Reads.one encI W6 n _ rfl _ rfl
        have hX0 : (0 : Int) ≤ (X : Int) := by omega
        have hX9 : (X : Int) < 8 := by omega
        obtain ⟨aX, cX, eX, _⟩ := (hIA.out.own X hX8).form
        rw [eX] at c1 c1A
        dsimp only at x0 x0A
        clear hxN hI hKe
        go_region_law (refine step_append_owns encI rfl (.tmp 41) (.tmp 43) rfl _ _ ((s.all.take k).filter (s.out K X)) [n] rfl (eX ▸ hIA.out.own X hX8) rfl hsrc (Nat.succ_pos _) hln ?_; intro v' w8 hown hgr hat; have hP := Lib.hid (hIA.out.push hX8 hown (eX ▸ hgr) (eX ▸ hat)); have hKP := Lib.hid (hIA.out.pushKeeps (v := v') hX8 (eX ▸ hgr) hKA.out (Nat.le_refl _)); have q1 := (hIA.out.pushCell hX8 (eX ▸ hgr)).1; have q2 := (hIA.out.pushCell hX8 (eX ▸ hgr)).2; rw [eX] at q1; have x0B := (show HoldsN w8 w6.heap.size ⟨X, y1, y2⟩ from (hgr.block _ hxA.out.lt (fun e => hVlt _ (eX ▸ e.symm) rfl)).trans hxA.out).cells.1; dsimp only at x0B; obtain ⟨a9, c9, e9, _⟩ := hown.form; subst e9)
        all_goals
          have hP2 := hP.out
          have hKP2 := hKP.out
          rw [List.length_append, List.length_singleton] at hP2 hKP2
          clear hP hKP hown hgr hat q1 q2 x0B hsrc hIA hKA hxA x0 x0A c1 c1A hwA
          generalize w8.setCell ⟨bI, X, none⟩ (.slice a9 (((s.all.take k).filter (s.out K X)).length + 1) c9) = W9 at *
          go_wp2
          exact ⟨⟨k + 1, _, by omega, by go_num, hP2.congr hpick.out, hKP2⟩, by simp [intOf]; omega⟩
    · obtain rfl : k = s.all.length := by omega
      rw [List.take_length] at hI
      replace hI : Idle wr w4.heap.size bI V (fun x => s.idle K x) := hI
      obtain ⟨A, C, hI⟩ := hI.form
      have hX1 := hX.out.keep hKe hXI
      have hfin : ∀ W, HoldsI W w.heap.size (fun k => .slice (A k) (s.idle K (k : Nat)).length (C k)) → Keeps (fun g => g = w.heap.size) wr W → (∀ k, k < 8 → Owns encI W (.slice (A k) (s.idle K (k : Nat)).length (C k)) (s.idle K (k : Nat)) ∧ ∀ g, (Value.slice (A k) (s.idle K (k : Nat)).length (C k)).ownBlock = some g → w.heap.size ≤ g) ∧ Below w.heap.size w W := fun W _ hKR => by
        have hs1 := hI.ahead
        refine ⟨fun k hk => ⟨(hI.own k hk).keep hKR fun g hg e => ?_, fun g hg => ?_⟩, ?_⟩
        · have := hI.low k hk g hg; omega
        · have := hI.low k hk g hg; omega
        · exact (hb2.trans (hKe.below (by omega) (fun q e => by omega))).trans (hKR.below (by have := hKe.size; omega) (fun q e => by omega))
      have hH := hI.holds
      clear hI
      replace hfin := Lib.hid hfin
      generalize hN : (fun k : Nat => (s.idle K (k : Int)).length) = N at *
      replace hH : HoldsI wr bI (fun k => .slice (A k) (N k) (C k)) := by subst hN; exact hH
      have i0 := hH.cell 0 (by decide)
      have i1 := hH.cell 1 (by decide)
      have i2 := hH.cell 2 (by decide)
      have i3 := hH.cell 3 (by decide)
      have i4 := hH.cell 4 (by decide)
      have i5 := hH.cell 5 (by decide)
      have i6 := hH.cell 6 (by decide)
      have i7 := hH.cell 7 (by decide)
      have y0 := hX1.cell 0 (by decide)
      have y1 := hX1.cell 1 (by decide)
      have y2 := hX1.cell 2 (by decide)
      have y3 := hX1.cell 3 (by decide)
      have y4 := hX1.cell 4 (by decide)
      have y5 := hX1.cell 5 (by decide)
      have y6 := hX1.cell 6 (by decide)
      have y7 := hX1.cell 7 (by decide)
      have z0 := hX1.free 0
      have z1 := hX1.free 1
      have z2 := hX1.free 2
      have z3 := hX1.free 3
      have z4 := hX1.free 4
      have z5 := hX1.free 5
      have z6 := hX1.free 6
      have z7 := hX1.free 7
      have hR := Lib.hid (hX1.set8 (fun k => .slice (A k) (N k) (C k)))
      have hKR := Lib.hid (keeps_set8 (b := w.heap.size) (w := wr) (x0 := .slice (A 0) (N 0) (C 0)) (x1 := .slice (A 1) (N 1) (C 1)) (x2 := .slice (A 2) (N 2) (C 2)) (x3 := .slice (A 3) (N 3) (C 3)) (x4 := .slice (A 4) (N 4) (C 4)) (x5 := .slice (A 5) (N 5) (C 5)) (x6 := .slice (A 6) (N 6) (C 6)) (x7 := .slice (A 7) (N 7) (C 7)))
      replace hKe := Lib.hid hKe
      clear hX1 hall hH
      subst hN
      go_wp2
      obtain ⟨r1, r2⟩ := hfin.out _ hR.out hKR.out
      exact bodyPost_ret (ret_holdsI Tryz.results54 rfl hR.out) rfl ⟨A, C, fun k => (s.idle K (k : Nat)).length, rfl, fun k hk => ⟨rfl, r1 k hk⟩, r2⟩
end

end Go.Proofs.YtdcomiopjgcboaaGreatDoor

/-
  The landed Sweep walked, over contracts of its store and of package read.
-/
namespace Go.Proofs.YtdcomiopjgcboaaGreatDoor
open Go Go.RowKit

section
variable {StAt : World → Nat → (Nat → Prop) → MS → Prop} {w : World} {b : Nat} {F : Nat → Prop} {s : MS}

/-- Within Sweep. -/
structure SwSt (StAt : World → Nat → (Nat → Prop) → MS → Prop) (w : World) (b : Nat) (F : Nat → Prop) (V : Nat → Value) (L : Nat → List Int) (bI : Nat) (t : MS) (F' : Nat → Prop) (W : World) : Prop where
  st : StAt W b F' t
  keeps : Keeps F w W
  within : Within w F F'
  holds : HoldsI W bI V
  out : ¬ F' bI
  idle : ∀ k, k < 8 → RootsAt W F' (V k) (L k)
theorem SwSt.keep {V : Nat → Value} {L : Nat → List Int} {bI : Nat} {t : MS} {F' : Nat → Prop} {W W' : World} (H : StoreC StAt) (h : SwSt StAt w b F V L bI t F' W) (hb : Below W.heap.size W W') : SwSt StAt w b F V L bI t F' W' :=
  ⟨H.below h.st hb, h.keeps.and (Keeps.of_below hb _), h.within, h.holds.below hb, h.out, fun k hk => (h.idle k hk).below hb⟩
theorem SwSt.step {V : Nat → Value} {L : Nat → List Int} {bI : Nat} {t t' : MS} {F' F'' : Nat → Prop} {W W' : World} (h : SwSt StAt w b F V L bI t F' W) (hA : StAt W' b F'' t') (hK : Keeps F' W W') (hW : Within W F' F'') : SwSt StAt w b F V L bI t' F'' W' :=
  ⟨hA, h.keeps.trans hK h.within, h.within.trans hW h.keeps.size, h.holds.keep hK h.out, fun q => (hW _ q).elim h.out (fun q => by have := h.holds.lt; omega), fun k hk => (h.idle k hk).keep hK hW⟩

set_option maxRecDepth 100000 in
set_option maxHeartbeats 4000000 in
theorem sweepSweep (H : StoreC StAt) (R : ReachC StAt) (h : StAt w b F s) (ok : s.Ok) (roots : List Int) (v : Value) (hv : RootsAt w F v roots) (hl : roots.length ≤ 100000) (hr : ∀ r ∈ roots, r ≤ 9223372036854775807 ∧ -9223372036854775808 ≤ r) :
    Calls Tryz.prog 18 #[.pointer (some ⟨b, 0, none⟩), v] w fun e w' => e = .returned (.int .i64 (s.sweep roots).1) ∧ ∃ F', StAt w' b F' (s.sweep roots).2 ∧ Keeps F w w' ∧ Within w F F' := by
  have HU := sweepUnreached H R h ok roots v hv.reads hl hr
  clear hv hl hr
  go_enter Tryz.func18, Tryz.ntmps18
  go_wp2_with fail
  refine HU.mono ?_
  rintro e w1 ⟨A, C, N, rfl, hO, hb1⟩
  have hFl := H.lt h
  have hb2 : Below w1.heap.size w1 (w1.alloc (.cells #[.slice (A 0) (N 0) (C 0), .slice (A 1) (N 1) (C 1), .slice (A 2) (N 2) (C 2), .slice (A 3) (N 3) (C 3), .slice (A 4) (N 4) (C 4), .slice (A 5) (N 5) (C 5), .slice (A 6) (N 6) (C 6), .slice (A 7) (N 7) (C 7)] 100)) := (Below.refl _ _).alloc (Nat.le_refl _) _
  have S0 : SwSt StAt w b F (fun k => .slice (A k) (N k) (C k)) (fun k => s.idle (s.reach roots) (k : Nat)) w1.heap.size s F _ :=
    ⟨H.below h (hb1.trans (hb2.mono hb1.size)), Keeps.of_below (hb1.trans (hb2.mono hb1.size)) F, Within.refl _ _, HoldsI.new w1 (fun k => .slice (A k) (N k) (C k)), (fun q => by have := hFl _ q; have := hb1.size; omega), fun k hk => RootsAt.of_owns ((hO k hk).2.1.block fun g hg => hb2.block g ((hO k hk).2.1.lt g hg)) fun g hg q => by have := (hO k hk).2.2 g hg; have := hFl _ q; omega⟩
  have hN := Lib.hid fun k hk => (hO k hk).1
  unfold iv8
  clear HU hO hb2 hb1 h
  replace S0 := Lib.hid S0
  go_wp2_with fail
  generalize w1.alloc (.cells #[.slice (A 0) (N 0) (C 0), .slice (A 1) (N 1) (C 1), .slice (A 2) (N 2) (C 2), .slice (A 3) (N 3) (C 3), .slice (A 4) (N 4) (C 4), .slice (A 5) (N 5) (C 5), .slice (A 6) (N 6) (C 6), .slice (A 7) (N 7) (C 7)] 100) = w2 at *
  refine (H.order S0.out.st ok).mono ?_
  rintro e w3 ⟨rfl, hb3⟩
  replace S0 := Lib.hid (S0.out.keep H hb3)
  have hix := idx_o s.o
  unfold ov
  generalize w1.heap.size = bI at *
  clear hb3
  go_wp2
  go_loopw [5, 16] (fun m i wr => ∃ (l : Nat) (F' : Nat → Prop), l ≤ 8 ∧ m = .int .i64 (s.sweepAt roots l 0).1 ∧ i = .int .i64 l ∧ SwSt StAt w b F (fun k => .slice (A k) (N k) (C k)) (fun k => s.idle (s.reach roots) (k : Nat)) bI (s.sweepAt roots l 0).2 F' wr) (fun _ i _ => 8 - (intOf i).toNat)
  case atStart => exact ⟨0, F, by omega, by rw [s.sweepAt_start], rfl, by rw [s.sweepAt_start]; exact S0.out⟩
  case round =>
    clear S0
    obtain ⟨l, F', hl, rfl, rfl, S⟩ := hrel
    by_cases hlt : l < 8
    · replace hix := hix l hlt
      have hrange := mayO_range ok.order hlt
      obtain ⟨X, hXo⟩ := Int.eq_ofNat_of_zero_le hrange.1
      rw [hXo] at hix
      have hsome := fun i hi => ok.sweepAt_okX roots hlt hXo (i := i) hi
      have hmany := fun i hi => ok.sweepAt_manyX roots hlt hXo (i := i) hi
      have hnext := ok.sweepAt_nextX roots hlt hXo
      have hX8 : X < 8 := by omega
      have hX9 : (X : Int) < 8 := by omega
      have hX0 : (0 : Int) ≤ (X : Int) := by omega
      have hl9 : (l : Int) < 8 := by omega
      have hl0 : (0 : Int) ≤ (l : Int) := by omega
      have hNX := hN.out X hX8
      have cI := S.holds.cell X hX8
      obtain ⟨aX, hAX⟩ : ∃ a, A X = a := ⟨_, rfl⟩
      rw [hAX] at cI
      replace hAX := Lib.hid hAX
      have hNb : N X ≤ 20000 := by
        have h1 : (s.idle (s.reach roots) (X : Int)).length ≤ s.all.length := List.length_filter_le _ _
        have h2 := ok.toBase.all_few
        omega
      replace hsome := Lib.hid hsome
      replace hmany := Lib.hid hmany
      replace hnext := Lib.hid hnext
      have hhas : ∀ i (hi : i < (s.idle (s.reach roots) (X : Int)).length), (s.idle (s.reach roots) (X : Int))[i] ≤ 9223372036854775807 ∧ -9223372036854775808 ≤ (s.idle (s.reach roots) (X : Int))[i] := fun i hi => by
        have := ok.toBase.has_le ((MS.mem_idle ok.toBase).1 (List.getElem_mem hi)).1
        omega
      replace hhas := Lib.hid hhas
      replace S := Lib.hid S
      clear hXo hrange
      go_wp2
      clear hix cI
      go_loopw [5, 23] (fun m i wr => ∃ (k : Nat) (F' : Nat → Prop), k ≤ N X ∧ m = .int .i64 (s.sweepAt roots l k).1 ∧ i = .int .i64 k ∧ SwSt StAt w b F (fun k => .slice (A k) (N k) (C k)) (fun k => s.idle (s.reach roots) (k : Nat)) bI (s.sweepAt roots l k).2 F' wr) (fun _ i _ => N X - (intOf i).toNat)
      case atStart => exact ⟨0, F', Nat.zero_le _, rfl, rfl, S.out⟩
      case round =>
        clear S
        obtain ⟨k, F', hk, rfl, rfl, S⟩ := hrel
        by_cases hkt : k < N X
        · have hkl : k < (s.idle (s.reach roots) (X : Int)).length := hNX ▸ hkt
          obtain ⟨q1, q2, q3⟩ := hsome.out k hkl
          have q4 := hmany.out k (by omega)
          have q5 := hhas.out k hkl
          have q6 := ok.toBase.all_few
          have hrd := (S.idle X hX8).reads
          rw [hNX] at hrd
          obtain ⟨ad, hA2, hc⟩ := hrd.intAt k hkl
          obtain rfl : aX = some ad := hAX.out.symm.trans hA2
          clear hA2
          have hk0 : (0 : Int) ≤ (k : Int) := by omega
          have hk1 : (k : Int) < (N X : Int) := by omega
          generalize (s.idle (s.reach roots) (X : Int))[k] = n at *
          generalize s.sweepAt roots l k = r at *
          have HF := H.free S.st q1 n q5
          rw [q2, errV0] at HF
          have q7 : r.1 ≤ 20000 := by omega
          have q8 : -20000 ≤ r.1 := by omega
          replace S := Lib.hid S
          replace q3 := Lib.hid q3
          clear q1 q2 q4 q5 q6 hrd hsome hmany hnext hhas
          go_wp2_with fail
          refine HF.mono ?_
          rintro e w5 ⟨rfl, F5, hA5, hK5, hW5⟩
          replace S := Lib.hid (S.out.step hA5 hK5 hW5)
          clear HF hA5 hK5 hW5 hc
          go_wp2
          exact ⟨⟨k + 1, F5, by omega, by rw [q3.out], by go_num, by rw [q3.out]; exact S.out⟩, by simp [intOf]; omega⟩
        · obtain rfl : k = N X := by omega
          have e1 := hnext.out
          rw [← hNX] at e1
          rw [e1] at S ⊢
          generalize hr : s.sweepAt roots (l + 1) 0 = r at *
          replace hr := Lib.hid hr
          clear hsome hmany hnext hhas e1 hk hkt
          replace S := Lib.hid S
          go_wp2
          exact ⟨⟨l + 1, F', by omega, by rw [hr.out], by go_num, by rw [hr.out]; exact S.out⟩, by simp [intOf]; omega⟩
    · obtain rfl : l = 8 := by omega
      have e1 := s.sweepAt_end roots
      rw [e1] at S ⊢
      go_wp2
      go_ret
      exact ⟨rfl, F', S.st, S.keeps, S.within⟩
end

/-- The landed package sweep keeps its contract. -/
theorem sweepC {StAt : World → Nat → (Nat → Prop) → MS → Prop} (H : StoreC StAt) (R : ReachC StAt) : SweepC StAt where
  sweep h ok roots v hv hl hr := sweepSweep H R h ok roots v hv hl hr

end Go.Proofs.YtdcomiopjgcboaaGreatDoor

/-
  The laws of layer 13 over the landed code.
-/
namespace Go.Proofs.YtdcomiopjgcboaaGreatDoor
open Go Go.RowKit

theorem reachC13 {StAt : World → Nat → (Nat → Prop) → MS → Prop} (H : StoreC StAt) : ReachC StAt where
  reach h ok roots v hv hl hr := readReach H h ok roots v hv hl hr

theorem siftTells (most : Int) (k : List Fn) (sw roots : List Int) (x grow : Int) (all : Bool) (vk vs vr : Value) (w : World) (hL : LowW w) (hk : SliceF w vk k) (_ : k.length ≤ maxLen) (hs : Reads encI w vs sw) (_ : sw.length ≤ maxLen) (hsw : ∀ a ∈ sw, (Lit.int .i64 a).wf = true)
    (hr : Reads encI w vr roots) (_ : roots.length ≤ maxLen) (hrw : ∀ a ∈ roots, (Lit.int .i64 a).wf = true) :
    Calls Tryz.prog 3 #[.int .i64 most, vk, vs, vr, .int .i64 x, .int .i64 grow, .bool all] w fun e w' => e = .returned (.bool true) ∧ Below w.heap.size w w' :=
  siftTells' storeC (readC storeC) (siftC storeC (sweepC storeC (reachC13 storeC))) most k sw roots x grow all vk vs vr w hL hk hs hsw hr hrw

theorem siftKeeps (l : List Fn) (swaps : List Int) (x grow : Int) (vl vs : Value) (w : World) (hL : LowW w) (hl : SliceF w vl l) (_ : l.length ≤ maxLen) (hs : Reads encI w vs swaps) (_ : swaps.length ≤ maxLen) (hwf : ∀ n ∈ swaps, (Lit.int .i64 n).wf = true) :
    Calls Tryz.prog 4 #[vl, vs, .int .i64 x, .int .i64 grow] w fun e w' => e = .returned (.bool true) ∧ Below w.heap.size w w' :=
  siftKeeps' storeC (readC storeC) (sweepC storeC (reachC13 storeC)) (siftC storeC (sweepC storeC (reachC13 storeC))) (fun W => up13 storeC (siftC storeC (sweepC storeC (reachC13 storeC))) W) l swaps x grow vl vs w hL hl hs hwf

end Go.Proofs.YtdcomiopjgcboaaGreatDoor
