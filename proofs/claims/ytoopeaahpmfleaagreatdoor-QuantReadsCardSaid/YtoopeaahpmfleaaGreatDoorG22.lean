/-
  Texts of this proof, one behind the other: ISet, ReadR, ReadI, Inst11.
-/
import Derived.Test.YtoopeaahpmfleaaGreatDoorG15
import Derived.Test.YtoopeaahpmfleaaGreatDoorG12
import Derived.Lib.SlKeysI
import Derived.Test.YtoopeaahpmfleaaGreatDoorG8
import Derived.Test.YtoopeaahpmfleaaGreatDoorG5
import Derived.Test.YtoopeaahpmfleaaGreatDoorG14
import Derived.Test.YtoopeaahpmfleaaGreatDoorG17
import Derived.Test.YtoopeaahpmfleaaGreatDoorG10
import Derived.Test.YtoopeaahpmfleaaGreatDoorG18
import Derived.Test.YtoopeaahpmfleaaGreatDoorG19
import Derived.Test.YtoopeaahpmfleaaGreatDoorG20
/-
  A map of bools whose keys are numbers, as the list of these keys.
-/
namespace Go.Proofs.YtoopeaahpmfleaaGreatDoor
open Go Go.RowKit Go.Maps

theorem BSet.owns {P : Program} {K e : TypeId} {α : Type} [DecidableEq α] {E : KeyEnc P K α} {w : World} {b : Nat} {S : List α} (h : BSet E e w b S) :
    ∃ D : DataW Unit, w.ownsMap P K (plainElem P e) b S.length D ∧ (∀ a, has D (E.lit a) = true ↔ a ∈ S) ∧ Maps.size D = S.length := by
  obtain ⟨D, ho, _, hh, hs⟩ := h
  exact ⟨D, ho, fun a => by rw [hh a, decide_eq_true_iff], hs⟩

/-- A number of the language. -/
def In64 (n : Int) : Prop := n ≤ 9223372036854775807 ∧ -9223372036854775808 ≤ n
theorem In64.wf {n : Int} (h : In64 n) : (Lit.int .i64 n).wf = true := by
  obtain ⟨h1, h2⟩ := h
  simp [Lit.wf, IntKind.min, IntKind.max, IntKind.signed, IntKind.bits]
  omega

/-- Numbers of the language. -/
abbrev KI := { n : Int // (Lit.int .i64 n).wf = true }

/-- Numbers as keys. -/
def encK : KeyEnc Tryz.prog 3 KI where
  val n := .int .i64 n.1
  lit n := .int .i64 n.1
  key n := keyOf_int_mk Tryz.underlying3 n.2
  inj _ _ h := Subtype.ext (encZ_inj h)
  law := int_keyed Tryz.underlying3

/-- Block b is a map that holds true at the numbers S, and nothing else. -/
def ISet (w : World) (b : Nat) (S : List Int) : Prop := ∃ T : List KI, T.map (·.1) = S ∧ BSet encK 4 w b T

theorem ISet.made (w : World) : ISet (w.alloc (.map #[] 0)) w.heap.size [] := ⟨[], rfl, BSet.made _ _ _⟩
theorem ISet.block {w w' : World} {b : Nat} {S : List Int} (h : ISet w b S) (hb : w'.heap[b]? = w.heap[b]?) : ISet w' b S := by
  obtain ⟨T, e, h⟩ := h; exact ⟨T, e, h.block hb⟩
theorem ISet.lt {w : World} {b : Nat} {S : List Int} (h : ISet w b S) : b < w.heap.size := by obtain ⟨_, _, h⟩ := h; exact h.lt
theorem ISet.keep {w w' : World} {b B : Nat} {S : List Int} (h : ISet w b S) (hb : Below B w w') (hB : b < B) : ISet w' b S := h.block (hb.block b hB)
theorem mem_val {T : List KI} {a : KI} : a.1 ∈ T.map (·.1) ↔ a ∈ T := by
  rw [List.mem_map]
  exact ⟨fun ⟨x, hx, e⟩ => (Subtype.ext e : x = a) ▸ hx, fun h => ⟨a, h, rfl⟩⟩
theorem zeroBool (w : World) : (zeroValue 4).run Tryz.prog w = .ok (.bool false) w := by kernel_rfl
theorem ISet.look {w : World} {b : Nat} {S : List Int} (h : ISet w b S) (n : Int) (hn : In64 n) : (Instr.lookup 107 (.map (some b)) (.int .i64 n) false).run Tryz.prog w = .ok (.bool (decide (n ∈ S))) w := by
  obtain ⟨T, rfl, h⟩ := h
  have := h.look Tryz.underlying107 Tryz.underlying4 (zeroBool w) (⟨n, hn.wf⟩ : KI)
  exact this.trans (congrArg (fun x => Result.ok (Value.bool x) w) (decide_eq_decide.2 (mem_val (a := ⟨n, hn.wf⟩)).symm))
theorem ISet.put {ops : Array Oper} {rest : List Oper} {o : Oper} {A : Act} {Q : Exit → Act → World → Prop} {w : World} {b : Nat} {S : List Int}
    (h : ISet w b S) (hl : S.length < maxLen) (hg : o.guard = none) (x y v : Operand) (hop : o.op = Op.mapUpdate 107 x y v)
    (n : Int) (hn : In64 n) (hna : n ∉ S) (hx : A.eval x = .map (some b)) (hy : A.eval y = .int .i64 n) (hv : A.eval v = .bool true)
    (hK : ∀ w', ISet w' b (S ++ [n]) → w.grownBy w' (some b) → wpList Tryz.prog ops Q rest (A.put o.dst undef) w') : wpList Tryz.prog ops Q (o :: rest) A w := by
  obtain ⟨T, rfl, h⟩ := h
  refine BSet.put h Tryz.underlying107 Tryz.underlying4 (by simpa using hl) hg x y v hop (⟨n, hn.wf⟩ : KI) (fun e => hna (mem_val.2 e)) hx hy hv ?_
  intro w' h' hgr
  exact hK w' ⟨T ++ [⟨n, hn.wf⟩], by simp, h'⟩ hgr
/-- As maps.Keys finds it. -/
theorem ISet.owns {w : World} {b : Nat} {S : List Int} (h : ISet w b S) (hS : S.Nodup) : ∃ D : DataW Unit, w.ownsMap Tryz.prog 3 (plainElem Tryz.prog 4) b S.length D ∧ Maps.size D = S.length ∧ S.Perm (intKeys D) := by
  obtain ⟨T, rfl, h⟩ := h
  obtain ⟨D, ho, hh, hs⟩ := h.owns
  refine ⟨D, by simpa using ho, by simpa using hs, ?_⟩
  obtain ⟨es, hD, hpw, _⟩ := ho.entries (int_keyed Tryz.underlying3)
  obtain ⟨es', hD', hko⟩ := ho.keysOf
  obtain rfl : es = es' := by rw [hD] at hD'; simpa using hD'
  subst hD
  refine perm_intKeys hpw (fun p hp => by obtain ⟨v, hv⟩ := hko p hp; obtain ⟨x, _, hx, _⟩ := Maps.keyOf_i64 Tryz.underlying3 hv; exact ⟨x, hx⟩) hS (fun x => ?_)
  constructor
  · intro hx
    obtain ⟨a, ha, rfl⟩ := List.mem_map.1 hx
    exact (hh a).2 ha
  · intro hx
    have hwf : (Lit.int .i64 x).wf = true := by
      rw [has_eq, List.any_eq_true] at hx
      obtain ⟨p, hp, hsame⟩ := hx
      obtain ⟨v, hv⟩ := hko p hp
      obtain ⟨y, _, hy, hw⟩ := Maps.keyOf_i64 Tryz.underlying3 hv
      rw [hy] at hsame
      have : y = x := by simpa [Lit.sameKey] using hsame
      exact this ▸ hw
    exact mem_val.2 ((hh ⟨x, hwf⟩).1 hx)

end Go.Proofs.YtoopeaahpmfleaaGreatDoor

/-
  Walks of package read over the store's contracts: gather, Reach.
-/
namespace Go.Proofs.YtoopeaahpmfleaaGreatDoor
open Go Go.RowKit Go.Maps Go.Sort Go.Shelf

/-- slices.Sort's two contracts. -/
theorem sortsA (m : Nat) : AnyZI.SortsIn Tryz.prog Tryz.sortedA_ren Fence.wide m :=
  ⟨fun blk off cap ss W hH hblk hsz => callsIn_wide.2 (AnyM.slices_Sort_int Tryz.sortA blk off cap ss W hH hblk hsz),
   fun p cap W => callsIn_wide.2 (AnyM.slices_Sort_int_none Tryz.sortA p cap W)⟩

/-- maps.Keys. -/
theorem goKeys (mb : Option Nat) (W : World) : Calls Tryz.prog 64 #[.map mb] W fun e w' => e = .returned (.func (.func 103) #[] #[.pointer (some ⟨W.heap.size, 0, none⟩)]) ∧ w' = W.alloc (.cells #[.map mb] 107) :=
  (callsIn_wide (n := 5)).1 (AnyZI.keys_in Tryz.keysA Fence.wide 5 trivial rfl mb W)

/-- slices.Sorted of what maps.Keys handed back. -/
theorem goSorted (b nn : Nat) (D0 : DataW Unit) (R : Value → Option (DataW Unit × List MemPlace)) (w : World) (hown : w.ownsMap Tryz.prog 3 R b nn D0) (hmax : Maps.size D0 ≤ maxLen) (hbytes : Maps.size D0 * 8 ≤ 140737488355328) :
    Calls Tryz.prog 63 #[.func (.func 103) #[] #[.pointer (some ⟨w.heap.size, 0, none⟩)]] (w.alloc (.cells #[.map (some b)] 107)) fun e w' => ∃ (v : Value) (ss : List Int), e = .returned v ∧ ss.Perm (intKeys D0) ∧
      w'.ownsRow (w.alloc (.cells #[.map (some b)] 107)).heap.size 3 1 v ss.length ((ss.mergeSort (fun x y => decide (x ≤ y))).map encZ) ∧ Below (w.alloc (.cells #[.map (some b)] 107)).heap.size (w.alloc (.cells #[.map (some b)] 107)) w' := by
  refine (callsIn_wide (n := 5)).1 ?_
  have hbl := hown.lt
  have hseq : SeqGives Fence.wide 2 Tryz.prog 103 #[.pointer (some ⟨w.heap.size, 0, none⟩)] encZ (fun ss => ss.Perm (intKeys D0)) (Maps.size D0) (w.alloc (.cells #[.map (some b)] 107)) :=
    AnyZI.keys_gives (ρ := Tryz.keysA_ren) { Tryz.keysA with } Fence.wide _ trivial rfl (by omega) w.heap.size b nn D0 _ (by simp) (by simp) (by
      obtain ⟨es, clock, hb, Ft, hs, hD⟩ := hown
      exact ⟨es, clock, (Below.heap_alloc _ _ b hbl).trans hb, Ft, hs, hD⟩)
  have cS := AnyZI.sorted_in Tryz.sortedA Fence.wide 5 trivial trivial trivial trivial rfl (by omega) (sortsA _) (enters_of Tryz.func102 (by kernel_rfl) rfl) 103 #[.pointer (some ⟨w.heap.size, 0, none⟩)] trivial (enters_of Tryz.func103 (by kernel_rfl) rfl) _ _ hmax hbytes _ hseq
  change CallsIn _ _ Tryz.prog 63 _ _ _ at cS
  refine cS.mono ?_
  rintro e w' ⟨v, ss, rfl, hS, hrow, _, hb⟩
  exact ⟨v, ss, rfl, hS, hrow, hb⟩

/-- Within a call of gather: the store, and what was met. -/
structure GSt8 (StAt : World → Nat → (Nat → Prop) → MS → Prop) (w : World) (b : Nat) (F : Nat → Prop) (s : MS) (bm : Nat) (S : List Int) (W : World) : Prop where
  st : StAt W b F s
  map : ISet W bm S
  keeps : Keeps (fun k => k = bm) w W

section
variable {StAt : World → Nat → (Nat → Prop) → MS → Prop} {w W W' : World} {b bm : Nat} {F : Nat → Prop} {s : MS} {S S' : List Int}
theorem GSt8.keep (H : StoreC StAt) (h : GSt8 StAt w b F s bm S W) (hb : Below W.heap.size W W') : GSt8 StAt w b F s bm S W' :=
  ⟨H.below h.st hb, h.map.keep hb h.map.lt, h.keeps.and (Keeps.of_below hb _)⟩
theorem GSt8.turn (H : StoreC StAt) (h : GSt8 StAt w b F s bm S W) (hF : ∀ k, F k → ¬ k = bm) (hM : ISet W' bm S') (hk : Keeps (fun k => k = bm) W W') : GSt8 StAt w b F s bm S' W' :=
  ⟨H.keep h.st hk hF, hM, h.keeps.and hk⟩
end

set_option maxRecDepth 100000 in
set_option maxHeartbeats 2000000 in
theorem readGather {StAt : World → Nat → (Nat → Prop) → MS → Prop} (H : StoreC StAt) {b : Nat} {F : Nat → Prop} {s : MS} (ok : s.Ok) {bm : Nat} (hF : ∀ k, F k → ¬ k = bm) (k : Nat) : ∀ (n : Int) (S : List Int) (w : World), s.dep n < k → In64 n → StAt w b F s → ISet w bm S → S.Nodup → (∀ m ∈ S, s.has m = true) →
    Calls Tryz.prog 62 #[.map (some bm), .pointer (some ⟨b, 0, none⟩), .int .i64 n] w fun e w' => e = .returned (.tuple #[]) ∧ ∃ T, GthP s n S T ∧ GSt8 StAt w b F s bm (S ++ T) w' := by
  induction k with
  | zero => intro n S w h; omega
  | succ k ih =>
    intro n S w hk hn h hM hS hSh
    have HN := H.node h ok n hn
    have G0 : GSt8 StAt w b F s bm S w := ⟨h, hM, Keeps.refl _ _⟩
    have hlen := met_few ok.toBase hS hSh
    have hbw : bm < w.heap.size := hM.lt
    have hnx : s.has n = true → In64 (s.nd n).lo ∧ In64 (s.nd n).hi ∧ s.dep (s.nd n).lo < s.dep n ∧ s.dep (s.nd n).hi < s.dep n := fun hh => by
      have b1 := ok.toBase.behind_le (ok.lo n hh)
      have b2 := ok.toBase.behind_le (ok.hi n hh)
      exact ⟨⟨by omega, by omega⟩, ⟨by omega, by omega⟩, ok.dep_behind hh (ok.lo n hh), ok.dep_behind hh (ok.hi n hh)⟩
    have HG := fun (T1 T2 : List Int) hh hna => GthP.node (s := s) ok (n := n) (S := S) (T1 := T1) (T2 := T2) hh hna
    have hnone := fun hh => GthP.none (s := s) (n := n) hS hh
    clear h hM
    simp only [nodeV, nv] at HN
    go_enter Tryz.func62, Tryz.ntmps62
    cases hh : s.has n
    · simp only [hh, Bool.false_eq_true, if_false] at HN
      go_wp2_with fail
      refine HN.mono ?_
      rintro e w1 ⟨rfl, hb1⟩
      have G := (G0.keep H hb1).keep H ((Below.refl w1.heap.size w1).alloc (Nat.le_refl _) (.cells #[.int .i64 0, .int .i64 0, .int .i64 0] 57))
      have hR := hnone (fun e => by rw [hh] at e; cases e)
      clear HN G0 hb1 hnx HG ih hnone
      go_wp2
      exact bodyPost_ret (v := .tuple #[]) (by simp [results, Tryz.results62, go_sem]) rfl ⟨rfl, [], hR, by rw [List.append_nil]; exact G⟩
    · simp only [hh, if_true] at HN
      obtain ⟨l1, l2, d1, d2⟩ := hnx hh
      replace HG := fun (T1 T2 : List Int) => HG T1 T2 hh
      clear hnx
      generalize hx : s.nd n = x at *
      obtain ⟨x0, x1, x2⟩ := x
      dsimp only at *
      go_wp2_with fail
      refine HN.mono ?_
      rintro e w1 ⟨rfl, hb1⟩
      have hX := HoldsN.new w1 ⟨x0, x1, x2⟩
      have G := (G0.keep H hb1).keep H ((Below.refl w1.heap.size w1).alloc (Nat.le_refl _) (.cells #[.int .i64 x0, .int .i64 x1, .int .i64 x2] 57))
      dsimp only at hX
      have hlook := G.map.look n hn
      have hbX : ¬ w1.heap.size = bm := by have := hb1.size; omega
      clear HN G0 hb1
      by_cases hin : n ∈ S
      · rw [decide_eq_true hin] at hlook
        have hR := hnone (fun _ => hin)
        clear HG ih hnone
        go_wp2
        exact bodyPost_ret (v := .tuple #[]) (by simp [results, Tryz.results62, go_sem]) rfl ⟨rfl, [], hR, by rw [List.append_nil]; exact G⟩
      · rw [decide_eq_false hin] at hlook
        replace HG := Lib.hid fun (T1 T2 : List Int) => HG T1 T2 hin
        have hn2 : (S ++ [n]).Nodup := List.nodup_append.2 ⟨hS, by simp, fun a ha b hb => by simp at hb; subst hb; exact fun e => hin (e ▸ ha)⟩
        have hS2 : ∀ m ∈ S ++ [n], s.has m = true := fun m hm => by
          rcases List.mem_append.1 hm with hm | hm
          · exact hSh m hm
          · rw [List.mem_singleton.1 hm]; exact hh
        have hML : S.length < maxLen := by unfold maxLen; omega
        have hM1 := G.map
        replace G := Lib.hid G
        clear hnone
        go_wp2_with (at_mapUpdate; refine ISet.put hM1 hML rfl (.tmp 21) (.tmp 22) (.const (.bool true)) rfl n hn hin rfl rfl rfl ?_; intro w2 hM2 hgr2; replace hX := hX.keep (Keeps.of_grown (F := fun k => k = bm) hgr2 (fun k e => (Option.some.inj e).symm)) hbX; replace G := Lib.hid (G.out.turn H hF hM2 (Keeps.of_grown hgr2 (fun k e => (Option.some.inj e).symm))); clear hM2 hgr2 hM1 hlook; have e1 := hX.cells.2.1)
        refine (ih _ _ _ (by omega) l1 G.out.st G.out.map hn2 hS2).mono ?_
        rintro e w3 ⟨rfl, T1, P1, G1⟩
        replace hX := hX.keep G1.keeps hbX
        replace G := Lib.hid (G.out.turn H hF G1.map G1.keeps)
        have hS3 : ∀ m ∈ S ++ [n] ++ T1, s.has m = true := fun m hm => by
          rcases List.mem_append.1 hm with hm | hm
          · exact hS2 m hm
          · exact (P1.rch m hm).1.has
        have hn3 := P1.nodup
        have H1 := Lib.hid P1
        have e2 := hX.cells.2.2
        clear P1 G1 e1
        go_wp2_with fail
        refine (ih _ _ _ (by omega) l2 G.out.st G.out.map hn3 hS3).mono ?_
        rintro e w4 ⟨rfl, T2, P2, G2⟩
        replace G := Lib.hid (G.out.turn H hF G2.map G2.keeps)
        have H2 := Lib.hid P2
        clear P2 G2 e2 ih
        go_wp2
        exact bodyPost_end (v := .tuple #[]) (by simp [results, Tryz.results62, go_sem]) rfl ⟨rfl, [n] ++ T1 ++ T2, HG.out T1 T2 H1.out H2.out, by rw [show S ++ ([n] ++ T1 ++ T2) = S ++ [n] ++ T1 ++ T2 by simp]; exact G.out⟩

theorem encI_all (l : List Int) : encI.all l = l.map encZ := by
  induction l with
  | nil => rfl
  | cons a l ih => exact congrArg (Value.int .i64 a :: ·) ih
theorem wrel_of {w w1 w' : World} {v : Value} {l : List Int} {n : Nat} (hrow : w'.ownsRow w1.heap.size 3 1 v n (l.map encZ)) (hn : n = l.length) (h1 : w.heap.size ≤ w1.heap.size) (hb : Below w.heap.size w w') : WRel w l v w' := by
  subst hn
  refine ⟨?_, fun g hg => Nat.le_trans h1 (World.ownsRow.lt hrow g hg).1, hb⟩
  unfold Owns
  rw [encI_all]
  exact ⟨hrow.1, hrow.2.elim Or.inl (fun ⟨g, cap, cur, hv, _, r⟩ => Or.inr ⟨g, cap, cur, hv, Nat.zero_le _, r⟩)⟩

set_option maxRecDepth 100000 in
set_option maxHeartbeats 2000000 in
theorem readReach {StAt : World → Nat → (Nat → Prop) → MS → Prop} (H : StoreC StAt) {b : Nat} {F : Nat → Prop} {s : MS} {w : World} (h : StAt w b F s) (ok : s.Ok) (roots : List Int) (v : Value) (hv : Reads encI w v roots) (hl : roots.length ≤ 100000) (hr : ∀ r ∈ roots, r ≤ 9223372036854775807 ∧ -9223372036854775808 ≤ r) :
    Calls Tryz.prog 22 #[.pointer (some ⟨b, 0, none⟩), v] w fun e w' => ∃ v', e = .returned v' ∧ WRel w (s.reach roots) v' w' := by
  have hmm := @run_makeMap Tryz.prog
  have hF : ∀ k, F k → ¬ k = w.heap.size := fun k hk => by have := H.lt h k hk; omega
  have hbw : ∀ W, Keeps (fun k => k = w.heap.size) (w.alloc (.map #[] 0)) W → Below w.heap.size w W := fun W hk => ((Below.refl w.heap.size w).alloc (Nat.le_refl _) (.map #[] 0)).trans (hk.below (by simp) (fun k e => by omega))
  have G0 : GSt8 StAt (w.alloc (.map #[] 0)) b F s w.heap.size [] (w.alloc (.map #[] 0)) := ⟨H.below h ((Below.refl w.heap.size w).alloc (Nat.le_refl _) _), ISet.made w, Keeps.refl _ _⟩
  have hC := fun (i : Nat) (S : List Int) (ss : List Int) (hI : RchI s roots i S) (hi : roots.length ≤ i) => RchI.sorted ok.toBase (ss := ss) hI hi
  clear h
  obtain ⟨a, cap, rfl⟩ := hv.form
  replace hv := Lib.hid hv
  go_enter Tryz.func22, Tryz.ntmps22
  go_wp2
  clear hmm
  go_loopw [11] (fun i wr => ∃ (n : Nat) (S : List Int), n ≤ roots.length ∧ i = .int .i64 n ∧ RchI s roots n S ∧ GSt8 StAt (w.alloc (.map #[] 0)) b F s w.heap.size S wr) (fun i _ => roots.length - (intOf i).toNat)
  case atStart => exact ⟨0, [], Nat.zero_le _, rfl, RchI.start s roots, G0⟩
  case round =>
    clear G0
    obtain ⟨n, S, hnl, rfl, hI, G⟩ := hrel
    by_cases hlt : n < roots.length
    · have hk0 : (0 : Int) ≤ (n : Int) := by omega
      have hk1 : (n : Int) < (roots.length : Int) := by omega
      obtain ⟨ad, rfl, hc⟩ := (hv.out.keep (hbw _ G.keeps)).intAt n hlt
      have hn64 := hr _ (List.getElem_mem hlt)
      have hGa := readGather H ok hF (s.dep roots[n] + 1) roots[n] S wr (by omega) hn64 G.st G.map hI.nodup (fun m hm => (hI.rch m hm).has)
      have hst := fun T => hI.step (T := T) hlt
      replace G := Lib.hid G
      replace hI := Lib.hid hI
      replace hst := Lib.hid hst
      clear hC
      generalize roots[n] = r at *
      go_wp2_with fail
      refine hGa.mono ?_
      rintro e w1 ⟨rfl, T, P, G1⟩
      have hI1 := hst.out T P
      have G2 := G.out.turn H hF G1.map G1.keeps
      clear hGa P G1 G hI hst hc
      go_wp2
      exact ⟨⟨n + 1, S ++ T, by omega, by go_num, hI1, G2⟩, by simp [intOf]; omega⟩
    · obtain rfl : n = roots.length := by omega
      have hlen := met_few ok.toBase hI.nodup (fun m hm => (hI.rch m hm).has)
      obtain ⟨D, ho, hsz, hp⟩ := G.map.owns hI.nodup
      have hSo := goSorted _ _ D _ wr ho (by rw [hsz]; unfold maxLen; omega) (by rw [hsz]; omega)
      have hsrt := fun ss hss => hC _ S ss hI (Nat.le_refl _) (hss : ss.Perm S)
      replace hsrt := Lib.hid hsrt
      have hKe := goKeys (some w.heap.size) wr
      have hB := hbw _ G.keeps
      have hb1 := (Below.refl wr.heap.size wr).alloc (Nat.le_refl _) (.cells #[.map (some w.heap.size)] 107)
      replace hp := Lib.hid hp
      clear hC hI G hv ho hbw
      go_wp2_with fail
      refine hKe.mono ?_
      rintro e w1 ⟨rfl, rfl⟩
      clear hKe
      generalize wr.alloc (.cells #[.map (some w.heap.size)] 107) = w1 at *
      go_wp2_with fail
      refine hSo.mono ?_
      rintro e w2 ⟨v2, ss, rfl, hS, hrow, hb2⟩
      rw [hsrt.out ss (hS.trans hp.out.symm)] at hrow
      have hn : ss.length = (s.reach roots).length := by rw [← hsrt.out ss (hS.trans hp.out.symm), List.length_mergeSort]
      clear hSo
      go_wp2
      go_ret
      exact ⟨v2, rfl, wrel_of hrow hn (Nat.le_trans hB.size hb1.size) (hB.trans ((hb1.trans (hb2.mono hb1.size)).mono hB.size))⟩

end Go.Proofs.YtoopeaahpmfleaaGreatDoor

/-
  The code's package read keeps its contracts.
-/
namespace Go.Proofs.YtoopeaahpmfleaaGreatDoor
open Go Go.RowKit

theorem readC {StAt : World → Nat → (Nat → Prop) → MS → Prop} (H : StoreC StAt) : ReadC StAt where
  table hL h ok n hn := readTable H ok 8 n _ hL h (ok.dep_le n) hn
  reach h ok roots v hv hl hr := readReach H h ok roots v hv hl hr
  build hL hlow h ok f := readBuild H 8 _ f _ _ hL hlow h ok (supN_8 f)

end Go.Proofs.YtoopeaahpmfleaaGreatDoor

/-
  The laws of layer 11 over the landed code.
-/
namespace Go.Proofs.YtoopeaahpmfleaaGreatDoor
open Go Go.RowKit

theorem quantTells (most : Int) (k : List Fn) (sw : List Int) (l : List C11) (vk vs vc : Value) (w : World) (hL : LowW w) (hk : SliceF w vk k) (_ : k.length ≤ maxLen) (hs : Reads encI w vs sw) (_ : sw.length ≤ maxLen) (hsw : ∀ a ∈ sw, (Lit.int .i64 a).wf = true)
    (hc : Reads encC11 w vc l) (_ : l.length ≤ maxLen) (hcw : ∀ d ∈ l, d.good) :
    Calls Tryz.prog 3 #[.int .i64 most, vk, vs, vc] w fun e w' => e = .returned (.bool true) ∧ Below w.heap.size w w' :=
  have I := iteC storeC
  have O := operC I
  have Q := quantC storeC I O
  quantTells' storeC (readC storeC) I Q (fun W _ => up11 storeC I O Q W) most k sw l vk vs vc w hL hk hs hsw hc hcw
theorem quantReads (f g : Fn) (v : Int) (b : Bool) (swaps : List Int) (vs : Value) (w : World) (hL : LowW w) (hv : Reads encI w vs swaps) (_ : swaps.length ≤ maxLen) (hwf : ∀ n ∈ swaps, (Lit.int .i64 n).wf = true) (hvw : (Lit.int .i64 v).wf = true) :
    Calls Tryz.prog 4 #[fv f, fv g, .int .i64 v, .bool b, vs] w fun e w' => e = .returned (.bool true) ∧ Below w.heap.size w w' :=
  have I := iteC storeC
  have O := operC I
  have Q := quantC storeC I O
  quantReads' storeC (readC storeC) I Q (fun W _ => up11 storeC I O Q W) f g v b swaps vs w hL hvw hv hwf

end Go.Proofs.YtoopeaahpmfleaaGreatDoor
