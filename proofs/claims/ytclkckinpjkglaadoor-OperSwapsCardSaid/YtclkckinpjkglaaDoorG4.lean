/-
  Texts of this proof, one behind the other: UniqM, UniqB.
-/
import Derived.Test.YtclkckinpjkglaaDoorG3
import Derived.Laws.BitsLemmas
/-
  Mathematics of a table with places in a ring: each entry lies at its home, or behind it with no empty place between. Searching, laying, emptying with moving up, laying anew. Nothing of the program is read here.
-/
namespace Go.Proofs.YtclkckinpjkglaaDoor

/-- A pair, and what stands for it. -/
abbrev Ent := (Int × Int) × Int

/-- What lies in the places. -/
def content (T : List (Option Ent)) : List Ent := T.filterMap id

theorem content_set_some (e : Ent) : ∀ (T : List (Option Ent)) (i : Nat), T[i]? = some none → (content (T.set i (some e))).Perm (e :: content T) := by
  intro T
  induction T with
  | nil => intro i h; simp at h
  | cons a T ih =>
    intro i h
    cases i with
    | zero =>
      simp at h
      subst h
      simp [content]
    | succ i =>
      have h1 := ih i (by simpa using h)
      cases a with
      | none => simpa [content] using h1
      | some x =>
        show (x :: content (T.set i (some e))).Perm (e :: x :: content T)
        exact (h1.cons x).trans (List.Perm.swap e x _)

theorem content_set_none {T : List (Option Ent)} {i : Nat} {e : Ent} (h : T[i]? = some (some e)) : (content T).Perm (e :: content (T.set i none)) := by
  have hi : i < T.length := (List.getElem?_eq_some_iff.1 h).1
  have h1 := content_set_some e (T.set i none) i (by simp [hi])
  rw [List.set_set] at h1
  have h2 : T.set i (some e) = T := by
    refine List.ext_getElem? fun j => ?_
    rw [List.getElem?_set]
    split
    · rename_i hj; subst hj; exact h.symm
    · rfl
  rwa [h2] at h1

theorem mem_content {T : List (Option Ent)} {e : Ent} : e ∈ content T ↔ ∃ i : Nat, T[i]? = some (some e) := by
  simp only [content, List.mem_filterMap, id]
  constructor
  · rintro ⟨a, ha, rfl⟩
    obtain ⟨i, hi, h⟩ := List.getElem_of_mem ha
    exact ⟨i, by rw [List.getElem?_eq_getElem hi, h]⟩
  · rintro ⟨i, hi⟩
    exact ⟨some e, List.mem_of_getElem? hi, rfl⟩

theorem content_le (T : List (Option Ent)) : (content T).length ≤ T.length := List.length_filterMap_le _ _

theorem exists_empty (T : List (Option Ent)) (h : (content T).length < T.length) : ∃ i : Nat, T[i]? = some none := by
  induction T with
  | nil => simp at h
  | cons a T ih =>
    cases a with
    | none => exact ⟨0, rfl⟩
    | some x =>
      obtain ⟨i, hi⟩ := ih (by simpa [content] using h)
      exact ⟨i + 1, by simpa using hi⟩

theorem content_append (T S : List (Option Ent)) : content (T ++ S) = content T ++ content S := by simp [content]
theorem content_replicate (n : Nat) : content (List.replicate n none) = [] := by
  induction n with
  | zero => rfl
  | succ n ih => rw [List.replicate_succ]; exact ih

/-- No two of these are of one pair. -/
def Apart (L : List Ent) : Prop := (L.map (·.1)).Nodup

theorem Apart.perm {L K : List Ent} (h : Apart L) (p : L.Perm K) : Apart K := (p.map _).nodup_iff.1 h
theorem Apart.eq {L : List Ent} (h : Apart L) : ∀ {a b : Ent}, a ∈ L → b ∈ L → a.1 = b.1 → a = b := by
  induction L with
  | nil => intro a b ha; cases ha
  | cons x L ih =>
    intro a b ha hb e
    simp only [Apart, List.map_cons, List.nodup_cons, List.mem_map, not_exists, not_and] at h
    rcases List.mem_cons.1 ha with ha1 | ha1
    · rcases List.mem_cons.1 hb with hb1 | hb1
      · rw [ha1, hb1]
      · subst ha1; exact absurd e.symm (h.1 b hb1)
    · rcases List.mem_cons.1 hb with hb1 | hb1
      · subst hb1; exact absurd e (h.1 a ha1)
      · exact ih h.2 ha1 hb1 e

/-- Of one pair there is one place. -/
theorem Apart.place {T : List (Option Ent)} (h : Apart (content T)) {i j : Nat} {a b : Ent} (hi : T[i]? = some (some a)) (hj : T[j]? = some (some b)) (e : a.1 = b.1) : i = j := by
  refine Classical.byContradiction fun hn => ?_
  have h1 := h.perm (content_set_none hi)
  have hb : b ∈ content (T.set i none) := mem_content.2 ⟨j, by rw [List.getElem?_set_ne hn]; exact hj⟩
  simp only [Apart, List.map_cons, List.nodup_cons, List.mem_map, not_exists, not_and] at h1
  exact h1.1 b hb e.symm

/-- So many places on, round the end. -/
def onBy (n a c : Nat) : Nat := if a + c < n then a + c else a + c - n
/-- How far it is from one place on to another, round the end. -/
def dist (n a b : Nat) : Nat := if a ≤ b then b - a else b + n - a

theorem onBy_lt {n a c : Nat} (ha : a < n) (hc : c ≤ n) : onBy n a c < n := by unfold onBy; split <;> omega
theorem dist_lt {n a b : Nat} (ha : a < n) (hb : b < n) : dist n a b < n := by unfold dist; split <;> omega
theorem onBy_dist {n a b : Nat} (ha : a < n) (hb : b < n) : onBy n a (dist n a b) = b := by
  unfold dist onBy; split <;> split <;> omega
theorem dist_onBy {n a c : Nat} (ha : a < n) (hc : c < n) : dist n a (onBy n a c) = c := by
  unfold dist onBy; split <;> split <;> omega
theorem onBy_zero {n a : Nat} (ha : a < n) : onBy n a 0 = a := by unfold onBy; split <;> omega
theorem onBy_inj {n a c d : Nat} (ha : a < n) (hc : c < n) (hd : d < n) (h : onBy n a c = onBy n a d) : c = d := by
  have h1 := dist_onBy ha hc
  rw [h, dist_onBy ha hd] at h1
  exact h1.symm
theorem onBy_onBy {n a c d : Nat} (ha : a < n) (h : c + d < n) : onBy n (onBy n a c) d = onBy n a (c + d) := by
  unfold onBy; split <;> split <;> (try split) <;> omega
theorem onBy_succ {n a c : Nat} (ha : a < n) (h : c + 1 < n) : onBy n (onBy n a c) 1 = onBy n a (c + 1) := onBy_onBy ha h
/-- What is on the way. -/
theorem dist_on {n h p c g : Nat} (hh : h < n) (hp : p < n) (hc : c ≤ dist n h p) (e : onBy n h c = g) : dist n h p = c + dist n g p := by
  subst e
  have h1 := dist_lt hh hp
  revert hc h1
  unfold dist onBy
  split <;> split <;> (try split) <;> omega
theorem dist_way {n h g i : Nat} (hh : h < n) (hg : g < n) (_hi : i < n) (hle : dist n g i ≤ dist n h i) : dist n h i = dist n h g + dist n g i := by
  revert hle
  unfold dist
  split <;> split <;> (try split) <;> omega
theorem dist_next {n i j : Nat} (hi : i < n) (hj : j < n) (hne : i ≠ j) : dist n i j = dist n (onBy n i 1) j + 1 := by
  unfold dist onBy
  split <;> split <;> split <;> omega
theorem dist_pos {n i j : Nat} (hi : i < n) (_hj : j < n) (hne : i ≠ j) : 1 ≤ dist n i j := by unfold dist; split <;> omega
theorem dist_self (n i : Nat) : dist n i i = 0 := by simp [dist]

/-- As a number's remainder: what a mask makes. -/
theorem onBy_mod {n a : Nat} (ha : a < n) : (a + 1) % n = onBy n a 1 := by
  unfold onBy
  split
  · exact Nat.mod_eq_of_lt ‹_›
  · rw [show a + 1 = n by omega, Nat.mod_self, Nat.sub_self]
theorem dist_mod {n a b : Nat} (ha : a < n) (hb : b < n) : ((b : Int) - (a : Int)) % (n : Int) = (dist n a b : Nat) := by
  unfold dist
  split
  · rw [Int.emod_eq_of_lt (by omega) (by omega)]; omega
  · rw [← Int.add_emod_right, Int.emod_eq_of_lt (by omega) (by omega)]; omega

/-- A table: its entries, each behind its home with no empty place between. -/
structure TInv (n : Nat) (h : Int × Int → Nat) (T : List (Option Ent)) (L : List Ent) : Prop where
  len : T.length = n
  home : ∀ k, h k < n
  perm : (content T).Perm L
  apart : Apart L
  chain : ∀ i e, T[i]? = some (some e) → ∀ c, c < dist n (h e.1) i → T[onBy n (h e.1) c]? ≠ some none

/-- Where a search for a pair ends: so far behind its home. -/
structure Found (n : Nat) (h : Int × Int → Nat) (T : List (Option Ent)) (k : Int × Int) (c : Nat) : Prop where
  lt : c < n
  before : ∀ d, d < c → ∃ e : Ent, T[onBy n (h k) d]? = some (some e) ∧ e.1 ≠ k
  stop : T[onBy n (h k) c]? = some none ∨ ∃ e : Ent, T[onBy n (h k) c]? = some (some e) ∧ e.1 = k

section
variable {n : Nat} {h : Int × Int → Nat} {T : List (Option Ent)} {L : List Ent}

theorem place_get {T : List (Option Ent)} {i : Nat} (hi : i < T.length) : T[i]? = some none ∨ ∃ e, T[i]? = some (some e) := by
  rw [List.getElem?_eq_getElem hi]
  cases T[i] with
  | none => exact .inl rfl
  | some e => exact .inr ⟨e, rfl⟩

theorem found_exists (hl : T.length = n) (hh : ∀ k, h k < n) (hlt : (content T).length < n) (k : Int × Int) : ∃ c, Found n h T k c := by
  obtain ⟨j, hj⟩ := exists_empty T (by omega)
  have hjn : j < n := by have := (List.getElem?_eq_some_iff.1 hj).1; omega
  have key : ∀ m c, (∀ d, d < c → ∃ e : Ent, T[onBy n (h k) d]? = some (some e) ∧ e.1 ≠ k) → c ≤ dist n (h k) j → dist n (h k) j - c = m → ∃ c, Found n h T k c := by
    intro m
    induction m with
    | zero =>
      intro c hb hc hm
      have : c = dist n (h k) j := by omega
      exact ⟨c, by have := dist_lt (hh k) hjn; omega, hb, .inl (by rw [this, onBy_dist (hh k) hjn]; exact hj)⟩
    | succ m ih =>
      intro c hb hc hm
      have hcn : c < n := by have := dist_lt (hh k) hjn; omega
      rcases place_get (T := T) (i := onBy n (h k) c) (by rw [hl]; exact onBy_lt (hh k) (by omega)) with h1 | ⟨e, h1⟩
      · exact ⟨c, hcn, hb, .inl h1⟩
      · by_cases he : e.1 = k
        · exact ⟨c, hcn, hb, .inr ⟨e, h1, he⟩⟩
        · refine ih (c + 1) (fun d hd => ?_) (by omega) (by omega)
          by_cases hdc : d = c
          · subst hdc; exact ⟨e, h1, he⟩
          · exact hb d (by omega)
  exact key _ 0 (fun d hd => by omega) (Nat.zero_le _) rfl

theorem TInv.lt (H : TInv n h T L) {i : Nat} {a : Option Ent} (hi : T[i]? = some a) : i < n := by
  have := (List.getElem?_eq_some_iff.1 hi).1
  rw [H.len] at this
  exact this

theorem TInv.mem (H : TInv n h T L) {e : Ent} : e ∈ L ↔ ∃ i : Nat, T[i]? = some (some e) := by rw [← mem_content]; exact H.perm.mem_iff.symm

theorem TInv.apartC (H : TInv n h T L) : Apart (content T) := H.apart.perm H.perm.symm

/-- A pair that is there is found. -/
theorem TInv.found (H : TInv n h T L) {e : Ent} (he : e ∈ L) {c : Nat} (F : Found n h T e.1 c) : T[onBy n (h e.1) c]? = some (some e) := by
  obtain ⟨i, hi⟩ := H.mem.1 he
  have hin := H.lt hi
  have hd := dist_lt (H.home e.1) hin
  have e1 : onBy n (h e.1) (dist n (h e.1) i) = i := onBy_dist (H.home e.1) hin
  rcases Nat.lt_trichotomy c (dist n (h e.1) i) with hc | hc | hc
  · rcases F.stop with h1 | ⟨x, h1, hx⟩
    · exact absurd h1 (H.chain i e hi c hc)
    · have := H.apartC.place h1 hi hx
      rw [this]; exact hi
  · rw [hc, e1]; exact hi
  · obtain ⟨x, h1, hx⟩ := F.before _ hc
    rw [e1, hi] at h1
    injection h1 with h1; injection h1 with h1
    exact absurd (by rw [h1]) hx

/-- What a search ends at. -/
theorem TInv.search (H : TInv n h T L) {k : Int × Int} {c : Nat} (F : Found n h T k c) :
    (T[onBy n (h k) c]? = some none ∧ ∀ e ∈ L, e.1 ≠ k) ∨ ∃ e ∈ L, e.1 = k ∧ T[onBy n (h k) c]? = some (some e) := by
  rcases F.stop with h1 | ⟨e, h1, he⟩
  · refine .inl ⟨h1, fun e he hk => ?_⟩
    subst hk
    rw [H.found he F] at h1
    cases h1
  · exact .inr ⟨e, H.mem.2 ⟨_, h1⟩, he, h1⟩

/-- Laid where the search ended. -/
theorem TInv.put (H : TInv n h T L) {e : Ent} {c : Nat} (F : Found n h T e.1 c) (hno : T[onBy n (h e.1) c]? = some none) : TInv n h (T.set (onBy n (h e.1) c) (some e)) (L ++ [e]) := by
  have hfree : ∀ x ∈ L, x.1 ≠ e.1 := by
    rcases H.search F with ⟨_, h1⟩ | ⟨x, _, _, h1⟩
    · exact h1
    · rw [hno] at h1; cases h1
  have hp : (content (T.set (onBy n (h e.1) c) (some e))).Perm (L ++ [e]) :=
    (content_set_some e T _ hno).trans ((H.perm.cons e).trans (by have := List.perm_append_comm (l₁ := [e]) (l₂ := L); simpa using this))
  refine ⟨by rw [List.length_set]; exact H.len, H.home, hp, ?_, ?_⟩
  · have : Apart (e :: L) := by
      simp only [Apart, List.map_cons, List.nodup_cons, List.mem_map, not_exists, not_and]
      exact ⟨fun x hx hk => hfree x hx hk, H.apart⟩
    exact this.perm (by have := List.perm_append_comm (l₁ := [e]) (l₂ := L); simpa using this)
  · intro i x hi d hd hne
    rw [List.getElem?_set] at hne
    split at hne
    · split at hne
      · cases hne
      · cases hne
    · rename_i hn
      rw [List.getElem?_set] at hi
      split at hi
      · rename_i hie
        split at hi
        · injection hi with hi; injection hi with hi
          subst hi hie
          rw [dist_onBy (H.home _) F.lt] at hd
          obtain ⟨y, hy, _⟩ := F.before d hd
          rw [hy] at hne; cases hne
        · cases hi
      · exact H.chain i x hi d hd hne

/-- A table of none. -/
theorem TInv.bare (n : Nat) (h : Int × Int → Nat) (hh : ∀ k, h k < n) : TInv n h (List.replicate n none) [] :=
  ⟨List.length_replicate, hh, by rw [content_replicate], List.nodup_nil, fun i e hi => by
    rw [List.getElem?_replicate] at hi; split at hi <;> cases hi⟩
end

/-- While what is behind a gap is moved up: U is the table with the gap at g empty, and so many places behind it have been looked at. -/
structure Gap (n : Nat) (h : Int × Int → Nat) (U : List (Option Ent)) (L : List Ent) (g q j : Nat) : Prop where
  len : U.length = n
  home : ∀ k, h k < n
  perm : (content U).Perm L
  apart : Apart L
  gap : U[g]? = some none
  far : U[j]? = some none
  ne : g ≠ j
  pos : 1 ≤ q
  full : ∀ c, 1 ≤ c → c < q → U[onBy n g c]? ≠ some none
  chain : ∀ p e, U[p]? = some (some e) → ∀ c, c < dist n (h e.1) p → U[onBy n (h e.1) c]? = some none → onBy n (h e.1) c = g ∧ q ≤ dist n g p

section
variable {n : Nat} {h : Int × Int → Nat} {T U : List (Option Ent)} {L : List Ent} {g q j : Nat}

theorem Gap.ltg (G : Gap n h U L g q j) : g < n := by have := (List.getElem?_eq_some_iff.1 G.gap).1; rw [G.len] at this; exact this
theorem Gap.ltj (G : Gap n h U L g q j) : j < n := by have := (List.getElem?_eq_some_iff.1 G.far).1; rw [G.len] at this; exact this
theorem Gap.le (G : Gap n h U L g q j) : q ≤ dist n g j := by
  have h1 := dist_pos G.ltg G.ltj G.ne
  refine Nat.le_of_not_lt fun hlt => G.full _ h1 hlt ?_
  rw [onBy_dist G.ltg G.ltj]; exact G.far
theorem Gap.lt (G : Gap n h U L g q j) : q < n := Nat.lt_of_le_of_lt G.le (dist_lt G.ltg G.ltj)
theorem Gap.at_lt (G : Gap n h U L g q j) : onBy n g q < n := onBy_lt G.ltg (Nat.le_of_lt G.lt)
theorem Gap.at_ne (G : Gap n h U L g q j) : onBy n g q ≠ g := fun e => by
  have h1 := dist_onBy G.ltg G.lt
  rw [e, dist_self] at h1
  have := G.pos
  omega

/-- The gap as it begins. -/
theorem TInv.gap (H : TInv n h T L) {K : List Ent} {i j : Nat} {e : Ent} (hi : T[i]? = some (some e)) (hj : T[j]? = some none) (hK : L.Perm (e :: K)) : Gap n h (T.set i none) K i 1 j := by
  have hin := H.lt hi
  have hne : i ≠ j := fun h1 => by subst h1; rw [hi] at hj; cases hj
  refine ⟨by rw [List.length_set]; exact H.len, H.home, ?_, ?_, by simp [H.len, hin], by rw [List.getElem?_set_ne hne]; exact hj, hne, Nat.le_refl _, fun c h1 h2 => by omega, ?_⟩
  · have h1 := ((content_set_none hi).symm.trans H.perm).trans hK
    exact h1.cons_inv
  · have h1 := H.apart.perm hK
    simp only [Apart, List.map_cons, List.nodup_cons] at h1
    exact h1.2
  · intro p x hp c hc hno
    have hpi : i ≠ p := fun h1 => by subst h1; simp [H.len, hin] at hp
    rw [List.getElem?_set_ne hpi] at hp
    have hpn := H.lt hp
    refine ⟨?_, dist_pos hin hpn hpi⟩
    refine Classical.byContradiction fun hn => ?_
    rw [List.getElem?_set_ne (fun h1 => hn h1.symm)] at hno
    exact H.chain p x hp c hc hno

/-- It ends at an empty place. -/
theorem Gap.ends (G : Gap n h U L g q j) (he : U[onBy n g q]? = some none) : TInv n h U L := by
  refine ⟨G.len, G.home, G.perm, G.apart, fun p e hp c hc hno => ?_⟩
  have hpn : p < n := by have := (List.getElem?_eq_some_iff.1 hp).1; rw [G.len] at this; exact this
  obtain ⟨h1, h2⟩ := G.chain p e hp c hc hno
  have hq : q ≠ dist n g p := fun e1 => by
    rw [e1, onBy_dist G.ltg hpn, hp] at he; cases he
  have h3 := dist_on (G.home e.1) hpn (Nat.le_of_lt hc) h1
  have h4 := dist_lt (G.home e.1) hpn
  have h5 : onBy n (h e.1) (c + q) = onBy n g q := by rw [← h1, onBy_onBy (G.home e.1) (by omega)]
  obtain ⟨h6, _⟩ := G.chain p e hp (c + q) (by omega) (by rw [h5]; exact he)
  rw [h5] at h6
  exact G.at_ne h6

/-- One that stays. -/
theorem Gap.stay (G : Gap n h U L g q j) {e : Ent} (he : U[onBy n g q]? = some (some e)) (hs : dist n (h e.1) (onBy n g q) < dist n g (onBy n g q)) : Gap n h U L g (q + 1) j := by
  refine ⟨G.len, G.home, G.perm, G.apart, G.gap, G.far, G.ne, by omega, fun c h1 h2 => ?_, fun p x hp c hc hno => ?_⟩
  · by_cases hcq : c = q
    · subst hcq; rw [he]; intro h; cases h
    · exact G.full c h1 (by omega)
  · have hpn : p < n := by have := (List.getElem?_eq_some_iff.1 hp).1; rw [G.len] at this; exact this
    obtain ⟨h1, h2⟩ := G.chain p x hp c hc hno
    refine ⟨h1, Nat.lt_of_le_of_ne h2 fun e1 => ?_⟩
    have hpq : onBy n g q = p := by rw [e1, onBy_dist G.ltg hpn]
    rw [hpq] at he hs
    rw [hp] at he
    injection he with he; injection he with he
    subst he
    have h3 := dist_on (G.home x.1) hpn (Nat.le_of_lt hc) h1
    omega

/-- One that is moved up. -/
theorem Gap.move (G : Gap n h U L g q j) {e : Ent} (he : U[onBy n g q]? = some (some e)) (hs : dist n g (onBy n g q) ≤ dist n (h e.1) (onBy n g q)) : Gap n h ((U.set g (some e)).set (onBy n g q) none) L (onBy n g q) 1 j := by
  have hin := G.at_lt
  have hne := G.at_ne
  have hlen := G.len
  have hij : onBy n g q ≠ j := fun h1 => by rw [h1, G.far] at he; cases he
  generalize hi : onBy n g q = i at *
  refine ⟨by simpa using G.len, G.home, ?_, G.apart, by simp [hlen, hin], ?_, hij, Nat.le_refl _, fun c h1 h2 => by omega, ?_⟩
  · rw [List.set_comm _ _ (fun h1 => hne h1.symm)]
    have h1 := content_set_some e (U.set i none) g (by rw [List.getElem?_set_ne hne]; exact G.gap)
    exact (h1.trans (content_set_none he).symm).trans G.perm
  · rw [List.getElem?_set_ne hij, List.getElem?_set_ne G.ne]; exact G.far
  · intro p x hp c hc hno
    have hip : i ≠ p := fun h1 => by subst h1; simp [hlen, hin] at hp
    have hpn : p < n := by have := (List.getElem?_eq_some_iff.1 hp).1; simp [hlen] at this; exact this
    refine ⟨?_, dist_pos hin hpn hip⟩
    refine Classical.byContradiction fun hn => ?_
    rw [List.getElem?_set_ne (fun h1 => hn h1.symm)] at hno
    have hng : g ≠ onBy n (h x.1) c := fun h1 => by rw [← h1] at hno; simp [hlen, G.ltg] at hno
    rw [List.getElem?_set_ne hng] at hno
    rw [List.getElem?_set_ne hip] at hp
    by_cases hpg : g = p
    · subst hpg
      rw [List.getElem?_set_self (by rw [hlen]; exact G.ltg)] at hp
      injection hp with hp; injection hp with hp
      subst hp
      have h1 := dist_way (G.home e.1) G.ltg hin hs
      exact hng (G.chain i e he c (by omega) hno).1.symm
    · rw [List.getElem?_set_ne hpg] at hp
      exact hng (G.chain p x hp c hc hno).1.symm
end

/-- The document's table: pairs in the order in which they were put, and how many places. -/
structure TS where
  L : List Ent
  slots : Nat

namespace TS
def get (s : TS) (k : Int × Int) : Int × Bool := match s.L.find? (fun e => e.1 == k) with | some e => (e.2, true) | none => (0, false)
def put (s : TS) (e : Ent) : TS := if (s.get e.1).2 then s else ⟨s.L ++ [e], if s.L.length + 1 > s.slots / 2 then 2 * s.slots else s.slots⟩
def putB (s : TS) (k : Int × Int) : Bool := !(s.get k).2
def drop (s : TS) (k : Int × Int) : TS := ⟨s.L.filter (fun e => e.1 != k), s.slots⟩
def dropB (s : TS) (k : Int × Int) : Bool := (s.get k).2
/-- It is one that can be: each pair once; half of the places are in use at most. -/
structure Ok (s : TS) : Prop where
  apart : Apart s.L
  half : 2 * s.L.length ≤ s.slots
  pow : ∃ k, s.slots = 2 ^ k
  least : 8 ≤ s.slots
end TS

theorem TS.get_no {s : TS} {k : Int × Int} (h : ∀ e ∈ s.L, e.1 ≠ k) : s.get k = (0, false) := by
  have : s.L.find? (fun e => e.1 == k) = none := List.find?_eq_none.2 (fun e he => by simpa using h e he)
  simp [TS.get, this]
theorem TS.get_yes {s : TS} (ap : Apart s.L) {e : Ent} (he : e ∈ s.L) : s.get e.1 = (e.2, true) := by
  cases h : s.L.find? (fun x => x.1 == e.1) with
  | none => exact absurd (List.find?_eq_none.1 h e he) (by simp)
  | some x =>
    have h1 : x.1 = e.1 := by simpa using List.find?_some h
    have h2 := ap.eq (List.mem_of_find?_eq_some h) he h1
    simp [TS.get, h, h2]

theorem filter_no {L : List Ent} {k : Int × Int} (h : ∀ e ∈ L, e.1 ≠ k) : L.filter (fun e => e.1 != k) = L :=
  List.filter_eq_self.2 fun e he => by simpa using h e he

theorem filter_yes : ∀ {L : List Ent}, Apart L → ∀ {e : Ent}, e ∈ L → L.Perm (e :: L.filter (fun x => x.1 != e.1)) := by
  intro L
  induction L with
  | nil => intro _ e he; cases he
  | cons x L ih =>
    intro ap e he
    have h1 := ap
    simp only [Apart, List.map_cons, List.nodup_cons, List.mem_map, not_exists, not_and] at h1
    rcases List.mem_cons.1 he with rfl | hm
    · have : L.filter (fun y => y.1 != e.1) = L := filter_no fun y hy hk => h1.1 y hy hk
      simp [this]
    · have hne : x.1 ≠ e.1 := fun hk => h1.1 e hm hk.symm
      have hb : (x.1 != e.1) = true := by simpa using hne
      rw [List.filter_cons, if_pos hb]
      exact ((ih h1.2 hm).cons x).trans (List.Perm.swap e x _)

end Go.Proofs.YtclkckinpjkglaaDoor

/-
  Walks of package uniq: mix, home, after, steps.
-/
namespace Go.Proofs.YtclkckinpjkglaaDoor
open Go Go.RowKit

theorem and_mask (n : Int) (k : Nat) (hk : k ≤ 62) : (BitVec.ofInt 64 n &&& BitVec.ofInt 64 (((2 : Nat) ^ k : Nat) - 1)).toNat = (n % ((2 ^ k : Nat) : Int)).toNat := by
  have h1 : (2 : Nat) ^ k ≤ 2 ^ 62 := Nat.pow_le_pow_right (by decide) hk
  have h0 : 0 < (2 : Nat) ^ k := Nat.pow_pos (by decide)
  have hm : (BitVec.ofInt 64 (((2 : Nat) ^ k : Nat) - 1)).toNat = 2 ^ k - 1 := by
    rw [BitVec.toNat_ofInt]
    rw [Int.emod_eq_of_lt (by omega) (by omega)]
    omega
  have hd : ((2 ^ k : Nat) : Int) ∣ ((2 ^ 64 : Nat) : Int) := Int.ofNat_dvd.2 (Nat.pow_dvd_pow 2 (by omega))
  rw [BitVec.toNat_and, hm, Nat.and_two_pow_sub_one_eq_mod, BitVec.toNat_ofInt]
  have h2 := Int.emod_nonneg n (show ((2 ^ 64 : Nat) : Int) ≠ 0 by decide)
  apply Int.ofNat_inj.1
  rw [Int.natCast_emod, Int.toNat_of_nonneg h2, Int.emod_emod_of_dvd n hd, Int.toNat_of_nonneg (Int.emod_nonneg _ (by omega))]

/-- A mask is a remainder. -/
theorem i64_mask (n : Int) (m : Nat) (hm : ∃ k, m = 2 ^ k ∧ k ≤ 62) : bits .and .i64 n ((m : Int) - 1) = n % (m : Int) := by
  obtain ⟨k, rfl, hk⟩ := hm
  have h1 : (2 : Nat) ^ k ≤ 2 ^ 62 := Nat.pow_le_pow_right (by decide) hk
  have h0 : 0 < (2 : Nat) ^ k := Nat.pow_pos (by decide)
  show IntKind.i64.wrap ((BitVec.ofInt 64 n &&& BitVec.ofInt 64 (((2 ^ k : Nat) : Int) - 1)).toNat : Nat) = _
  rw [and_mask n k hk, IntKind.wrap_i64]
  have h2 := Int.emod_nonneg n (show ((2 ^ k : Nat) : Int) ≠ 0 by omega)
  have h3 := Int.emod_lt_of_pos n (show (0 : Int) < ((2 ^ k : Nat) : Int) by omega)
  rw [Int.toNat_of_nonneg h2]
  generalize n % ((2 ^ k : Nat) : Int) = r at *
  omega
theorem u64_mask (n : Int) (m : Nat) (hm : ∃ k, m = 2 ^ k ∧ k ≤ 62) : bits .and .u64 n ((m : Int) - 1) = n % (m : Int) := by
  obtain ⟨k, rfl, hk⟩ := hm
  have h1 : (2 : Nat) ^ k ≤ 2 ^ 62 := Nat.pow_le_pow_right (by decide) hk
  have h0 : 0 < (2 : Nat) ^ k := Nat.pow_pos (by decide)
  show IntKind.u64.wrap ((BitVec.ofInt 64 n &&& BitVec.ofInt 64 (((2 ^ k : Nat) : Int) - 1)).toNat : Nat) = _
  rw [and_mask n k hk]
  have h2 := Int.emod_nonneg n (show ((2 ^ k : Nat) : Int) ≠ 0 by omega)
  have h3 := Int.emod_lt_of_pos n (show (0 : Int) < ((2 ^ k : Nat) : Int) by omega)
  rw [Int.toNat_of_nonneg h2]
  generalize n % ((2 ^ k : Nat) : Int) = r at *
  simp only [IntKind.wrap, IntKind.bits, IntKind.signed]
  simp
  omega

/-- A step of mix. -/
def mixC (x c : Int) : Int := IntKind.u64.wrap (bits .xor .u64 x (x / 8589934592) * c)
/-- What mix makes. -/
def mixI (x : Int) : Int := bits .xor .u64 (mixC (mixC x 18397679294719823053) 14181476777654086739) (mixC (mixC x 18397679294719823053) 14181476777654086739 / 8589934592)
/-- A pair, mixed. -/
def mixP (k : Int × Int) : Int := mixI (IntKind.u64.wrap (mixI (IntKind.u64.wrap k.1) + IntKind.u64.wrap k.2))
theorem homeN_ex : ∃ f : Nat → Int × Int → Nat, ∀ n k, 0 < n → f n k < n ∧ (f n k : Int) = mixP k % (n : Int) :=
  ⟨fun n k => (mixP k % (n : Int)).toNat, fun n k h => by
    have h2 := Int.emod_nonneg (mixP k) (show (n : Int) ≠ 0 by omega)
    have h3 := Int.emod_lt_of_pos (mixP k) (show (0 : Int) < (n : Int) by omega)
    show (mixP k % (n : Int)).toNat < n ∧ (((mixP k % (n : Int)).toNat : Nat) : Int) = mixP k % (n : Int)
    omega⟩
/-- A pair's home among so many places. (Chosen, not reckoned: else the kernel reckons it, as 'generalize' leaves its term in the proof.) -/
noncomputable def homeN : Nat → Int × Int → Nat := homeN_ex.choose

theorem homeN_lt {n : Nat} (h : 0 < n) (k : Int × Int) : homeN n k < n := (homeN_ex.choose_spec n k h).1
theorem homeN_eq {n : Nat} (h : 0 < n) (k : Int × Int) : (homeN n k : Int) = mixP k % (n : Int) := (homeN_ex.choose_spec n k h).2

set_option maxRecDepth 100000 in
theorem uniqMix (x : Int) (w : World) : Calls Tryd.prog 69 #[.int .u64 x] w fun e w' => e = .returned (.int .u64 (mixI x)) ∧ w = w' := by
  go_enter Tryd.func69, Tryd.ntmps69
  go_wp2
  go_ret
  exact ⟨rfl, rfl⟩

/-- How many places a table may have. -/
structure Places (n : Nat) : Prop where
  pow : ∃ k, n = 2 ^ k ∧ k ≤ 62
  most : n ≤ 1000000
  least : 8 ≤ n

/-- An entry's cells. -/
def entCells : Option Ent → List Value
  | none => [.bool false, .int .i64 0, .int .i64 0, .int .i64 0]
  | some e => [.bool true, .int .i64 e.1.1, .int .i64 e.1.2, .int .i64 e.2]

/-- Places. -/
def encP : Enc Tryd.prog (Option Ent) where
  slice := 74
  elem := 99
  size := 4
  bytes := 32
  cells := entCells
  zero := .agg #[.bool false, .int .i64 0, .int .i64 0, .int .i64 0]
  und := Tryd.underlying74
  info := info_of _ _ _ _ _ (by kernel_rfl)
  zsize := by decide
  pos := by decide
  few := by decide
  len a := by cases a <;> rfl
  one a u h := by cases a <;> simp [entCells] at h <;> rcases h with rfl | rfl | rfl | rfl <;> rfl

/-- At block b stands a table with these places. -/
structure UniqR (w : World) (b : Nat) (v : Value) (many : Int) (T : List (Option Ent)) : Prop where
  row : w.heap[b]? = some (.cells #[v, .int .i64 many] 76 (0, 0))
  places : Owns encP w v T
  apart : v.ownBlock ≠ some b

/-- The blocks of a thing of one block and one slice. -/
def foot1 (b : Nat) (v : Value) (k : Nat) : Prop := k = b ∨ v.ownBlock = some k

section
variable {w w' : World} {b : Nat} {v : Value} {many : Int} {T : List (Option Ent)}

theorem row_lt' {w : World} {b : Nat} {o : Obj} (h : w.heap[b]? = some o) : b < w.heap.size := (Array.getElem?_eq_some_iff.1 h).1
theorem UniqR.lt (h : UniqR w b v many T) : ∀ k, foot1 b v k → k < w.heap.size := by
  rintro k (rfl | hk)
  · exact row_lt' h.row
  · exact h.places.lt k hk
theorem UniqR.block (h : UniqR w b v many T) (hb : ∀ k, foot1 b v k → w'.heap[k]? = w.heap[k]?) : UniqR w' b v many T :=
  ⟨(hb b (.inl rfl)).trans h.row, h.places.block fun g hg => hb g (.inr hg), h.apart⟩
theorem UniqR.keep (h : UniqR w b v many T) {F : Nat → Prop} (hb : Keeps F w w') (hF : ∀ k, foot1 b v k → ¬ F k) : UniqR w' b v many T :=
  h.block fun k hk => hb.block k (h.lt k hk) (hF k hk)
theorem UniqR.below (h : UniqR w b v many T) (hb : Below w.heap.size w w') : UniqR w' b v many T := h.keep (Keeps.of_below hb noBlock) (fun _ _ h => h)
theorem UniqR.cells (h : UniqR w b v many T) : w.cell? ⟨b, 0, none⟩ = some v ∧ w.cell? ⟨b, 1, none⟩ = some (.int .i64 many) :=
  ⟨by rw [cell_of_row _ _ _ _ _ _ h.row]; rfl, by rw [cell_of_row _ _ _ _ _ _ h.row]; rfl⟩
theorem UniqR.free (h : UniqR w b v many T) (j : Nat) : w.frozen? ⟨b, j, none⟩ = false := frozen_of_row _ _ _ _ _ h.row
theorem UniqR.form (h : UniqR w b v many T) (hl : 0 < T.length) : ∃ g cap, v = .slice (some ⟨g, 0, none⟩) T.length cap ∧ T.length ≤ cap ∧ cap ≤ maxLen := h.places.some hl
end

/-- The cells of a place. -/
theorem placeAt {w : World} {g cap : Nat} {T : List (Option Ent)} (h : Owns encP w (.slice (some ⟨g, 0, none⟩) T.length cap) T) (i : Nat) (a : Option Ent) (hi : T[i]? = some a) :
    w.cell? ⟨g, i * 4, none⟩ = (entCells a)[0]? ∧ w.cell? ⟨g, i * 4 + 1, none⟩ = (entCells a)[1]? ∧ w.cell? ⟨g, i * 4 + 2, none⟩ = (entCells a)[2]? ∧ w.cell? ⟨g, i * 4 + 3, none⟩ = (entCells a)[3]? := by
  obtain ⟨x, c, hv, _, _, _, H⟩ := h.form
  injection hv with ha _ hc
  obtain ⟨g', e, _, _, hcell⟩ := H ⟨g, 0, none⟩ ha.symm
  cases e
  obtain ⟨hil, rfl⟩ := List.getElem?_eq_some_iff.1 hi
  exact ⟨hcell i hil 0 (by decide), hcell i hil 1 (by decide), hcell i hil 2 (by decide), hcell i hil 3 (by decide)⟩

set_option maxRecDepth 100000 in
theorem uniqAfter {w : World} {b : Nat} {v : Value} {many : Int} {T : List (Option Ent)} (h : UniqR w b v many T) (hl : Places T.length) (i : Nat) (hi : i < T.length) :
    Calls Tryd.prog 66 #[.pointer (some ⟨b, 0, none⟩), .int .i64 i] w fun e w' => e = .returned (.int .i64 (onBy T.length i 1)) ∧ w = w' := by
  have h8 := hl.least
  have hM := hl.most
  obtain ⟨g, cap, rfl, _, _⟩ := h.form (by omega)
  obtain ⟨c0, c1⟩ := h.cells
  have hm : bits .and .i64 ((i : Int) + 1) ((T.length : Int) - 1) = (onBy T.length i 1 : Nat) := by
    rw [i64_mask _ _ hl.pow, ← onBy_mod hi, Int.natCast_emod]
    rfl
  have HM := Lib.hid hm
  clear h hm
  have hT8 : 8 ≤ (T.length : Int) := by omega
  have hTM : (T.length : Int) ≤ 1000000 := by omega
  have hiI : (i : Int) < (T.length : Int) := by omega
  go_enter Tryd.func66, Tryd.ntmps66
  go_wp2
  go_ret
  exact ⟨by rw [← HM.out]; rfl, rfl⟩

/-- A pair as a value. -/
def pairV (k : Int × Int) : Value := .agg #[.int .i64 k.1, .int .i64 k.2]

/-- Block b is a variable that holds a pair. -/
def PairAt (w : World) (b : Nat) (k : Int × Int) : Prop := w.heap[b]? = some (.cells #[.int .i64 k.1, .int .i64 k.2] 97 (0, 0))
theorem PairAt.lt {w : World} {b : Nat} {k : Int × Int} (h : PairAt w b k) : b < w.heap.size := row_lt' h
theorem PairAt.keep {w w' : World} {b : Nat} {k : Int × Int} (h : PairAt w b k) (hb : Below w.heap.size w w') : PairAt w' b k := (hb.block b h.lt).trans h
theorem PairAt.cells {w : World} {b : Nat} {k : Int × Int} (h : PairAt w b k) : w.cell? ⟨b, 0, none⟩ = some (.int .i64 k.1) ∧ w.cell? ⟨b, 1, none⟩ = some (.int .i64 k.2) :=
  ⟨by rw [cell_of_row _ _ _ _ _ _ h]; rfl, by rw [cell_of_row _ _ _ _ _ _ h]; rfl⟩
theorem PairAt.new (w : World) (k1 k2 : Int) : PairAt (w.alloc (.cells #[.int .i64 k1, .int .i64 k2] 97)) w.heap.size (k1, k2) := heap_alloc_new _ _

set_option maxRecDepth 100000 in
theorem uniqHome {w : World} {b : Nat} {v : Value} {many : Int} {T : List (Option Ent)} (h : UniqR w b v many T) (hl : Places T.length) (k : Int × Int) :
    Calls Tryd.prog 65 #[.pointer (some ⟨b, 0, none⟩), pairV k] w fun e w' => e = .returned (.int .i64 (homeN T.length k)) ∧ Below w.heap.size w w' := by
  have h8 := hl.least
  have hM := hl.most
  have hlt := homeN_lt (show 0 < T.length by omega) k
  have heq := homeN_eq (show 0 < T.length by omega) k
  obtain ⟨g, cap, rfl, _, _⟩ := h.form (by omega)
  obtain ⟨k1, k2⟩ := k
  have hm : bits .and .u64 (mixI (IntKind.u64.wrap (mixI (IntKind.u64.wrap k1) + IntKind.u64.wrap k2))) ((T.length : Int) - 1) = (homeN T.length (k1, k2) : Nat) := by
    rw [u64_mask _ _ hl.pow, heq]
    rfl
  clear heq
  generalize homeN T.length (k1, k2) = N at *
  have hT8 : 8 ≤ (T.length : Int) := by omega
  have hTM : (T.length : Int) ≤ 1000000 := by omega
  have hN : (N : Int) < (T.length : Int) := by omega
  unfold pairV
  go_enter Tryd.func65, Tryd.ntmps65
  go_wp2
  have hp := PairAt.new w k1 k2
  have hb : Below w.heap.size w (w.alloc (.cells #[.int .i64 k1, .int .i64 k2] 97)) := by go_grown
  replace h := h.below hb
  generalize w.alloc (.cells #[.int .i64 k1, .int .i64 k2] 97) = W at *
  have p0 : ∀ u : Sub W, u.1.cell? ⟨w.heap.size, 0, none⟩ = some (.int .i64 k1) := fun u => (hp.keep u.2).cells.1
  have p1 : ∀ u : Sub W, u.1.cell? ⟨w.heap.size, 1, none⟩ = some (.int .i64 k2) := fun u => (hp.keep u.2).cells.2
  refine wp_region_quiet_all (C := fun w' => ∃ u : Sub W, w' = u.1) (by kernel_rfl) (by kernel_rfl) (InSub.drew W) ?_
  iterate 3 (go_big_quiet_step (fail))
  go_big_quiet_step (exact subSame (uniqMix _ _))
  iterate 4 (go_big_quiet_step (fail))
  go_big_quiet_step (exact subSame (uniqMix _ _))
  go_big_quiet_step (fail)
  refine wpQuiet_nil ?_
  clear p0 p1
  intro w' hw'
  obtain ⟨u, rfl⟩ := hw'
  have hk := u.2
  replace h := h.below hk
  generalize u.1 = w1 at *
  obtain ⟨c0, c1⟩ := h.cells
  clear h hp
  generalize hX : mixI (IntKind.u64.wrap (mixI (IntKind.u64.wrap k1) + IntKind.u64.wrap k2)) = X at *
  go_wp2
  go_ret
  exact ⟨rfl, hb.trans (hk.mono hb.size)⟩

end Go.Proofs.YtclkckinpjkglaaDoor
