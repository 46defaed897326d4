/-
  Texts of this proof, one behind the other: WireM.
-/
/-
  Mathematics of layer 18: numbers as bytes, parts of a request and an answer, what is put, what is got. Nothing of the program is read here.
-/
namespace Go.Proofs.Ytnnkkedflfmaoaa

/-- A number among bytes: its place, of how many bytes it is, from what to what it may be. -/
structure Prt where
  pl : Nat
  wide : Nat
  lo : Nat
  hi : Nat

def Prt.ok (p : Prt) (n : Nat) : Bool := decide (p.lo ≤ n) && decide (n ≤ p.hi)

/-- A number's k lowest bytes, the highest first. -/
def highB : Nat → Nat → List Nat
  | 0, _ => []
  | k + 1, v => (v / 256 ^ k % 256) :: highB k v

/-- What a number comes to with bytes behind it, in 64 bits. -/
def numInto (v : Nat) (l : List Nat) : Nat := l.foldl (fun v x => (256 * v + x) % 18446744073709551616) v
def numB (l : List Nat) : Nat := numInto 0 l

theorem highB_length (k v : Nat) : (highB k v).length = k := by
  induction k with
  | zero => rfl
  | succ k ih => simp [highB, ih]

theorem highB_lt (k v : Nat) : ∀ x ∈ highB k v, x < 256 := by
  induction k with
  | zero => intro x h; cases h
  | succ k ih =>
    intro x h
    rcases List.mem_cons.1 h with rfl | h
    · exact Nat.mod_lt _ (by decide)
    · exact ih x h

theorem highB_snoc (k v : Nat) : highB (k + 1) v = highB k (v / 256) ++ [v % 256] := by
  induction k with
  | zero => simp [highB]
  | succ k ih =>
    rw [show highB (k + 1 + 1) v = (v / 256 ^ (k + 1) % 256) :: highB (k + 1) v from rfl, ih, show highB (k + 1) (v / 256) = (v / 256 / 256 ^ k % 256) :: highB k (v / 256) from rfl, Nat.div_div_eq_div_mul, Nat.pow_succ']
    rfl

theorem highB_mod (k v : Nat) : highB k (v % 256 ^ k) = highB k v := by
  suffices H : ∀ m, k ≤ m → highB k (v % 256 ^ m) = highB k v from H k (Nat.le_refl _)
  induction k with
  | zero => intro m _; rfl
  | succ k ih =>
    intro m hm
    simp only [highB]
    rw [ih m (by omega)]
    congr 1
    obtain ⟨d, rfl⟩ : ∃ d, m = k + (1 + d) := ⟨m - k - 1, by omega⟩
    rw [Nat.pow_add, Nat.mod_mul_right_div_self, Nat.pow_add, Nat.mod_mul_right_mod]

theorem numInto_snoc (v : Nat) (l : List Nat) (x : Nat) : numInto v (l ++ [x]) = (256 * numInto v l + x) % 18446744073709551616 := by
  simp [numInto]

theorem numInto_cons (v x : Nat) (l : List Nat) : numInto v (x :: l) = numInto ((256 * v + x) % 18446744073709551616) l := rfl
theorem numInto_nil (v : Nat) : numInto v [] = v := rfl

/-- Exactly, where it may be. -/
theorem numB_exact : ∀ (l : List Nat), l.length ≤ 8 → (∀ x ∈ l, x < 256) → numB l < 256 ^ l.length ∧ highB l.length (numB l) = l := by
  intro l
  induction h : l.length generalizing l with
  | zero =>
    intro _ _
    obtain rfl := List.length_eq_zero_iff.1 h
    exact ⟨by simp [numB, numInto], rfl⟩
  | succ k ih =>
    intro h8 hl
    obtain ⟨m, x, rfl⟩ : ∃ m x, l = m ++ [x] := by
      rcases List.eq_nil_or_concat l with rfl | ⟨m, x, rfl⟩
      · cases h
      · exact ⟨m, x, by simp⟩
    have hm : m.length = k := by simp at h; omega
    obtain ⟨h1, h2⟩ := ih m hm (by omega) (fun y hy => hl y (by simp [hy]))
    have hx : x < 256 := hl x (by simp)
    have hp : (256 : Nat) ^ (k + 1) ≤ 256 ^ 8 := Nat.pow_le_pow_right (by decide) h8
    have h3 : 256 * numB m + x < 256 ^ (k + 1) := by rw [Nat.pow_succ]; omega
    have h4 : numB (m ++ [x]) = 256 * numB m + x := by
      unfold numB at *
      rw [numInto_snoc, Nat.mod_eq_of_lt (Nat.lt_of_lt_of_le h3 (by simpa using hp))]
    rw [h4]
    refine ⟨h3, ?_⟩
    rw [highB_snoc, show (256 * numB m + x) / 256 = numB m by omega, show (256 * numB m + x) % 256 = x by omega, h2]

theorem numB_highB (k v : Nat) (hk : k ≤ 8) (hv : v < 256 ^ k) : numB (highB k v) = v := by
  suffices H : ∀ k v, k ≤ 8 → numB (highB k v) = v % 256 ^ k by rw [H k v hk, Nat.mod_eq_of_lt hv]
  intro k
  induction k with
  | zero => intro v _; simp [highB, numB, numInto, Nat.mod_one]
  | succ k ih =>
    intro v h8
    have hp : (256 : Nat) ^ (k + 1) ≤ 256 ^ 8 := Nat.pow_le_pow_right (by decide) h8
    rw [highB_snoc]
    unfold numB at *
    rw [numInto_snoc, ih _ (by omega)]
    have h1 : v / 256 % 256 ^ k < 256 ^ k := Nat.mod_lt _ (Nat.pow_pos (by decide))
    have h2 : 256 * (v / 256 % 256 ^ k) + v % 256 < 256 ^ (k + 1) := by rw [Nat.pow_succ]; omega
    rw [Nat.mod_eq_of_lt (Nat.lt_of_lt_of_le h2 (by simpa using hp)), Nat.pow_succ']
    have h3 := Nat.div_add_mod v 256
    have h4 := Nat.div_add_mod (v / 256) (256 ^ k)
    have h5 : v = 256 * 256 ^ k * (v / 256 / 256 ^ k) + (256 * (v / 256 % 256 ^ k) + v % 256) := by
      rw [Nat.mul_assoc]
      omega
    have h6 : 256 * (v / 256 % 256 ^ k) + v % 256 < 256 * 256 ^ k := by omega
    conv => rhs; rw [h5]
    rw [Nat.mul_add_mod, Nat.mod_eq_of_lt h6]

/-- All numbers of a request, or an answer, by their places. -/
abbrev NF := Nat → Nat
def NF.put (n : NF) (i v : Nat) : NF := fun j => if j = i then v else n j
def NF.zero : NF := fun _ => 0
theorem NF.put_same (n : NF) (i v : Nat) : n.put i v i = v := if_pos rfl
theorem NF.put_other (n : NF) {i j : Nat} (v : Nat) (h : j ≠ i) : n.put i v j = n j := if_neg h

/-- The bytes of the parts. -/
def bytesF (f : List Prt) (n : NF) : List Nat := f.flatMap fun p => highB p.wide (n p.pl)
theorem bytesF_cons (p : Prt) (f : List Prt) (n : NF) : bytesF (p :: f) n = highB p.wide (n p.pl) ++ bytesF f n := rfl
theorem bytesF_append (f g : List Prt) (n : NF) : bytesF (f ++ g) n = bytesF f n ++ bytesF g n := by simp [bytesF]

/-- As it is put, part by part. -/
def putGo : List Prt → NF → List Nat → Option (List Nat × NF)
  | [], n, acc => some (acc, n)
  | p :: f, n, acc => if p.ok (n p.pl) = true then putGo f (n.put p.pl 0) (acc ++ highB p.wide (n p.pl)) else none

def NF.none7 (n : NF) : Prop := ∀ i, i < 7 → n i = 0
instance (n : NF) : Decidable n.none7 := inferInstanceAs (Decidable (∀ i, i < 7 → n i = 0))
def putN (f : List Prt) (n : NF) : Option (List Nat) := (putGo f n []).bind fun x => if x.2.none7 then some x.1 else none

/-- As it is got, part by part. -/
def getGo : List Prt → NF → List Nat → Option (NF × List Nat)
  | [], n, b => some (n, b)
  | p :: f, n, b => if b.length < p.wide then none else if p.ok (numInto (n p.pl) (b.take p.wide)) = true then getGo f (n.put p.pl (numInto (n p.pl) (b.take p.wide))) (b.drop p.wide) else none
def getN (f : List Prt) (b : List Nat) : Option NF := (getGo f NF.zero b).bind fun x => if x.2 = [] then some x.1 else none

/-- Parts that may stand in one form. -/
structure Form (f : List Prt) : Prop where
  apart : (f.map Prt.pl).Nodup
  few : ∀ p ∈ f, p.pl < 7
  wide : ∀ p ∈ f, p.wide ≤ 8
  hi : ∀ p ∈ f, p.hi < 256 ^ p.wide

theorem Form.tail {p : Prt} {f : List Prt} (h : Form (p :: f)) : Form f ∧ ∀ q ∈ f, q.pl ≠ p.pl := by
  have h1 := List.nodup_cons.1 (show (p.pl :: f.map Prt.pl).Nodup from h.apart)
  exact ⟨⟨h1.2, fun q hq => h.few q (List.mem_cons_of_mem _ hq), fun q hq => h.wide q (List.mem_cons_of_mem _ hq), fun q hq => h.hi q (List.mem_cons_of_mem _ hq)⟩,
    fun q hq e => h1.1 (e ▸ List.mem_map_of_mem hq)⟩

/-- All that the parts are may be, all else is 0. -/
def okF (f : List Prt) (n : NF) : Prop := (∀ p ∈ f, p.ok (n p.pl) = true) ∧ ∀ i, i ∉ f.map Prt.pl → n i = 0

theorem bytesF_put {f : List Prt} {n : NF} {i v : Nat} (h : ∀ q ∈ f, q.pl ≠ i) : bytesF f (n.put i v) = bytesF f n := by
  unfold bytesF
  induction f with
  | nil => rfl
  | cons q f ih =>
    rw [List.flatMap_cons, List.flatMap_cons, ih (fun r hr => h r (List.mem_cons_of_mem _ hr)), NF.put_other _ _ (h q List.mem_cons_self)]

theorem putGo_some {f : List Prt} (hf : Form f) : ∀ (n : NF) (acc : List Nat) (x : List Nat × NF), putGo f n acc = some x ↔
    (∀ p ∈ f, p.ok (n p.pl) = true) ∧ x.1 = acc ++ bytesF f n ∧ x.2 = fun i => if i ∈ f.map Prt.pl then 0 else n i := by
  induction f with
  | nil =>
    intro n acc x
    simp only [putGo, bytesF, List.flatMap_nil, List.append_nil, List.map_nil, List.not_mem_nil, if_false]
    constructor
    · intro h; cases h; exact ⟨fun _ h => (nomatch h), rfl, rfl⟩
    · rintro ⟨_, h1, h2⟩; obtain ⟨x1, x2⟩ := x; dsimp only at h1 h2; rw [h1, h2]
  | cons p f ih =>
    intro n acc x
    obtain ⟨hf', hp⟩ := hf.tail
    have hfun : (fun i => if i ∈ f.map Prt.pl then 0 else (n.put p.pl 0) i) = fun i => if i ∈ (p :: f).map Prt.pl then 0 else n i := by
      funext i
      by_cases hi : i ∈ f.map Prt.pl
      · rw [if_pos hi, if_pos (by rw [List.map_cons]; exact List.mem_cons_of_mem _ hi)]
      · rw [if_neg hi]
        by_cases e : i = p.pl
        · rw [e, NF.put_same, if_pos (by simp)]
        · rw [NF.put_other _ _ e, if_neg (by simp only [List.map_cons, List.mem_cons]; exact fun h => h.elim e hi)]
    simp only [putGo]
    by_cases hk : p.ok (n p.pl) = true
    · rw [if_pos hk, ih hf', bytesF_put hp, bytesF_cons, ← List.append_assoc, hfun]
      constructor
      · rintro ⟨h1, h2, h3⟩
        refine ⟨fun q hq => ?_, h2, h3⟩
        rcases List.mem_cons.1 hq with rfl | hq
        · exact hk
        · have := h1 q hq; rwa [NF.put_other _ _ (hp q hq)] at this
      · rintro ⟨h1, h2, h3⟩
        exact ⟨fun q hq => by rw [NF.put_other _ _ (hp q hq)]; exact h1 q (List.mem_cons_of_mem _ hq), h2, h3⟩
    · rw [if_neg hk]
      exact ⟨fun h => (nomatch h), fun h => (hk (h.1 p List.mem_cons_self)).elim⟩

theorem putN_some {f : List Prt} (hf : Form f) {n : NF} (hn : ∀ i, 7 ≤ i → n i = 0) (b : List Nat) : putN f n = some b ↔ okF f n ∧ b = bytesF f n := by
  unfold putN
  constructor
  · intro h
    obtain ⟨x, hx, h⟩ := Option.bind_eq_some_iff.1 h
    obtain ⟨h1, h2, h3⟩ := (putGo_some hf n [] x).1 hx
    split at h
    · rename_i h7
      cases h
      refine ⟨⟨h1, fun i hi => ?_⟩, h2⟩
      rcases Nat.lt_or_ge i 7 with h | h
      · have := h7 i h
        rw [h3] at this
        dsimp only at this
        rwa [if_neg hi] at this
      · exact hn i h
    · cases h
  · rintro ⟨⟨h1, h2⟩, rfl⟩
    refine Option.bind_eq_some_iff.2 ⟨_, (putGo_some hf n [] (bytesF f n, fun i => if i ∈ f.map Prt.pl then 0 else n i)).2 ⟨h1, rfl, rfl⟩, if_pos fun i _ => ?_⟩
    show (if i ∈ f.map Prt.pl then 0 else n i) = 0
    by_cases h : i ∈ f.map Prt.pl
    · rw [if_pos h]
    · rw [if_neg h]; exact h2 i h

theorem putN_none {f : List Prt} (hf : Form f) {n : NF} (hn : ∀ i, 7 ≤ i → n i = 0) (h : ¬ okF f n) : putN f n = none := by
  cases hp : putN f n with
  | none => rfl
  | some b => exact (h ((putN_some hf hn b).1 hp).1).elim

theorem getGo_some {f : List Prt} (hf : Form f) : ∀ (m : NF) (b : List Nat) (x : NF × List Nat), (∀ y ∈ b, y < 256) → (∀ p ∈ f, m p.pl = 0) → (getGo f m b = some x ↔
    (∀ p ∈ f, p.ok (x.1 p.pl) = true) ∧ b = bytesF f x.1 ++ x.2 ∧ ∀ i, i ∉ f.map Prt.pl → x.1 i = m i) := by
  induction f with
  | nil =>
    intro m b x _ _
    obtain ⟨n, r⟩ := x
    simp only [getGo, bytesF, List.flatMap_nil, List.nil_append, List.map_nil, List.not_mem_nil]
    constructor
    · intro h; cases h; exact ⟨fun _ h => (nomatch h), rfl, fun _ _ => rfl⟩
    · rintro ⟨_, rfl, h2⟩; rw [show n = m from funext fun i => h2 i (fun h => h)]
  | cons p f ih =>
    intro m b x hb hm
    obtain ⟨hf', hp⟩ := hf.tail
    obtain ⟨n, r⟩ := x
    have hw := hf.wide p List.mem_cons_self
    have hm0 := hm p List.mem_cons_self
    simp only [getGo]
    rw [hm0]
    by_cases hl : b.length < p.wide
    · rw [if_pos hl]
      refine ⟨fun h => (nomatch h), fun ⟨_, h2, _⟩ => ?_⟩
      have := congrArg List.length h2
      rw [bytesF_cons] at this
      simp [highB_length] at this
      omega
    rw [if_neg hl]
    have htl : (b.take p.wide).length = p.wide := by rw [List.length_take]; omega
    obtain ⟨e1, e2⟩ := numB_exact (b.take p.wide) (by omega) (fun y hy => hb y (List.mem_of_mem_take hy))
    rw [htl] at e1 e2
    change (if p.ok (numB (b.take p.wide)) = true then getGo f (m.put p.pl (numB (b.take p.wide))) (b.drop p.wide) else none) = some (n, r) ↔ _
    have key : b = bytesF (p :: f) n ++ r → p.ok (n p.pl) = true → numB (b.take p.wide) = n p.pl ∧ b.drop p.wide = bytesF f n ++ r := by
      intro h hk
      rw [bytesF_cons, List.append_assoc] at h
      have hlt : n p.pl < 256 ^ p.wide := by
        simp only [Prt.ok, Bool.and_eq_true, decide_eq_true_eq] at hk
        exact Nat.lt_of_le_of_lt hk.2 (hf.hi p List.mem_cons_self)
      constructor
      · rw [h, List.take_left' (highB_length _ _), numB_highB _ _ hw hlt]
      · rw [h, List.drop_left' (highB_length _ _)]
    by_cases hk : p.ok (numB (b.take p.wide)) = true
    · rw [if_pos hk, ih hf' _ _ _ (fun y hy => hb y (List.mem_of_mem_drop hy)) (fun q hq => by rw [NF.put_other _ _ (hp q hq)]; exact hm q (List.mem_cons_of_mem _ hq))]
      dsimp only
      constructor
      · rintro ⟨h1, h2, h3⟩
        have h4 : n p.pl = numB (b.take p.wide) := by
          have := h3 p.pl (fun h => by obtain ⟨q, hq, e⟩ := List.mem_map.1 h; exact hp q hq e)
          rwa [NF.put_same] at this
        refine ⟨fun q hq => ?_, ?_, fun i hi => ?_⟩
        · rcases List.mem_cons.1 hq with rfl | hq
          · rw [h4]; exact hk
          · exact h1 q hq
        · rw [bytesF_cons, h4, e2, List.append_assoc, ← h2, List.take_append_drop]
        · have hi' : i ≠ p.pl ∧ i ∉ f.map Prt.pl := by simpa [not_or] using hi
          rw [h3 i hi'.2, NF.put_other _ _ hi'.1]
      · rintro ⟨h1, h2, h3⟩
        obtain ⟨h4, h5⟩ := key h2 (h1 p List.mem_cons_self)
        refine ⟨fun q hq => h1 q (List.mem_cons_of_mem _ hq), h5, fun i hi => ?_⟩
        by_cases e : i = p.pl
        · rw [e, NF.put_same, h4]
        · rw [NF.put_other _ _ e]; exact h3 i (by rw [List.map_cons, List.mem_cons, not_or]; exact ⟨e, hi⟩)
    · rw [if_neg hk]
      refine ⟨fun h => (nomatch h), fun ⟨h1, h2, _⟩ => ?_⟩
      have h3 := h1 p List.mem_cons_self
      rw [← (key h2 h3).1] at h3
      exact (hk h3).elim

theorem getN_some {f : List Prt} (hf : Form f) {b : List Nat} (hb : ∀ y ∈ b, y < 256) (n : NF) : getN f b = some n ↔ okF f n ∧ b = bytesF f n := by
  unfold getN
  constructor
  · intro h
    obtain ⟨x, hx, h⟩ := Option.bind_eq_some_iff.1 h
    obtain ⟨h1, h2, h3⟩ := (getGo_some hf NF.zero b x hb fun _ _ => rfl).1 hx
    split at h
    · rename_i h7
      cases h
      rw [h7, List.append_nil] at h2
      exact ⟨⟨h1, h3⟩, h2⟩
    · cases h
  · rintro ⟨⟨h1, h2⟩, h3⟩
    exact Option.bind_eq_some_iff.2 ⟨(n, []), (getGo_some hf NF.zero b (n, []) hb fun _ _ => rfl).2 ⟨h1, by rw [List.append_nil]; exact h3, h2⟩, if_pos rfl⟩

theorem getN_none {f : List Prt} (hf : Form f) {b : List Nat} (hb : ∀ y ∈ b, y < 256) (h : ∀ n, okF f n → b ≠ bytesF f n) : getN f b = none := by
  cases hp : getN f b with
  | none => rfl
  | some n => obtain ⟨h1, h2⟩ := (getN_some hf hb n).1 hp; exact (h n h1 h2).elim

/-- Of how many bytes a form is. -/
def lenF (f : List Prt) : Nat := (f.map Prt.wide).sum
theorem bytesF_length (f : List Prt) (n : NF) : (bytesF f n).length = lenF f := by
  unfold bytesF lenF
  induction f with
  | nil => rfl
  | cons p f ih => simp [highB_length, ih]
theorem bytesF_lt (f : List Prt) (n : NF) : ∀ x ∈ bytesF f n, x < 256 := by
  intro x hx
  obtain ⟨p, _, h⟩ := List.mem_flatMap.1 hx
  exact highB_lt _ _ x h

end Go.Proofs.Ytnnkkedflfmaoaa
