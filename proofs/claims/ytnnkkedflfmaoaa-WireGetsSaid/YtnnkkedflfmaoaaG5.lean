/-
  Texts of this proof, one behind the other: Arr, Mem2, Nums, Help.
-/
import Derived.Test.YtnnkkedflfmaoaaG4
import Derived.Test.YtnnkkedflfmaoaaProg
import Derived.WalkKit
import Derived.Outline
import Derived.RegionTactic
import Derived.ChangeAlike
import Derived.Handy
import Derived.StillTailTactics
import Derived.Deep.RegionHeld3
import Derived.KernelRfl
import Derived.Lib.Hide
import Derived.Laws.IdiomCopy
import Derived.Laws.MakeOwn
import Derived.Deep.AppendLies
import Derived.Lib.IfaceEq
/-
  Slices of numbers and of bools.
-/
namespace Go.Proofs.Ytnnkkedflfmaoaa
open Go Go.RowKit

theorem info_of (P : Program) (t : TypeId) (z : Value) (s n : Nat) (h : (P.info? t).map (fun i => (i.zero, i.size, i.bytes)) = some (some z, s, n)) : ∃ i, P.info? t = some i ∧ i.zero = some z ∧ i.size = s ∧ i.bytes = n := by
  obtain ⟨i, hi, h0, h1, h2⟩ := info_parts h
  exact ⟨i, hi, h0, h1, h2⟩



theorem Owns.free {P : Program} {α : Type} {E : Enc P α} {w : World} {g n cap : Nat} {l : List α} (h : Owns E w (.slice (some ⟨g, 0, none⟩) n cap) l) (j : Nat) : w.frozen? ⟨g, j, none⟩ = false := by
  obtain ⟨a, c, hv, _, _, _, H⟩ := h.form
  injection hv with ha _ hc
  obtain ⟨g', e, _, hf, _⟩ := H ⟨g, 0, none⟩ ha.symm
  cases e
  exact hf j

theorem Owns.some {P : Program} {α : Type} {E : Enc P α} {w : World} {v : Value} {l : List α} (h : Owns E w v l) (hl : 0 < l.length) : ∃ g cap, v = .slice (some ⟨g, 0, none⟩) l.length cap ∧ l.length ≤ cap ∧ cap ≤ maxLen := by
  obtain ⟨a, c, rfl, h1, h2, h3, H⟩ := h.form
  cases a with
  | none => have := h3 rfl; omega
  | some ad => obtain ⟨g, rfl, _⟩ := H ad rfl; exact ⟨g, c, rfl, h1, h2⟩


end Go.Proofs.Ytnnkkedflfmaoaa

/-
  Memory by footprints, more: an element of several cells written; a slice just made. Nothing of the program is read here.
-/
namespace Go.Proofs.Ytnnkkedflfmaoaa
open Go Go.RowKit

/-- Many cells set, one behind the other. -/
def setMany (xs : List Value) : Nat → List Value → List Value
  | _, [] => xs
  | o, v :: r => setMany (xs.set o v) (o + 1) r

theorem setMany_mid : ∀ (vs A B C : List Value), B.length = vs.length → setMany (A ++ B ++ C) A.length vs = A ++ vs ++ C := by
  intro vs
  induction vs with
  | nil => intro A B C h; cases B with | nil => simp [setMany] | cons b B => simp at h
  | cons v r ih =>
    intro A B C h
    cases B with
    | nil => simp at h
    | cons b B =>
      have h1 := ih (A ++ [v]) B C (by simpa using h)
      simp only [setMany]
      rw [show (A ++ b :: B ++ C).set A.length v = A ++ [v] ++ B ++ C by simp]
      rw [show A.length + 1 = (A ++ [v]).length by simp, h1]
      simp

section
variable {P : Program} {α : Type} {E : Enc P α} {w w' : World} {v : Value} {l : List α}

theorem ownsRow_setCells {base : Nat} {e : TypeId} {size n g cap : Nat} : ∀ (vs : List Value) (o : Nat) (w : World) (xs : List Value), w.ownsRow base e size (.slice (some ⟨g, 0, none⟩) n cap) n xs →
    (w.setCells g o vs).ownsRow base e size (.slice (some ⟨g, 0, none⟩) n cap) n (setMany xs o vs)
  | [], _, _, _, h => h
  | u :: r, o, w, xs, h => by
    simp only [World.setCells, setMany]
    exact ownsRow_setCells r (o + 1) _ _ (World.ownsRow.stored h o u).1

theorem Enc.all_set (E : Enc P α) (l : List α) (i : Nat) (hi : i < l.length) (a : α) : E.all (l.set i a) = setMany (E.all l) (i * E.size) (E.cells a) := by
  have e1 : l = l.take i ++ l[i] :: l.drop (i + 1) := by rw [← List.drop_eq_getElem_cons hi, List.take_append_drop]
  have hl : (l.take i).length = i := by rw [List.length_take, Nat.min_eq_left (Nat.le_of_lt hi)]
  have e2 : l.set i a = l.take i ++ a :: l.drop (i + 1) := by rw [List.set_eq_take_append_cons_drop, if_pos hi]
  have e3 : E.all l = E.all (l.take i) ++ E.cells l[i] ++ E.all (l.drop (i + 1)) := by
    have h := congrArg E.all e1
    rw [E.all_append] at h
    rw [h, List.append_assoc]
    rfl
  have e4 : E.all (l.set i a) = E.all (l.take i) ++ E.cells a ++ E.all (l.drop (i + 1)) := by
    rw [e2, E.all_append]; simp [Enc.all]
  have e5 : (E.all (l.take i)).length = i * E.size := by rw [E.all_length, hl]
  rw [e4, e3, ← e5, setMany_mid _ _ _ _ (by rw [E.len, E.len])]

/-- One of its elements written. -/
theorem owns_putCells {g cap i : Nat} (h : Owns E w (.slice (some ⟨g, 0, none⟩) l.length cap) l) (hi : i < l.length) (a : α) :
    Owns E (w.setCells g (i * E.size) (E.cells a)) (.slice (some ⟨g, 0, none⟩) l.length cap) (l.set i a) := by
  have h1 := ownsRow_setCells (E.cells a) (i * E.size) w _ h
  unfold Owns
  rw [List.length_set, E.all_set l i hi a]
  exact h1

theorem heap_setCells_other (g : Nat) : ∀ (vs : List Value) (o : Nat) (w : World) {k : Nat}, k ≠ g → (w.setCells g o vs).heap[k]? = w.heap[k]?
  | [], _, _, _, _ => rfl
  | v :: r, o, w, k, hk => by
    simp only [World.setCells]
    rw [heap_setCells_other g r (o + 1) _ hk]
    exact Below.heap_setCell _ _ _ _ (fun e => hk e)

theorem size_setCells' (g : Nat) : ∀ (vs : List Value) (o : Nat) (w : World), (w.setCells g o vs).heap.size = w.heap.size
  | [], _, _ => rfl
  | v :: r, o, w => by
    simp only [World.setCells]
    rw [size_setCells' g r (o + 1)]
    simp [World.setCell]

theorem Keeps.of_setCells (F : Nat → Prop) (g : Nat) (hF : F g) : ∀ (vs : List Value) (o : Nat) (w : World), Keeps F w (w.setCells g o vs)
  | [], _, w => Keeps.refl F w
  | v :: r, o, w => (Keeps.of_setCell F w ⟨g, o, none⟩ v hF).and (Keeps.of_setCells F g hF r (o + 1) _)

theorem Enc.all_made (E : Enc P α) (a : α) (ha : E.cells a = E.zero.cells.toList) (n : Nat) : E.all (List.replicate n a) = (madeCells E.zero.cells (n * E.size)).toList := by
  have hs := E.zsize
  have hp := E.pos
  refine List.ext_getElem? fun j => ?_
  by_cases hj : j < n * E.size
  · have hq : j / E.size < n := Nat.div_lt_of_lt_mul (by rwa [Nat.mul_comm])
    have hr : j % E.size < E.size := Nat.mod_lt _ hp
    have h1 := E.all_get (List.replicate n a) (j / E.size) (by simpa using hq) (j % E.size) hr
    have hdm : j / E.size * E.size + j % E.size = j := by rw [Nat.mul_comm]; exact Nat.div_add_mod j E.size
    rw [hdm] at h1
    rw [h1]
    simp only [List.getElem_replicate]
    rw [ha]
    simp [madeCells, hj, hs, hr]
  · have e1 : (E.all (List.replicate n a)).length = n * E.size := by rw [E.all_length, List.length_replicate]
    rw [List.getElem?_eq_none (by omega), List.getElem?_eq_none (by rw [Array.length_toList, size_madeCells]; omega)]

/-- A slice that was just made. -/
theorem owns_made (E : Enc P α) (a : α) (ha : E.cells a = E.zero.cells.toList) (n : Nat) (hn : n ≤ 1000000) (w : World) :
    Owns E (w.alloc (.cells (madeCells E.zero.cells (n * E.size)) E.elem)) (.slice (some ⟨w.heap.size, 0, none⟩) n n) (List.replicate n a) := by
  have h := World.ownsRow_lit (base := 0) (e := E.elem) (size := E.size) w (madeCells E.zero.cells (n * E.size)) n (Nat.zero_le _) (by unfold maxLen; omega) (size_madeCells _ _)
  unfold Owns
  rw [List.length_replicate, E.all_made a ha]
  exact h

theorem run_made (E : Enc P α) (n : Nat) (hn : n ≤ 1000000) (w : World) : (Instr.makeSlice E.slice (.int .i64 (n : Int)) (.int .i64 (n : Int))).run P w = .ok (.slice (some ⟨w.heap.size, 0, none⟩) n n) (w.alloc (.cells (madeCells E.zero.cells (n * E.size)) E.elem)) := by
  obtain ⟨i, hi, hz, hsz, hby⟩ := E.info
  have hfew := E.few
  have hb : i.bytes * n ≤ 1000 * 1000000 := Nat.mul_le_mul (by omega) hn
  have h := run_make (P := P) w E.slice E.elem i E.zero E.und hi hz .i64 .i64 n n (by omega) (Int.le_refl _) (by rw [← Int.natCast_mul]; omega) (by omega)
  rw [hsz] at h
  simpa using h
/-- append(x, y...), x somebody's own, y not empty: at an operation that comes up in whatever order. -/
theorem step_append_owns {ops : Array Oper} {o : Oper} {a : Act} {w : World} {K : Act → World → Prop} {Q : Exit → Act → World → Prop} {Z : Prop} (E : Enc P α) (hgd : o.guard = none) (s x : Operand)
    (ho : o.op = .call { callee := .builtin .append, args := #[s, x], argTypes := #[E.slice, E.slice] })
    (v y : Value) (l k : List α) (hs : a.eval s = v) (hown : Owns E w v l) (hx : a.eval x = y) (hsrc : Reads E w y k) (hk : 0 < k.length) (hn : l.length + k.length ≤ 1000000)
    (h : ∀ v' w', Owns E w' v' (l ++ k) → w.grownBy w' v.ownBlock → (v'.ownBlock = v.ownBlock ∨ v'.ownBlock = some w.heap.size) → K (a.put o.dst v') w') : if Region.wanted o (yielded ops a.tmps) = true then Oper.wp P o a w K Q else Z := by
  obtain ⟨i, hi, hz, hsz, hby⟩ := E.info
  have hfew := E.few
  rcases hsrc with ⟨_, rfl⟩ | ⟨ad, cap, rfl, hc⟩
  · simp at hk
  · have hb : (l.length + k.length) * E.bytes ≤ 1000000 * 1000 := Nat.mul_le_mul hn hfew
    refine step_append_lies w hgd s x _ ho 0 E.elem i _ E.size E.bytes E.und hi hz hsz hby E.zsize E.pos v l.length (E.all l) hs hown ad k.length cap (E.all k) hx (E.all_length k) hc (E.all_one k) hk (by unfold maxLen; omega) (by omega) (Nat.zero_le _) _ rfl ?_
    intro g c w' h1 h2 h3 _
    refine h _ w' (by unfold Owns; rw [List.length_append, E.all_append]; exact h1) h2 ?_
    rcases h3 with h3 | h3
    · exact .inl h3.symm
    · exact .inr (by rw [h3]; rfl)
end

end Go.Proofs.Ytnnkkedflfmaoaa

/-
  Slices of numbers of 64 bits without a sign; slices of whatever made since.
-/
namespace Go.Proofs.Ytnnkkedflfmaoaa
open Go Go.RowKit

/-- A slice of somebody's own, made since w. -/
structure NRel {P : Program} {α : Type} (E : Enc P α) (w : World) (out : List α) (v : Value) (wr : World) : Prop where
  own : Owns E wr v out
  new : ∀ g, v.ownBlock = some g → w.heap.size ≤ g
  below : Below w.heap.size w wr

section
variable {P : Program} {α : Type} {E : Enc P α} {w wr w' : World} {out : List α} {v : Value}

theorem NRel.start (E : Enc P α) {w wr : World} (hb : Below w.heap.size w wr) : NRel E w [] (.slice none 0 0) wr := ⟨Owns.nil _ _, (fun g h => by cases h), hb⟩
theorem NRel.later (h : NRel E w out v wr) (hb : Below wr.heap.size wr w') : NRel E w out v w' :=
  ⟨h.own.block fun g hg => hb.block g (h.own.lt g hg), h.new, h.below.trans (hb.mono h.below.size)⟩
theorem NRel.keep (h : NRel E w out v wr) {F : Nat → Prop} (hk : Keeps F wr w') (hF : ∀ k, F k → w.heap.size ≤ k) (ha : ∀ g, v.ownBlock = some g → ¬ F g) : NRel E w out v w' :=
  ⟨h.own.keep hk ha, h.new, h.below.trans (hk.below h.below.size hF)⟩
theorem NRel.apart (R : NRel E w out v wr) {k : Nat} (hk : k < w.heap.size) : ∀ ad n c, v = .slice (some ad) n c → ad.block ≠ k := by
  intro ad n c e
  obtain ⟨a, cap, rfl, _, _, _, H⟩ := R.own.form
  injection e with e1 _ _
  obtain ⟨g, rfl, hg, _⟩ := H ad e1
  have := R.new g hg
  dsimp only
  omega
/-- One more behind it, of a slice just made. -/
theorem NRel.push (R : NRel E w out v wr) (o : Obj) {w2 : World} {v' : Value} {l : List α} (hown : Owns E w2 v' l) (hgr : (wr.alloc o).grownBy w2 v.ownBlock) (hat : v'.ownBlock = v.ownBlock ∨ v'.ownBlock = some (wr.alloc o).heap.size) : NRel E w l v' w2 := by
  refine ⟨hown, fun g hg => ?_, (R.below.alloc R.below.size _).grown hgr (by have := R.below.size; simp; omega) R.new⟩
  rcases hat with hat | hat
  · exact R.new g (hat ▸ hg)
  · rw [hat] at hg; injection hg with hg; have := R.below.size; simp at hg; omega
end


theorem add_block (p : Addr) (j : Nat) : (p.add j).block = p.block := by unfold Addr.add; split <;> rfl
theorem cell_of_block {w w' : World} {p : Addr} (h : w'.heap[p.block]? = w.heap[p.block]?) : w'.cell? p = w.cell? p := by simp [World.cell?, h]

/-- A slice reads as it did where nothing of its block turned. -/
theorem Reads.stay {P : Program} {α : Type} {E : Enc P α} {w w' : World} {v : Value} {l : List α} (h : Reads E w v l) {F : Nat → Prop} (hK : Keeps F w w') (hF : ∀ ad n c, v = .slice (Option.some ad) n c → ¬ F ad.block) : Reads E w' v l := by
  rcases h with h | ⟨ad, cap, rfl, hc⟩
  · exact .inl h
  · refine .inr ⟨ad, cap, rfl, fun j u hj => ?_⟩
    have h1 := hc j u hj
    have h2 := block_lt_of_cell h1
    rw [add_block] at h2
    rw [cell_of_block (w := w) (w' := w') (by rw [add_block]; exact hK.block _ h2 (hF ad _ _ rfl))]
    exact h1

/-- Only block b turned. -/
def only (b : Nat) (k : Nat) : Prop := k = b

/-- Places as numbers. -/
def ints (l : List Nat) : List Int := l.map fun i : Nat => (i : Int)
theorem ints_length (l : List Nat) : (ints l).length = l.length := List.length_map _
theorem ints_get (l : List Nat) (i : Nat) (h : i < (ints l).length) : (ints l)[i] = ((l[i]'(by rwa [ints_length] at h) : Nat) : Int) := by simp [ints]
theorem ints_append (l k : List Nat) : ints (l ++ k) = ints l ++ ints k := List.map_append

end Go.Proofs.Ytnnkkedflfmaoaa

/-
  Walks of Pick and Code.
-/
namespace Go.Proofs.Ytnnkkedflfmaoaa
open Go Go.RowKit

theorem neg_lt_tmod (n : Int) {m : Int} (h : 0 < m) : -m < n.tmod m := by
  have := Int.tmod_lt_of_pos (-n) h
  rw [Int.neg_tmod] at this
  omega

theorem pick_mod (n by' : Int) (h : 0 < by') : (n.tmod by' < 0 → n.tmod by' + by' = n % by') ∧ (¬ n.tmod by' < 0 → n.tmod by' = n % by') := by
  have h1 := Int.emod_nonneg n (show by' ≠ 0 by omega)
  have h2 := Int.emod_lt_of_pos n h
  have h3 := Int.tmod_lt_of_pos n h
  have h5 := neg_lt_tmod n h
  have h6 : (n.tmod by') % by' = n % by' := by
    rw [Int.tmod_def, Int.sub_emod, Int.mul_emod_right]; simp
  constructor
  · intro h4
    rw [← h6, ← Int.add_emod_right, Int.emod_eq_of_lt (by omega) (by omega)]
  · intro h4
    rw [← h6, Int.emod_eq_of_lt (by omega) (by omega)]


/-- An error of this number; 0: none. -/
def errV (c : Int) : Value := if c = 0 then .nilIface else .iface 59 (.int .i64 c)

theorem eql_codes (a b : Int) (w : World) : (binOp .eql 30 (.iface 59 (.int .i64 a)) (.iface 59 (.int .i64 b))).run Try.prog w = .ok (.bool (a == b)) w :=
  Lib.run_eql_iface_int w a b Try.underlying30 (by kernel_rfl) Try.underlying59

set_option maxRecDepth 100000 in
theorem lawCode (c : Int) (w : World) (h0 : 0 ≤ c) (h8 : c ≤ 8) :
    Calls Try.prog 10 #[errV c] w fun e w' => e = .returned (.int .i64 c) ∧ w = w' := by
  by_cases hz : c = 0
  · subst hz
    rw [errV, if_pos rfl]
    go_enter Try.func10, Try.ntmps10
    go_wp2
    go_ret
    exact ⟨rfl, rfl⟩
  · rw [errV, if_neg hz]
    go_enter Try.func10, Try.ntmps10
    go_wp2
    go_loop [3] (fun i => ∃ k : Nat, 1 ≤ k ∧ (k : Int) ≤ c ∧ i = .int .i64 k) (fun i => 9 - (intOf i).toNat)
    case atStart => exact ⟨1, by omega, by omega, rfl⟩
    case round =>
      obtain ⟨k, h1, hk, rfl⟩ := hrel
      have hk8 : (k : Int) ≤ 8 := by omega
      by_cases he : (k : Int) = c
      · have heb : (c == (k : Int)) = true := by rw [beq_iff_eq]; omega
        have hq := eql_codes c k
        rw [heb] at hq
        rw [he] at *
        go_wp2
        go_ret
        exact ⟨rfl, rfl⟩
      · have heb : (c == (k : Int)) = false := by rw [beq_eq_false_iff_ne]; omega
        have hq := eql_codes c k
        rw [heb] at hq
        go_wp2
        exact ⟨⟨k + 1, by omega, by omega, by go_num⟩, by simp [intOf]; omega⟩

end Go.Proofs.Ytnnkkedflfmaoaa
