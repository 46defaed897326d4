/-
  Texts of this proof, one behind the other: Help, Nums.
-/
import Derived.Test.YtpdkcdehbpbheaaG3
import Derived.Lib.IfaceEq
/-
  Walks of Pick and Code.
-/
namespace Go.Proofs.Ytpdkcdehbpbheaa
open Go Go.RowKit

theorem neg_lt_tmod (n : Int) {m : Int} (h : 0 < m) : -m < n.tmod m := by
  have := Int.tmod_lt_of_pos (-n) h
  rw [Int.neg_tmod] at this
  omega

theorem pick_mod (n by' : Int) (h : 0 < by') : (n.tmod by' < 0 → n.tmod by' + by' = n % by') ∧ (¬ n.tmod by' < 0 → n.tmod by' = n % by') := by
  have h1 := Int.emod_nonneg n (show by' ≠ 0 by omega)
  have h2 := Int.emod_lt_of_pos n h
  have h3 := Int.tmod_lt_of_pos n h
  have h5 := neg_lt_tmod n h
  have h6 : (n.tmod by') % by' = n % by' := by
    rw [Int.tmod_def, Int.sub_emod, Int.mul_emod_right]; simp
  constructor
  · intro h4
    rw [← h6, ← Int.add_emod_right, Int.emod_eq_of_lt (by omega) (by omega)]
  · intro h4
    rw [← h6, Int.emod_eq_of_lt (by omega) (by omega)]

set_option maxRecDepth 100000 in
theorem lawPick (n by' : Int) (w : World) (h : 0 < by') (h2 : by' ≤ 1000000) (_hn : (Lit.int .i64 n).wf = true) :
    Calls Try.prog 8 #[.int .i64 n, .int .i64 by'] w fun e w' => e = .returned (.int .i64 (n % by')) ∧ w = w' := by
  obtain ⟨hy, hno⟩ := pick_mod n by' h
  have h3 := Int.tmod_lt_of_pos n h
  have h5 := neg_lt_tmod n h
  have hz : (by' == 0) = false := by rw [beq_eq_false_iff_ne]; omega
  by_cases h0 : n.tmod by' < 0
  · have HY := Lib.hid (hy h0)
    clear hy hno
    go_enter Try.func8, Try.ntmps8
    go_wp2
    go_ret
    exact ⟨by rw [← HY.out]; rfl, rfl⟩
  · have HN := Lib.hid (hno h0)
    clear hy hno
    go_enter Try.func8, Try.ntmps8
    go_wp2
    go_ret
    exact ⟨by rw [← HN.out]; rfl, rfl⟩

/-- An error of this number; 0: none. -/
def errV (c : Int) : Value := if c = 0 then .nilIface else .iface 51 (.int .i64 c)

theorem eql_codes (a b : Int) (w : World) : (binOp .eql 33 (.iface 51 (.int .i64 a)) (.iface 51 (.int .i64 b))).run Try.prog w = .ok (.bool (a == b)) w :=
  Lib.run_eql_iface_int w a b Try.underlying33 (by kernel_rfl) Try.underlying51

set_option maxRecDepth 100000 in
theorem lawCode (c : Int) (w : World) (h0 : 0 ≤ c) (h8 : c ≤ 8) :
    Calls Try.prog 9 #[errV c] w fun e w' => e = .returned (.int .i64 c) ∧ w = w' := by
  by_cases hz : c = 0
  · subst hz
    rw [errV, if_pos rfl]
    go_enter Try.func9, Try.ntmps9
    go_wp2
    go_ret
    exact ⟨rfl, rfl⟩
  · rw [errV, if_neg hz]
    go_enter Try.func9, Try.ntmps9
    go_wp2
    go_loop [3] (fun i => ∃ k : Nat, 1 ≤ k ∧ (k : Int) ≤ c ∧ i = .int .i64 k) (fun i => 9 - (intOf i).toNat)
    case atStart => exact ⟨1, by omega, by omega, rfl⟩
    case round =>
      obtain ⟨k, h1, hk, rfl⟩ := hrel
      have hk8 : (k : Int) ≤ 8 := by omega
      by_cases he : (k : Int) = c
      · have heb : (c == (k : Int)) = true := by rw [beq_iff_eq]; omega
        have hq := eql_codes c k
        rw [heb] at hq
        rw [he] at *
        go_wp2
        go_ret
        exact ⟨rfl, rfl⟩
      · have heb : (c == (k : Int)) = false := by rw [beq_eq_false_iff_ne]; omega
        have hq := eql_codes c k
        rw [heb] at hq
        go_wp2
        exact ⟨⟨k + 1, by omega, by omega, by go_num⟩, by simp [intOf]; omega⟩

end Go.Proofs.Ytpdkcdehbpbheaa

/-
  Slices of numbers of 64 bits without a sign; slices of whatever made since.
-/
namespace Go.Proofs.Ytpdkcdehbpbheaa
open Go Go.RowKit

/-- A slice of somebody's own, made since w. -/
structure NRel {P : Program} {α : Type} (E : Enc P α) (w : World) (out : List α) (v : Value) (wr : World) : Prop where
  own : Owns E wr v out
  new : ∀ g, v.ownBlock = some g → w.heap.size ≤ g
  below : Below w.heap.size w wr

section
variable {P : Program} {α : Type} {E : Enc P α} {w wr w' : World} {out : List α} {v : Value}

theorem NRel.start (E : Enc P α) {w wr : World} (hb : Below w.heap.size w wr) : NRel E w [] (.slice none 0 0) wr := ⟨Owns.nil _ _, (fun g h => by cases h), hb⟩
theorem NRel.later (h : NRel E w out v wr) (hb : Below wr.heap.size wr w') : NRel E w out v w' :=
  ⟨h.own.block fun g hg => hb.block g (h.own.lt g hg), h.new, h.below.trans (hb.mono h.below.size)⟩
theorem NRel.keep (h : NRel E w out v wr) {F : Nat → Prop} (hk : Keeps F wr w') (hF : ∀ k, F k → w.heap.size ≤ k) (ha : ∀ g, v.ownBlock = some g → ¬ F g) : NRel E w out v w' :=
  ⟨h.own.keep hk ha, h.new, h.below.trans (hk.below h.below.size hF)⟩
theorem NRel.apart (R : NRel E w out v wr) {k : Nat} (hk : k < w.heap.size) : ∀ ad n c, v = .slice (some ad) n c → ad.block ≠ k := by
  intro ad n c e
  obtain ⟨a, cap, rfl, _, _, _, H⟩ := R.own.form
  injection e with e1 _ _
  obtain ⟨g, rfl, hg, _⟩ := H ad e1
  have := R.new g hg
  dsimp only
  omega
/-- One more behind it, of a slice just made. -/
theorem NRel.push (R : NRel E w out v wr) (o : Obj) {w2 : World} {v' : Value} {l : List α} (hown : Owns E w2 v' l) (hgr : (wr.alloc o).grownBy w2 v.ownBlock) (hat : v'.ownBlock = v.ownBlock ∨ v'.ownBlock = some (wr.alloc o).heap.size) : NRel E w l v' w2 := by
  refine ⟨hown, fun g hg => ?_, (R.below.alloc R.below.size _).grown hgr (by have := R.below.size; simp; omega) R.new⟩
  rcases hat with hat | hat
  · exact R.new g (hat ▸ hg)
  · rw [hat] at hg; injection hg with hg; have := R.below.size; simp at hg; omega
end


theorem add_block (p : Addr) (j : Nat) : (p.add j).block = p.block := by unfold Addr.add; split <;> rfl
theorem cell_of_block {w w' : World} {p : Addr} (h : w'.heap[p.block]? = w.heap[p.block]?) : w'.cell? p = w.cell? p := by simp [World.cell?, h]

/-- A slice reads as it did where nothing of its block turned. -/
theorem Reads.stay {P : Program} {α : Type} {E : Enc P α} {w w' : World} {v : Value} {l : List α} (h : Reads E w v l) {F : Nat → Prop} (hK : Keeps F w w') (hF : ∀ ad n c, v = .slice (Option.some ad) n c → ¬ F ad.block) : Reads E w' v l := by
  rcases h with h | ⟨ad, cap, rfl, hc⟩
  · exact .inl h
  · refine .inr ⟨ad, cap, rfl, fun j u hj => ?_⟩
    have h1 := hc j u hj
    have h2 := block_lt_of_cell h1
    rw [add_block] at h2
    rw [cell_of_block (w := w) (w' := w') (by rw [add_block]; exact hK.block _ h2 (hF ad _ _ rfl))]
    exact h1

/-- Only block b turned. -/
def only (b : Nat) (k : Nat) : Prop := k = b

/-- Places as numbers. -/
def ints (l : List Nat) : List Int := l.map fun i : Nat => (i : Int)
theorem ints_length (l : List Nat) : (ints l).length = l.length := List.length_map _
theorem ints_get (l : List Nat) (i : Nat) (h : i < (ints l).length) : (ints l)[i] = ((l[i]'(by rwa [ints_length] at h) : Nat) : Int) := by simp [ints]
theorem ints_append (l k : List Nat) : ints (l ++ k) = ints l ++ ints k := List.map_append

end Go.Proofs.Ytpdkcdehbpbheaa
