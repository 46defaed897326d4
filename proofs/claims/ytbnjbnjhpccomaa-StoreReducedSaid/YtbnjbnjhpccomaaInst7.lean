/-
  The code's store keeps the contracts; the laws of layer 7.
-/
import Derived.Test.YtbnjbnjhpccomaaCoN
import Derived.Test.YtbnjbnjhpccomaaRed7
import Derived.Test.YtbnjbnjhpccomaaOpenD7
namespace Go.Proofs.Ytbnjbnjhpccomaa
open Go Go.RowKit

theorem nodup_sub_length : ∀ (l k : List Int), l.Nodup → (∀ x ∈ l, x ∈ k) → l.length ≤ k.length
  | [], _, _, _ => Nat.zero_le _
  | a :: l, k, hn, h => by
    obtain ⟨h1, h2⟩ := List.nodup_cons.1 hn
    have ha := h a List.mem_cons_self
    have := nodup_sub_length l (k.erase a) h2 fun x hx => (List.mem_erase_of_ne (fun (e : x = a) => h1 (e ▸ hx))).2 (h x (List.mem_cons_of_mem _ hx))
    have e := List.length_erase_of_mem ha
    have := List.length_pos_of_mem ha
    simp only [List.length_cons]
    omega
theorem MS.Base.all_length {s : MS} (h : s.Base) : s.all.length = s.ar.T.length := by
  have hT : (s.ar.T.map fun k => k + 2).Nodup := by
    rw [List.Nodup, List.pairwise_map]
    exact List.Pairwise.imp (fun hne e => hne (by omega)) h.ar.nodT
  refine Nat.le_antisymm ?_ ?_
  · have := nodup_sub_length s.all (s.ar.T.map fun k => k + 2) s.all_nodup fun n hn => List.mem_map.2 ⟨n - 2, (MS.has_mem h).1 (h.mem_all.1 hn), by omega⟩
    rwa [List.length_map] at this
  · have := nodup_sub_length (s.ar.T.map fun k => k + 2) s.all hT fun n hn => by
      obtain ⟨k, hk, rfl⟩ := List.mem_map.1 hn
      exact h.mem_all.2 ((MS.has_mem h).2 (by rw [show k + 2 - 2 = k by omega]; exact hk))
    rwa [List.length_map] at this

/-- The code's store, by its state. -/
def StoreAt (w : World) (b : Nat) (F : Nat → Prop) (s : MS) : Prop := CoAt w b F s [] s.refs

theorem storeC : StoreC StoreAt where
  lt h := CoAt.lt h
  keep h := CoAt.keep h
  new most w h0 h1 := coNew most w h0 h1
  no most w h := coNo most w h
  make h ok v lo hi h1 h2 := coMk h ok v lo hi h1 h2
  node h ok n hn := coNode h ok.toBase n hn
  swap h ok l := coSwap h ok l
  all h ok := coAll h ok.toBase
  free h ok n hn := coFree h ok n hn
  order h _ := coOrder h
  live h ok := (coLive h ok.toBase).mono fun e w' ⟨he, hb⟩ => ⟨by rw [he, ok.toBase.all_length], hb⟩
  room h ok := coRoom h ok.toBase

theorem storePlays (most : Int) (l : List D7) (v : Value) (w : World) (hv : Reads encD7 w v l) (hl : l.length ≤ maxLen) (hwf : ∀ d ∈ l, d.good) :
    Calls Try.prog 3 #[.int .i64 most, v] w fun e w' => e = .returned (.bool true) ∧ Below w.heap.size w w' :=
  storePlays' storeC most l v w hv hl hwf
theorem storeReduced (most : Int) (l : List D7) (level row : Int) (v : Value) (w : World) (hv : Reads encD7 w v l) (hl : l.length ≤ maxLen) (hwf : ∀ d ∈ l, d.good) (wL : (Lit.int .i64 level).wf = true) (wR : (Lit.int .i64 row).wf = true) :
    Calls Try.prog 4 #[.int .i64 most, v, .int .i64 level, .int .i64 row] w fun e w' => e = .returned (.bool true) ∧ Below w.heap.size w w' :=
  storeReduced' storeC most l level row v w hv hl hwf wL wR

end Go.Proofs.Ytbnjbnjhpccomaa
