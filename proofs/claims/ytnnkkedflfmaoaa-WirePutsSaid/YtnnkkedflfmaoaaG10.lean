/-
  Texts of this proof, one behind the other: Up18, WireI.
-/
import Derived.Test.YtnnkkedflfmaoaaG8
import Derived.Test.YtnnkkedflfmaoaaG9
import Derived.Laws.StructEq
import Derived.Deep.CutRange
import Derived.DeepKeys
/-
  The document's example of layer 18; bytes as strings; requests and answers compared.
-/
namespace Go.Proofs.Ytnnkkedflfmaoaa
open Go Go.RowKit

theorem conv_bytes {w : World} {v : Value} {l : List Nat} (h : Reads encY w v l) (hl : ∀ x ∈ l, x < 256) : (convert 28 9 v).run Try.prog w = .ok (.string (strB l)) w := by
  rcases h with ⟨rfl, rfl⟩ | ⟨ad, cap, rfl, hc⟩
  · exact run_convert_bytes_nil w _ _ Try.underlying28 Try.underlying5 0 0 _ Try.underlying9
  · have hlen : (l.map UInt8.ofNat).length = l.length := List.length_map _
    have := run_convert_bytes_back (P := Try.prog) w 28 9 5 ad cap (l.map UInt8.ofNat) Try.underlying28 Try.underlying5 Try.underlying9 (fun j hj => by
      have hj' : j < l.length := by rwa [hlen] at hj
      have h1 := encY.all_get l j hj' 0 (by decide)
      rw [show j * encY.size + 0 = j by show j * 1 + 0 = j; omega] at h1
      have h2 := hc j (.int .u8 l[j]) (by rw [h1]; rfl)
      rw [h2]
      have hx := hl _ (List.getElem_mem hj')
      simp [Nat.mod_eq_of_lt hx])
    rw [hlen] at this
    exact this

theorem equal_rq (r : Rq) (w : World) : (Op.equalIn 10000 24 (rqV r) (rqV r)).run Try.prog w = .ok true w := by
  unfold rqV
  simp [go_sem]
theorem equal_rs (r : Rs) (w : World) : (Op.equalIn 10000 26 (rsV r) (rsV r)).run Try.prog w = .ok true w := by
  unfold rsV
  simp [go_sem]

def upR : Rq := ⟨5, 1, 0, 0, 0, 3, 0⟩
theorem upR_may : upR.may := by decide
theorem upR_bytes : bytesR upR = [5, 1, 3] := by decide
theorem upR_put : codePut upR = some [5, 1, 3] := (codePut_some upR_may.good _).2 ⟨upR_may, upR_bytes.symm⟩
theorem upR_get : codeGet [5, 1, 3] = some upR := (codeGet_some (by decide) _).2 ⟨upR_may, upR_bytes.symm⟩

set_option maxRecDepth 100000 in
set_option maxHeartbeats 4000000 in
theorem up18 (w : World) : Calls Try.prog 6 #[] w fun e w' => e = .returned (.bool true) ∧ Below w.heap.size w w' := by
  go_enter Try.func6, Try.ntmps6
  go_wp2_with fail
  refine (wirePutR upR w).mono ?_
  rintro e w1 ⟨v, x, rfl, hp⟩
  rw [upR_put] at hp
  obtain ⟨rfl, R⟩ := hp
  have hb1 : Below w1.heap.size w1 (w1.alloc (.cells #[.int .u8 5, .int .u8 1, .int .u8 3] 5)) := by go_grown
  have hs : RC encY (w1.alloc (.cells #[.int .u8 5, .int .u8 1, .int .u8 3] 5)) (.slice (some ⟨w1.heap.size, 0, none⟩) 3 3) [5, 1, 3] := ⟨Reads.made encY w1 [5, 1, 3] #[.int .u8 5, .int .u8 1, .int .u8 3] rfl _ _ rfl rfl, fun a n c e => by injection e; omega⟩
  have R1 := R.later hb1
  have hs := Lib.hid hs
  have R1 := Lib.hid R1
  clear R hb1
  go_wp2_with fail
  refine (wireGetR _ [5, 1, 3] _ hs.out (by decide) (by decide)).mono ?_
  rintro e w2 ⟨v2, x2, rfl, hp2, hb2⟩
  rw [upR_get] at hp2
  obtain ⟨rfl, rfl⟩ := hp2
  have R2 := R1.out.later hb2
  clear hs R1 hb2
  unfold rqV upR
  dsimp only
  have hb3 : Below w2.heap.size w2 (w2.alloc (.cells #[.int .i64 5, .int .i64 1, .int .u64 0, .int .u64 0, .int .u64 0, .int .i64 3, .int .i64 0] 24)) := by go_grown
  have R3 := R2.later hb3
  have hR : HoldsR (w2.alloc (.cells #[.int .i64 5, .int .i64 1, .int .u64 0, .int .u64 0, .int .u64 0, .int .i64 3, .int .i64 0] 24)) w2.heap.size upR := heap_alloc_new _ _
  have R3 := Lib.hid R3
  have hR := Lib.hid hR
  clear R2 hb3
  go_upto_region 3 with (fail)
  generalize w2.alloc (.cells #[.int .i64 5, .int .i64 1, .int .u64 0, .int .u64 0, .int .u64 0, .int .i64 3, .int .i64 0] 24) = W at *
  generalize w2.heap.size = B at *
  have hcv := conv_bytes R3.out.own.reads (by decide)
  have hbW : Below W.heap.size W (W.alloc (.cells #[.int .u8 5, .int .u8 1, .int .u8 3] 5)) := by go_grown
  have hcv2 : (convert 28 9 (.slice (some ⟨W.heap.size, 0, none⟩) 3 3)).run Try.prog (W.alloc (.cells #[.int .u8 5, .int .u8 1, .int .u8 3] 5)) = .ok (.string (strB [5, 1, 3])) (W.alloc (.cells #[.int .u8 5, .int .u8 1, .int .u8 3] 5)) := conv_bytes (Reads.made encY W [5, 1, 3] #[.int .u8 5, .int .u8 1, .int .u8 3] rfl _ _ rfl rfl) (by decide)
  have hR4 := hR.out.below hbW
  obtain ⟨y0, y1, y2, y3, y4, y5, y6⟩ := hR4.cells
  simp only [upR] at y0 y1 y2 y3 y4 y5 y6
  have hbb := R3.out.below.trans (hbW.mono R3.out.below.size)
  clear R3 hR hbW hR4
  go_wp2
  go_ret
  exact ⟨rfl, hbb⟩

end Go.Proofs.Ytnnkkedflfmaoaa

/-
  Walks of the document's layer 18: Put.
-/
namespace Go.Proofs.Ytnnkkedflfmaoaa
open Go Go.RowKit

/-- A letter's bytes. -/
def chB (a b c n t : Nat) (x : Nat) : List Nat := if x = 65 then highB 8 a else if x = 66 then highB 8 b else if x = 67 then highB 8 c else if x = 98 then [t % 256] else if x = 78 then highB 2 n else [n % 256]

theorem bytes_ref {o p a b c n t : Nat} (h : Rq.may ⟨o, p, a, b, c, n, t⟩) : bytesR ⟨o, p, a, b, c, n, t⟩ = o :: p :: (formB o).flatMap (chB a b c n t) := by
  rw [bytesR_ref h]
  have hm := mostN_le o
  have h3 := h.n
  have h4 := h.bit
  dsimp only at h3 h4
  rw [Int.toNat_natCast] at h3
  simp only [Int.toNat_natCast]
  congr 2
  unfold bytesF formP
  rw [List.flatMap_map]
  congr 1
  funext x
  have e5 : Rq.nums ⟨o, p, a, b, c, n, t⟩ 5 = n := u64_nat (by omega)
  have e6 : Rq.nums ⟨o, p, a, b, c, n, t⟩ 6 = t := u64_nat (by omega)
  unfold chP chB
  split
  · rfl
  split
  · rfl
  split
  · rfl
  split
  · show highB 1 (Rq.nums ⟨o, p, a, b, c, n, t⟩ 6) = _; rw [e6]; simp [highB]
  split
  · show highB 2 (Rq.nums ⟨o, p, a, b, c, n, t⟩ 5) = _; rw [e5]
  · show highB 1 (Rq.nums ⟨o, p, a, b, c, n, t⟩ 5) = _; rw [e5]; simp [highB]

theorem formB_letters {op : Nat} (h1 : 1 ≤ op) (h2 : op ≤ 21) : ∀ x ∈ formB op, x = 65 ∨ x = 66 ∨ x = 67 ∨ x = 110 ∨ x = 78 ∨ x = 98 :=
  (by decide : ∀ o, o ≤ 21 → 1 ≤ o → ∀ x ∈ formB o, x = 65 ∨ x = 66 ∨ x = 67 ∨ x = 110 ∨ x = 78 ∨ x = 98) op h2 h1
theorem chB_few (a b c n t x : Nat) : (chB a b c n t x).length ≤ 8 := by
  unfold chB
  split
  · rw [highB_length]; omega
  split
  · rw [highB_length]; omega
  split
  · rw [highB_length]; omega
  split
  · simp
  split
  · rw [highB_length]; omega
  · simp

theorem Rq.may.nat {r : Rq} (h : r.may) : ∃ o p n t : Nat, r = ⟨o, p, r.a, r.b, r.c, n, t⟩ ∧ 1 ≤ o ∧ o ≤ 21 ∧ p ≤ 8 ∧ n ≤ 65535 ∧ t ≤ 1 := by
  have h1 := h.op
  have h2 := h.tenant
  have h3 := h.n
  have h4 := h.bit
  have hm := mostN_le r.op.toNat
  refine ⟨r.op.toNat, r.tenant.toNat, r.n.toNat, r.bit.toNat, ?_, by omega, by omega, by omega, by omega, by omega⟩
  obtain ⟨op, tenant, a, b, c, n, bit⟩ := r
  dsimp only at *
  congr 1 <;> omega

set_option maxRecDepth 100000 in
set_option maxHeartbeats 16000000 in
theorem refPutR (r : Rq) (w : World) (hr : r.may) :
    Calls Try.prog 9 #[rqV r] w fun e w' => ∃ v, e = .returned v ∧ NRel encY w (bytesR r) v w' := by
  obtain ⟨o, p, n, t, e, ho1, ho2, hp, hn, ht⟩ := hr.nat
  have ha := hr.a.2
  have hb := hr.b.2
  have hc := hr.c.2
  generalize r.a = a at *
  generalize r.b = b at *
  generalize r.c = c at *
  subst e
  rw [bytes_ref hr]
  clear hr
  unfold rqV
  dsimp only
  have hB : Below w.heap.size w (w.alloc (.cells #[.int .i64 (o : Int), .int .i64 (p : Int), .int .u64 a, .int .u64 b, .int .u64 c, .int .i64 (n : Int), .int .i64 (t : Int)] 24)) := by go_grown
  have hR : HoldsR (w.alloc (.cells #[.int .i64 (o : Int), .int .i64 (p : Int), .int .u64 a, .int .u64 b, .int .u64 c, .int .i64 (n : Int), .int .i64 (t : Int)] 24)) w.heap.size ⟨o, p, a, b, c, n, t⟩ := heap_alloc_new _ _
  have hF := refForm o
  rw [Int.toNat_natCast] at hF
  have hfew := formB_few o
  have hlet := formB_letters ho1 ho2
  have hix := fun k hk W => strB_at (P := Try.prog) 9 Try.underlying9 (formB o) (fun x hx => Nat.lt_trans (hfew.2 x hx) (by decide)) k hk W
  have hsz := strB_size (formB o)
  have eo : (o : Int) % 256 = o := by omega
  have ep : (p : Int) % 256 = p := by omega
  generalize strB (formB o) = s at *
  generalize formB o = l at *
  have hl3 := hfew.1
  go_enter Try.func9, Try.ntmps9
  go_upto_region 1 with (fail)
  generalize w.alloc (.cells #[.int .i64 (o : Int), .int .i64 (p : Int), .int .u64 a, .int .u64 b, .int .u64 c, .int .i64 (n : Int), .int .i64 (t : Int)] 24) = W at *
  obtain ⟨z0, z1, z2, z3, z4, z5, z6⟩ := hR.cells
  dsimp only at z0 z1 z2 z3 z4 z5 z6
  have hb1 : Below W.heap.size W (W.alloc (.cells #[.int .u8 (o : Int), .int .u8 (p : Int)] 5)) := by go_grown
  have hR1 := hR.below hb1
  have R0 : NRel encY W [o, p] (.slice (some ⟨W.heap.size, 0, none⟩) 2 2) (W.alloc (.cells #[.int .u8 (o : Int), .int .u8 (p : Int)] 5)) := ⟨Owns.made encY W [o, p] #[.int .u8 (o : Int), .int .u8 (p : Int)] rfl 2 rfl (by decide), (fun g hg => by cases hg; exact Nat.le_refl _), hb1⟩
  have R0 := Lib.hid R0
  go_upto_region 2 with (fail)
  generalize W.alloc (.cells #[.int .u8 (o : Int), .int .u8 (p : Int)] 5) = V at *
  obtain ⟨y0, y1, y2, y3, y4, y5, y6⟩ := hR1.cells
  dsimp only at y0 y1 y2 y3 y4 y5 y6
  go_wp2_with fail
  refine (hF _).mono ?_
  rintro e w1 ⟨rfl, hb2⟩
  have R1 := Lib.hid (R0.out.later hb2)
  have HR := Lib.hid hR
  have HB := Lib.hid hB
  clear R0 hF hb2 hR1 hb1 hR hB y0 y1 y2 y3 y4 y5 y6 z0 z1 z2 z3 z4 z5 z6 eo ep hfew
  have HLET := Lib.hid hlet
  clear hlet
  go_wp2
  go_loopw [3, 5] (fun vo i wr => ∃ (k : Nat) (acc : List Nat), i = .int .i64 k ∧ k ≤ l.length ∧ Hid (acc ++ (l.drop k).flatMap (chB a b c n t) = o :: p :: l.flatMap (chB a b c n t)) ∧ acc.length ≤ 2 + 8 * k ∧ NRel encY W acc vo wr) (fun _ i _ => l.length - (intOf i).toNat)
  case atStart => exact ⟨0, [o, p], rfl, by omega, rfl, by simp, R1.out⟩
  case round =>
    clear R1
    obtain ⟨k, acc, rfl, hk, he, hal, R⟩ := hrel
    by_cases hlt : k < l.length
    · have hk0 : (0 : Int) ≤ (k : Int) := by omega
      have hk1 : (k : Int) < (l.length : Int) := by omega
      have h1 := fun W => hix k hlt W
      have hdr := List.drop_eq_getElem_cons hlt
      have hx := HLET.out _ (List.getElem_mem hlt)
      have he2 : Hid ((acc ++ chB a b c n t l[k]) ++ (l.drop (k + 1)).flatMap (chB a b c n t) = o :: p :: l.flatMap (chB a b c n t)) := by
        rw [← show _ = _ from he, hdr, List.flatMap_cons, List.append_assoc]
        exact rfl
      have hal2 : (acc ++ chB a b c n t l[k]).length ≤ 2 + 8 * (k + 1) := by
        have := chB_few a b c n t l[k]
        rw [List.length_append]
        omega
      replace he2 := Lib.hid he2
      replace hal2 := Lib.hid hal2
      have hR2 := HR.out.below R.below
      obtain ⟨y0, y1, y2, y3, y4, y5, y6⟩ := hR2.cells
      dsimp only at y0 y1 y2 y3 y4 y5 y6
      have hln : ∀ m : List Nat, m.length ≤ 8 → acc.length + m.length ≤ 1000000 := fun m hm => by omega
      have hln := Lib.hid hln
      clear hix hdr he hR2
      generalize l[k] = x at *
      have HRR := Lib.hid R
      rcases hx with rfl | rfl | rfl | rfl | rfl | rfl
      · go_wp2_with fail
        refine (refHigh a 8 _ (by decide) ha).mono ?_
        rintro e w2 ⟨rv, rfl, RV⟩
        have R2 := R.later RV.below
        have hown := R2.own
        have hsrc := RV.own.reads
        have hlen := hln.out (highB 8 a) (by rw [highB_length]; decide)
        have R2 := Lib.hid R2
        clear R RV
        go_wp2_with (at_builtin; refine appendY rfl (.tmp 27) (.tmp 30) rfl _ _ acc (highB 8 a) rfl hown rfl hsrc hlen ?_; intro v' w3 hown3 hgr hat)
        exact ⟨⟨k + 1, _, by go_num, by omega, he2.out.out, hal2.out, R2.out.grow hown3 hgr hat⟩, by simp [intOf]; omega⟩
      · go_wp2_with fail
        refine (refHigh b 8 _ (by decide) hb).mono ?_
        rintro e w2 ⟨rv, rfl, RV⟩
        have R2 := R.later RV.below
        have hown := R2.own
        have hsrc := RV.own.reads
        have hlen := hln.out (highB 8 b) (by rw [highB_length]; decide)
        have R2 := Lib.hid R2
        clear R RV
        go_wp2_with (at_builtin; refine appendY rfl (.tmp 34) (.tmp 37) rfl _ _ acc (highB 8 b) rfl hown rfl hsrc hlen ?_; intro v' w3 hown3 hgr hat)
        exact ⟨⟨k + 1, _, by go_num, by omega, he2.out.out, hal2.out, R2.out.grow hown3 hgr hat⟩, by simp [intOf]; omega⟩
      · go_wp2_with fail
        refine (refHigh c 8 _ (by decide) hc).mono ?_
        rintro e w2 ⟨rv, rfl, RV⟩
        have R2 := R.later RV.below
        have hown := R2.own
        have hsrc := RV.own.reads
        have hlen := hln.out (highB 8 c) (by rw [highB_length]; decide)
        have R2 := Lib.hid R2
        clear R RV
        go_wp2_with (at_builtin; refine appendY rfl (.tmp 41) (.tmp 44) rfl _ _ acc (highB 8 c) rfl hown rfl hsrc hlen ?_; intro v' w3 hown3 hgr hat)
        exact ⟨⟨k + 1, _, by go_num, by omega, he2.out.out, hal2.out, R2.out.grow hown3 hgr hat⟩, by simp [intOf]; omega⟩
      · have eV : ((n % 256 : Nat) : Int) = (n : Int) % 256 := by omega
        have hb : Below wr.heap.size wr (wr.alloc (.cells #[.int .u8 ((n : Int) % 256)] 5)) := by go_grown
        have R2 := R.later hb
        have hown := R2.own
        have hsrc : Reads encY (wr.alloc (.cells #[.int .u8 ((n : Int) % 256)] 5)) (.slice (some ⟨wr.heap.size, 0, none⟩) 1 1) [n % 256] := by
          rw [← eV]
          exact Reads.one encY wr _ _ rfl _ rfl
        have hlen := hln.out [n % 256] (by simp)
        have R2 := Lib.hid R2
        clear R hb eV
        go_wp2_with (at_builtin; refine appendY rfl (.tmp 48) (.tmp 52) rfl _ _ acc [n % 256] rfl hown rfl hsrc hlen ?_; intro v' w3 hown3 hgr hat)
        exact ⟨⟨k + 1, _, by go_num, by omega, he2.out.out, hal2.out, R2.out.grow hown3 hgr hat⟩, by simp [intOf]; omega⟩
      · go_wp2_with fail
        refine (refHigh n 2 _ (by decide) (by omega)).mono ?_
        rintro e w2 ⟨rv, rfl, RV⟩
        have R2 := R.later RV.below
        have hown := R2.own
        have hsrc := RV.own.reads
        have hlen := hln.out (highB 2 n) (by rw [highB_length]; decide)
        have R2 := Lib.hid R2
        clear R RV
        go_wp2_with (at_builtin; refine appendY rfl (.tmp 56) (.tmp 60) rfl _ _ acc (highB 2 n) rfl hown rfl hsrc hlen ?_; intro v' w3 hown3 hgr hat)
        exact ⟨⟨k + 1, _, by go_num, by omega, he2.out.out, hal2.out, R2.out.grow hown3 hgr hat⟩, by simp [intOf]; omega⟩
      · have eV : ((t % 256 : Nat) : Int) = (t : Int) := by omega
        have hb : Below wr.heap.size wr (wr.alloc (.cells #[.int .u8 (t : Int)] 5)) := by go_grown
        have R2 := R.later hb
        have hown := R2.own
        have hsrc : Reads encY (wr.alloc (.cells #[.int .u8 (t : Int)] 5)) (.slice (some ⟨wr.heap.size, 0, none⟩) 1 1) [t % 256] := by
          rw [← eV]
          exact Reads.one encY wr _ _ rfl _ rfl
        have hlen := hln.out [t % 256] (by simp)
        have R2 := Lib.hid R2
        clear R hb eV
        go_wp2_with (at_builtin; refine appendY rfl (.tmp 64) (.tmp 68) rfl _ _ acc [t % 256] rfl hown rfl hsrc hlen ?_; intro v' w3 hown3 hgr hat)
        exact ⟨⟨k + 1, _, by go_num, by omega, he2.out.out, hal2.out, R2.out.grow hown3 hgr hat⟩, by simp [intOf]; omega⟩
    · obtain rfl : k = l.length := by omega
      have he : Hid (acc = o :: p :: l.flatMap (chB a b c n t)) := by
        have := he
        rwa [List.drop_length, List.flatMap_nil, List.append_nil] at this
      replace he := Lib.hid he
      go_wp2
      go_ret
      refine ⟨_, rfl, ?_⟩
      rw [← show _ = _ from he.out]
      exact ⟨R.own, fun g hg => Nat.le_trans HB.out.size (R.new g hg), HB.out.trans (R.below.mono HB.out.size)⟩

end Go.Proofs.Ytnnkkedflfmaoaa
