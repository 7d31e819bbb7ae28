/- What may be hoped, of a set and of a queue; what isn't a shape, isn't there, or is too long; is there a legal order? -/
import Derived.Test.YtmpilokgbblonaaKl25
import Derived.Test.YtmpilokgbblonaaKl06
import Derived.BigRegion
import Derived.Deep.DeepCutAuto
namespace Go.Proofs.Ytmpilokgbblonaa.lin
open Go.RowKit Go.Maps
open hist (ClV EvV befB past new_block Went At cells9 len9 Blk9 Hst callsE calls_any)
open spec (Rw Row Mean new_right new_wrong)
open task (rightB)
theorem cnt_len (b : Nat → Bool) (n : Nat) : cntB b n ≤ n := by
  unfold cntB
  have := List.length_filter_le b (List.range n)
  rwa [List.length_range] at this
theorem size_pr (t : SP) : PrOK (fun w => t.R < w.heap.size) t := ⟨fun _ _ h hs _ => Nat.lt_of_lt_of_le h hs⟩
section
variable {w1 w' : World} {t : SP} {L : List ClV} {s : Int}
/-- Of a set. -/
theorem hopes_of_set (hns : NewS w1 w' t L) (hsh : t.sh = s) (hV : Spans L) (hs : s = 1 ∨ s = 2) (c0 : Nat) (hf : ∀ g, g < 4294967296 → cntB (fun p => freeB t L g p) L.length ≤ c0) (hb : gbF c0 (fun _ => 0) L.length ≤ 1000000000000) : Hopes w' t L s :=
  ⟨⟨_, fun w => t.R < w.heap.size, c0, _, ⟨size_pr t, fun _ h => h, hns.apart, hns.masks, hV, hsh, hf⟩, hoped_set hs, (Array.getElem?_eq_some_iff.1 hns.pairs).1, hb⟩⟩
/-- Of a queue. -/
theorem hopes_of_queue (hns : NewS w1 w' t L) (hsh : t.sh = 3) (hV : Spans L) (c0 : Nat) (hf : ∀ g, g < 4294967296 → cntB (fun p => freeB t L g p) L.length ≤ c0) (ht : ∀ g, g < 4294967296 → cntB (fun p => takeB t L g p) L.length ≤ c0) (hb : gbF c0 (sbF c0) L.length ≤ 1000000000000) : Hopes w' t L 3 := by
  have hE : Env (fun w => t.R < w.heap.size) t L c0 := ⟨size_pr t, fun _ h => h, hns.apart, hns.masks, hV, hsh, hf, ht⟩
  exact ⟨⟨_, _, c0, _, envG_of hE, hoped_queue hE, (Array.getElem?_eq_some_iff.1 hns.pairs).1, hb⟩⟩
end
theorem small_budget : ∀ n, n ≤ 8 → gbF n (sbF n) n ≤ 1000000000000 ∧ gbF n (fun _ => 0) n ≤ 1000000000000 := by decide

/-- Is there a legal order? -/
def LinQ (s : Int) (L : List ClV) (w : World) (e : Ending) (w' : World) : Prop := ∃ res, e = .returned (.bool (Option.isSome res)) ∧ Found (sysOf s L) [] res ∧ Below w.heap.size w w'
theorem linear_any (w : World) (X : Nat) (s : Int) (L : List ClV) (h : Calls Try.prog 8 #[.int .i64 s, .pointer (some ⟨X, 0, none⟩)] w (OrdQ s L w)) :
    Calls Try.prog 9 #[.int .i64 s, .pointer (some ⟨X, 0, none⟩)] w (LinQ s L w) := by
  have H := Lib.hid h
  clear h
  go_enter Try.func9, Try.ntmps9
  go_wp2_with (go_at_call 8; go_loud (refine H.out.mono ?_; rintro e w2 ⟨res, A, c, G, rfl, hr, hf, hb⟩; have HF := Lib.hid hf; have HB := Lib.hid hb; clear hr hf hb))
  go_returns
  exact ⟨res, rfl, HF.out, HB.out⟩
/-- What is told without a search. -/
def Bare (n : Int) (w : World) (e : Ending) (w' : World) : Prop := e = .returned (.tuple #[.slice none 0 0, .bool false, .int .i64 n]) ∧ Below w.heap.size w w'
theorem order_wrong (w : World) (s : Int) (hs : ¬ (1 ≤ s ∧ s ≤ 4)) (a : Option Addr) : Calls Try.prog 8 #[.int .i64 s, .pointer a] w (Bare 1 w) := by
  have HS := Lib.hid hs
  clear hs
  go_enter Try.func8, Try.ntmps8
  go_wp2_with (go_at_call 16; go_loud (refine (new_wrong _ s HS.out).mono ?_; rintro e w1 ⟨rfl, hw⟩; subst hw))
  go_returns
  exact ⟨rfl, Below.refl _ _⟩
theorem order_nil (w : World) (s : Int) (hs : 1 ≤ s ∧ s ≤ 4) : Calls Try.prog 8 #[.int .i64 s, .pointer none] w (Bare 1 w) := by
  have HS := Lib.hid hs
  clear hs
  go_enter Try.func8, Try.ntmps8
  go_wp2_with (go_at_call 16; go_loud (refine (new_right _ s HS.out).mono ?_; rintro e w1 ⟨X1, f1, rfl, hm, hf1, hb1⟩; have B1 := Lib.hid hb1; clear hm hf1 hb1))
  go_returns
  exact ⟨rfl, B1.out⟩
theorem order_long (w : World) (X : Nat) (f : Nat → Prop) (l : List EvV) (h : Hst w X f l) (hl : l.length ≤ 1000) (h24 : 24 < (callsE l).length) (s : Int) (hs : 1 ≤ s ∧ s ≤ 4) : Calls Try.prog 8 #[.int .i64 s, .pointer (some ⟨X, 0, none⟩)] w (Bare 6 w) := by
  have HS := Lib.hid hs
  have HH := Lib.hid h
  have HL := Lib.hid hl
  have hn0 : (24 : Int) < (((callsE l).length : Nat) : Int) := by omega
  generalize hn : (callsE l).length = n at *
  have HN := Lib.hid hn
  clear h hl hs hn
  go_enter Try.func8, Try.ntmps8
  go_wp2_with (first
    | (go_at_call 17; have _t := B1.out; go_loud (refine (calls_any _ X f l (HH.out.below B1.out) HL.out).mono ?_; rintro e w2 ⟨v2, rfl, hg⟩; obtain ⟨A9, c9, rfl, -, -, ha⟩ := hg.told len9; rw [HN.out]; have B2 := Lib.hid (past B1.out hg.below); clear hg ha))
    | (go_at_call 16; go_loud (refine (new_right _ s HS.out).mono ?_; rintro e w1 ⟨X1, f1, rfl, hm, hf1, hb1⟩; have B1 := Lib.hid hb1; clear hm hf1 hb1)))
  go_returns
  exact ⟨rfl, B2.out⟩
theorem linear_bare (w : World) (s n : Int) (a : Option Addr) (h : Calls Try.prog 8 #[.int .i64 s, .pointer a] w (Bare n w)) :
    Calls Try.prog 9 #[.int .i64 s, .pointer a] w fun e w' => e = .returned (.bool false) ∧ Below w.heap.size w w' := by
  have H := Lib.hid h
  clear h
  go_enter Try.func9, Try.ntmps9
  go_wp2_with (go_at_call 8; go_loud (refine H.out.mono ?_; rintro e w2 ⟨rfl, hb⟩; have HB := Lib.hid hb; clear hb))
  go_returns
  exact ⟨rfl, HB.out⟩
end Go.Proofs.Ytmpilokgbblonaa.lin
/- A stack's search that has no Takes to look for; calls one behind the other: but one can be next; what isn't there is not legal. -/
namespace Go.Proofs.Ytmpilokgbblonaa.lin
open Go.RowKit Go.Maps
open hist (ClV EvV befB past new_block Went At cells9 len9 Blk9 Hst callsE calls_any)
open spec (Rw Row Mean new_right new_wrong items_mean Told)
open task (rightB)
section
variable {Pr : World → Prop} {t : SP} {L : List ClV} {c0 : Nat}
theorem covers_zero {g : Nat} (hg : g < 4294967296) : coversB g 0 = true := (coversB_iff (by decide) hg).2 fun i hi => by simp at hi
theorem popped_idle (w : World) (t : SP) (L : List ClV) (h : Srch w t L) (h0 : t.tk = 0) (g : Nat) (hg : g < 4294967296) (A : Option Addr) (n c : Nat) :
    Calls Try.prog 44 #[.pointer (some ⟨t.X, 0, none⟩), .int .u32 (g : Int), .slice A n c] w fun e w' => e = .returned (.bool true) ∧ w = w' := by
  have s2 : w.cell? ⟨t.X, 2, none⟩ = some (.int .u32 0) := by have := h.cs.2.2.1; rw [h0] at this; exact this
  have HC := Lib.hid (covers_zero hg)
  have HG := Lib.hid hg
  clear h h0 hg
  go_enter Try.func44, Try.ntmps44
  go_wp2_with (go_at_call 30; go_loud (refine (covers_any _ g 0 HG.out (by decide)).mono ?_; rintro e w1 ⟨rfl, hw⟩; subst hw; rw [HC.out]))
  go_returns
  first | exact ⟨rfl, rfl⟩ | rfl
theorem hopes_idle (w : World) (t : SP) (L : List ClV) (hS : Srch w t L) (h0 : t.tk = 0) (g X : Nat) (f : Nat → Prop) (M : List Int) (h : Mean w X f 4 M) (hg : g < 4294967296) (hl : M.length ≤ 24) :
    Calls Try.prog 33 #[.pointer (some ⟨t.X, 0, none⟩), .pointer (some ⟨X, 0, none⟩), .int .u32 (g : Int)] w fun e w' => e = .returned (.bool true) ∧ Below w.heap.size w w' := by
  have c2 := h.cell2
  have HS := Lib.hid hS
  have H0 := Lib.hid h0
  have HH := Lib.hid h
  have HG := Lib.hid hg
  have HL := Lib.hid hl
  clear hS h0 h hg hl
  go_enter Try.func33, Try.ntmps33
  go_wp2_with (first
    | (go_at_call 44; have _t := B2.out; go_loud (refine (popped_idle _ t L (HS.out.below B2.out) H0.out g HG.out A2 _ _).mono ?_; rintro e w3 ⟨rfl, hw⟩; subst hw))
    | (go_at_call 32; go_loud (refine (items_mean _ X f 4 M HH.out (by have := HL.out; omega)).mono ?_; rintro e w2 ⟨A2, c2', G2, rfl, -, -, hb2⟩; have B2 := Lib.hid hb2; clear hb2)))
  go_returns
  exact ⟨rfl, B2.out⟩
theorem hoped_idle (hE : EnvG Pr t L c0 4) (h0 : t.tk = 0) : Hoped Pr t L 4 (fun g M => ¬ Vain (sysOf 4 L) g M) (fun _ => 0) where
  toGood _ _ _ _ h := h
  ofGood _ _ _ _ h := h
  hopes w N g X f M hS hM hg _ hl _ := (hopes_idle w t L hS.srch h0 g X f M hM hg hl).mono fun e w' ⟨h1, h2⟩ => ⟨true, h1, fun h => absurd h (by decide), hS.below hE.pr h2, Went.ofBelow h2⟩
end
theorem hopes_of_idle {w1 w' : World} {t : SP} {L : List ClV} (hns : NewS w1 w' t L) (hsh : t.sh = 4) (hV : Spans L) (h0 : t.tk = 0) (c0 : Nat) (hf : ∀ g, g < 4294967296 → cntB (fun p => freeB t L g p) L.length ≤ c0) (hb : gbF c0 (fun _ => 0) L.length ≤ 1000000000000) : Hopes w' t L 4 := by
  have hE : EnvG (fun w => t.R < w.heap.size) t L c0 4 := ⟨size_pr t, fun _ h => h, hns.apart, hns.masks, hV, hsh, hf⟩
  exact ⟨⟨_, _, c0, _, hE, hoped_idle hE h0, (Array.getElem?_eq_some_iff.1 hns.pairs).1, hb⟩⟩

/-- One at most. -/
theorem cnt_one {b : Nat → Bool} (h : ∀ i j, b i = true → b j = true → i = j) : ∀ n, cntB b n ≤ 1
  | 0 => by simp [cntB]
  | n + 1 => by
    rw [cnt_succ]
    by_cases hn : b n = true
    · have h0 : cntB b n = 0 := by
        rw [← cnt_none n]
        exact cnt_same n fun i hi => by
          cases hb : b i
          · rfl
          · have := h i n hb hn; omega
      rw [h0, if_pos hn]
      omega
    · rw [if_neg hn]
      have := cnt_one h n
      omega
section
variable {s : Int} {L : List ClV} {t : SP}
theorem line_must (h : Line s L) {i : Nat} (hm : mayAt s L i = true) : mustAt L i = true := by
  have hi := may_at_lt hm
  rw [may_at hi] at hm
  unfold mayC at hm
  unfold mustAt
  rw [List.getElem?_eq_getElem hi]
  show mustC L[i] = true
  rw [must_iff]
  have := h.ended i hi
  simp only [Bool.and_eq_true, Bool.or_eq_true, decide_eq_true_eq] at hm
  omega
theorem line_free (h : Line s L) (hm : Masks t L) (hsh : t.sh = s) {g : Nat} (hg : g < 4294967296) : ∀ i j, freeB t L g i = true → freeB t L g j = true → i = j := by
  have key : ∀ i j, freeB t L g i = true → freeB t L g j = true → ¬ i < j := fun i j hi hj hlt => by
    have h1 := free_of hm hsh hg hi
    have h2 := free_of hm hsh hg hj
    have hil : i < L.length := h1.lt
    have hjl : j < L.length := h2.lt
    have h3 := h2.ahead i hil (line_must h h1.may) (by rw [sys_bef hil hjl, h.bef i j hil hjl]; exact decide_eq_true hlt)
    rw [h1.new] at h3
    exact absurd h3 (by decide)
  intro i j hi hj
  have h1 := key i j hi hj
  have h2 := key j i hj hi
  omega
theorem line_take (h : Line s L) (hm : Masks t L) (hsh : t.sh = s) {g : Nat} (hg : g < 4294967296) : ∀ i j, takeB t L g i = true → takeB t L g j = true → i = j := by
  have key : ∀ i j, takeB t L g i = true → takeB t L g j = true → ¬ i < j := fun i j hi hj hlt => by
    unfold takeB at hi hj
    simp only [Bool.and_eq_true, Bool.not_eq_true'] at hi hj
    obtain ⟨⟨⟨i1, i2⟩, _⟩, i4⟩ := hi
    obtain ⟨⟨⟨j1, _⟩, j3⟩, _⟩ := hj
    have hil := may_at_lt i1
    have hjl := may_at_lt j1
    have hmi : mustAt L i = true := line_must h (by rw [← hsh]; exact i1)
    have hki : kindAt L i = 5 := of_decide_eq_true i4
    have hb : befL L i j = true := by rw [befL_eq hil hjl, h.bef i j hil hjl]; exact decide_eq_true hlt
    have h3 := (coversB_iff (Nat.lt_of_le_of_lt Nat.and_le_left (hm.small.am j)) hg).1 j3 i (by
      rw [Nat.testBit_and, (hm.am j j1 i).2 ⟨hil, hmi, hb⟩, (hm.tk i).2 ⟨hil, hmi, hki⟩]
      rfl)
    rw [i2] at h3
    exact absurd h3 (by decide)
  intro i j hi hj
  have h1 := key i j hi hj
  have h2 := key j i hj hi
  omega
end
theorem line_budget : ∀ n, n ≤ 24 → gbF 1 (sbF 1) n ≤ 1000000000000 ∧ gbF 1 (fun _ => 0) n ≤ 1000000000000 := by decide

/-! What isn't there. -/
theorem behind_nil (w : World) (s : Int) (hs : 1 ≤ s ∧ s ≤ 4) (A : Option Addr) (n c : Nat) : Calls Try.prog 22 #[.int .i64 s, .pointer none, .slice A n c] w fun e w' => e = .returned (.tuple #[.slice none 0 0, .bool false]) ∧ Below w.heap.size w w' := by
  have HS := Lib.hid hs
  clear hs
  go_enter Try.func22, Try.ntmps22
  go_wp2_with (go_at_call 16; go_loud (refine (new_right _ s HS.out).mono ?_; rintro e w1 ⟨X1, f1, rfl, hm, hf1, hb1⟩; have B1 := Lib.hid hb1; clear hm hf1 hb1))
  go_returns
  exact ⟨rfl, B1.out⟩
theorem legal_nil (w : World) (s : Int) (hs : 1 ≤ s ∧ s ≤ 4) (A : Option Addr) (n c : Nat) : Calls Try.prog 10 #[.int .i64 s, .pointer none, .slice A n c] w fun e w' => e = .returned (.bool false) ∧ Below w.heap.size w w' := by
  have HS := Lib.hid hs
  clear hs
  go_enter Try.func10, Try.ntmps10
  go_wp2_with (go_at_call 22; go_loud (refine (behind_nil _ s HS.out A n c).mono ?_; rintro e w1 ⟨rfl, hb1⟩; have B1 := Lib.hid hb1; clear hb1))
  go_returns
  exact ⟨rfl, B1.out⟩
end Go.Proofs.Ytmpilokgbblonaa.lin
/- An event's beginning. -/
namespace Go.Proofs.Ytmpilokgbblonaa.hist
open Go.RowKit

set_option maxRecDepth 100000 in
set_option maxHeartbeats 20000000 in
theorem begin_any (w : World) (X : Nat) (f : Nat → Prop) (l : List EvV) (h : Hst w X f l) (hl : l.length ≤ 1000) (t k y : Int) (he : errE l ⟨t, false, k, y, 0, false, 0⟩ = 0) :
    Calls Try.prog 6 #[.pointer (some ⟨X, 0, none⟩), .int .i64 t, .agg #[.int .i64 k, .int .i64 y]] w fun e w' => ∃ f', e = .returned (.int .i64 0) ∧ Hst w' X f' (l ++ [⟨t, false, k, y, 0, false, 0⟩]) ∧ Went f f' w w' := by
  obtain ⟨v, o, h, hX, hv, hf⟩ := h
  obtain ⟨ht, hp⟩ := err_zero he
  simp only at ht hp
  obtain ⟨n, rfl⟩ : ∃ n : Nat, t = n := ⟨t.toNat, by omega⟩
  have hn7 : (n : Int) ≤ 7 := ht.2
  obtain ⟨A, c, rfl, hc1, hc2, _⟩ := h.row.slice
  have hMl := calls_le h.valid
  have hap := fun g (hg : _) => h.apart (g := g) hg
  have hrow := h.row
  have hHH := h
  generalize hM : (callsE l).length = M at *
  obtain ⟨cur, hbox, hb1, hb2, hb3, hb4⟩ := h.box
  have c1 := h.c1
  have c0 := h.c0
  have co := h.co (t := n) (by omega)
  have fr := h.free
  have HP := Lib.hid hp
  have hXl := h.lt
  have hn0 : (0 : Int) ≤ n := ht.1
  have hn8 : (n : Int) < 8 := by omega
  have d1 : decide ((0 : Int) ≤ n) = true := decide_eq_true hn0
  have d2 : decide ((n : Int) < 8) = true := decide_eq_true hn8
  obtain ⟨i0, hi, hz0, hz1, hz2⟩ := info_parts Tryinfo_call
  have hw1 : Below w.heap.size w w := Below.refl _ _
  -- the worlds ahead of the append
  obtain ⟨w0, hw0⟩ : ∃ w0, w0 = w.setCell ⟨X, 1, none⟩ (.int .i64 ((l.length : Int) + 1)) := ⟨_, rfl⟩
  have hs0 : w0.heap.size = w.heap.size := by rw [hw0]; simp
  have hx0 : w0.heap[X]? = some (.cells (cur.setIfInBounds 1 (.int .i64 ((l.length : Int) + 1))) 46 (0, 0)) := by rw [hw0]; exact Joins.block_setCell (i := 1) hbox _
  have hg0 : ∀ g, g ≠ X → w0.heap[g]? = w.heap[g]? := fun g hg => by rw [hw0]; exact Below.heap_setCell _ _ _ _ hg
  have hr0 : Own cells9 9 52 w0 (.slice A M c) (callsE l) := hrow.moved fun g hg => hg0 g (hap g hg)
  have hgh0 : w0.os = w.os ∧ w0.tape = w.tape ∧ w0.output = w.output := by rw [hw0]; exact ⟨rfl, rfl, rfl⟩
  obtain ⟨w3, hw3⟩ : ∃ w3, w3 = (w0.alloc (.cells #[.int .i64 k, .int .i64 y] 28)).alloc (.cells #[.int .i64 (l.length : Int), .int .i64 (-1)] 50) := ⟨_, rfl⟩
  have hb03 : Below w0.heap.size w0 w3 := by rw [hw3]; exact ((Below.refl _ _).alloc (Nat.le_refl _) _).alloc (by simp) _
  have hs3 : w3.heap.size = w.heap.size + 2 := by rw [hw3, ← hs0]; simp
  have q3 : w3.cell? ⟨w.heap.size, 0, none⟩ = some (.int .i64 k) := by rw [hw3, ← hs0]; simp
  have q4 : w3.cell? ⟨w.heap.size, 1, none⟩ = some (.int .i64 y) := by rw [hw3, ← hs0]; simp
  have q1 : w3.cell? ⟨w.heap.size + 1, 0, none⟩ = some (.int .i64 (l.length : Int)) := by rw [hw3, ← hs0]; simp
  have q2 : w3.cell? ⟨w.heap.size + 1, 1, none⟩ = some (.int .i64 (-1)) := by rw [hw3, ← hs0]; simp
  have hx3 : w3.heap[X]? = some (.cells (cur.setIfInBounds 1 (.int .i64 ((l.length : Int) + 1))) 46 (0, 0)) := (hb03.block X (by omega)).trans hx0
  have q0 : w3.cell? ⟨X, 0, none⟩ = some (.slice A M c) := by
    rw [Joins.cell_of_block hx3]
    show (cur.setIfInBounds 1 _)[0]? = _
    rw [Array.getElem?_setIfInBounds, if_neg (by omega)]
    exact hb2
  obtain ⟨w4, hw4⟩ : ∃ w4, w4 = w3.drew.alloc (.cells #[.int .i64 (l.length : Int), .int .i64 (-1), .int .i64 (M : Int), .int .i64 (n : Int), .int .i64 k, .int .i64 y, .int .i64 0, .bool false, .int .i64 0] 52) := ⟨_, rfl⟩
  have hb34 : Below w3.heap.size w3 w4 := by rw [hw4]; exact ((Below.refl _ _).drew).alloc (Nat.le_refl _) _
  have hs4 : w4.heap.size = w3.heap.size + 1 := by rw [hw4]; simp
  obtain ⟨v', w5, hrun, hown, hgr, hat, A', c', hv'⟩ := append_row len9 w4 43 43 52 i0 _ 72 Try.underlying43 hi hz0 hz1 hz2 rfl (by decide) (.slice A M c) (callsE l) ⟨n, (l.length : Nat), -1, k, y, 0, false, 0⟩ ((hr0.below hb03).below hb34) w3.heap.size (by
      rw [hw4, hM]
      exact new_cells w3.drew [.int .i64 (l.length : Int), .int .i64 (-1), .int .i64 (M : Int), .int .i64 (n : Int), .int .i64 k, .int .i64 y, .int .i64 0, .bool false, .int .i64 0] _) (one9 _ _) (by unfold maxLen; omega) (by omega)
  subst hv'
  rw [hM] at hown hrun hat
  have hgX : ∀ g, (Value.slice A M c).ownBlock = some g → g ≠ X := hap
  have hx5 : w5.heap[X]? = some (.cells (cur.setIfInBounds 1 (.int .i64 ((l.length : Int) + 1))) 46 (0, 0)) := by
    rw [hgr.block X (by omega) (fun e => hgX X e.symm rfl), hb34.block X (by omega)]
    exact hx3
  have k0 : w5.cell? ⟨X, 0, none⟩ = some (.slice A M c) := by
    rw [Joins.cell_of_block hx5]
    show (cur.setIfInBounds 1 _)[0]? = _
    rw [Array.getElem?_setIfInBounds, if_neg (by omega)]
    exact hb2
  have kn : w5.cell? ⟨X, 2 + n, none⟩ = some (.int .i64 (o n : Nat)) := by
    rw [Joins.cell_of_block hx5]
    show (cur.setIfInBounds 1 _)[2 + n]? = _
    rw [Array.getElem?_setIfInBounds, if_neg (by omega)]
    exact hb4 n (by omega)
  have fr5 : ∀ i, w5.frozen? ⟨X, i, none⟩ = false := fun i => Joins.unfrozen_of_block hx5 i
  have HE : Hid (∀ w6 : World, w6.heap.size = w5.heap.size → w6.os = w5.os → w6.tape = w5.tape → w6.output = w5.output → (∀ g, g ≠ X → w6.heap[g]? = w5.heap[g]?) → w6.heap[X]? = some (.cells (((cur.setIfInBounds 1 (.int .i64 ((l.length : Int) + 1))).setIfInBounds 0 (.slice (some A') (M + 1) c')).setIfInBounds (2 + n) (.int .i64 ((M : Int) + 1))) 46 (0, 0)) → ∃ f', Hst w6 X f' (l ++ [⟨n, false, k, y, 0, false, 0⟩]) ∧ Went f f' w w6) := by
    intro w6 e1 e2 e3 e4 e5 e6
    have hsz := hgr.size
    have hcl : ∀ g, (Value.slice (some A') (M + 1) c').ownBlock = some g → (Value.slice A M c).ownBlock = some g ∨ g = w4.heap.size := fun g hg => by
      rcases hat with hat | hat
      · exact Or.inl (hat ▸ hg)
      · rw [hg] at hat
        exact Or.inr (Option.some.inj hat)
    refine ⟨fun b => f b ∨ (w.heap.size ≤ b ∧ b < w6.heap.size), ⟨_, _, hat_begin hHH hM (by omega) he hbox e6 hown (fun g hg => e5 g ?_), Or.inl hX, fun g hg => ?_, fun b hb => ?_⟩, ?_⟩
    · rcases hcl g hg with h | h
      · exact hgX g h
      · omega
    · rcases hcl g hg with h | h
      · exact Or.inl (hv g h)
      · have h2 := hown.lt hg
        exact Or.inr ⟨by omega, by omega⟩
    · rcases hb with hb | hb
      · have := hf b hb
        omega
      · exact hb.2
    · refine ⟨e2.trans (hgr.os.trans (hb34.os.trans (hb03.os.trans hgh0.1))), e3.trans (hgr.tape.trans (hb34.tape.trans (hb03.tape.trans hgh0.2.1))), e4.trans (hgr.output.trans (hb34.output.trans (hb03.output.trans hgh0.2.2))), by omega, fun b hb hfb => ?_, fun b hb => hb.imp id fun h => h.1⟩
      have hbX : b ≠ X := fun e => hfb (e ▸ hX)
      rw [e5 b hbX, hgr.block b (by omega) (fun e => hfb (hv b e.symm)), hb34.block b (by omega), hb03.block b (by omega), hg0 b hbX]
  have HR := Lib.hid hrun
  have HX5 := Lib.hid hx5
  have HH := Lib.hid hHH
  have HW := Lib.hid hw3
  subst hw4
  subst hw0
  have hX3 : X < w3.heap.size := by omega
  have hS3 : w.heap.size < w3.heap.size := by omega
  have hT3 : w.heap.size + 1 < w3.heap.size := by omega
  have hNN : (l.length : Int) < 1001 := by omega
  clear hrun hown hgr hat hx5 hb34 hb03 hr0 hg0 hx0 hs0 hs4 hHH h hrow hbox hb1 hb2 hb3 hb4 hap hgX hv hf hc1 hc2 hp ht he hs3 hx3 hgh0 hw3
  generalize l.length = N at *
  go_enter Try.func6, Try.ntmps6
  go_upto_region 6 with (first
    | (go_at_call 14; go_loud (refine (pending_any _ X _ o l (HH.out.below ((Below.refl _ _).alloc (Nat.le_refl _) _)) n).mono ?_; rintro e w1 ⟨rfl, hw⟩; subst hw; rw [decide_eq_true ⟨hn0, hn7⟩, HP.out]))
    | (go_at_call 15; go_in)
    | (go_at_call 13; go_in))
  rw [← HW.out]
  clear c0 c1 co fr HW HH HP d1 d2 hn0
  generalize w.heap.size = s at *
  go_cut [] (fun wx => wx = w5.setCell ⟨X, 0, none⟩ (.slice (some A') (M + 1) c'))
  case first =>
    go_region_law (refine quiet.step_known rfl (.tmp 21) (.tmp 31) 43 rfl (.slice A M c) (.slice (some ⟨w3.heap.size, 0, none⟩) 1 1) _ w5 rfl rfl HR.out ?_)
    all_goals
      go_wp2_with fail
      go_meet
      rfl
  case rest =>
    subst hcut
    clear q0 q1 q2 q3 q4 HR
    go_wp2
    go_region
    go_wp2
    go_returns
    obtain ⟨f', h1, h2⟩ := HE.out ((w5.setCell ⟨X, 0, none⟩ (.slice (some A') (M + 1) c')).setCell ⟨X, 2 + n, none⟩ (.int .i64 ((M : Int) + 1))).drew (by simp) rfl rfl rfl (fun g hg => (Below.heap_setCell _ _ _ _ hg).trans (Below.heap_setCell _ _ _ _ hg)) (Joins.block_setCell (i := 2 + n) (Joins.block_setCell (i := 0) HX5.out _) _)
    exact ⟨f', rfl, h1, h2⟩
end Go.Proofs.Ytmpilokgbblonaa.hist
