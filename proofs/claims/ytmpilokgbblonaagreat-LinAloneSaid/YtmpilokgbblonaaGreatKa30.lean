/- What may be hoped, of a set and of a queue; what isn't a shape, isn't there, or is too long; is there a legal order? -/
import Derived.Test.YtmpilokgbblonaaGreatKa29
import Derived.Test.YtmpilokgbblonaaGreatKa15
namespace Go.Proofs.YtmpilokgbblonaaGreat.lin
open Go.RowKit Go.Maps
open hist (ClV EvV befB past new_block Went At cells9 len9 Blk9 Hst callsE calls_any)
open spec (Rw Row Mean new_right new_wrong)
open task (rightB)
theorem cnt_len (b : Nat → Bool) (n : Nat) : cntB b n ≤ n := by
  unfold cntB
  have := List.length_filter_le b (List.range n)
  rwa [List.length_range] at this
theorem size_pr (t : SP) : PrOK (fun w => t.R < w.heap.size) t := ⟨fun _ _ h hs _ => Nat.lt_of_lt_of_le h hs⟩
section
variable {w1 w' : World} {t : SP} {L : List ClV} {s : Int}
/-- Of a set. -/
theorem hopes_of_set (hns : NewS w1 w' t L) (hsh : t.sh = s) (hV : Spans L) (hs : s = 1 ∨ s = 2) (c0 : Nat) (hf : ∀ g, g < 4294967296 → cntB (fun p => freeB t L g p) L.length ≤ c0) (hb : gbF c0 (fun _ => 0) L.length ≤ 1000000000000) : Hopes w' t L s :=
  ⟨⟨_, fun w => t.R < w.heap.size, c0, _, ⟨size_pr t, fun _ h => h, hns.apart, hns.masks, hV, hsh, hf⟩, hoped_set hs, (Array.getElem?_eq_some_iff.1 hns.pairs).1, hb⟩⟩
/-- Of a queue. -/
theorem hopes_of_queue (hns : NewS w1 w' t L) (hsh : t.sh = 3) (hV : Spans L) (c0 : Nat) (hf : ∀ g, g < 4294967296 → cntB (fun p => freeB t L g p) L.length ≤ c0) (ht : ∀ g, g < 4294967296 → cntB (fun p => takeB t L g p) L.length ≤ c0) (hb : gbF c0 (sbF c0) L.length ≤ 1000000000000) : Hopes w' t L 3 := by
  have hE : Env (fun w => t.R < w.heap.size) t L c0 := ⟨size_pr t, fun _ h => h, hns.apart, hns.masks, hV, hsh, hf, ht⟩
  exact ⟨⟨_, _, c0, _, envG_of hE, hoped_queue hE, (Array.getElem?_eq_some_iff.1 hns.pairs).1, hb⟩⟩
end
theorem small_budget : ∀ n, n ≤ 8 → gbF n (sbF n) n ≤ 1000000000000 ∧ gbF n (fun _ => 0) n ≤ 1000000000000 := by decide

/-- Is there a legal order? -/
def LinQ (s : Int) (L : List ClV) (w : World) (e : Ending) (w' : World) : Prop := ∃ res, e = .returned (.bool (Option.isSome res)) ∧ Found (sysOf s L) [] res ∧ Below w.heap.size w w'
theorem linear_any (w : World) (X : Nat) (s : Int) (L : List ClV) (h : Calls Tryz.prog 10 #[.int .i64 s, .pointer (some ⟨X, 0, none⟩)] w (OrdQ s L w)) :
    Calls Tryz.prog 11 #[.int .i64 s, .pointer (some ⟨X, 0, none⟩)] w (LinQ s L w) := by
  have H := Lib.hid h
  clear h
  go_enter Tryz.func11, Tryz.ntmps11
  go_wp2_with (go_at_call 10; go_loud (refine H.out.mono ?_; rintro e w2 ⟨res, A, c, G, rfl, hr, hf, hb⟩; have HF := Lib.hid hf; have HB := Lib.hid hb; clear hr hf hb))
  go_returns
  exact ⟨res, rfl, HF.out, HB.out⟩
/-- What is told without a search. -/
def Bare (n : Int) (w : World) (e : Ending) (w' : World) : Prop := e = .returned (.tuple #[.slice none 0 0, .bool false, .int .i64 n]) ∧ Below w.heap.size w w'
theorem order_wrong (w : World) (s : Int) (hs : ¬ (1 ≤ s ∧ s ≤ 4)) (a : Option Addr) : Calls Tryz.prog 10 #[.int .i64 s, .pointer a] w (Bare 1 w) := by
  have HS := Lib.hid hs
  clear hs
  go_enter Tryz.func10, Tryz.ntmps10
  go_wp2_with (go_at_call 26; go_loud (refine (new_wrong _ s HS.out).mono ?_; rintro e w1 ⟨rfl, hw⟩; subst hw))
  go_returns
  exact ⟨rfl, Below.refl _ _⟩
theorem order_nil (w : World) (s : Int) (hs : 1 ≤ s ∧ s ≤ 4) : Calls Tryz.prog 10 #[.int .i64 s, .pointer none] w (Bare 1 w) := by
  have HS := Lib.hid hs
  clear hs
  go_enter Tryz.func10, Tryz.ntmps10
  go_wp2_with (go_at_call 26; go_loud (refine (new_right _ s HS.out).mono ?_; rintro e w1 ⟨X1, f1, rfl, hm, hf1, hb1⟩; have B1 := Lib.hid hb1; clear hm hf1 hb1))
  go_returns
  exact ⟨rfl, B1.out⟩
theorem order_long (w : World) (X : Nat) (f : Nat → Prop) (l : List EvV) (h : Hst w X f l) (hl : l.length ≤ 1000) (h24 : 24 < (callsE l).length) (s : Int) (hs : 1 ≤ s ∧ s ≤ 4) : Calls Tryz.prog 10 #[.int .i64 s, .pointer (some ⟨X, 0, none⟩)] w (Bare 6 w) := by
  have HS := Lib.hid hs
  have HH := Lib.hid h
  have HL := Lib.hid hl
  have hn0 : (24 : Int) < (((callsE l).length : Nat) : Int) := by omega
  generalize hn : (callsE l).length = n at *
  have HN := Lib.hid hn
  clear h hl hs hn
  go_enter Tryz.func10, Tryz.ntmps10
  go_wp2_with (first
    | (go_at_call 27; have _t := B1.out; go_loud (refine (calls_any _ X f l (HH.out.below B1.out) HL.out).mono ?_; rintro e w2 ⟨v2, rfl, hg⟩; obtain ⟨A9, c9, rfl, -, -, ha⟩ := hg.told len9; rw [HN.out]; have B2 := Lib.hid (past B1.out hg.below); clear hg ha))
    | (go_at_call 26; go_loud (refine (new_right _ s HS.out).mono ?_; rintro e w1 ⟨X1, f1, rfl, hm, hf1, hb1⟩; have B1 := Lib.hid hb1; clear hm hf1 hb1)))
  go_returns
  exact ⟨rfl, B2.out⟩
theorem linear_bare (w : World) (s n : Int) (a : Option Addr) (h : Calls Tryz.prog 10 #[.int .i64 s, .pointer a] w (Bare n w)) :
    Calls Tryz.prog 11 #[.int .i64 s, .pointer a] w fun e w' => e = .returned (.bool false) ∧ Below w.heap.size w w' := by
  have H := Lib.hid h
  clear h
  go_enter Tryz.func11, Tryz.ntmps11
  go_wp2_with (go_at_call 10; go_loud (refine H.out.mono ?_; rintro e w2 ⟨rfl, hb⟩; have HB := Lib.hid hb; clear hb))
  go_returns
  exact ⟨rfl, HB.out⟩
end Go.Proofs.YtmpilokgbblonaaGreat.lin
/- A stack's search that has no Takes to look for; calls one behind the other: but one can be next; what isn't there is not legal. -/
namespace Go.Proofs.YtmpilokgbblonaaGreat.lin
open Go.RowKit Go.Maps
open hist (ClV EvV befB past new_block Went At cells9 len9 Blk9 Hst callsE calls_any)
open spec (Rw Row Mean new_right new_wrong items_mean Told)
open task (rightB)
section
variable {Pr : World → Prop} {t : SP} {L : List ClV} {c0 : Nat}
theorem covers_zero {g : Nat} (hg : g < 4294967296) : coversB g 0 = true := (coversB_iff (by decide) hg).2 fun i hi => by simp at hi
theorem popped_idle (w : World) (t : SP) (L : List ClV) (h : Srch w t L) (h0 : t.tk = 0) (g : Nat) (hg : g < 4294967296) (A : Option Addr) (n c : Nat) :
    Calls Tryz.prog 66 #[.pointer (some ⟨t.X, 0, none⟩), .int .u32 (g : Int), .slice A n c] w fun e w' => e = .returned (.bool true) ∧ w = w' := by
  have s2 : w.cell? ⟨t.X, 2, none⟩ = some (.int .u32 0) := by have := h.cs.2.2.1; rw [h0] at this; exact this
  have HC := Lib.hid (covers_zero hg)
  have HG := Lib.hid hg
  clear h h0 hg
  go_enter Tryz.func66, Tryz.ntmps66
  go_wp2_with (go_at_call 51; go_loud (refine (covers_any _ g 0 HG.out (by decide)).mono ?_; rintro e w1 ⟨rfl, hw⟩; subst hw; rw [HC.out]))
  go_returns
  first | exact ⟨rfl, rfl⟩ | rfl
theorem hopes_idle (w : World) (t : SP) (L : List ClV) (hS : Srch w t L) (h0 : t.tk = 0) (g X : Nat) (f : Nat → Prop) (M : List Int) (h : Mean w X f 4 M) (hg : g < 4294967296) (hl : M.length ≤ 24) :
    Calls Tryz.prog 53 #[.pointer (some ⟨t.X, 0, none⟩), .pointer (some ⟨X, 0, none⟩), .int .u32 (g : Int)] w fun e w' => e = .returned (.bool true) ∧ Below w.heap.size w w' := by
  have c2 := h.cell2
  have HS := Lib.hid hS
  have H0 := Lib.hid h0
  have HH := Lib.hid h
  have HG := Lib.hid hg
  have HL := Lib.hid hl
  clear hS h0 h hg hl
  go_enter Tryz.func53, Tryz.ntmps53
  go_wp2_with (first
    | (go_at_call 66; have _t := B2.out; go_loud (refine (popped_idle _ t L (HS.out.below B2.out) H0.out g HG.out A2 _ _).mono ?_; rintro e w3 ⟨rfl, hw⟩; subst hw))
    | (go_at_call 38; go_loud (refine (items_mean _ X f 4 M HH.out (by have := HL.out; omega)).mono ?_; rintro e w2 ⟨A2, c2', G2, rfl, -, -, hb2⟩; have B2 := Lib.hid hb2; clear hb2)))
  go_returns
  exact ⟨rfl, B2.out⟩
theorem hoped_idle (hE : EnvG Pr t L c0 4) (h0 : t.tk = 0) : Hoped Pr t L 4 (fun g M => ¬ Vain (sysOf 4 L) g M) (fun _ => 0) where
  toGood _ _ _ _ h := h
  ofGood _ _ _ _ h := h
  hopes w N g X f M hS hM hg _ hl _ := (hopes_idle w t L hS.srch h0 g X f M hM hg hl).mono fun e w' ⟨h1, h2⟩ => ⟨true, h1, fun h => absurd h (by decide), hS.below hE.pr h2, Went.ofBelow h2⟩
end
theorem hopes_of_idle {w1 w' : World} {t : SP} {L : List ClV} (hns : NewS w1 w' t L) (hsh : t.sh = 4) (hV : Spans L) (h0 : t.tk = 0) (c0 : Nat) (hf : ∀ g, g < 4294967296 → cntB (fun p => freeB t L g p) L.length ≤ c0) (hb : gbF c0 (fun _ => 0) L.length ≤ 1000000000000) : Hopes w' t L 4 := by
  have hE : EnvG (fun w => t.R < w.heap.size) t L c0 4 := ⟨size_pr t, fun _ h => h, hns.apart, hns.masks, hV, hsh, hf⟩
  exact ⟨⟨_, _, c0, _, hE, hoped_idle hE h0, (Array.getElem?_eq_some_iff.1 hns.pairs).1, hb⟩⟩

/-- One at most. -/
theorem cnt_one {b : Nat → Bool} (h : ∀ i j, b i = true → b j = true → i = j) : ∀ n, cntB b n ≤ 1
  | 0 => by simp [cntB]
  | n + 1 => by
    rw [cnt_succ]
    by_cases hn : b n = true
    · have h0 : cntB b n = 0 := by
        rw [← cnt_none n]
        exact cnt_same n fun i hi => by
          cases hb : b i
          · rfl
          · have := h i n hb hn; omega
      rw [h0, if_pos hn]
      omega
    · rw [if_neg hn]
      have := cnt_one h n
      omega
section
variable {s : Int} {L : List ClV} {t : SP}
theorem line_must (h : Line s L) {i : Nat} (hm : mayAt s L i = true) : mustAt L i = true := by
  have hi := may_at_lt hm
  rw [may_at hi] at hm
  unfold mayC at hm
  unfold mustAt
  rw [List.getElem?_eq_getElem hi]
  show mustC L[i] = true
  rw [must_iff]
  have := h.ended i hi
  simp only [Bool.and_eq_true, Bool.or_eq_true, decide_eq_true_eq] at hm
  omega
theorem line_free (h : Line s L) (hm : Masks t L) (hsh : t.sh = s) {g : Nat} (hg : g < 4294967296) : ∀ i j, freeB t L g i = true → freeB t L g j = true → i = j := by
  have key : ∀ i j, freeB t L g i = true → freeB t L g j = true → ¬ i < j := fun i j hi hj hlt => by
    have h1 := free_of hm hsh hg hi
    have h2 := free_of hm hsh hg hj
    have hil : i < L.length := h1.lt
    have hjl : j < L.length := h2.lt
    have h3 := h2.ahead i hil (line_must h h1.may) (by rw [sys_bef hil hjl, h.bef i j hil hjl]; exact decide_eq_true hlt)
    rw [h1.new] at h3
    exact absurd h3 (by decide)
  intro i j hi hj
  have h1 := key i j hi hj
  have h2 := key j i hj hi
  omega
theorem line_take (h : Line s L) (hm : Masks t L) (hsh : t.sh = s) {g : Nat} (hg : g < 4294967296) : ∀ i j, takeB t L g i = true → takeB t L g j = true → i = j := by
  have key : ∀ i j, takeB t L g i = true → takeB t L g j = true → ¬ i < j := fun i j hi hj hlt => by
    unfold takeB at hi hj
    simp only [Bool.and_eq_true, Bool.not_eq_true'] at hi hj
    obtain ⟨⟨⟨i1, i2⟩, _⟩, i4⟩ := hi
    obtain ⟨⟨⟨j1, _⟩, j3⟩, _⟩ := hj
    have hil := may_at_lt i1
    have hjl := may_at_lt j1
    have hmi : mustAt L i = true := line_must h (by rw [← hsh]; exact i1)
    have hki : kindAt L i = 5 := of_decide_eq_true i4
    have hb : befL L i j = true := by rw [befL_eq hil hjl, h.bef i j hil hjl]; exact decide_eq_true hlt
    have h3 := (coversB_iff (Nat.lt_of_le_of_lt Nat.and_le_left (hm.small.am j)) hg).1 j3 i (by
      rw [Nat.testBit_and, (hm.am j j1 i).2 ⟨hil, hmi, hb⟩, (hm.tk i).2 ⟨hil, hmi, hki⟩]
      rfl)
    rw [i2] at h3
    exact absurd h3 (by decide)
  intro i j hi hj
  have h1 := key i j hi hj
  have h2 := key j i hj hi
  omega
end
theorem line_budget : ∀ n, n ≤ 24 → gbF 1 (sbF 1) n ≤ 1000000000000 ∧ gbF 1 (fun _ => 0) n ≤ 1000000000000 := by decide

/-! What isn't there. -/
theorem behind_nil (w : World) (s : Int) (hs : 1 ≤ s ∧ s ≤ 4) (A : Option Addr) (n c : Nat) : Calls Tryz.prog 14 #[.int .i64 s, .pointer none, .slice A n c] w fun e w' => e = .returned (.tuple #[.slice none 0 0, .bool false]) ∧ Below w.heap.size w w' := by
  have HS := Lib.hid hs
  clear hs
  go_enter Tryz.func14, Tryz.ntmps14
  go_wp2_with (go_at_call 26; go_loud (refine (new_right _ s HS.out).mono ?_; rintro e w1 ⟨X1, f1, rfl, hm, hf1, hb1⟩; have B1 := Lib.hid hb1; clear hm hf1 hb1))
  go_returns
  exact ⟨rfl, B1.out⟩
theorem legal_nil (w : World) (s : Int) (hs : 1 ≤ s ∧ s ≤ 4) (A : Option Addr) (n c : Nat) : Calls Tryz.prog 16 #[.int .i64 s, .pointer none, .slice A n c] w fun e w' => e = .returned (.bool false) ∧ Below w.heap.size w w' := by
  have HS := Lib.hid hs
  clear hs
  go_enter Tryz.func16, Tryz.ntmps16
  go_wp2_with (go_at_call 14; go_loud (refine (behind_nil _ s HS.out A n c).mono ?_; rintro e w1 ⟨rfl, hb1⟩; have B1 := Lib.hid hb1; clear hb1))
  go_returns
  exact ⟨rfl, B1.out⟩
end Go.Proofs.YtmpilokgbblonaaGreat.lin
/- Events taken as they came (what doesn't count not struck out): the same calls, the same errors. Orders as numbers that may be any. By lists alone. -/
namespace Go.Proofs.YtmpilokgbblonaaGreat.lin
open hist (ClV EvV befB callsE callsGo callOf findE pendE errE ValidE bareE bare_T bare_E tookE stepE)
open spec (OpV okR valR allRight)
open task (rightB)

theorem pend_map (l : List EvV) (t : Int) : pendE (l.map bareE) t = pendE l t := by
  induction l using hist.snocInd with
  | nil => rfl
  | append_singleton l v ih => rw [List.map_append, List.map_cons, List.map_nil, hist.pend_snoc, hist.pend_snoc, bare_T, bare_E, ih]
theorem err_map (l : List EvV) (v : EvV) : errE (l.map bareE) v = errE l v := by
  unfold errE
  rw [pend_map]
theorem find_map (t : Int) : ∀ (l : List EvV) (j : Nat), findE t (l.map bareE) j = (findE t l j).map fun x => (x.1, bareE x.2)
  | [], _ => rfl
  | v :: l, j => by
    rw [List.map_cons, findE, findE, bare_T]
    split
    · rfl
    · exact find_map t l (j + 1)
/-- Where it is an end that is found. -/
def EndsNext (t : Int) (l : List EvV) : Prop := ∀ j x, findE t l j = some x → x.2.E = true
theorem calls_map (l : List EvV) (hV : ValidE l) : callsE (l.map bareE) = callsE l := by
  induction l using hist.snocInd with
  | nil => rfl
  | append_singleton l v ih =>
    obtain ⟨h1, h2⟩ := hist.valid_snoc.1 hV
    have ih := ih h1
    rw [List.map_append, List.map_cons, List.map_nil]
    cases he : v.E
    · rw [hist.calls_begin (l := l.map bareE) (v := bareE v) (by rw [hist.err_bare, err_map]; exact h2) (by rw [bare_E]; exact he), hist.calls_begin h2 he, ih, List.length_map]
      unfold bareE
      rw [he]
      rfl
    · rw [hist.calls_end (l := l.map bareE) (v := bareE v) (by rw [bare_E]; exact he), hist.calls_end he, ih, List.length_map]
      refine List.map_congr_left fun c _ => ?_
      unfold hist.closeC bareE
      rw [he]
      rfl
/-- Those that are taken, as they came. -/
def rawE (l : List EvV) : List EvV := l.foldl (fun t v => if errE t v = 0 then t ++ [v] else t) []
theorem raw_snoc (l : List EvV) (v : EvV) : rawE (l ++ [v]) = if errE (rawE l) v = 0 then rawE l ++ [v] else rawE l := by
  unfold rawE
  rw [List.foldl_append]
  rfl
theorem raw_take {l : List EvV} {k : Nat} (hk : k < l.length) : rawE (l.take (k + 1)) = if errE (rawE (l.take k)) l[k] = 0 then rawE (l.take k) ++ [l[k]] else rawE (l.take k) := by
  rw [List.take_succ_eq_append_getElem hk, raw_snoc]
theorem raw_map (l : List EvV) : (rawE l).map bareE = tookE l := by
  induction l using hist.snocInd with
  | nil => rfl
  | append_singleton l v ih =>
    rw [raw_snoc, hist.took_snoc, ← ih, err_map]
    split
    · rw [List.map_append]
      rfl
    · rfl
theorem raw_valid (l : List EvV) : ValidE (rawE l) := by
  induction l using hist.snocInd with
  | nil => exact hist.valid_nil
  | append_singleton l v ih =>
    rw [raw_snoc]
    split
    · rename_i h
      exact hist.valid_snoc.2 ⟨ih, h⟩
    · exact ih
theorem raw_calls (l : List EvV) : callsE (rawE l) = callsE (tookE l) := by rw [← raw_map, calls_map _ (raw_valid l)]
theorem raw_len (l : List EvV) : (rawE l).length = (tookE l).length := by rw [← raw_map, List.length_map]
theorem raw_err (l : List EvV) (v : EvV) : errE (rawE l) v = errE (tookE l) v := by rw [← raw_map, err_map]

/-! Orders of any numbers. -/
/-- May a number stand behind an order? -/
def fitI (s : Int) (L : List ClV) (o : List Int) (x : Int) : Bool := decide (0 ≤ x ∧ x < L.length) && (sysOf s L).fit (o.map Int.toNat) x.toNat
def okI (s : Int) (L : List ClV) (o : List Int) : Prop := ∀ k x, o[k]? = some x → fitI s L (o.take k) x = true
section
variable {s : Int} {L : List ClV}
theorem okI_nil : okI s L [] := fun k x h => by simp at h
theorem okI_snoc {o : List Int} {x : Int} : okI s L (o ++ [x]) ↔ okI s L o ∧ fitI s L o x = true := by
  constructor
  · intro h
    refine ⟨fun k j hj => ?_, ?_⟩
    · have hk := (List.getElem?_eq_some_iff.1 hj).1
      have := h k j (by rw [List.getElem?_append_left hk]; exact hj)
      rwa [List.take_append_of_le_length (by omega)] at this
    · have := h o.length x (by simp)
      rwa [List.take_left] at this
  · rintro ⟨h1, h2⟩ k j hj
    by_cases hk : k < o.length
    · rw [List.getElem?_append_left hk] at hj
      rw [List.take_append_of_le_length (by omega)]
      exact h1 k j hj
    · have hl := (List.getElem?_eq_some_iff.1 hj).1
      simp at hl
      obtain rfl : k = o.length := by omega
      obtain rfl : x = j := by simpa using hj
      rw [List.take_left]
      exact h2
theorem okI_iff {o : List Int} : okI s L o ↔ (∀ x ∈ o, 0 ≤ x ∧ x < L.length) ∧ (sysOf s L).Ok (o.map Int.toNat) := by
  induction o using hist.snocInd with
  | nil => exact ⟨fun _ => ⟨fun x hx => by simp at hx, ok_nil⟩, fun _ => okI_nil⟩
  | append_singleton o x ih =>
    rw [okI_snoc, ih, List.map_append, List.map_cons, List.map_nil, ok_snoc]
    unfold fitI
    rw [Bool.and_eq_true, decide_eq_true_eq]
    constructor
    · rintro ⟨⟨h1, h2⟩, h3, h4⟩
      refine ⟨fun y hy => ?_, h2, h4⟩
      rcases List.mem_append.1 hy with hy | hy
      · exact h1 y hy
      · rw [List.mem_singleton.1 hy]; exact h3
    · rintro ⟨h1, h2, h3⟩
      exact ⟨⟨fun y hy => h1 y (List.mem_append_left _ hy), h2⟩, h1 x (List.mem_append_right _ (List.mem_singleton.2 rfl)), h3⟩
theorem okI_lt {o : List Int} (h : okI s L o) : ∀ x ∈ o, 0 ≤ x ∧ x < L.length := (okI_iff.1 h).1
theorem okI_len {o : List Int} (h : okI s L o) : o.length ≤ L.length := by
  have := ok_len (okI_iff.1 h).2
  rwa [List.length_map] at this
/-- Legal, whatever the numbers are. -/
def legalI (s : Int) (L : List ClV) (o : List Int) : Prop := (1 ≤ s ∧ s ≤ 4) ∧ okI s L o ∧ (sysOf s L).whole (o.map Int.toNat) = true
theorem legalI_iff {o : List Int} : legalI s L o ↔ (1 ≤ s ∧ s ≤ 4) ∧ (∀ x ∈ o, 0 ≤ x ∧ x < L.length) ∧ (sysOf s L).Legal (o.map Int.toNat) := by
  unfold legalI Sys.Legal
  rw [okI_iff]
  constructor
  · rintro ⟨h1, ⟨h2, h3⟩, h4⟩
    exact ⟨h1, h2, h3, h4⟩
  · rintro ⟨h1, h2, h3, h4⟩
    exact ⟨h1, ⟨h2, h3⟩, h4⟩
/-- Where a number stands in a list, as the document looks it up; -1: nowhere. -/
def placeL : List Int → Int → Nat → Int
  | [], _, _ => -1
  | x :: o, n, i => if x = n then (i : Int) else placeL o n (i + 1)
theorem place_mem : ∀ (o : List Int) (n : Int) (i : Nat), (0 ≤ placeL o n i) ↔ n ∈ o
  | [], n, i => by simp [placeL]
  | x :: o, n, i => by
    unfold placeL
    split
    · rename_i h
      rw [h]
      exact ⟨fun _ => List.mem_cons_self .., fun _ => Int.natCast_nonneg _⟩
    · rename_i h
      rw [place_mem o n (i + 1), List.mem_cons]
      exact ⟨Or.inr, fun hh => hh.resolve_left fun e => h e.symm⟩
/-- The operations of an order of numbers. -/
def opsI (L : List ClV) (o : List Int) : List OpV := opsL L (o.map Int.toNat)
theorem opsI_snoc {o : List Int} {x : Int} (h : x.toNat < L.length) : opsI L (o ++ [x]) = opsI L o ++ [⟨L[x.toNat].K, L[x.toNat].Y⟩] := by
  unfold opsI
  rw [List.map_append, List.map_cons, List.map_nil, ops_snoc h]
theorem toNat_mem {o : List Int} (h : ∀ x ∈ o, 0 ≤ x ∧ x < L.length) {x : Int} (hx : 0 ≤ x) : x.toNat ∈ o.map Int.toNat ↔ x ∈ o := by
  rw [List.mem_map]
  constructor
  · rintro ⟨y, hy, e⟩
    have := (h y hy).1
    obtain rfl : y = x := by omega
    exact hy
  · exact fun hm => ⟨x, hm, rfl⟩
/-- The document's way to ask, with any number. -/
theorem fitI_doc {o : List Int} (h : okI s L o) (x : Int) : fitI s L o x = true ↔ ∃ hx : x.toNat < L.length, 0 ≤ x ∧ x ∉ o ∧ mayC s L[x.toNat] = true ∧ (∀ (j : Nat) (y : Int), o[j]? = some y → ∀ hy : y.toNat < L.length, befB L[x.toNat].D L[y.toNat].B = false) ∧ toldR s (opsI L o) L[x.toNat] = true := by
  obtain ⟨hv, hok⟩ := okI_iff.1 h
  unfold fitI
  rw [Bool.and_eq_true, decide_eq_true_eq]
  constructor
  · rintro ⟨⟨h0, h1⟩, hf⟩
    have hx : x.toNat < L.length := by omega
    rw [fit_doc hok hx] at hf
    simp only [Bool.and_eq_true, Bool.not_eq_true', decide_eq_false_iff_not, List.all_eq_true] at hf
    obtain ⟨⟨⟨f1, f2⟩, f3⟩, f4⟩ := hf
    refine ⟨hx, h0, fun hm => f1 ((toNat_mem hv h0).2 hm), f2, fun j y hy hyl => ?_, f4⟩
    have := f3 y.toNat (List.mem_map.2 ⟨y, List.mem_of_getElem? hy, rfl⟩)
    rw [List.getElem?_eq_getElem hyl] at this
    simpa using this
  · rintro ⟨hx, h0, h1, h2, h3, h4⟩
    refine ⟨⟨h0, by omega⟩, ?_⟩
    rw [fit_doc hok hx]
    simp only [Bool.and_eq_true, Bool.not_eq_true', decide_eq_false_iff_not, List.all_eq_true]
    refine ⟨⟨⟨fun hm => h1 ((toNat_mem hv h0).1 hm), h2⟩, fun j hj => ?_⟩, h4⟩
    obtain ⟨y, hy, rfl⟩ := List.mem_map.1 hj
    obtain ⟨k, hk⟩ := List.getElem?_of_mem hy
    have hyl : y.toNat < L.length := by have := hv y hy; omega
    rw [List.getElem?_eq_getElem hyl]
    simp only [h3 k y hk hyl]
    rfl
end
end Go.Proofs.YtmpilokgbblonaaGreat.lin
