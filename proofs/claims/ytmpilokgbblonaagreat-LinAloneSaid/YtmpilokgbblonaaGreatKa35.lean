/- The history of events, or the first error. -/
import Derived.Test.YtmpilokgbblonaaGreatKa34
import Derived.Test.YtmpilokgbblonaaGreatKa30
import Derived.Test.YtmpilokgbblonaaGreatKa22
import Derived.Test.YtmpilokgbblonaaGreatKa16
import Derived.Test.YtmpilokgbblonaaGreatKa15
import Derived.BigQuiet
import Derived.Test.YtmpilokgbblonaaGreatKa19
import Derived.Test.YtmpilokgbblonaaGreatKa14
import Derived.Maps.Range
import Derived.Sort.KeysCollected
import Derived.Deep.AppendSrc
namespace Go.Proofs.YtmpilokgbblonaaGreat.hist
open Go.RowKit

/-- The first error, as a number. -/
def firstE : List EvV → List EvV → Int
  | _, [] => 0
  | t, v :: l => if errE t v = 0 then firstE (t ++ [bareE v]) l else errE t v
/-- What is reached behind the first k events, as long as each is right. -/
theorem first_take (l : List EvV) : ∀ (t : List EvV), firstE t l = 0 → ∀ k, k < l.length → ∀ v, l[k]? = some v → errE (t ++ (l.take k).map bareE) v = 0 := by
  induction l with
  | nil => intro t _ k hk; simp at hk
  | cons u l ih =>
    intro t h k hk v hv
    unfold firstE at h
    split at h
    · rename_i hu
      cases k with
      | zero =>
        obtain rfl : u = v := by simpa using hv
        simpa using hu
      | succ k =>
        have := ih (t ++ [bareE u]) h k (by simpa using hk) v (by simpa using hv)
        simpa using this
    · rename_i hu
      exact absurd h hu
/-- The state ahead of event k: no error so far. -/
def Right (l : List EvV) (k : Nat) : Prop := ∀ j v, j < k → l[j]? = some v → errE ((l.take j).map bareE) v = 0
theorem right_zero (l : List EvV) : Right l 0 := fun j v hj => absurd hj (by omega)
theorem right_next {l : List EvV} {k : Nat} {v : EvV} (h : Right l k) (hv : l[k]? = some v) (he : errE ((l.take k).map bareE) v = 0) : Right l (k + 1) := by
  intro j u hj hu
  by_cases hjk : j = k
  · subst hjk
    obtain rfl := Option.some.inj (hv.symm.trans hu)
    exact he
  · exact h j u (by omega) hu
theorem take_bare {l : List EvV} {k : Nat} (hk : k < l.length) : (l.take (k + 1)).map bareE = (l.take k).map bareE ++ [bareE l[k]] := by
  rw [List.take_succ_eq_append_getElem hk, List.map_append]
  rfl
theorem first_go (l : List EvV) : ∀ (n k : Nat), n = l.length - k → k ≤ l.length → Right l k → firstE [] l = firstE ((l.take k).map bareE) (l.drop k) := by
  intro n k
  induction k generalizing n with
  | zero => intro _ _ _; rfl
  | succ k ih =>
    intro hn hk hr
    have hk' : k < l.length := by omega
    rw [ih (l.length - k) rfl (by omega) (fun j v hj hv => hr j v (by omega) hv), List.drop_eq_getElem_cons hk', firstE, if_pos (hr k _ (by omega) (List.getElem?_eq_getElem hk')), take_bare hk']
/-- All right. -/
theorem first_all {l : List EvV} (h : Right l l.length) : firstE [] l = 0 := by
  rw [first_go l 0 l.length (by omega) (Nat.le_refl _) h, List.drop_length, firstE]
/-- The first one that is wrong. -/
theorem first_wrong {l : List EvV} {k : Nat} (hk : k < l.length) (h : Right l k) (he : errE ((l.take k).map bareE) l[k] ≠ 0) : firstE [] l = errE ((l.take k).map bareE) l[k] := by
  rw [first_go l (l.length - k) k rfl (by omega) h, List.drop_eq_getElem_cons hk, firstE, if_neg he]
theorem bare_map (l : List EvV) : BareE (l.map bareE) := by
  intro v hv
  obtain ⟨u, _, rfl⟩ := List.mem_map.1 hv
  exact bare_bare u
/-- What Of tells. -/
def Told (w : World) (l : List EvV) (e : Ending) (w' : World) : Prop :=
  (firstE [] l = 0 ∧ ∃ X f, e = .returned (.tuple #[.pointer (some ⟨X, 0, none⟩), .int .i64 0]) ∧ Hst w' X f (l.map bareE) ∧ ∀ b, f b → w.heap.size ≤ b) ∨ (firstE [] l ≠ 0 ∧ e = .returned (.tuple #[.pointer none, .int .i64 (firstE [] l)]))
def Of (w : World) (l : List EvV) (e : Ending) (w' : World) : Prop := Told w l e w' ∧ Below w.heap.size w w'
/-- A history being made of events, behind world W. -/
structure Made (W w : World) (X : Nat) (f : Nat → Prop) (L : List EvV) : Prop where
  hst : Hst w X f L
  foot : ∀ b, f b → W.heap.size ≤ b
  below : Below W.heap.size W w
theorem Made.next {W w w' : World} {X : Nat} {f : Nat → Prop} {L : List EvV} (h : Made W w X f L) (hb : Below w.heap.size w w') : Made W w' X f L := ⟨h.hst.below hb, h.foot, past h.below hb⟩
theorem Made.step {W w w' : World} {X : Nat} {f f' : Nat → Prop} {L L' : List EvV} (h : Made W w X f L) (hm : Hst w' X f' L') (hw : Went f f' w w') : Made W w' X f' L' := ⟨hm, hw.from h.below.size h.foot, hw.below h.below h.below.size h.foot⟩

set_option maxHeartbeats 2000000 in
/-- An event of the history's own kind. -/
theorem add_any (w : World) (X : Nat) (f : Nat → Prop) (l : List EvV) (h : Hst w X f l) (hl : l.length ≤ 1000) (v : EvV) :
    Calls Tryz.prog 45 #[.pointer (some ⟨X, 0, none⟩), evV v] w (Steps w X f l v) := by
  have HH := Lib.hid h
  have HL := Lib.hid hl
  clear h hl
  obtain ⟨T, E, K, Y, C, O, V⟩ := v
  unfold evV
  simp only
  cases E
  · have BA : Hid (Below w.heap.size w (w.alloc (.cells #[.int .i64 T, .bool false, .int .i64 K, .int .i64 Y, .int .i64 C, .bool O, .int .i64 V] 63))) := Lib.hid ((Below.refl _ _).alloc (Nat.le_refl _) _)
    go_enter Tryz.func45, Tryz.ntmps45
    go_wp2_with (go_at_call 21; go_loud (refine (begin_step _ X f l (HH.out.below BA.out) HL.out ⟨T, false, K, Y, C, O, V⟩ rfl).mono ?_; rintro e w1 ⟨f1, rfl, hm, hw⟩; have M1 := Lib.hid hm; have W1 := Lib.hid hw; clear hm hw))
    go_returns
    exact ⟨f1, rfl, M1.out, Went.ahead BA.out W1.out⟩
  · have BA : Hid (Below w.heap.size w (w.alloc (.cells #[.int .i64 T, .bool true, .int .i64 K, .int .i64 Y, .int .i64 C, .bool O, .int .i64 V] 63))) := Lib.hid ((Below.refl _ _).alloc (Nat.le_refl _) _)
    go_enter Tryz.func45, Tryz.ntmps45
    go_wp2_with (go_at_call 22; go_loud (refine (end_step _ X f l (HH.out.below BA.out) HL.out ⟨T, true, K, Y, C, O, V⟩ rfl).mono ?_; rintro e w1 ⟨f1, rfl, hm, hw⟩; have M1 := Lib.hid hm; have W1 := Lib.hid hw; clear hm hw))
    go_returns
    exact ⟨f1, rfl, M1.out, Went.ahead BA.out W1.out⟩

set_option maxRecDepth 100000 in
set_option maxHeartbeats 4000000 in
theorem of_any (w : World) (a : Option Addr) (l : List EvV) (N cap : Nat) (hN : l.length = N) (hl : N ≤ 60) (hx : At cells7 7 w a l) :
    Calls Tryz.prog 24 #[.slice a N cap] w (Of w l) := by
  have HX := Lib.hid hx
  have HN := Lib.hid hN
  have hl0 : (N : Int) ≤ 60 := by omega
  clear hx hN
  go_enter Tryz.func24, Tryz.ntmps24
  go_wp2_with (go_at_call 20; go_loud (refine (new_any _).mono ?_; rintro e w2 ⟨X, f, rfl, hm, hn, hb⟩; have P0 : Hid (Made w w2 X f []) := Lib.hid ⟨hm, hn, hb⟩; clear hm hn hb))
  go_loopw [11] (fun i wr => ∃ (k : Nat) (f' : Nat → Prop), k ≤ N ∧ i = .int .i64 (k : Int) ∧ Made w wr X f' ((l.take k).map bareE) ∧ Right l k) (fun i _ => N - (intOf i).toNat)
  case atStart => exact ⟨0, f, Nat.zero_le _, rfl, P0.out, right_zero l⟩
  case round =>
    clear P0
    obtain ⟨k, f1, hk, rfl, hp, hr⟩ := hrel
    have HP := Lib.hid hp
    have HR := Lib.hid hr
    clear hp hr
    by_cases hlt : k < N
    · have hkl : k < l.length := by rw [HN.out]; exact hlt
      have hki : (k : Int) < (N : Int) := by omega
      obtain ⟨b, rfl, p0, p1, p2, p3, p4, p5, p6⟩ := (HX.out.later HP.out.below).ev k hkl
      have hbl := World.block_lt_of_cell? wr _ p0
      have HT := Lib.hid (take_bare hkl)
      have HW := Lib.hid (first_wrong hkl HR.out)
      have HNX := Lib.hid (right_next HR.out (List.getElem?_eq_getElem hkl))
      have HL : Hid (((l.take k).map bareE).length ≤ 1000) := by show _ ≤ _; rw [List.length_map, List.length_take]; omega
      generalize (l.take k).map bareE = L at *
      generalize l[k] = u at *
      have BA : Hid (Below wr.heap.size wr (wr.alloc (.cells #[.int .i64 u.T, .bool u.E, .int .i64 u.K, .int .i64 u.Y, .int .i64 u.C, .bool u.O, .int .i64 u.V] 63))) := Lib.hid ((Below.refl _ _).alloc (Nat.le_refl _) _)
      obtain ⟨x, hxe⟩ : ∃ x, errE L u = x := ⟨_, rfl⟩
      have HE := Lib.hid hxe
      by_cases h0 : x = 0
      · subst h0
        have HS := Lib.hid (step_yes hxe)
        clear hxe
        go_wp2_with (go_at_call 45; go_loud (refine (add_any _ X f1 L (HP.out.next BA.out).hst HL.out u).mono ?_; rintro e w3 ⟨f2, rfl, hm, hw⟩; rw [HE.out]; have P3 := Lib.hid ((HP.out.next BA.out).step hm hw); clear hm hw))
        go_roundw
        case rel => exact ⟨k + 1, f2, by omega, by go_num, by rw [HT.out, ← HS.out]; exact P3.out, HNX.out HE.out⟩
        case measure => simp [intOf] <;> omega
      · have hx0 : (x == 0) = false := beq_eq_false_iff_ne.2 h0
        have HF : Hid (firstE [] l = x) := by show _ = _; rw [HW.out (by rw [hxe]; exact h0), hxe]
        have H0 := Lib.hid h0
        clear hxe h0
        go_wp2_with (go_at_call 45; go_loud (refine (add_any _ X f1 L (HP.out.next BA.out).hst HL.out u).mono ?_; rintro e w3 ⟨f2, rfl, hm, hw⟩; rw [HE.out]; have P3 := Lib.hid ((HP.out.next BA.out).step hm hw); clear hm hw))
        go_returns
        exact ⟨Or.inr ⟨by rw [HF.out]; exact H0.out, by rw [HF.out] <;> rfl⟩, P3.out.below⟩
    · obtain rfl : k = N := by omega
      have e : l.take k = l := by rw [← HN.out, List.take_length]
      rw [e] at HP
      have HF := Lib.hid (first_all (by rw [HN.out]; exact HR.out))
      go_wp2
      go_returns
      exact ⟨Or.inl ⟨HF.out, X, f1, rfl, HP.out.hst, HP.out.foot⟩, HP.out.below⟩
end Go.Proofs.YtmpilokgbblonaaGreat.hist
/- The document's example of orders. -/
namespace Go.Proofs.YtmpilokgbblonaaGreat.lin
open Go.RowKit
open hist (ClV EvV befB past new_block Went At cells7 cells9 len9 Blk9 Hst callsE of_any Told firstE bareE)
open spec (Rw Row)
def exA (v : Int) : List EvV := [⟨0, false, 4, 1, 0, false, 0⟩, ⟨1, false, 5, 0, 0, false, 0⟩, ⟨1, true, 0, 0, 0, true, v⟩]
def exL (v : Int) : List ClV := [⟨0, 0, -1, 4, 1, 0, false, 0⟩, ⟨1, 1, 2, 5, 0, 0, true, v⟩]
theorem ex_one : callsE ((exA 1).map bareE) = exL 1 := rfl
theorem ex_two : callsE ((exA 2).map bareE) = exL 2 := rfl
theorem ex_found1 {res : Option (List Nat)} (h : Found (sysOf 3 (exL 1)) [] res) : res = some [0, 1] := by
  rw [found_one h (least_found 2 [] ok_nil (by decide))]
  rfl
theorem ex_found2 {res : Option (List Nat)} (h : Found (sysOf 3 (exL 2)) [] res) : res = none := by
  rw [found_one h (least_found 2 [] ok_nil (by decide))]
  rfl
theorem ex_spans (v : Int) : Spans (exL v) := fun c hc => by
  unfold exL at hc
  simp at hc
  rcases hc with rfl | rfl <;> simp
theorem ex_order (w : World) (X : Nat) (f : Nat → Prop) (v : Int) (hv : v = 1 ∨ v = 2) (h : Hst w X f ((exA v).map bareE)) : Calls Tryz.prog 10 #[.int .i64 3, .pointer (some ⟨X, 0, none⟩)] w (OrdQ 3 (exL v) w) := by
  have hc : callsE ((exA v).map bareE) = exL v := by rcases hv with rfl | rfl <;> rfl
  have := order_any w X f _ h (by simp [exA]) (by rw [hc]; exact Nat.le_trans (Nat.le_of_eq (show (exL v).length = 2 from rfl)) (by decide)) 3 (by decide) (by rw [hc]; exact ex_spans v) (fun _ _ w1 w' t hns hsh => by
    rw [hc] at hns ⊢
    exact hopes_of_queue hns hsh (ex_spans v) 2 (fun g _ => cnt_len _ _) (fun g _ => cnt_len _ _) (small_budget 2 (by decide)).1)
  rw [hc] at this
  exact this
/-- The example's events as they came in. -/
abbrev exCells (v : Int) : Array Value := #[.int .i64 0, .bool false, .int .i64 4, .int .i64 1, .int .i64 0, .bool false, .int .i64 0, .int .i64 1, .bool false, .int .i64 5, .int .i64 0, .int .i64 0, .bool false, .int .i64 0, .int .i64 1, .bool true, .int .i64 0, .int .i64 0, .int .i64 0, .bool true, .int .i64 v]
theorem ex_at (w : World) (v : Int) : At cells7 7 (w.alloc (.cells (exCells v) 63)) (some ⟨w.heap.size, 0, none⟩) (exA v) := by
  have hb := new_block w (exCells v) 63
  intro i hi
  refine ⟨_, rfl, fun j u hu => ?_⟩
  rw [← hist.add_spelled, Addr.add_lit, Joins.cell_of_block hb]
  have hj : j < 7 := by have := (List.getElem?_eq_some_iff.1 hu).1; exact this
  have h3 : i < 3 := hi
  rw [← hu]
  match i, h3, j, hj with
  | 0, _, 0, _ => rfl
  | 0, _, 1, _ => rfl
  | 0, _, 2, _ => rfl
  | 0, _, 3, _ => rfl
  | 0, _, 4, _ => rfl
  | 0, _, 5, _ => rfl
  | 0, _, 6, _ => rfl
  | 1, _, 0, _ => rfl
  | 1, _, 1, _ => rfl
  | 1, _, 2, _ => rfl
  | 1, _, 3, _ => rfl
  | 1, _, 4, _ => rfl
  | 1, _, 5, _ => rfl
  | 1, _, 6, _ => rfl
  | 2, _, 0, _ => rfl
  | 2, _, 1, _ => rfl
  | 2, _, 2, _ => rfl
  | 2, _, 3, _ => rfl
  | 2, _, 4, _ => rfl
  | 2, _, 5, _ => rfl
  | 2, _, 6, _ => rfl
theorem ex_of (w : World) (v : Int) (hv : v = 1 ∨ v = 2) (a : Option Addr) (c : Nat) (h : At cells7 7 w a (exA v)) :
    Calls Tryz.prog 24 #[.slice a 3 c] w fun e w' => ∃ X f, e = .returned (.tuple #[.pointer (some ⟨X, 0, none⟩), .int .i64 0]) ∧ Hst w' X f ((exA v).map bareE) ∧ Below w.heap.size w w' := by
  have h0 : firstE [] (exA v) = 0 := by rcases hv with rfl | rfl <;> decide
  refine (of_any w a (exA v) 3 c rfl (by decide) h).mono ?_
  rintro e w' ⟨⟨_, X, f, h1, h2, _⟩ | ⟨h1, _⟩, hb⟩
  · exact ⟨X, f, h1, h2, hb⟩
  · exact absurd h0 h1
theorem two_row (w : World) : Rw (w.alloc (.cells #[.int .i64 0, .int .i64 1] 3)) w.heap.size (some ⟨w.heap.size, 0, none⟩) 2 [0, 1] := by
  refine Or.inr ⟨0, rfl, by simp, by decide, _, heap_alloc_new w _, by simp, fun j hj => ?_⟩
  match j, hj with
  | 0, _ => rfl
  | 1, _ => rfl
set_option maxRecDepth 100000 in
set_option maxHeartbeats 4000000 in
theorem awake_any (w : World) : Calls Tryz.prog 7 #[] w fun e w' => e = .returned (.bool true) ∧ Below w.heap.size w w' := by
  have HEX := Lib.hid ex_at
  go_enter Tryz.func7, Tryz.ntmps7
  go_wp2_with (first
    | (go_at_call 11; have _t := B5.out; go_loud (refine (linear_any _ X1 3 (exL 1) (ex_order _ X1 f1 1 (Or.inl rfl) (H3.out.below I5.out))).mono ?_; rintro e w6 ⟨res, rfl, hf, hb⟩; rw [ex_found1 hf]; have B6 := Lib.hid (past B5.out hb); clear hf hb))
    | (go_at_call 11; have _t := I4.out; go_loud (refine (linear_any _ X3 3 (exL 2) (ex_order _ X3 f3 2 (Or.inr rfl) (K3.out.below I4.out))).mono ?_; rintro e w5 ⟨res, rfl, hf, hb⟩; rw [ex_found2 hf]; have I5 := Lib.hid (past I4.out hb); have B5 := Lib.hid (past B4.out hb); clear hf hb))
    | (go_at_call 13; have _t := K3.out; go_loud (refine (spec.ints_any _ G2 c2 _ 2 A2 _ [0, 1] [0, 1] (R3.out.below ((Below.refl _ _).alloc (Nat.le_refl _) _)) (two_row _) (by decide) (by decide)).mono ?_; rw [decide_eq_true rfl]; rintro e w4 ⟨rfl, hw⟩; have I4 := Lib.hid (past ((Below.refl w3.heap.size w3).alloc (Nat.le_refl _) _) (spec.drewN_below hw)); have B4 := Lib.hid (past B3.out I4.out); clear hw))
    | (go_at_call 24; have _t := R2.out; go_loud (refine (ex_of _ 2 (Or.inr rfl) _ _ (HEX.out _ 2)).mono ?_; rintro e w3 ⟨X3, f3, rfl, hh, hb⟩; have K3 := Lib.hid hh; have H3 := Lib.hid (H2.out.below (past ((Below.refl _ _).alloc (Nat.le_refl _) _) hb)); have R3 := Lib.hid (R2.out.below (past ((Below.refl _ _).alloc (Nat.le_refl _) _) hb)); have B3 := Lib.hid (past B2.out (past ((Below.refl _ _).alloc (Nat.le_refl _) _) hb)); clear hh hb))
    | (go_at_call 10; have _t := H1.out; go_loud (refine (ex_order _ X1 f1 1 (Or.inl rfl) H1.out).mono ?_; rintro e w2 ⟨res, A2, c2, G2, rfl, hr, hf, hb⟩; have hres := ex_found1 hf; subst hres; have R2 : Hid (Rw w2 G2 A2 c2 [0, 1]) := Lib.hid hr; have H2 := Lib.hid (H1.out.below hb); have B2 := Lib.hid (past B1.out hb); clear hr hf hb))
    | (go_at_call 24; go_loud (refine (ex_of _ 1 (Or.inl rfl) _ _ (HEX.out _ 1)).mono ?_; rintro e w1 ⟨X1, f1, rfl, hh, hb⟩; have H1 := Lib.hid hh; have B1 := Lib.hid (past ((Below.refl w.heap.size w).alloc (Nat.le_refl _) _) hb); clear hh hb)))
  go_returns
  exact ⟨rfl, B6.out⟩
end Go.Proofs.YtmpilokgbblonaaGreat.lin
/- A row of groups that is put in order: whatever is swapped, it has the same groups. -/
namespace Go.Proofs.YtmpilokgbblonaaGreat.lin
open Go.RowKit
open hist (past new_block Went)

/-- A row of groups in block B, n of them. -/
structure GRow (w : World) (B n : Nat) (xs : List Nat) : Prop where
  len : xs.length = n
  big : n ≤ 1000000000
  small : ∀ x ∈ xs, x < 4294967296
  blk : ∃ cur, w.heap[B]? = some (.cells cur 79 (0, 0)) ∧ ∀ j, j < n → cur[j]? = some (.int .u32 (xs.getD j 0 : Nat))
section
variable {w w' : World} {B n : Nat} {xs : List Nat}
theorem GRow.lt (h : GRow w B n xs) : B < w.heap.size := by
  obtain ⟨cur, hb, _⟩ := h.blk
  exact (Array.getElem?_eq_some_iff.1 hb).1
theorem GRow.moved (h : GRow w B n xs) (hb : w'.heap[B]? = w.heap[B]?) : GRow w' B n xs := ⟨h.len, h.big, h.small, by rw [hb]; exact h.blk⟩
theorem GRow.below (h : GRow w B n xs) (hb : Below w.heap.size w w') : GRow w' B n xs := h.moved (hb.block B h.lt)
theorem GRow.cell (h : GRow w B n xs) {j : Nat} (hj : j < n) : w.cell? ⟨B, j, none⟩ = some (.int .u32 (xs.getD j 0 : Nat)) := by
  obtain ⟨cur, hb, hc⟩ := h.blk
  rw [Joins.cell_of_block hb]
  exact hc j hj
theorem GRow.free (h : GRow w B n xs) (i : Nat) : w.frozen? ⟨B, i, none⟩ = false := by
  obtain ⟨cur, hb, _⟩ := h.blk
  exact Joins.unfrozen_of_block hb i
theorem GRow.at_lt (h : GRow w B n xs) (j : Nat) : xs.getD j 0 < 4294967296 := by
  rw [List.getD_eq_getElem?_getD]
  cases hj : xs[j]? with
  | none => simp
  | some x => exact h.small x (List.mem_of_getElem? hj)
/-- Two of them change places. -/
def swapL (xs : List Nat) (i j : Nat) : List Nat := (xs.set i (xs.getD j 0)).set j (xs.getD i 0)
theorem swap_perm {xs : List Nat} {i j : Nat} (hi : i < xs.length) (hj : j < xs.length) : (swapL xs i j).Perm xs := by
  have h := Array.swap_perm (xs := xs.toArray) (i := i) (j := j) (by simpa using hi) (by simpa using hj)
  have e : (xs.toArray.swap i j (by simpa using hi) (by simpa using hj)).toList = swapL xs i j := by
    unfold swapL
    rw [List.getD_eq_getElem?_getD, List.getD_eq_getElem?_getD, List.getElem?_eq_getElem hi, List.getElem?_eq_getElem hj]
    simp [Array.swap]
  have h2 := Array.perm_iff_toList_perm.1 h
  rw [e] at h2
  simpa using h2
theorem GRow.swap (h : GRow w B n xs) {i j : Nat} (hi : i < n) (hj : j < n) :
    GRow ((w.setCell ⟨B, i, none⟩ (.int .u32 (xs.getD j 0 : Nat))).setCell ⟨B, j, none⟩ (.int .u32 (xs.getD i 0 : Nat))) B n (swapL xs i j) := by
  have hl := h.len
  have hp := swap_perm (xs := xs) (i := i) (j := j) (by omega) (by omega)
  obtain ⟨cur, hb, hc⟩ := h.blk
  refine ⟨by rw [hp.length_eq]; exact hl, h.big, fun x hx => h.small x (hp.mem_iff.1 hx), ⟨_, Joins.block_setCell (i := j) (Joins.block_setCell (i := i) hb _) _, fun m hm => ?_⟩⟩
  have hs : ∀ k, k < n → k < cur.size := fun k hk => (Array.getElem?_eq_some_iff.1 (hc k hk)).1
  unfold swapL
  generalize xs.getD j 0 = q
  generalize xs.getD i 0 = p
  rw [Array.getElem?_setIfInBounds, List.getD_eq_getElem?_getD, List.getElem?_set]
  by_cases h1 : j = m
  · subst h1
    rw [if_pos rfl, if_pos (by simpa using hs j hj), if_pos rfl, if_pos (by simp; omega)]
    rfl
  · rw [if_neg h1, if_neg h1, Array.getElem?_setIfInBounds, List.getElem?_set]
    by_cases h2 : i = m
    · subst h2
      rw [if_pos rfl, if_pos (hs i hi), if_pos rfl, if_pos (by omega)]
      rfl
    · rw [if_neg h2, if_neg h2, hc m hm, List.getD_eq_getElem?_getD]
end
/-- Behind two stores. -/
theorem swap_went {f : Nat → Prop} {W w : World} {B : Nat} (h : Went f f W w) (hB : f B) (i j : Nat) (u v : Value) : Went f f W ((w.setCell ⟨B, i, none⟩ u).setCell ⟨B, j, none⟩ v).drew :=
  ((h.trans (Went.setCell w ⟨B, i, none⟩ u hB)).trans (Went.setCell _ ⟨B, j, none⟩ v hB)).next ((Below.refl _ _).drew)
theorem GRow.drew {w : World} {B n : Nat} {xs : List Nat} (h : GRow w B n xs) : GRow w.drew B n xs := h.moved rfl
/-- What a function that puts in order leaves: the same groups. -/
def Sorts (w : World) (B n : Nat) (xs : List Nat) (w' : World) : Prop := ∃ ys, ys.Perm xs ∧ GRow w' B n ys ∧ Went (fun b => b = B) (fun b => b = B) w w'
theorem less_any (w : World) (x y : Nat) :
    Calls Tryz.prog 111 #[.int .u32 (x : Int), .int .u32 (y : Int)] w fun e w' => e = .returned (.bool (decide (x < y))) ∧ Below w.heap.size w w' := by
  go_enter Tryz.func111, Tryz.ntmps111
  go_wp2_with (go_at_call 121; go_in)
  go_returns
  refine ⟨?_, by first | exact Below.refl _ _ | go_grown⟩
  simp
/-- Ahead of a look at two groups. -/
structure Gq (W w : World) (B n : Nat) (xs : List Nat) : Prop where
  below : Below W.heap.size W w
  row : GRow w B n xs
theorem Gq.next {W w w' : World} {B n : Nat} {xs : List Nat} (h : Gq W w B n xs) (hb : Below w.heap.size w w') : Gq W w' B n xs := ⟨past h.below hb, h.row.below hb⟩
theorem Gq.two {W w : World} {B n i j : Nat} {xs : List Nat} (h : Gq W w B n xs) (hi : i < n) (hj : j < n) : w.cell? ⟨B, i, none⟩ = some (.int .u32 (xs.getD i 0 : Nat)) ∧ w.cell? ⟨B, j, none⟩ = some (.int .u32 (xs.getD j 0 : Nat)) := ⟨h.row.cell hi, h.row.cell hj⟩
end Go.Proofs.YtmpilokgbblonaaGreat.lin
/- Sets of groups in maps; rows of groups with room; what is known of pairs. -/
namespace Go.Proofs.YtmpilokgbblonaaGreat.lin
open Go.RowKit Go.Maps
open hist (past new_block Went)

theorem group_keyed : Keyed Tryz.prog 79 := int_keyed Tryz.underlying79
theorem group_wf {x : Nat} (h : x < 4294967296) : (Lit.int .u32 (x : Int)).wf = true := WalkArith.wf_u32 (by omega)
theorem group_key {x : Nat} (h : x < 4294967296) : keyOf Tryz.prog 79 (.int .u32 (x : Int)) = some (.int .u32 (x : Int)) := keyOf_int_mk Tryz.underlying79 (group_wf h)
theorem group_inv {key : Value} {kl : Lit} (h : keyOf Tryz.prog 79 key = some kl) : ∃ x : Nat, x < 4294967296 ∧ key = .int .u32 (x : Int) ∧ kl = .int .u32 (x : Int) := by
  obtain ⟨x, h1, h2, hw⟩ := Maps.keyOf_int_inv Tryz.underlying79 h
  have hx : 0 ≤ x ∧ x < 4294967296 := by
    simp [Lit.wf, IntKind.min, IntKind.max, IntKind.bits, IntKind.signed] at hw
    omega
  obtain ⟨n, rfl⟩ : ∃ n : Nat, x = n := ⟨x.toNat, by omega⟩
  exact ⟨n, by omega, h1, h2⟩
/-- A key's number. -/
def natOf : Lit → Nat
  | .int _ a => a.toNat
  | _ => 0
section
variable {H : Type} {R : Value → Option (DataW H × List MemPlace)} {w w' : World} {B n : Nat} {T : DataW H} {F : List Nat}
theorem owns_exact (h : w.ownsMap Tryz.prog 79 R B n T) : w.ownsMap Tryz.prog 79 R B (Maps.size T) T := by
  obtain ⟨es, clock, hb, hF, hs, rfl⟩ := h
  exact ⟨es, clock, hb, hF, by simp [Maps.size, length_sorted], rfl⟩
theorem keys_size (h : w.ownsMap Tryz.prog 79 R B n T) (hh : ∀ x : Nat, x < 4294967296 → (Maps.has T (.int .u32 (x : Int)) = true ↔ x ∈ F)) (hn : F.Nodup) (hs : ∀ x ∈ F, x < 4294967296) : Maps.size T = F.length := by
  obtain ⟨es, rfl, hp, _⟩ := h.entries group_keyed
  obtain ⟨es', e, hk⟩ := h.keysOf
  obtain rfl : es = es' := by cases e; rfl
  have hk2 : ∀ p ∈ es, ∃ x : Nat, x < 4294967296 ∧ p.1 = .int .u32 (x : Int) := fun p hp => by
    obtain ⟨v, hv⟩ := hk p hp
    obtain ⟨x, h1, _, h2⟩ := group_inv hv
    exact ⟨x, h1, h2⟩
  have e : (es.map fun p => natOf p.1).Perm F := by
    refine (List.perm_ext_iff_of_nodup ?_ hn).2 fun x => ?_
    · refine List.pairwise_map.2 (hp.imp_of_mem fun {p q} hp' hq' hne e => hne ?_)
      obtain ⟨a, _, ha⟩ := hk2 p hp'
      obtain ⟨b, _, hb⟩ := hk2 q hq'
      rw [ha, hb] at e ⊢
      simp only [natOf, Int.toNat_natCast] at e
      rw [e]
    · rw [List.mem_map]
      constructor
      · rintro ⟨p, hp', rfl⟩
        obtain ⟨a, ha1, ha⟩ := hk2 p hp'
        rw [ha]
        simp only [natOf, Int.toNat_natCast]
        refine (hh a ha1).1 ?_
        rw [Maps.has_eq, List.any_eq_true]
        exact ⟨p, hp', by rw [ha]; simp [Lit.sameKey]⟩
      · intro hx
        have h1 := (hh x (hs x hx)).2 hx
        rw [Maps.has_eq, List.any_eq_true] at h1
        obtain ⟨p, hp', h2⟩ := h1
        obtain ⟨a, ha1, ha⟩ := hk2 p hp'
        refine ⟨p, hp', ?_⟩
        rw [ha] at h2 ⊢
        simp [Lit.sameKey] at h2
        simp only [natOf, Int.toNat_natCast]
        omega
  rw [Maps.size_eq, ← e.length_eq, List.length_map]
end

/-- A set of groups. -/
structure SetM (w : World) (B : Nat) (T : DataW Unit) (F : List Nat) : Prop where
  own : w.ownsMap Tryz.prog 79 (unitElem (H := Unit)) B F.length T
  isMap : IsMap T
  has : ∀ x : Nat, x < 4294967296 → (Maps.has T (.int .u32 (x : Int)) = true ↔ x ∈ F)
  nodup : F.Nodup
  small : ∀ x ∈ F, x < 4294967296
/-- One more, if it isn't among them. -/
def more (F : List Nat) (x : Nat) : List Nat := if x ∈ F then F else F ++ [x]
theorem mem_more {F : List Nat} {x y : Nat} : y ∈ more F x ↔ y ∈ F ∨ y = x := by
  unfold more
  split
  · exact ⟨Or.inl, fun h => h.elim id (fun e => by rw [e]; assumption)⟩
  · simp
theorem more_nodup {F : List Nat} {x : Nat} (h : F.Nodup) : (more F x).Nodup := by
  unfold more
  split
  · exact h
  · rename_i hx
    exact List.nodup_append.2 ⟨h, by simp, fun a ha b hb => by simp at hb; subst hb; exact fun e => hx (e ▸ ha)⟩
section
variable {w w' : World} {B : Nat} {T : DataW Unit} {F : List Nat}
theorem SetM.lt (h : SetM w B T F) : B < w.heap.size := h.own.lt
theorem SetM.moved (h : SetM w B T F) (hb : w'.heap[B]? = w.heap[B]?) : SetM w' B T F := by
  obtain ⟨⟨es, clock, h1, h2⟩, h3, h4, h5, h6⟩ := h
  exact ⟨⟨es, clock, by rw [hb]; exact h1, h2⟩, h3, h4, h5, h6⟩
theorem SetM.below (h : SetM w B T F) (hb : Below w.heap.size w w') : SetM w' B T F := h.moved (hb.block B h.lt)
theorem set_made (w : World) : SetM (w.alloc (.map #[] 0)) w.heap.size (.map []) [] :=
  ⟨World.ownsMap_made _ _ _ _, isMap_empty, fun x _ => by simp [Maps.has], List.nodup_nil, fun x h => by simp at h⟩
theorem SetM.look (h : SetM w B T F) {x : Nat} (hx : x < 4294967296) (wx : World) (hw : wx.heap[B]? = w.heap[B]?) :
    (Instr.lookup 150 (.map (some B)) (.int .u32 (x : Int)) true).run Tryz.prog wx = .ok (.tuple #[.agg #[], .bool (decide (x ∈ F))]) wx := by
  obtain ⟨v, ps, hrun, hv⟩ := (h.moved hw).own.look_ok group_keyed Tryz.underlying150 (Tryzzero_unit wx) (unitElem_mk (H := Unit)) (group_key hx)
  obtain ⟨rfl, _⟩ := unitElem_inv hv
  have e : Maps.has T (.int .u32 (x : Int)) = decide (x ∈ F) := by
    cases hh : Maps.has T (.int .u32 (x : Int))
    · exact (decide_eq_false fun e => by rw [(h.has x hx).2 e] at hh; exact absurd hh (by decide)).symm
    · exact (decide_eq_true ((h.has x hx).1 hh)).symm
  rw [e] at hrun
  exact hrun
theorem SetM.len_le (h : SetM w B T F) : F.length ≤ 4294967296 := nodup_le _ F h.nodup h.small
theorem SetM.put (h : SetM w B T F) {x : Nat} (hx : x < 4294967296) :
    ∃ w' T', (Instr.mapUpdate 150 (.map (some B)) (.int .u32 (x : Int)) (.agg #[])).run Tryz.prog w = .ok () w' ∧ SetM w' B T' (more F x) ∧ w.grownBy w' (some B) := by
  obtain ⟨w', hrun, ho, hgr⟩ := h.own.update group_keyed Tryz.underlying150 (by have := h.len_le; unfold maxLen; omega) (group_key hx) (unitElem_mk (H := Unit))
  have hh : ∀ y : Nat, y < 4294967296 → (Maps.has (T.put (.int .u32 (x : Int)) (.agg [])) (.int .u32 (y : Int)) = true ↔ y ∈ more F x) := fun y hy => by
    rw [mem_more]
    by_cases e : y = x
    · subst e
      rw [has_put_same h.isMap (group_keyed.key (group_key hx))]
      simp
    · rw [has_put_other (fun e2 => e (by have := (Lit.int.inj e2).2; omega)), h.has y hy]
      simp [e]
  have hs : ∀ y ∈ more F x, y < 4294967296 := fun y hy => (mem_more.1 hy).elim (h.small y) (fun e => by rw [e]; exact hx)
  refine ⟨w', _, hrun, ⟨?_, h.isMap.put _ _, hh, more_nodup h.nodup, hs⟩, hgr⟩
  rw [← keys_size ho hh (more_nodup h.nodup) hs]
  exact owns_exact ho
/-- How many entries the map in a block has. -/
def mapLen (w : World) (B : Nat) : Nat := match w.heap[B]? with | some (.map es _) => es.size | _ => 0
theorem SetM.len (h : SetM w B T F) : mapLen w B = F.length := by
  have h1 := keys_size h.own h.has h.nodup h.small
  obtain ⟨es, clock, hb, hF, hs, rfl⟩ := h.own
  unfold mapLen
  rw [hb]
  show es.size = F.length
  rw [← h1]
  simp [Maps.size, length_sorted]
end
end Go.Proofs.YtmpilokgbblonaaGreat.lin
