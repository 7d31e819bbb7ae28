/- Any beginning, any end: what it tells, what it does. -/
import Derived.Test.YtmpilokgbblonaaGreatKa33
import Derived.Test.YtmpilokgbblonaaGreatKa05
import Derived.Test.YtmpilokgbblonaaGreatKa09
import Derived.Test.YtmpilokgbblonaaGreatKa32
import Derived.Test.YtmpilokgbblonaaGreatKa26
namespace Go.Proofs.YtmpilokgbblonaaGreat.hist
open Go.RowKit

theorem err_out {l : List EvV} {v : EvV} (h : ¬ (0 ≤ v.T ∧ v.T ≤ 7)) : errE l v = 2 := by
  unfold errE
  rw [if_pos (by omega)]
theorem err_begin {l : List EvV} {v : EvV} (h : 0 ≤ v.T ∧ v.T ≤ 7) (hE : v.E = false) (hp : pendE l v.T = true) : errE l v = 1 := by
  unfold errE
  rw [if_neg (by omega), if_pos (by rw [hE, hp]; rfl)]
theorem err_end {l : List EvV} {v : EvV} (h : 0 ≤ v.T ∧ v.T ≤ 7) (hE : v.E = true) (hp : pendE l v.T = false) : errE l v = 5 := by
  unfold errE
  rw [if_neg (by omega), if_neg (by rw [hE, hp]; decide), if_pos (by rw [hE, hp]; rfl)]
theorem err_ok {l : List EvV} {v : EvV} (h : 0 ≤ v.T ∧ v.T ≤ 7) (hp : pendE l v.T = v.E) : errE l v = 0 := by
  unfold errE
  rw [if_neg (by omega), hp]
  cases v.E <;> rfl
theorem step_no {l : List EvV} {v : EvV} (h : errE l v ≠ 0) : stepE l v = l := if_neg h
theorem step_yes {l : List EvV} {v : EvV} (h : errE l v = 0) : stepE l v = l ++ [bareE v] := if_pos h
/-- What an event does. -/
def Steps (w : World) (X : Nat) (f : Nat → Prop) (l : List EvV) (v : EvV) (e : Ending) (w' : World) : Prop := ∃ f', e = .returned (.int .i64 (errE l v)) ∧ Hst w' X f' (stepE l v) ∧ Went f f' w w'
section
variable (w : World) (X : Nat) (f : Nat → Prop) (l : List EvV) (h : Hst w X f l) (hl : l.length ≤ 1000) (v : EvV)
include h hl
set_option maxHeartbeats 1000000 in
theorem begin_step (hE : v.E = false) :
    Calls Tryz.prog 21 #[.pointer (some ⟨X, 0, none⟩), .int .i64 v.T, .agg #[.int .i64 v.K, .int .i64 v.Y]] w (Steps w X f l v) := by
  by_cases ht : 0 ≤ v.T ∧ v.T ≤ 7
  · cases hp : pendE l v.T
    · have he := err_ok (l := l) ht (by rw [hp, hE])
      have hb : bareE v = ⟨v.T, false, v.K, v.Y, 0, false, 0⟩ := by unfold bareE; rw [hE]; rfl
      refine (begin_any w X f l h hl v.T v.K v.Y (by rw [← hb, err_bare]; exact he)).mono fun e w' ⟨f', h1, h2, h3⟩ => ⟨f', by rw [he]; exact h1, by rw [step_yes he, hb]; exact h2, h3⟩
    · have he := err_begin ht hE hp
      unfold Steps
      rw [step_no (by rw [he]; decide), he]
      obtain ⟨vv, o, hh, hr⟩ := h
      have HH := Lib.hid hh
      have HF : Hid (Hst w X f l) := Lib.hid ⟨vv, o, hh, hr⟩
      have HP := Lib.hid hp
      have h0 : 0 ≤ v.T := ht.1
      have h7 : v.T < 8 := by omega
      have HT := Lib.hid ht
      clear hh hr hp he hE ht
      generalize v.T = t at *
      have d1 : decide (0 ≤ t) = true := decide_eq_true h0
      have d2 : decide (t < 8) = true := decide_eq_true h7
      go_enter Tryz.func21, Tryz.ntmps21
      go_wp2_with (first
        | (go_at_call 43; go_loud (refine (pending_any _ X vv o l (HH.out.below ((Below.refl _ _).alloc (Nat.le_refl _) _)) t).mono ?_; rintro e w1 ⟨rfl, hw⟩; subst hw; rw [decide_eq_true HT.out, HP.out]))
        | (go_at_call 42; go_in))
      go_returns
      have hb : Below w.heap.size w (w.alloc (.cells #[.int .i64 v.K, .int .i64 v.Y] 47)) := (Below.refl _ _).alloc (Nat.le_refl _) _
      first | exact ⟨f, rfl, HF.out.below hb, Went.ofBelow hb⟩ | exact ⟨rfl, f, HF.out.below hb, Went.ofBelow hb⟩
  · have he := err_out (l := l) ht
    unfold Steps
    rw [step_no (by rw [he]; decide), he]
    have HF := Lib.hid h
    clear h he hE
    generalize v.T = t at *
    by_cases h0 : 0 ≤ t
    · have h7 : 8 ≤ t := by omega
      have d1 : decide (0 ≤ t) = true := decide_eq_true h0
      have d2 : decide (t < 8) = false := decide_eq_false (by omega)
      clear ht
      go_enter Tryz.func21, Tryz.ntmps21
      go_wp2
      go_returns
      have hb : Below w.heap.size w (w.alloc (.cells #[.int .i64 v.K, .int .i64 v.Y] 47)) := (Below.refl _ _).alloc (Nat.le_refl _) _
      first | exact ⟨f, rfl, HF.out.below hb, Went.ofBelow hb⟩ | exact ⟨rfl, f, HF.out.below hb, Went.ofBelow hb⟩
    · have d1 : decide (0 ≤ t) = false := decide_eq_false h0
      clear ht
      go_enter Tryz.func21, Tryz.ntmps21
      go_wp2
      go_returns
      have hb : Below w.heap.size w (w.alloc (.cells #[.int .i64 v.K, .int .i64 v.Y] 47)) := (Below.refl _ _).alloc (Nat.le_refl _) _
      first | exact ⟨f, rfl, HF.out.below hb, Went.ofBelow hb⟩ | exact ⟨rfl, f, HF.out.below hb, Went.ofBelow hb⟩
set_option maxHeartbeats 1000000 in
theorem end_step (hE : v.E = true) :
    Calls Tryz.prog 22 #[.pointer (some ⟨X, 0, none⟩), .int .i64 v.T, .agg #[.int .i64 v.C, .bool v.O, .int .i64 v.V]] w (Steps w X f l v) := by
  by_cases ht : 0 ≤ v.T ∧ v.T ≤ 7
  · cases hp : pendE l v.T
    · have he := err_end ht hE hp
      unfold Steps
      rw [step_no (by rw [he]; decide), he]
      obtain ⟨vv, o, hh, hr⟩ := h
      have HH := Lib.hid hh
      have HF : Hid (Hst w X f l) := Lib.hid ⟨vv, o, hh, hr⟩
      have HP := Lib.hid hp
      have h0 : 0 ≤ v.T := ht.1
      have h7 : v.T < 8 := by omega
      have HT := Lib.hid ht
      clear hh hr hp he hE ht
      generalize v.T = t at *
      have d1 : decide (0 ≤ t) = true := decide_eq_true h0
      have d2 : decide (t < 8) = true := decide_eq_true h7
      go_enter Tryz.func22, Tryz.ntmps22
      go_wp2_with (first
        | (go_at_call 43; go_loud (refine (pending_any _ X vv o l (HH.out.below ((Below.refl _ _).alloc (Nat.le_refl _) _)) t).mono ?_; rintro e w1 ⟨rfl, hw⟩; subst hw; rw [decide_eq_true HT.out, HP.out]))
        | (go_at_call 42; go_in))
      go_returns
      have hb : Below w.heap.size w (w.alloc (.cells #[.int .i64 v.C, .bool v.O, .int .i64 v.V] 55)) := (Below.refl _ _).alloc (Nat.le_refl _) _
      first | exact ⟨f, rfl, HF.out.below hb, Went.ofBelow hb⟩ | exact ⟨rfl, f, HF.out.below hb, Went.ofBelow hb⟩
    · have he := err_ok (l := l) ht (by rw [hp, hE])
      have hb : bareE v = ⟨v.T, true, 0, 0, v.C, v.O, v.V⟩ := by unfold bareE; rw [hE]; rfl
      refine (end_any w X f l h hl v.T v.C v.V v.O (by rw [← hb, err_bare]; exact he)).mono fun e w' ⟨f', h1, h2, h3⟩ => ⟨f', by rw [he]; exact h1, by rw [step_yes he, hb]; exact h2, h3⟩
  · have he := err_out (l := l) ht
    unfold Steps
    rw [step_no (by rw [he]; decide), he]
    have HF := Lib.hid h
    clear h he hE
    generalize v.T = t at *
    by_cases h0 : 0 ≤ t
    · have h7 : 8 ≤ t := by omega
      have d1 : decide (0 ≤ t) = true := decide_eq_true h0
      have d2 : decide (t < 8) = false := decide_eq_false (by omega)
      clear ht
      go_enter Tryz.func22, Tryz.ntmps22
      go_wp2
      go_returns
      have hb : Below w.heap.size w (w.alloc (.cells #[.int .i64 v.C, .bool v.O, .int .i64 v.V] 55)) := (Below.refl _ _).alloc (Nat.le_refl _) _
      first | exact ⟨f, rfl, HF.out.below hb, Went.ofBelow hb⟩ | exact ⟨rfl, f, HF.out.below hb, Went.ofBelow hb⟩
    · have d1 : decide (0 ≤ t) = false := decide_eq_false h0
      clear ht
      go_enter Tryz.func22, Tryz.ntmps22
      go_wp2
      go_returns
      have hb : Below w.heap.size w (w.alloc (.cells #[.int .i64 v.C, .bool v.O, .int .i64 v.V] 55)) := (Below.refl _ _).alloc (Nat.le_refl _) _
      first | exact ⟨f, rfl, HF.out.below hb, Went.ofBelow hb⟩ | exact ⟨rfl, f, HF.out.below hb, Went.ofBelow hb⟩
end
end Go.Proofs.YtmpilokgbblonaaGreat.hist
/- The document's example is told as the document has it. -/
namespace Go.Proofs.YtmpilokgbblonaaGreat.hist
open Go.RowKit

/-- The example's events. -/
def ex1 : List EvV := [⟨0, false, 1, 0, 0, false, 0⟩]
def ex2 : List EvV := [⟨0, false, 1, 0, 0, false, 0⟩, ⟨1, false, 2, 0, 0, false, 0⟩]
def ex3 : List EvV := [⟨0, false, 1, 0, 0, false, 0⟩, ⟨1, false, 2, 0, 0, false, 0⟩, ⟨0, true, 0, 0, 0, true, 0⟩]
theorem ex_calls : callsE ex3 = [⟨0, 0, 2, 1, 0, 0, true, 0⟩, ⟨1, 1, -1, 2, 0, 0, false, 0⟩] := rfl
theorem ex_row {W w : World} {v : Value} (h : Grow cells9 9 85 W w v (callsE ex3)) : ∃ g c, v = .slice (some ⟨g, 0, none⟩) 2 c ∧ 2 ≤ c ∧ w.cell? ⟨g, 0, none⟩ = some (.int .i64 0) ∧ w.cell? ⟨g, 1, none⟩ = some (.int .i64 2) ∧ w.cell? ⟨g, 9, none⟩ = some (.int .i64 1) ∧ w.cell? ⟨g, 10, none⟩ = some (.int .i64 (-1)) := by
  rw [ex_calls] at h
  obtain ⟨A, c, rfl, h1, _, ha⟩ := h.own.slice
  obtain ⟨b, hb, _⟩ := (h.own.at len9) 0 (by decide)
  have e := ha b hb
  rw [e] at hb
  subst hb
  have hc := h.own.cells (g := b.block) rfl
  have k0 := hc 0 _ rfl
  have k1 := hc 1 _ rfl
  have k9 := hc 9 _ rfl
  have k10 := hc 10 _ rfl
  rw [Addr.add_lit] at k0 k1 k9 k10
  exact ⟨b.block, c, rfl, h1, k0, k1, k9, k10⟩

attribute [local go_sem] eq_op eq_res eq_span
end Go.Proofs.YtmpilokgbblonaaGreat.hist
/- A history and the events that were taken, beside it. -/
namespace Go.Proofs.YtmpilokgbblonaaGreat.hist
open Go.RowKit

/-- An event in a block of its own. -/
structure Blk7 (w : World) (B : Nat) (v : EvV) : Prop where
  box : w.heap[B]? = some (.cells #[.int .i64 v.T, .bool v.E, .int .i64 v.K, .int .i64 v.Y, .int .i64 v.C, .bool v.O, .int .i64 v.V] 64 (0, 0))
section
variable {w w' : World} {B : Nat} {v : EvV}
theorem Blk7.lt (h : Blk7 w B v) : B < w.heap.size := (Array.getElem?_eq_some_iff.1 h.box).1
theorem Blk7.below (h : Blk7 w B v) (hb : Below w.heap.size w w') : Blk7 w' B v := ⟨(hb.block B h.lt).trans h.box⟩
theorem Blk7.went (h : Blk7 w B v) {f f' : Nat → Prop} (hw : Went f f' w w') (hB : ¬ f B) : Blk7 w' B v := ⟨(hw.block B h.lt hB).trans h.box⟩
theorem Blk7.grown (h : Blk7 w B v) {row : Option Nat} (hg : w.grownBy w' row) (hB : some B ≠ row) : Blk7 w' B v := ⟨(hg.block B h.lt hB).trans h.box⟩
theorem Blk7.cells (h : Blk7 w B v) : w.cell? ⟨B, 0, none⟩ = some (.int .i64 v.T) ∧ w.cell? ⟨B, 1, none⟩ = some (.bool v.E) ∧ w.cell? ⟨B, 2, none⟩ = some (.int .i64 v.K) ∧ w.cell? ⟨B, 3, none⟩ = some (.int .i64 v.Y) ∧ w.cell? ⟨B, 4, none⟩ = some (.int .i64 v.C) ∧ w.cell? ⟨B, 5, none⟩ = some (.bool v.O) ∧ w.cell? ⟨B, 6, none⟩ = some (.int .i64 v.V) := by
  have hb := h.box
  refine ⟨?_, ?_, ?_, ?_, ?_, ?_, ?_⟩ <;> (rw [Joins.cell_of_block hb]; rfl)
end
theorem Tryzinfo_rev : (Tryz.prog.info? 64).map (fun i => (i.zero, i.size, i.bytes)) = some (some (.agg #[.int .i64 0, .bool false, .int .i64 0, .int .i64 0, .int .i64 0, .bool false, .int .i64 0]), 7, 56) := by kernel_rfl

theorem took_bareL (l : List EvV) : BareE (tookE l) := by
  induction l using snocInd with
  | nil => exact bareL_nil
  | append_singleton l v ih => rw [took_step]; exact step_bare ih v
theorem took_take {l : List EvV} {k : Nat} (hk : k < l.length) : tookE (l.take (k + 1)) = stepE (tookE (l.take k)) l[k] := by
  rw [List.take_succ_eq_append_getElem hk, took_step]
theorem took_take_len (l : List EvV) (k : Nat) : (tookE (l.take k)).length ≤ k := Nat.le_trans (took_len _) (by rw [List.length_take]; exact Nat.min_le_left _ _)

/-- A history of events L, and a row of events R, both made behind world W. -/
structure Play (W w : World) (X : Nat) (f : Nat → Prop) (v : Value) (L R : List EvV) : Prop where
  hst : Hst w X f L
  row : Grow cells7 7 64 W w v R
  apart : ∀ g, v.ownBlock = some g → ¬ f g
  foot : ∀ b, f b → W.heap.size ≤ b
section
variable {W w w' : World} {X : Nat} {f f' : Nat → Prop} {v v' : Value} {L L' R : List EvV}
theorem Play.next (h : Play W w X f v L R) (hb : Below w.heap.size w w') : Play W w' X f v L R := ⟨h.hst.below hb, h.row.next hb, h.apart, h.foot⟩
theorem Play.step (h : Play W w X f v L R) (hm : Hst w' X f' L') (hw : Went f f' w w') : Play W w' X f' v L' R :=
  ⟨hm, h.row.went hw h.foot h.apart, fun g hg => hw.apart (h.row.own.lt hg) (h.apart g hg), hw.from h.row.below.size h.foot⟩
theorem Play.more (h : Play W w X f v L R) {a : EvV} (ho : Own cells7 7 64 w' v' (R ++ [a])) (hg : w.grownBy w' v.ownBlock) (hat : v'.ownBlock = v.ownBlock ∨ v'.ownBlock = some w.heap.size) : Play W w' X f v' L (R ++ [a]) := by
  refine ⟨h.hst.grown hg h.apart, h.row.more ho hg hat, fun g hg' hf => ?_, h.foot⟩
  rcases hat with e | e
  · exact h.apart g (e ▸ hg') hf
  · rw [hg'] at e
    have := Option.some.inj e
    have := h.hst.lt g hf
    omega
end
end Go.Proofs.YtmpilokgbblonaaGreat.hist
/- The document's answers about orders: where a number stands; the operations of an order; are all in it that must be? -/
namespace Go.Proofs.YtmpilokgbblonaaGreat.lin
open Go.RowKit Go.Maps
open hist (ClV EvV befB past new_block Went At cells8 len8 Hst callsE Own Grow append_row new_cells wpList_known)
open spec (Rw Row OpV OpsAt stateL nextL)
open task (rightB)
set_option maxHeartbeats 1000000 in
theorem place_any (w : World) (c : Nat) (A : Option Addr) (o : List Int) (h : NumAt w A o) (n : Nat) (hn : o.length = n) (hl : n ≤ 1000) (x : Int) :
    Calls Tryz.prog 57 #[.slice A n c, .int .i64 x] w fun e w' => ∃ r : Int, e = .returned (.int .i64 r) ∧ (0 ≤ r ↔ x ∈ o) ∧ w = w' := by
  have H := Lib.hid h
  have HN := Lib.hid hn
  have hl0 : (n : Int) ≤ 1000 := by omega
  clear h hn
  go_enter Tryz.func57, Tryz.ntmps57
  go_wp2
  go_loopw [5] (fun j wr => ∃ k : Nat, k ≤ n ∧ j = .int .i64 (k : Int) ∧ w = wr ∧ x ∉ o.take k) (fun j _ => n - (intOf j).toNat)
  case atStart => exact ⟨0, Nat.zero_le _, rfl, rfl, by simp⟩
  case round =>
    obtain ⟨k, hk, rfl, rfl, hx⟩ := hrel
    have HX := Lib.hid hx
    clear hx
    by_cases hlt : k < n
    · have hkl : k < o.length := by rw [HN.out]; exact hlt
      have hki : (k : Int) < (n : Int) := by omega
      have hk0 : (0 : Int) ≤ (k : Int) := by omega
      obtain ⟨a, rfl, hc⟩ := H.out k hkl
      have HT := Lib.hid (List.take_succ_eq_append_getElem hkl)
      have HMEM : Hid (o[k] ∈ o) := Lib.hid (List.getElem_mem hkl)
      generalize o[k] = y at *
      by_cases hxy : y = x
      · subst hxy
        have hq : (y == y) = true := beq_self_eq_true y
        clear hkl
        go_wp2
        go_returns
        exact ⟨(k : Int), rfl, ⟨fun _ => HMEM.out, fun _ => hk0⟩, rfl⟩
      · have hq : (y == x) = false := beq_eq_false_iff_ne.2 hxy
        have HXY := Lib.hid hxy
        clear hkl hxy
        go_wp2
        go_roundw
        case rel => exact ⟨k + 1, by omega, by go_num, trivial, by rw [HT.out, List.mem_append, List.mem_singleton]; rintro (h | h); exact HX.out h; exact HXY.out h.symm⟩
        case measure => simp [intOf]; omega
    · have HNO : Hid (x ∉ o) := Lib.hid (by have := HX.out; rwa [List.take_of_length_le (by rw [HN.out]; omega)] at this)
      go_wp2
      go_returns
      exact ⟨-1, rfl, ⟨fun h => absurd h (by decide), fun h => absurd h HNO.out⟩, rfl⟩
/-! The operations of an order. -/
def cells2 (_ : Nat) (v : OpV) : List Value := [.int .i64 v.K, .int .i64 v.Y]
theorem len2 (i : Nat) (v : OpV) : (cells2 i v).length = 2 := rfl
theorem one2 (i : Nat) (v : OpV) : ∀ u ∈ cells2 i v, u.oneCell' = true := by
  intro u hu
  simp [cells2] at hu
  rcases hu with rfl | rfl <;> rfl
theorem ops_at {w : World} {A : Option Addr} {os : List OpV} (h : At cells2 2 w A os) : OpsAt w A os := fun i hi => by
  obtain ⟨b, hb, hc⟩ := h i hi
  exact ⟨b, hb, hc 0 _ rfl, hc 1 _ rfl⟩
set_option maxHeartbeats 2000000 in
theorem ops_any (w : World) (A8 : Option Addr) (c8 m : Nat) (L : List ClV) (h8 : At cells8 8 w A8 L) (hm : L.length = m) (hm2 : m ≤ 100) (c : Nat) (A : Option Addr) (o : List Int) (h : NumAt w A o) (n : Nat) (hn : o.length = n) (hl : n ≤ 100) (hv : ∀ x ∈ o, 0 ≤ x ∧ x < L.length) :
    Calls Tryz.prog 18 #[.slice A8 m c8, .slice A n c] w fun e w' => ∃ v, e = .returned v ∧ Grow cells2 2 47 w w' v (opsI L o) := by
  have H8 := Lib.hid h8
  have H := Lib.hid h
  have HN := Lib.hid hn
  have HM := Lib.hid hm
  have HV := Lib.hid hv
  have hl0 : (n : Int) ≤ 100 := by omega
  have hm0 : (m : Int) ≤ 100 := by omega
  clear h8 h hn hm hv
  go_enter Tryz.func18, Tryz.ntmps18
  go_wp2
  go_loopw [5, 6] (fun vt j wr => ∃ k : Nat, k ≤ n ∧ j = .int .i64 (k : Int) ∧ Grow cells2 2 47 w wr vt (opsI L (o.take k))) (fun _ j _ => n - (intOf j).toNat)
  case atStart => exact ⟨0, Nat.zero_le _, rfl, Grow.nil _ _ _ (Below.refl _ _)⟩
  case round =>
    obtain ⟨k, hk, rfl, hg⟩ := hrel
    have HG := Lib.hid hg
    clear hg
    by_cases hlt : k < n
    · have hkl : k < o.length := by rw [HN.out]; exact hlt
      have hki : (k : Int) < (n : Int) := by omega
      have hk0 : (0 : Int) ≤ (k : Int) := by omega
      obtain ⟨a, rfl, hc0⟩ := H.out k hkl
      have hc := (HG.out.below.cell (World.block_lt_of_cell? _ _ hc0)).trans hc0
      have hok := HV.out _ (List.getElem_mem hkl)
      have HT := Lib.hid (List.take_succ_eq_append_getElem hkl)
      generalize o[k] = y at *
      obtain ⟨i, rfl⟩ : ∃ i : Nat, y = (i : Int) := ⟨y.toNat, by omega⟩
      have hil : i < L.length := by omega
      have hi0 : (0 : Int) ≤ (i : Int) := by omega
      have hi1 : (i : Int) < (m : Int) := by have := HM.out; omega
      obtain ⟨b, rfl, p0, p1, p2, p3, p4, p5, p6, p7⟩ := (H8.out.later HG.out.below).cl i hil
      have HO : Hid (opsI L (o.take (k + 1)) = opsI L (o.take k) ++ [⟨L[i].K, L[i].Y⟩]) := Lib.hid (by
        have h3 : ((i : Int)).toNat < L.length := by rw [Int.toNat_natCast]; exact hil
        rw [HT.out, opsI_snoc h3]
        simp only [Int.toNat_natCast])
      have HOL : Hid ((opsI L (o.take k)).length ≤ 100) := Lib.hid (by unfold opsI; rw [ops_len, List.length_map, List.length_take]; omega)
      generalize L[i] = d at *
      generalize opsI L (o.take k) = os at *
      obtain ⟨Af, cf, rfl, -, -, -⟩ := HG.out.told len2
      obtain ⟨j0, hj, yz0, yz1, yz2⟩ := info_parts spec.Tryzinfo_op
      obtain ⟨v3, w3, hrun, hown, hgr, hat, -⟩ := append_row len2 (wr.alloc (.cells #[.int .i64 d.K, .int .i64 d.Y] 47)) 42 42 47 j0 _ 16 Tryz.underlying42 hj yz0 yz1 yz2 rfl (by decide) _ os ⟨d.K, d.Y⟩ ((HG.out.next ((Below.refl _ _).alloc (Nat.le_refl _) _)).own) wr.heap.size (new_cells wr (cells2 0 ⟨d.K, d.Y⟩) _) (one2 _ _) (by have := HOL.out; unfold maxLen; omega) (by have := HOL.out; omega)
      have HG2 := Lib.hid ((HG.out.next ((Below.refl _ _).alloc (Nat.le_refl _) (.cells #[.int .i64 d.K, .int .i64 d.Y] 47))).more hown hgr hat)
      have HRUN := Lib.hid hrun
      clear hrun hown hgr hat hkl hc0 hok hil hj yz0 yz1 yz2
      go_wp2_with (at_builtin; go_loud (refine wpList_known rfl (.tmp 13) (.tmp 22) 42 rfl _ _ v3 w3 rfl rfl HRUN.out ?_))
      go_roundw
      case rel => exact ⟨k + 1, by omega, by go_num, by rw [HO.out]; exact HG2.out⟩
      case measure => simp [intOf]; omega
    · have he : o.take k = o := List.take_of_length_le (by rw [HN.out]; omega)
      rw [he] at HG
      go_wp2
      go_returns
      exact ⟨_, rfl, HG.out⟩
/-! Are all in it that must be? -/
theorem must_iff' {L : List ClV} {i : Nat} (hi : i < L.length) : mustAt L i = true ↔ 0 ≤ L[i].D ∧ L[i].C = 0 := by
  unfold mustAt
  rw [List.getElem?_eq_getElem hi]
  exact must_iff
set_option maxHeartbeats 2000000 in
theorem whole_any (w : World) (A8 : Option Addr) (c8 m : Nat) (L : List ClV) (h8 : At cells8 8 w A8 L) (hm : L.length = m) (hm2 : m ≤ 100) (c : Nat) (A : Option Addr) (o : List Int) (h : NumAt w A o) (n : Nat) (hn : o.length = n) (hl : n ≤ 100) :
    Calls Tryz.prog 32 #[.slice A8 m c8, .slice A n c] w fun e w' => ∃ b, e = .returned (.bool b) ∧ (b = true ↔ ∀ i, mustAt L i = true → (i : Int) ∈ o) ∧ w = w' := by
  have H8 := Lib.hid h8
  have H := Lib.hid h
  have HN := Lib.hid hn
  have HM := Lib.hid hm
  have hl0 : (n : Int) ≤ 100 := by omega
  have hm0 : (m : Int) ≤ 100 := by omega
  have HL : Hid (n ≤ 1000) := Lib.hid (by omega)
  clear h8 h hn hm
  go_enter Tryz.func32, Tryz.ntmps32
  go_wp2
  go_loopw [5] (fun j wr => ∃ k : Nat, k ≤ m ∧ j = .int .i64 (k : Int) ∧ w = wr ∧ ∀ i, i < k → mustAt L i = true → (i : Int) ∈ o) (fun j _ => m - (intOf j).toNat)
  case atStart => exact ⟨0, Nat.zero_le _, rfl, rfl, fun i hi => absurd hi (by omega)⟩
  case round =>
    obtain ⟨k, hk, rfl, rfl, hx⟩ := hrel
    have HX := Lib.hid hx
    clear hx
    by_cases hlt : k < m
    · have hkl : k < L.length := by rw [HM.out]; exact hlt
      have hki : (k : Int) < (m : Int) := by omega
      have hk0 : (0 : Int) ≤ (k : Int) := by omega
      obtain ⟨b, rfl, p0, p1, p2, p3, p4, p5, p6, p7⟩ := H8.out.cl k hkl
      have HMI := Lib.hid (must_iff' hkl)
      generalize L[k] = d at *
      have HNX : Hid ((mustAt L k = true → (k : Int) ∈ o) → ∀ i, i < k + 1 → mustAt L i = true → (i : Int) ∈ o) := Lib.hid (fun h i hi hm => by
        by_cases e : i = k
        · subst e; exact h hm
        · exact HX.out i (by omega) hm)
      clear hkl
      by_cases hd : 0 ≤ d.D
      · by_cases hc : d.C = 0
        · have hq : (d.C == 0) = true := beq_iff_eq.2 hc
          have HMU : Hid (mustAt L k = true) := Lib.hid (HMI.out.2 ⟨hd, hc⟩)
          clear hc
          go_wp2_with (go_at_call 57; go_loud (refine (place_any _ c A o H.out n HN.out HL.out (k : Int)).mono ?_; rintro e w2 ⟨r, rfl, hr, hw⟩; subst hw; have HR := Lib.hid hr; clear hr))
          · have HNO : Hid (¬ (k : Int) ∈ o) := Lib.hid (fun h => by have := HR.out.2 h; omega)
            go_returns
            exact ⟨false, rfl, ⟨fun h => absurd h (by decide), fun h => absurd (h k HMU.out) HNO.out⟩, rfl⟩
          · go_roundw
            case rel => exact ⟨k + 1, by omega, by go_num, trivial, HNX.out (fun _ => HR.out.1 (by omega))⟩
            case measure => simp [intOf]; omega
        · have hq : (d.C == 0) = false := beq_eq_false_iff_ne.2 hc
          have HC := Lib.hid hc
          clear hc
          go_wp2
          go_roundw
          case rel => exact ⟨k + 1, by omega, by go_num, trivial, HNX.out (fun h => absurd (HMI.out.1 h).2 HC.out)⟩
          case measure => simp [intOf]; omega
      · have HD := Lib.hid hd
        go_wp2
        go_roundw
        case rel => exact ⟨k + 1, by omega, by go_num, trivial, HNX.out (fun h => absurd (HMI.out.1 h).1 HD.out)⟩
        case measure => simp [intOf]; omega
    · have HF : Hid (∀ i, mustAt L i = true → (i : Int) ∈ o) := Lib.hid (fun i hm => HX.out i (by have h1 := must_lt hm; rw [HM.out] at h1; omega) hm)
      go_wp2
      go_returns
      exact ⟨true, rfl, ⟨fun _ => HF.out, fun _ => rfl⟩, rfl⟩
end Go.Proofs.YtmpilokgbblonaaGreat.lin
