/- Any beginning, any end: what it tells, what it does. -/
import Derived.Test.YtfacojlheeoppaaHBegin
import Derived.Test.YtfacojlheeoppaaHEnd
import Derived.Test.YtfacojlheeoppaaHPure2
namespace Go.Proofs.Ytfacojlheeoppaa.hist
open Go.RowKit

theorem err_out {l : List EvV} {v : EvV} (h : ¬ (0 ≤ v.T ∧ v.T ≤ 7)) : errE l v = 2 := by
  unfold errE
  rw [if_pos (by omega)]
theorem err_begin {l : List EvV} {v : EvV} (h : 0 ≤ v.T ∧ v.T ≤ 7) (hE : v.E = false) (hp : pendE l v.T = true) : errE l v = 1 := by
  unfold errE
  rw [if_neg (by omega), if_pos (by rw [hE, hp]; rfl)]
theorem err_end {l : List EvV} {v : EvV} (h : 0 ≤ v.T ∧ v.T ≤ 7) (hE : v.E = true) (hp : pendE l v.T = false) : errE l v = 5 := by
  unfold errE
  rw [if_neg (by omega), if_neg (by rw [hE, hp]; decide), if_pos (by rw [hE, hp]; rfl)]
theorem err_ok {l : List EvV} {v : EvV} (h : 0 ≤ v.T ∧ v.T ≤ 7) (hp : pendE l v.T = v.E) : errE l v = 0 := by
  unfold errE
  rw [if_neg (by omega), hp]
  cases v.E <;> rfl
theorem step_no {l : List EvV} {v : EvV} (h : errE l v ≠ 0) : stepE l v = l := if_neg h
theorem step_yes {l : List EvV} {v : EvV} (h : errE l v = 0) : stepE l v = l ++ [bareE v] := if_pos h
/-- What an event does. -/
def Steps (w : World) (X : Nat) (f : Nat → Prop) (l : List EvV) (v : EvV) (e : Ending) (w' : World) : Prop := ∃ f', e = .returned (.int .i64 (errE l v)) ∧ Hst w' X f' (stepE l v) ∧ Went f f' w w'
section
variable (w : World) (X : Nat) (f : Nat → Prop) (l : List EvV) (h : Hst w X f l) (hl : l.length ≤ 1000) (v : EvV)
include h hl
set_option maxHeartbeats 1000000 in
theorem begin_step (hE : v.E = false) :
    Calls Try.prog 11 #[.pointer (some ⟨X, 0, none⟩), .int .i64 v.T, .agg #[.int .i64 v.K, .int .i64 v.Y]] w (Steps w X f l v) := by
  by_cases ht : 0 ≤ v.T ∧ v.T ≤ 7
  · cases hp : pendE l v.T
    · have he := err_ok (l := l) ht (by rw [hp, hE])
      have hb : bareE v = ⟨v.T, false, v.K, v.Y, 0, false, 0⟩ := by unfold bareE; rw [hE]; rfl
      refine (begin_any w X f l h hl v.T v.K v.Y (by rw [← hb, err_bare]; exact he)).mono fun e w' ⟨f', h1, h2, h3⟩ => ⟨f', by rw [he]; exact h1, by rw [step_yes he, hb]; exact h2, h3⟩
    · have he := err_begin ht hE hp
      unfold Steps
      rw [step_no (by rw [he]; decide), he]
      obtain ⟨vv, o, hh, hr⟩ := h
      have HH := Lib.hid hh
      have HF : Hid (Hst w X f l) := Lib.hid ⟨vv, o, hh, hr⟩
      have HP := Lib.hid hp
      have h0 : 0 ≤ v.T := ht.1
      have h7 : v.T < 8 := by omega
      have HT := Lib.hid ht
      clear hh hr hp he hE ht
      generalize v.T = t at *
      have d1 : decide (0 ≤ t) = true := decide_eq_true h0
      have d2 : decide (t < 8) = true := decide_eq_true h7
      go_enter Try.func11, Try.ntmps11
      go_wp2_with (first
        | (go_at_call 14; go_loud (refine (pending_any _ X vv o l (HH.out.below ((Below.refl _ _).alloc (Nat.le_refl _) _)) t).mono ?_; rintro e w1 ⟨rfl, hw⟩; subst hw; rw [decide_eq_true HT.out, HP.out]))
        | (go_at_call 25; go_in))
      go_returns
      have hb : Below w.heap.size w (w.alloc (.cells #[.int .i64 v.K, .int .i64 v.Y] 27)) := (Below.refl _ _).alloc (Nat.le_refl _) _
      first | exact ⟨f, rfl, HF.out.below hb, Went.ofBelow hb⟩ | exact ⟨rfl, f, HF.out.below hb, Went.ofBelow hb⟩
  · have he := err_out (l := l) ht
    unfold Steps
    rw [step_no (by rw [he]; decide), he]
    have HF := Lib.hid h
    clear h he hE
    generalize v.T = t at *
    by_cases h0 : 0 ≤ t
    · have h7 : 8 ≤ t := by omega
      have d1 : decide (0 ≤ t) = true := decide_eq_true h0
      have d2 : decide (t < 8) = false := decide_eq_false (by omega)
      clear ht
      go_enter Try.func11, Try.ntmps11
      go_wp2
      go_returns
      have hb : Below w.heap.size w (w.alloc (.cells #[.int .i64 v.K, .int .i64 v.Y] 27)) := (Below.refl _ _).alloc (Nat.le_refl _) _
      first | exact ⟨f, rfl, HF.out.below hb, Went.ofBelow hb⟩ | exact ⟨rfl, f, HF.out.below hb, Went.ofBelow hb⟩
    · have d1 : decide (0 ≤ t) = false := decide_eq_false h0
      clear ht
      go_enter Try.func11, Try.ntmps11
      go_wp2
      go_returns
      have hb : Below w.heap.size w (w.alloc (.cells #[.int .i64 v.K, .int .i64 v.Y] 27)) := (Below.refl _ _).alloc (Nat.le_refl _) _
      first | exact ⟨f, rfl, HF.out.below hb, Went.ofBelow hb⟩ | exact ⟨rfl, f, HF.out.below hb, Went.ofBelow hb⟩
set_option maxHeartbeats 1000000 in
theorem end_step (hE : v.E = true) :
    Calls Try.prog 10 #[.pointer (some ⟨X, 0, none⟩), .int .i64 v.T, .agg #[.int .i64 v.C, .bool v.O, .int .i64 v.V]] w (Steps w X f l v) := by
  by_cases ht : 0 ≤ v.T ∧ v.T ≤ 7
  · cases hp : pendE l v.T
    · have he := err_end ht hE hp
      unfold Steps
      rw [step_no (by rw [he]; decide), he]
      obtain ⟨vv, o, hh, hr⟩ := h
      have HH := Lib.hid hh
      have HF : Hid (Hst w X f l) := Lib.hid ⟨vv, o, hh, hr⟩
      have HP := Lib.hid hp
      have h0 : 0 ≤ v.T := ht.1
      have h7 : v.T < 8 := by omega
      have HT := Lib.hid ht
      clear hh hr hp he hE ht
      generalize v.T = t at *
      have d1 : decide (0 ≤ t) = true := decide_eq_true h0
      have d2 : decide (t < 8) = true := decide_eq_true h7
      go_enter Try.func10, Try.ntmps10
      go_wp2_with (first
        | (go_at_call 14; go_loud (refine (pending_any _ X vv o l (HH.out.below ((Below.refl _ _).alloc (Nat.le_refl _) _)) t).mono ?_; rintro e w1 ⟨rfl, hw⟩; subst hw; rw [decide_eq_true HT.out, HP.out]))
        | (go_at_call 25; go_in))
      go_returns
      have hb : Below w.heap.size w (w.alloc (.cells #[.int .i64 v.C, .bool v.O, .int .i64 v.V] 30)) := (Below.refl _ _).alloc (Nat.le_refl _) _
      first | exact ⟨f, rfl, HF.out.below hb, Went.ofBelow hb⟩ | exact ⟨rfl, f, HF.out.below hb, Went.ofBelow hb⟩
    · have he := err_ok (l := l) ht (by rw [hp, hE])
      have hb : bareE v = ⟨v.T, true, 0, 0, v.C, v.O, v.V⟩ := by unfold bareE; rw [hE]; rfl
      refine (end_any w X f l h hl v.T v.C v.V v.O (by rw [← hb, err_bare]; exact he)).mono fun e w' ⟨f', h1, h2, h3⟩ => ⟨f', by rw [he]; exact h1, by rw [step_yes he, hb]; exact h2, h3⟩
  · have he := err_out (l := l) ht
    unfold Steps
    rw [step_no (by rw [he]; decide), he]
    have HF := Lib.hid h
    clear h he hE
    generalize v.T = t at *
    by_cases h0 : 0 ≤ t
    · have h7 : 8 ≤ t := by omega
      have d1 : decide (0 ≤ t) = true := decide_eq_true h0
      have d2 : decide (t < 8) = false := decide_eq_false (by omega)
      clear ht
      go_enter Try.func10, Try.ntmps10
      go_wp2
      go_returns
      have hb : Below w.heap.size w (w.alloc (.cells #[.int .i64 v.C, .bool v.O, .int .i64 v.V] 30)) := (Below.refl _ _).alloc (Nat.le_refl _) _
      first | exact ⟨f, rfl, HF.out.below hb, Went.ofBelow hb⟩ | exact ⟨rfl, f, HF.out.below hb, Went.ofBelow hb⟩
    · have d1 : decide (0 ≤ t) = false := decide_eq_false h0
      clear ht
      go_enter Try.func10, Try.ntmps10
      go_wp2
      go_returns
      have hb : Below w.heap.size w (w.alloc (.cells #[.int .i64 v.C, .bool v.O, .int .i64 v.V] 30)) := (Below.refl _ _).alloc (Nat.le_refl _) _
      first | exact ⟨f, rfl, HF.out.below hb, Went.ofBelow hb⟩ | exact ⟨rfl, f, HF.out.below hb, Went.ofBelow hb⟩
end
end Go.Proofs.Ytfacojlheeoppaa.hist
