/- The task package's small functions, and the document's: what each call returns; nothing that was there has changed. -/
import Derived.Test.YtehjlmolnmiopaaRows
import Derived.WalkKit
import Derived.WalkSpells
import Derived.WalkLawsBesides
import Derived.Handy
import Derived.Lib.Hide
import Derived.Outline
import Derived.Below
namespace Go.Proofs.Ytehjlmolnmiopaa.task
open Go.RowKit

theorem bcell {W w1 : World} (hb : Below W.heap.size W w1) : (∀ b o, b < W.heap.size → w1.cell? ⟨b, o, none⟩ = W.cell? ⟨b, o, none⟩) ∧ (∀ b o, b < W.heap.size → w1.frozen? ⟨b, o, none⟩ = W.frozen? ⟨b, o, none⟩) :=
  ⟨fun b o h => hb.cell (p := ⟨b, o, none⟩) h, fun b o h => hb.frozen (p := ⟨b, o, none⟩) h⟩

theorem below_drewN {B : Nat} {a w : World} (h : Below B a w) (n : Nat) : Below B a (w.drewN n) := ⟨h.os, h.tape, h.output, h.size, h.block⟩
/-- What nothing but a call's own blocks can have changed: a world behind one, its result's block and its task's. -/
theorem past {W w w' : World} (h : Below W.heap.size W w) (hb : Below w.heap.size w w') : Below W.heap.size W w' := h.trans (hb.mono h.size)

/-- A number that an int holds. -/
def Fits (x : Int) : Prop := -9223372036854775808 ≤ x ∧ x ≤ 9223372036854775807

/-- Is a number a key? -/
def keyB (y : Int) : Bool := decide (0 ≤ y) && decide (y ≤ 999)
/-- Is an operation one of a set, and of a queue or stack? -/
def setB (k y : Int) : Bool := decide (1 ≤ k) && decide (k ≤ 3) && keyB y
def rowB (k y : Int) : Bool := (k == 4) && keyB y || (k == 5) && (y == 0)
/-- Is an operation one of a shape? -/
def rightB (s k y : Int) : Bool := if s = 1 ∨ s = 2 then setB k y else if s = 3 ∨ s = 4 then rowB k y else false

theorem right_iff (s k y : Int) : (rightB s k y = true) ↔ ((s = 1 ∨ s = 2) ∧ 1 ≤ k ∧ k ≤ 3 ∧ 0 ≤ y ∧ y ≤ 999) ∨ ((s = 3 ∨ s = 4) ∧ (k = 4 ∧ 0 ≤ y ∧ y ≤ 999 ∨ k = 5 ∧ y = 0)) := by
  unfold rightB setB rowB keyB
  split
  · simp; omega
  · split
    · simp; omega
    · simp; omega
theorem ret_bool {a b : Bool} (h : (a = true) ↔ (b = true)) : Ending.returned (.bool a) = Ending.returned (.bool b) := by rw [Bool.eq_iff_iff.2 h]

set_option maxHeartbeats 400000 in
theorem isKey_any (w : World) (y : Int) :
    Calls Try.prog 38 #[.int .i64 y] w fun e w' => e = .returned (.bool (keyB y)) ∧ Below w.heap.size w w' := by
  go_enter Try.func38, Try.ntmps38
  go_wp2
  all_goals
    go_returns
    refine ⟨?_, by go_grown⟩
    first | (simp [keyB, *]; done) | (simp [keyB, *]; omega)

set_option maxRecDepth 100000 in
set_option maxHeartbeats 1000000 in
theorem right_any (w : World) (s k y : Int) :
    Calls Try.prog 23 #[.int .i64 s, .agg #[.int .i64 k, .int .i64 y]] w fun e w' => e = .returned (.bool (rightB s k y)) ∧ Below w.heap.size w w' := by
  go_enter Try.func23, Try.ntmps23
  go_wp2_with (first | (go_at_call 38; refine (isKey_any _ _).mono ?_; rintro e w1 ⟨rfl, hb1⟩; have ho1 : Below w.heap.size w w1 := ((Below.refl _ _).alloc (Nat.le_refl _) _).trans (hb1.mono (by simp)); obtain ⟨hc1, hf1⟩ := bcell hb1; have hz1 : w.heap.size < w1.heap.size := (by have := hb1.size; simp at this; omega)))
  all_goals
    go_returns
    refine ⟨?_, by first | exact ho1 | go_grown⟩
    refine ret_bool ?_
    rw [right_iff]
    try simp only [keyB, Bool.and_eq_true, decide_eq_true_eq, beq_iff_eq, beq_eq_false_iff_ne, ne_eq, Bool.false_eq_true, true_iff, false_iff] at *
    omega

end Go.Proofs.Ytehjlmolnmiopaa.task
