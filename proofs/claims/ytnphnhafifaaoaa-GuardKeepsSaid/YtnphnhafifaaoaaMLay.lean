/- The layout's addresses: what each call returns; nothing that was there has changed. -/
import Derived.Test.YtnphnhafifaaoaaRows
import Derived.WalkKit
import Derived.WalkSpells
import Derived.WalkLawsBesides
import Derived.Handy
import Derived.Lib.Hide
import Derived.Outline
import Derived.Lib.SmallJoins
import Derived.Deep.RegionWith
import Derived.Test.YtnphnhafifaaoaaQuiet
namespace Go.Proofs.Ytnphnhafifaaoaa.mem
open Go.RowKit

theorem ret_int {k : IntKind} {a b : Int} (h : a = b) : Ending.returned (.int k a) = Ending.returned (.int k b) := by rw [h]
theorem ret_bool {a b : Bool} (h : a = b) : Ending.returned (.bool a) = Ending.returned (.bool b) := by rw [h]
theorem ret_pair {v : Value} {a b : Bool} (h : a = b) : Ending.returned (.tuple #[v, .bool a]) = Ending.returned (.tuple #[v, .bool b]) := by rw [h]
theorem bcell {W w1 : World} (hb : Below W.heap.size W w1) : (∀ b o, b < W.heap.size → w1.cell? ⟨b, o, none⟩ = W.cell? ⟨b, o, none⟩) ∧ (∀ b o, b < W.heap.size → w1.frozen? ⟨b, o, none⟩ = W.frozen? ⟨b, o, none⟩) :=
  ⟨fun b o h => hb.cell (p := ⟨b, o, none⟩) h, fun b o h => hb.frozen (p := ⟨b, o, none⟩) h⟩
/-- A new block at once, then what a call leaves. -/
theorem past1 {w w1 : World} {o : Obj} (hb : Below (w.alloc o).heap.size (w.alloc o) w1) : Below w.heap.size w w1 := ((Below.refl _ _).alloc (Nat.le_refl _) o).trans (hb.mono (by simp))
theorem past1d {w w1 : World} {o : Obj} (hb : Below (w.alloc o).drew.heap.size (w.alloc o).drew w1) : Below w.heap.size w w1 := (((Below.refl _ _).alloc (Nat.le_refl _) o).drew).trans (hb.mono (by simp))
theorem past {w w1 w2 : World} (h1 : Below w.heap.size w w1) (h2 : Below w1.heap.size w1 w2) : Below w.heap.size w w2 := h1.trans (h2.mono h1.size)


set_option maxHeartbeats 400000 in
theorem heads_any (w : World) (t n : Int) (n0 : 0 ≤ n) (n1 : n ≤ 300) :
    Calls Try.prog 49 #[.agg #[.int .i64 t, .int .i64 n]] w fun e w' => e = .returned (.int .i64 (1 + n)) ∧ Below w.heap.size w w' := by
  go_enter Try.func49, Try.ntmps49
  go_wp2
  go_returns
  exact ⟨rfl, by go_grown⟩


set_option maxHeartbeats 400000 in
theorem lives_any (w : World) (t n : Int) (n0 : 0 ≤ n) (n1 : n ≤ 300) :
    Calls Try.prog 34 #[.agg #[.int .i64 t, .int .i64 n]] w fun e w' => e = .returned (.int .i64 (n + 5)) ∧ Below w.heap.size w w' := by
  go_enter Try.func34, Try.ntmps34
  go_wp2_with (go_at_call 49; refine (heads_any _ t n n0 n1).mono ?_; rintro e w1 ⟨rfl, hb1⟩; obtain ⟨hc1, hf1⟩ := bcell hb1)
  go_returns
  exact ⟨ret_int (by omega), past1 hb1⟩


set_option maxHeartbeats 400000 in
theorem slots_any (w : World) (t n : Int) (n0 : 0 ≤ n) (n1 : n ≤ 300) :
    Calls Try.prog 28 #[.agg #[.int .i64 t, .int .i64 n]] w fun e w' => e = .returned (.int .i64 (2 * n + 5)) ∧ Below w.heap.size w w' := by
  go_enter Try.func28, Try.ntmps28
  go_wp2
  go_region_with (go_at_call 34; refine (lives_any _ t n n0 n1).mono ?_; rintro e w1 ⟨rfl, hb1⟩; obtain ⟨hc1, hf1⟩ := bcell hb1)
  all_goals
    go_wp2
    go_returns
    exact ⟨ret_int (by go_arith), past1d hb1⟩


set_option maxHeartbeats 400000 in
theorem records_any (w : World) (t n : Int) (t0 : 0 ≤ t) (t1 : t ≤ 20) (n0 : 0 ≤ n) (n1 : n ≤ 300) :
    Calls Try.prog 60 #[.agg #[.int .i64 t, .int .i64 n]] w fun e w' => e = .returned (.int .i64 (2 * n + 5 + 2 * t)) ∧ Below w.heap.size w w' := by
  go_enter Try.func60, Try.ntmps60
  go_wp2
  go_region_with (go_at_call 28; refine (slots_any _ t n n0 n1).mono ?_; rintro e w1 ⟨rfl, hb1⟩; obtain ⟨hc1, hf1⟩ := bcell hb1)
  all_goals
    go_wp2
    go_returns
    exact ⟨ret_int (by go_arith), past1d hb1⟩


set_option maxHeartbeats 400000 in
theorem record_any (w : World) (t n k : Int) (t0 : 0 ≤ t) (t1 : t ≤ 20) (n0 : 0 ≤ n) (n1 : n ≤ 300) (k0 : 0 ≤ k) (k1 : k ≤ 1000) :
    Calls Try.prog 59 #[.agg #[.int .i64 t, .int .i64 n], .int .i64 k] w fun e w' => e = .returned (.int .i64 (2 * n + 5 + 2 * t + 3 * k)) ∧ Below w.heap.size w w' := by
  go_enter Try.func59, Try.ntmps59
  go_wp2_with (go_at_call 60; refine (records_any _ t n t0 t1 n0 n1).mono ?_; rintro e w1 ⟨rfl, hb1⟩; obtain ⟨hc1, hf1⟩ := bcell hb1)
  go_returns
  exact ⟨ret_int (by omega), past1 hb1⟩


set_option maxHeartbeats 400000 in
theorem Counter_any (w : World) (t n : Int) (t0 : 0 ≤ t) (t1 : t ≤ 20) (n0 : 0 ≤ n) (n1 : n ≤ 300) :
    Calls Try.prog 56 #[.agg #[.int .i64 t, .int .i64 n]] w fun e w' => e = .returned (.int .i64 (2 * n + 5 + 5 * t)) ∧ Below w.heap.size w w' := by
  go_enter Try.func56, Try.ntmps56
  go_wp2_with (go_at_call 59; refine (record_any _ t n t t0 t1 n0 n1 t0 (by omega)).mono ?_; rintro e w1 ⟨rfl, hb1⟩; obtain ⟨hc1, hf1⟩ := bcell hb1)
  go_returns
  exact ⟨ret_int (by omega), past1 hb1⟩


set_option maxHeartbeats 400000 in
theorem Size_any (w : World) (t n : Int) (t0 : 0 ≤ t) (t1 : t ≤ 20) (n0 : 0 ≤ n) (n1 : n ≤ 300) :
    Calls Try.prog 47 #[.agg #[.int .i64 t, .int .i64 n]] w fun e w' => e = .returned (.int .i64 (2 * n + 6 + 5 * t)) ∧ Below w.heap.size w w' := by
  go_enter Try.func47, Try.ntmps47
  go_wp2_with (go_at_call 56; refine (Counter_any _ t n t0 t1 n0 n1).mono ?_; rintro e w1 ⟨rfl, hb1⟩; obtain ⟨hc1, hf1⟩ := bcell hb1)
  go_returns
  exact ⟨ret_int (by omega), past1 hb1⟩


set_option maxHeartbeats 400000 in
theorem Life_any (w : World) (t n k : Int) (n0 : 0 ≤ n) (n1 : n ≤ 300) (k0 : 0 ≤ k) (k1 : k ≤ 1000) :
    Calls Try.prog 15 #[.agg #[.int .i64 t, .int .i64 n], .int .i64 k] w fun e w' => e = .returned (.int .i64 (n + 4 + k)) ∧ Below w.heap.size w w' := by
  go_enter Try.func15, Try.ntmps15
  go_wp2_with (go_at_call 34; refine (lives_any _ t n n0 n1).mono ?_; rintro e w1 ⟨rfl, hb1⟩; obtain ⟨hc1, hf1⟩ := bcell hb1)
  go_returns
  exact ⟨ret_int (by omega), past1 hb1⟩


set_option maxHeartbeats 400000 in
theorem Slot_any (w : World) (t n k j : Int) (n0 : 0 ≤ n) (n1 : n ≤ 300) (k0 : 0 ≤ k) (k1 : k ≤ 1000) (j0 : 0 ≤ j) (j1 : j ≤ 1000) :
    Calls Try.prog 10 #[.agg #[.int .i64 t, .int .i64 n], .int .i64 k, .int .i64 j] w fun e w' => e = .returned (.int .i64 (2 * n + 5 + 2 * k + j)) ∧ Below w.heap.size w w' := by
  go_enter Try.func10, Try.ntmps10
  go_wp2_with (go_at_call 28; refine (slots_any _ t n n0 n1).mono ?_; rintro e w1 ⟨rfl, hb1⟩; obtain ⟨hc1, hf1⟩ := bcell hb1)
  go_returns
  exact ⟨ret_int (by omega), past1 hb1⟩


/-- Is an address a node's? -/
def nodeB (n a : Int) : Bool := decide (1 ≤ a ∧ a ≤ n)
set_option maxHeartbeats 400000 in
theorem Node_any (w : World) (t n a : Int) :
    Calls Try.prog 55 #[.agg #[.int .i64 t, .int .i64 n], .int .i64 a] w fun e w' => e = .returned (.bool (nodeB n a)) ∧ Below w.heap.size w w' := by
  have hq : nodeB n a = (decide (1 ≤ a) && decide (a ≤ n)) := by unfold nodeB; rw [Bool.decide_and]
  have HQ := Lib.hid hq
  clear hq
  by_cases h1 : 1 ≤ a
  · have d1 : decide (1 ≤ a) = true := by simpa using h1
    go_enter Try.func55, Try.ntmps55
    go_wp2
    go_returns
    exact ⟨ret_bool (by rw [HQ.out, d1]; simp), by go_grown⟩
  · have d1 : decide (1 ≤ a) = false := by simpa using h1
    go_enter Try.func55, Try.ntmps55
    go_wp2
    go_returns
    exact ⟨ret_bool (by rw [HQ.out, d1]; rfl), by go_grown⟩

/-- May a layout be? -/
def rightB (t n : Int) : Bool := decide (1 ≤ t ∧ t ≤ 8 ∧ 1 ≤ n ∧ n ≤ 200)
theorem rightB_yes {t n : Int} (h : 1 ≤ t ∧ t ≤ 8 ∧ 1 ≤ n ∧ n ≤ 200) : rightB t n = true := decide_eq_true h
theorem rightB_no {t n : Int} (h : ¬ (1 ≤ t ∧ t ≤ 8 ∧ 1 ≤ n ∧ n ≤ 200)) : rightB t n = false := decide_eq_false h

set_option maxHeartbeats 1000000 in
theorem Right_any (w : World) (t n : Int) :
    Calls Try.prog 46 #[.agg #[.int .i64 t, .int .i64 n]] w fun e w' => e = .returned (.bool (rightB t n)) ∧ Below w.heap.size w w' := by
  have hq : rightB t n = (decide (1 ≤ t) && (decide (t ≤ 8) && (decide (1 ≤ n) && decide (n ≤ 200)))) := by unfold rightB; rw [Bool.decide_and, Bool.decide_and, Bool.decide_and]
  have HQ := Lib.hid hq
  clear hq
  by_cases h1 : 1 ≤ t
  · have d1 : decide (1 ≤ t) = true := by simpa using h1
    by_cases h2 : t ≤ 8
    · have d2 : decide (t ≤ 8) = true := by simpa using h2
      by_cases h3 : 1 ≤ n
      · have d3 : decide (1 ≤ n) = true := by simpa using h3
        go_enter Try.func46, Try.ntmps46
        go_wp2
        go_returns
        exact ⟨ret_bool (by rw [HQ.out, d1, d2, d3]; simp), by go_grown⟩
      · have d3 : decide (1 ≤ n) = false := by simpa using h3
        go_enter Try.func46, Try.ntmps46
        go_wp2
        go_returns
        exact ⟨ret_bool (by rw [HQ.out, d1, d2, d3]; rfl), by go_grown⟩
    · have d2 : decide (t ≤ 8) = false := by simpa using h2
      go_enter Try.func46, Try.ntmps46
      go_wp2
      go_returns
      exact ⟨ret_bool (by rw [HQ.out, d1, d2]; rfl), by go_grown⟩
  · have d1 : decide (1 ≤ t) = false := by simpa using h1
    go_enter Try.func46, Try.ntmps46
    go_wp2
    go_returns
    exact ⟨ret_bool (by rw [HQ.out, d1]; rfl), by go_grown⟩

end Go.Proofs.Ytnphnhafifaaoaa.mem
