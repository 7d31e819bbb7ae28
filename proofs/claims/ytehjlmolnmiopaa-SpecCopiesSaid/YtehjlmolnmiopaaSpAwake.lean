/- Two results compare as equal just if all their fields are the same; the document's example is told as the document has it. -/
import Derived.Test.YtehjlmolnmiopaaSpPlay
import Derived.DeepKeys
namespace Go.Proofs.Ytehjlmolnmiopaa.spec
open Go.RowKit task

theorem eqi (n : Nat) (x y : Int) (w : World) : (Op.equalIn (n + 1) 3 (.int .i64 x) (.int .i64 y)).run Try.prog w = .ok (x == y) w := by
  simp [Op.equalIn, run_underlying Try.underlying3]
theorem eqe (n : Nat) (x y : Int) (w : World) : (Op.equalIn (n + 1) 25 (.int .i64 x) (.int .i64 y)).run Try.prog w = .ok (x == y) w := by
  simp [Op.equalIn, run_underlying Try.underlying25]
theorem eqb (n : Nat) (x y : Bool) (w : World) : (Op.equalIn (n + 1) 4 (.bool x) (.bool y)).run Try.prog w = .ok (x == y) w := by
  simp [Op.equalIn, run_underlying Try.underlying4]
theorem eq_res_at (d : Nat) (c c' : Int) (b b' : Bool) (v v' : Int) (w : World) : (Op.equalIn (d + 1 + 1) 37 (.agg #[.int .i64 c, .bool b, .int .i64 v]) (.agg #[.int .i64 c', .bool b', .int .i64 v'])).run Try.prog w = .ok (c == c' && (b == b' && v == v')) w := by
  have hs : Try.prog.stoodInHeld 37 = false := by kernel_rfl
  unfold Op.equalIn
  simp only [Sem.run_bind, run_underlying Try.underlying37, Result.andThen_ok]
  simp [go_sem, hs, eqi, eqe, eqb]
  by_cases h1 : c = c' <;> by_cases h2 : b = b' <;> by_cases h3 : v = v' <;> simp [*]
/-- As the walk asks it. -/
theorem eq_res (c c' : Int) (b b' : Bool) (v v' : Int) (w : World) : (Op.equalIn 10000 37 (.agg #[.int .i64 c, .bool b, .int .i64 v]) (.agg #[.int .i64 c', .bool b', .int .i64 v'])).run Try.prog w = .ok (c == c' && (b == b' && v == v')) w :=
  eq_res_at 9998 c c' b b' v v' w

theorem len_mean (w : World) (X : Nat) (f : Nat → Prop) (s : Int) (L : List Int) (h : Mean w X f s L) (hl : L.length ≤ 1000) :
    Calls Try.prog 14 #[.pointer (some ⟨X, 0, none⟩)] w fun e w' => e = .returned (.int .i64 (L.length : Nat)) ∧ ∃ n, w' = w.drewN n := by
  obtain ⟨t, h1, rfl, _⟩ := h
  exact len_any w X s t h1 hl
theorem items_mean (w : World) (X : Nat) (f : Nat → Prop) (s : Int) (L : List Int) (h : Mean w X f s L) (hl : L.length ≤ 1000) :
    Calls Try.prog 15 #[.pointer (some ⟨X, 0, none⟩)] w (Told w L) := by
  obtain ⟨t, h1, rfl, _⟩ := h
  exact (items_any w X s t h1 hl).mono fun e w' ⟨⟨A, c, g, he, hr, hg⟩, hb⟩ => ⟨A, c, g, he, hr, hg, hb⟩
/-- The results' cells in their row. -/
theorem row_res {w : World} {base g c n : Nat} {s : Int} {os : List OpV} (h : w.ownsRow base 37 3 (.slice (some ⟨g, 0, none⟩) n c) n (resTo s os n)) (hn : n ≤ os.length) (i : Nat) (hi : i < os.length) (hin : i < n) :
    w.cell? ⟨g, i * 3, none⟩ = some (.int .i64 0) ∧ w.cell? ⟨g, i * 3 + 1, none⟩ = some (.bool (okB (stateL s (os.take i)) os[i].K os[i].Y)) ∧ w.cell? ⟨g, i * 3 + 2, none⟩ = some (.int .i64 (valI (stateL s (os.take i)) os[i].K)) := by
  obtain ⟨h0, h1, h2⟩ := resTo_get n hn i hi hin
  have e0 := h.cells (g := g) rfl _ _ h0
  have e1 := h.cells (g := g) rfl _ _ h1
  have e2 := h.cells (g := g) rfl _ _ h2
  rw [Addr.add_lit, Nat.zero_add] at e0 e1 e2
  exact ⟨e0, e1, e2⟩

/-- The example's operations. -/
def exOps : List OpV := [⟨4, 4⟩, ⟨4, 9⟩, ⟨5, 0⟩]
theorem ex_right : allRight 3 exOps := by
  intro o ho
  simp [exOps] at ho
  rcases ho with rfl | rfl | rfl <;> decide
theorem ex_at (w : World) : OpsAt (w.alloc (.cells #[.int .i64 4, .int .i64 4, .int .i64 4, .int .i64 9, .int .i64 5, .int .i64 0] 35)) (some ⟨w.heap.size, 0, none⟩) exOps := by
  intro i hi
  refine ⟨_, rfl, ?_⟩
  have hb := new_block w #[.int .i64 4, .int .i64 4, .int .i64 4, .int .i64 9, .int .i64 5, .int .i64 0] 35
  rw [Addr.add_lit]
  simp only [Nat.zero_add]
  rw [Joins.cell_of_block hb, Joins.cell_of_block hb]
  have h3 : i < 3 := hi
  match i, h3 with
  | 0, _ => exact ⟨rfl, rfl⟩
  | 1, _ => exact ⟨rfl, rfl⟩
  | 2, _ => exact ⟨rfl, rfl⟩

attribute [local go_sem] eq_res
set_option maxRecDepth 100000 in
set_option maxHeartbeats 2000000 in
theorem awake_any (w : World) :
    Calls Try.prog 8 #[] w fun e w' => e = .returned (.bool true) ∧ Below w.heap.size w w' := by
  go_enter Try.func8, Try.ntmps8
  go_wp2_with (first
    | (go_at_call 18; go_loud (refine (play_right _ 3 _ exOps 3 3 (by decide) rfl (by decide) (ex_at w) ex_right).mono ?_; rintro e w1 ⟨X, f, g, c, rfl, hrow, _, hm, _, hb⟩; have M := Lib.hid hm; have B := Lib.hid (past ((Below.refl _ _).alloc (Nat.le_refl _) _) hb); obtain ⟨r0, r1, r2⟩ : w1.cell? ⟨g, 6, none⟩ = some (.int .i64 0) ∧ w1.cell? ⟨g, 7, none⟩ = some (.bool true) ∧ w1.cell? ⟨g, 8, none⟩ = some (.int .i64 4) := row_res hrow (Nat.le_refl _) 2 (by decide) (by decide); clear hrow hm hb))
    | (go_at_call 14; go_loud (refine (len_mean _ X f 3 [9] M.out (by decide)).mono ?_; rintro e w2 ⟨rfl, hw⟩; have B2 := Lib.hid (past B.out (drewN_below hw)); clear hw)))
  go_returns
  exact ⟨rfl, B2.out⟩
end Go.Proofs.Ytehjlmolnmiopaa.spec
