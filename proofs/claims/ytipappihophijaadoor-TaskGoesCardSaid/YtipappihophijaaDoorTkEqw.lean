/- Two operations, tasks, places compare as equal just if all their fields are the same. -/
import Derived.Test.YtipappihophijaaDoorTkBase
import Derived.DeepKeys
namespace Go.Proofs.YtipappihophijaaDoor.task
open Go.RowKit
theorem eqi (n : Nat) (x y : Int) (w : World) : (Op.equalIn (n + 1) 3 (.int .i64 x) (.int .i64 y)).run Tryd.prog w = .ok (x == y) w := by
  simp [Op.equalIn, run_underlying Tryd.underlying3]
theorem eq_op_at (d : Nat) (k y k' y' : Int) (w : World) : (Op.equalIn (d + 1 + 1) 23 (.agg #[.int .i64 k, .int .i64 y]) (.agg #[.int .i64 k', .int .i64 y'])).run Tryd.prog w = .ok (k == k' && y == y') w := by
  have hs : Tryd.prog.stoodInHeld 23 = false := by kernel_rfl
  unfold Op.equalIn
  simp only [Sem.run_bind, run_underlying Tryd.underlying23, Result.andThen_ok]
  simp [go_sem, hs, eqi]
  by_cases h1 : k = k' <;> by_cases h2 : y = y' <;> simp [*]
theorem eq_op (k y k' y' : Int) (w : World) : (Op.equalIn 10000 23 (.agg #[.int .i64 k, .int .i64 y]) (.agg #[.int .i64 k', .int .i64 y'])).run Tryd.prog w = .ok (k == k' && y == y') w :=
  eq_op_at 9998 k y k' y' w
theorem eq_place_at (d : Nat) (k y k' y' : Int) (w : World) : (Op.equalIn (d + 1 + 1) 30 (.agg #[.int .i64 k, .int .i64 y]) (.agg #[.int .i64 k', .int .i64 y'])).run Tryd.prog w = .ok (k == k' && y == y') w := by
  have hs : Tryd.prog.stoodInHeld 30 = false := by kernel_rfl
  unfold Op.equalIn
  simp only [Sem.run_bind, run_underlying Tryd.underlying30, Result.andThen_ok]
  simp [go_sem, hs, eqi]
  by_cases h1 : k = k' <;> by_cases h2 : y = y' <;> simp [*]
theorem eq_place (k y k' y' : Int) (w : World) : (Op.equalIn 10000 30 (.agg #[.int .i64 k, .int .i64 y]) (.agg #[.int .i64 k', .int .i64 y'])).run Tryd.prog w = .ok (k == k' && y == y') w :=
  eq_place_at 9998 k y k' y' w
theorem eq_task_at (d : Nat) (s k y s' k' y' : Int) (w : World) : (Op.equalIn (d + 1 + 1 + 1) 25 (.agg #[.int .i64 s, .int .i64 k, .int .i64 y]) (.agg #[.int .i64 s', .int .i64 k', .int .i64 y'])).run Tryd.prog w = .ok (s == s' && (k == k' && y == y')) w := by
  have hs : Tryd.prog.stoodInHeld 25 = false := by kernel_rfl
  unfold Op.equalIn
  simp only [Sem.run_bind, run_underlying Tryd.underlying25, Result.andThen_ok]
  simp [go_sem, hs, eqi, eq_op_at]
  by_cases h1 : s = s' <;> by_cases h2 : k = k' <;> by_cases h3 : y = y' <;> simp [*]
/-- As the walk asks it. -/
theorem eq_task (s k y s' k' y' : Int) (w : World) : (Op.equalIn 10000 25 (.agg #[.int .i64 s, .int .i64 k, .int .i64 y]) (.agg #[.int .i64 s', .int .i64 k', .int .i64 y'])).run Tryd.prog w = .ok (s == s' && (k == k' && y == y')) w :=
  eq_task_at 9997 s k y s' k' y' w
end Go.Proofs.YtipappihophijaaDoor.task
