/- Two layouts compare as equal just if their fields are the same; so do two actions. -/
import Derived.Test.YtglkpajnhdamkaaMHas
import Derived.DeepKeys
namespace Go.Proofs.Ytglkpajnhdamkaa.mem
open Go.RowKit
theorem eqi (n : Nat) (x y : Int) (w : World) : (Op.equalIn (n + 1) 3 (.int .i64 x) (.int .i64 y)).run Try.prog w = .ok (x == y) w := by
  simp [Op.equalIn, run_underlying Try.underlying3]
theorem equ (n : Nat) (x y : Int) (w : World) : (Op.equalIn (n + 1) 30 (.int .u64 x) (.int .u64 y)).run Try.prog w = .ok (x == y) w := by
  simp [Op.equalIn, run_underlying Try.underlying30]
theorem eqb (n : Nat) (x y : Bool) (w : World) : (Op.equalIn (n + 1) 4 (.bool x) (.bool y)).run Try.prog w = .ok (x == y) w := by
  simp [Op.equalIn, run_underlying Try.underlying4]
theorem eq_lay_at (d : Nat) (t n t' n' : Int) (w : World) : (Op.equalIn (d + 1 + 1) 26 (.agg #[.int .i64 t, .int .i64 n]) (.agg #[.int .i64 t', .int .i64 n'])).run Try.prog w = .ok (t == t' && n == n') w := by
  have hs : Try.prog.stoodInHeld 26 = false := by kernel_rfl
  unfold Op.equalIn
  simp only [Sem.run_bind, run_underlying Try.underlying26, Result.andThen_ok]
  simp [go_sem, hs, eqi]
  by_cases h1 : t = t' <;> by_cases h2 : n = n' <;> simp [*]
/-- As the walk asks it. -/
theorem eq_lay (t n t' n' : Int) (w : World) : (Op.equalIn 10000 26 (.agg #[.int .i64 t, .int .i64 n]) (.agg #[.int .i64 t', .int .i64 n'])).run Try.prog w = .ok (t == t' && n == n') w := eq_lay_at 9998 t n t' n' w
theorem eq_act_at (d : Nat) (k a o n k' a' o' n' : Int) (b b' : Bool) (w : World) : (Op.equalIn (d + 1 + 1) 61 (.agg #[.int .i64 k, .int .i64 a, .int .u64 o, .int .u64 n, .bool b]) (.agg #[.int .i64 k', .int .i64 a', .int .u64 o', .int .u64 n', .bool b'])).run Try.prog w = .ok (k == k' && (a == a' && (o == o' && (n == n' && b == b')))) w := by
  have hs : Try.prog.stoodInHeld 61 = false := by kernel_rfl
  unfold Op.equalIn
  simp only [Sem.run_bind, run_underlying Try.underlying61, Result.andThen_ok]
  simp [go_sem, hs, eqi, equ, eqb]
  by_cases h1 : k = k' <;> by_cases h2 : a = a' <;> by_cases h3 : o = o' <;> by_cases h4 : n = n' <;> by_cases h5 : b = b' <;> simp [*]
theorem eq_act (k a o n k' a' o' n' : Int) (b b' : Bool) (w : World) : (Op.equalIn 10000 61 (.agg #[.int .i64 k, .int .i64 a, .int .u64 o, .int .u64 n, .bool b]) (.agg #[.int .i64 k', .int .i64 a', .int .u64 o', .int .u64 n', .bool b'])).run Try.prog w = .ok (k == k' && (a == a' && (o == o' && (n == n' && b == b')))) w := eq_act_at 9998 k a o n k' a' o' n' b b' w
end Go.Proofs.Ytglkpajnhdamkaa.mem
