/- Two words compare as equal just if all their fields are the same. -/
import Derived.Test.YtcblbbenaeiecaaDoorRows5
import Derived.DeepKeys
namespace Go.Proofs.YtcblbbenaeiecaaDoor.word
open Go.RowKit
theorem eqi (n : Nat) (x y : Int) (w : World) : (Op.equalIn (n + 1) 3 (.int .i64 x) (.int .i64 y)).run Tryd.prog w = .ok (x == y) w := by
  simp [Op.equalIn, run_underlying Tryd.underlying3]
theorem eqb (n : Nat) (x y : Bool) (w : World) : (Op.equalIn (n + 1) 4 (.bool x) (.bool y)).run Tryd.prog w = .ok (x == y) w := by
  simp [Op.equalIn, run_underlying Tryd.underlying4]
theorem eq_word_at (d : Nat) (k n c v k' n' c' v' : Int) (m m' : Bool) (w : World) : (Op.equalIn (d + 1 + 1) 23 (.agg #[.int .i64 k, .int .i64 n, .bool m, .int .i64 c, .int .i64 v]) (.agg #[.int .i64 k', .int .i64 n', .bool m', .int .i64 c', .int .i64 v'])).run Tryd.prog w = .ok (k == k' && (n == n' && (m == m' && (c == c' && v == v')))) w := by
  have hs : Tryd.prog.stoodInHeld 23 = false := by kernel_rfl
  unfold Op.equalIn
  simp only [Sem.run_bind, run_underlying Tryd.underlying23, Result.andThen_ok]
  simp [go_sem, hs, eqi, eqb]
  by_cases h1 : k = k' <;> by_cases h2 : n = n' <;> by_cases h3 : m = m' <;> by_cases h4 : c = c' <;> by_cases h5 : v = v' <;> simp [*]
/-- As the walk asks it. -/
theorem eq_word (k n c v k' n' c' v' : Int) (m m' : Bool) (w : World) : (Op.equalIn 10000 23 (.agg #[.int .i64 k, .int .i64 n, .bool m, .int .i64 c, .int .i64 v]) (.agg #[.int .i64 k', .int .i64 n', .bool m', .int .i64 c', .int .i64 v'])).run Tryd.prog w = .ok (k == k' && (n == n' && (m == m' && (c == c' && v == v')))) w :=
  eq_word_at 9998 k n c v k' n' c' v' m m' w
end Go.Proofs.YtcblbbenaeiecaaDoor.word
