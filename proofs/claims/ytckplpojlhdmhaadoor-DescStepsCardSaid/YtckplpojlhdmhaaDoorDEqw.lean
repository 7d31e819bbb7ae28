/- Two descriptors compare as equal just if all their fields are the same; so do two answers. -/
import Derived.Test.YtckplpojlhdmhaaDoorDRows
import Derived.DeepKeys
namespace Go.Proofs.YtckplpojlhdmhaaDoor.desc
open Go.RowKit
theorem eqi (n : Nat) (x y : Int) (w : World) : (Op.equalIn (n + 1) 3 (.int .i64 x) (.int .i64 y)).run Tryd.prog w = .ok (x == y) w := by
  simp [Op.equalIn, run_underlying Tryd.underlying3]
theorem eqe (n : Nat) (x y : Int) (w : World) : (Op.equalIn (n + 1) 26 (.int .i64 x) (.int .i64 y)).run Tryd.prog w = .ok (x == y) w := by
  simp [Op.equalIn, run_underlying Tryd.underlying26]
theorem eqb (n : Nat) (x y : Bool) (w : World) : (Op.equalIn (n + 1) 4 (.bool x) (.bool y)).run Tryd.prog w = .ok (x == y) w := by
  simp [Op.equalIn, run_underlying Tryd.underlying4]
theorem eq_desc_at (d : Nat) (t a v n s x t' a' v' n' s' x' : Int) (m m' : Bool) (w : World) : (Op.equalIn (d + 1 + 1) 23 (.agg #[.int .i64 t, .int .i64 a, .int .i64 v, .int .i64 n, .bool m, .int .i64 s, .int .i64 x]) (.agg #[.int .i64 t', .int .i64 a', .int .i64 v', .int .i64 n', .bool m', .int .i64 s', .int .i64 x'])).run Tryd.prog w = .ok (t == t' && (a == a' && (v == v' && (n == n' && (m == m' && (s == s' && x == x')))))) w := by
  have hs : Tryd.prog.stoodInHeld 23 = false := by kernel_rfl
  unfold Op.equalIn
  simp only [Sem.run_bind, run_underlying Tryd.underlying23, Result.andThen_ok]
  simp [go_sem, hs, eqi, eqb]
  by_cases h1 : t = t' <;> by_cases h2 : a = a' <;> by_cases h3 : v = v' <;> by_cases h4 : n = n' <;> by_cases h5 : m = m' <;> by_cases h6 : s = s' <;> by_cases h7 : x = x' <;> simp [*]
/-- As the walk asks it. -/
theorem eq_desc (t a v n s x t' a' v' n' s' x' : Int) (m m' : Bool) (w : World) : (Op.equalIn 10000 23 (.agg #[.int .i64 t, .int .i64 a, .int .i64 v, .int .i64 n, .bool m, .int .i64 s, .int .i64 x]) (.agg #[.int .i64 t', .int .i64 a', .int .i64 v', .int .i64 n', .bool m', .int .i64 s', .int .i64 x'])).run Tryd.prog w = .ok (t == t' && (a == a' && (v == v' && (n == n' && (m == m' && (s == s' && x == x')))))) w :=
  eq_desc_at 9998 t a v n s x t' a' v' n' s' x' m m' w
theorem eq_res_at (d : Nat) (c z c' z' : Int) (k k' : Bool) (w : World) : (Op.equalIn (d + 1 + 1) 34 (.agg #[.int .i64 c, .bool k, .int .i64 z]) (.agg #[.int .i64 c', .bool k', .int .i64 z'])).run Tryd.prog w = .ok (c == c' && (k == k' && z == z')) w := by
  have hs : Tryd.prog.stoodInHeld 34 = false := by kernel_rfl
  unfold Op.equalIn
  simp only [Sem.run_bind, run_underlying Tryd.underlying34, Result.andThen_ok]
  simp [go_sem, hs, eqi, eqe, eqb]
  by_cases h1 : c = c' <;> by_cases h2 : k = k' <;> by_cases h3 : z = z' <;> simp [*]
theorem eq_res (c z c' z' : Int) (k k' : Bool) (w : World) : (Op.equalIn 10000 34 (.agg #[.int .i64 c, .bool k, .int .i64 z]) (.agg #[.int .i64 c', .bool k', .int .i64 z'])).run Tryd.prog w = .ok (c == c' && (k == k' && z == z')) w :=
  eq_res_at 9998 c z c' z' k k' w
end Go.Proofs.YtckplpojlhdmhaaDoor.desc
