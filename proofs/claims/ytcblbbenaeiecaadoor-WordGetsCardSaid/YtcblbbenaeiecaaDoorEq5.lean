/- Two rows of five numbers that are the same compare as equal. -/
import Derived.Test.YtcblbbenaeiecaaDoorRows5
import Derived.DeepKeys
namespace Go.Proofs.YtcblbbenaeiecaaDoor.word
open Go.RowKit
theorem eq_int (n : Nat) (x : Int) (w : World) : (Op.equalIn (n + 1) 3 (.int .i64 x) (.int .i64 x)).run Tryd.prog w = .ok true w := by
  simp [Op.equalIn, run_underlying Tryd.underlying3]
theorem eq_items (n : Nat) (a b c d e : Int) (w : World) : (Op.equalIn (n + 1 + 1) 31 (.agg #[.int .i64 a, .int .i64 b, .int .i64 c, .int .i64 d, .int .i64 e]) (.agg #[.int .i64 a, .int .i64 b, .int .i64 c, .int .i64 d, .int .i64 e])).run Tryd.prog w = .ok true w := by
  have hc : Tryd.prog.cellsOf 3 = 1 := by kernel_rfl
  obtain ⟨i, hi⟩ := info_of_underlying Tryd.underlying3
  rw [run_equalIn_array w (n + 1) _ _ Tryd.underlying31 hi]
  simp [List.range_succ, Op.eqItems, go_sem, hc, eq_int]
/-- A row of numbers is equal to itself, as the walk asks it. -/
theorem eq5 (a b c d e : Int) (w : World) : (Op.equalIn 10000 31 (.agg #[.int .i64 a, .int .i64 b, .int .i64 c, .int .i64 d, .int .i64 e]) (.agg #[.int .i64 a, .int .i64 b, .int .i64 c, .int .i64 d, .int .i64 e])).run Tryd.prog w = .ok true w :=
  eq_items 9998 a b c d e w
end Go.Proofs.YtcblbbenaeiecaaDoor.word
