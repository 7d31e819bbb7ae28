/- word.Get: the word of any bits; bits that are not its own are gone over. -/
import Derived.Test.YtcblbbenaeiecaaDoorPut
namespace Go.Proofs.YtcblbbenaeiecaaDoor.word
open Go.RowKit

set_option maxRecDepth 100000 in
set_option maxHeartbeats 1000000 in
theorem get_any (w : World) (x : Int) (x0 : 0 ≤ x) (x1 : x < 18446744073709551616) (ht : Table w) :
    Calls Tryd.prog 13 #[.int .u64 x] w fun e w' => e = .returned (.agg #[.int .i64 (x % 1024), .int .i64 (x / 1024 % 512), .bool (x / 1024 / 512 % 2 == 1), .int .i64 (x / 1024 / 512 / 2 % 32), .int .i64 (x / 1024 / 512 / 2 / 32 % 262144)]) ∧ Below w.heap.size w w' := by
  obtain ⟨t0, t1, t2, t3, t4, hz⟩ := ht
  have e0 : bits .and .u64 x 1023 = x % 1024 := and_mask 10 x x0 x1 (by omega)
  have e1 : bits .and .u64 (x / 1024) 511 = x / 1024 % 512 := and_mask 9 _ (by omega) (by omega) (by omega)
  have e2 : bits .and .u64 (x / 1024 / 512) 1 = x / 1024 / 512 % 2 := and_mask 1 _ (by omega) (by omega) (by omega)
  have e3 : bits .and .u64 (x / 1024 / 512 / 2) 31 = x / 1024 / 512 / 2 % 32 := and_mask 5 _ (by omega) (by omega) (by omega)
  have e4 : bits .and .u64 (x / 1024 / 512 / 2 / 32) 262143 = x / 1024 / 512 / 2 / 32 % 262144 := and_mask 18 _ (by omega) (by omega) (by omega)
  go_enter Tryd.func13, Tryd.ntmps13
  go_wp2
  go_rounds 6
  go_returns
  exact ⟨rfl, by go_grown⟩
end Go.Proofs.YtcblbbenaeiecaaDoor.word
