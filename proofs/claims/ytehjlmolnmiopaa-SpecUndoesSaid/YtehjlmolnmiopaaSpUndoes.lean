/- The law SpecUndoes answers true at any shape, any operations, any key. -/
import Derived.Test.YtehjlmolnmiopaaSpStack
import Derived.Test.YtehjlmolnmiopaaSpQueue
import Derived.Test.YtehjlmolnmiopaaSpSet1
import Derived.Test.YtehjlmolnmiopaaSpSet2
namespace Go.Proofs.Ytehjlmolnmiopaa.spec
open Go.RowKit task

set_option maxRecDepth 100000 in
set_option maxHeartbeats 1000000 in
theorem undoes_long (w : World) (y z : Int) (a : Option Addr) (N cap : Nat) (hl : 60 < (N : Int)) (y0 : 0 ≤ y) (y1 : y < 256) (z0 : 0 ≤ z) (z1 : z < 65536) :
    Calls Try.prog 6 #[.int .u8 y, .slice a N cap, .int .u16 z] w fun e w' => e = .returned (.bool true) ∧ Below w.heap.size w w' := by
  go_enter Try.func6, Try.ntmps6
  go_wp2_with (go_at_call 8; refine (awake_any _).mono ?_; rintro e w1 ⟨rfl, hb⟩; have HB := Lib.hid hb; clear hb)
  go_returns
  exact ⟨rfl, HB.out⟩
theorem undoes_any (w : World) (y z : Int) (a : Option Addr) (os : List OpV) (N cap : Nat) (hN : os.length = N) (hx : OpsAt w a os) (y0 : 0 ≤ y) (y1 : y < 256) (z0 : 0 ≤ z) (z1 : z < 65536) :
    Calls Try.prog 6 #[.int .u8 y, .slice a N cap, .int .u16 z] w fun e w' => e = .returned (.bool true) ∧ Below w.heap.size w w' := by
  by_cases hl : 60 < (N : Int)
  · exact undoes_long w y z a N cap hl y0 y1 z0 z1
  · have hs : y % 4 = 0 ∨ y % 4 = 1 ∨ y % 4 = 2 ∨ y % 4 = 3 := by omega
    rcases hs with hs | hs | hs | hs
    · exact undo_set1 w y z a os N cap hN (by omega) hx y0 y1 z0 z1 hs
    · exact undo_set2 w y z a os N cap hN (by omega) hx y0 y1 z0 z1 hs
    · exact undo_queue w y z a os N cap hN (by omega) hx y0 y1 z0 z1 hs
    · exact undo_stack w y z a os N cap hN (by omega) hx y0 y1 z0 z1 hs
end Go.Proofs.Ytehjlmolnmiopaa.spec
