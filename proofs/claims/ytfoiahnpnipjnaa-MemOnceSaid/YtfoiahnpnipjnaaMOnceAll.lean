/- The law MemOnce, at any list. -/
import Derived.Test.YtfoiahnpnipjnaaMOnce
namespace Go.Proofs.Ytfoiahnpnipjnaa.mem
open Go.RowKit
theorem once_any (w : World) (at' old : Int) (a : Option Addr) (ws : List Int) (N cap : Nat) (hN : ws.length = N) (a0 : 0 ≤ at') (a1 : at' < 256) (hw : Words w a ws) :
    Calls Try.prog 8 #[.int .u8 at', .int .u64 old, .slice a N cap] w fun e w' => e = .returned (.bool true) ∧ Below w.heap.size w w' := by
  by_cases hl : (N : Int) ≤ 60
  · exact once_short w at' old a ws N cap hN hl a0 a1 hw
  · exact once_long w at' old a N cap (by omega)
end Go.Proofs.Ytfoiahnpnipjnaa.mem
