/- The law TaskGoes answers true at any task and any number of a kind. -/
import Derived.Test.YtipappihophijaaDoorTkGoesS1
import Derived.Test.YtipappihophijaaDoorTkGoesS2
import Derived.Test.YtipappihophijaaDoorTkGoesS3
import Derived.Test.YtipappihophijaaDoorTkGoesS4
namespace Go.Proofs.YtipappihophijaaDoor.task
open Go.RowKit

set_option maxHeartbeats 1000000 in
theorem goes_any (w : World) (s k y n : Int) (ht : Names w) :
    Calls Tryd.prog 3 #[.agg #[.int .i64 s, .int .i64 k, .int .i64 y], .int .i64 n] w fun e w' => e = .returned (.bool true) ∧ Below w.heap.size w w' := by
  cases hr : rightB s k y
  · exact goes_wrong w s k y n hr ht
  · have hi := (right_iff s k y).1 hr
    have y0 : 0 ≤ y := by omega
    have y1 : y ≤ 999 := by omega
    have hc : (s = 1 ∧ k = 1) ∨ (s = 1 ∧ k = 2) ∨ (s = 1 ∧ k = 3) ∨ (s = 2 ∧ k = 1) ∨ (s = 2 ∧ k = 2) ∨ (s = 2 ∧ k = 3) ∨ (s = 3 ∧ k = 4) ∨ (s = 4 ∧ k = 4) ∨ (s = 3 ∧ k = 5 ∧ y = 0) ∨ (s = 4 ∧ k = 5 ∧ y = 0) := by omega
    rcases hc with ⟨rfl, rfl⟩ | ⟨rfl, rfl⟩ | ⟨rfl, rfl⟩ | ⟨rfl, rfl⟩ | ⟨rfl, rfl⟩ | ⟨rfl, rfl⟩ | ⟨rfl, rfl⟩ | ⟨rfl, rfl⟩ | ⟨rfl, rfl, rfl⟩ | ⟨rfl, rfl, rfl⟩
    · exact goes_1_1 w y y0 y1 n ht
    · exact goes_1_2 w y y0 y1 n ht
    · exact goes_1_3 w y y0 y1 n ht
    · exact goes_2_1 w y y0 y1 n ht
    · exact goes_2_2 w y y0 y1 n ht
    · exact goes_2_3 w y y0 y1 n ht
    · exact goes_3_4 w y y0 y1 n ht
    · exact goes_4_4 w y y0 y1 n ht
    · exact goes_3_5 w n ht
    · exact goes_4_5 w n ht
end Go.Proofs.YtipappihophijaaDoor.task
