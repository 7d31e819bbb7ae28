/- The law TaskGoes at a task that isn't right. -/
import Derived.Test.YtipappihophijaaDoorTkAwake
import Derived.Test.YtipappihophijaaDoorTkName
import Derived.Deep.DeepCutAuto
import Derived.Deep.CutBlock
namespace Go.Proofs.YtipappihophijaaDoor.task
open Go.RowKit

set_option maxRecDepth 100000 in
set_option maxHeartbeats 2000000 in
theorem goes_wrong (w : World) (s k y n : Int) (hr : rightB s k y = false) (ht : Names w) :
    Calls Tryd.prog 3 #[.agg #[.int .i64 s, .int .i64 k, .int .i64 y], .int .i64 n] w fun e w' => e = .returned (.bool true) ∧ Below w.heap.size w w' := by
  have A0 := Lib.hid (One.new w s k y 25)
  have T := Lib.hid ht
  have HR := Lib.hid hr
  clear hr ht
  go_enter Tryd.func3, Tryd.ntmps3
  go_upto_block 0 with (go_at_call 4; refine (awake_any _).mono ?_; rintro e w1 ⟨rfl, hb1⟩; have A1 := Lib.hid (A0.out.next hb1); clear hb1; obtain ⟨c0, c1, c2, -, -⟩ := id A1.out)
  go_cut [5] (fun v wx => v = .string (nameOf n) ∧ wx = w1)
  case first =>
    go_wp2_with fail
    all_goals
      go_meet
      refine ⟨?_, rfl⟩
      first
        | exact name1 (by assumption)
        | exact name2 (by assumption)
        | exact name3 (by assumption)
        | exact name4 (by assumption)
        | exact name5 (by assumption)
        | exact name0 (by assumption) (by assumption) (by assumption) (by assumption) (by assumption)
  case rest =>
    obtain ⟨rfl, rfl⟩ := hcut
    go_wp2_with (first
      | (go_at_call 5; refine (name_any _ n (T.out.below A1.out.below)).mono ?_; rintro e w2 ⟨rfl, hb2⟩; have A2 := Lib.hid (A1.out.next hb2); clear hb2; obtain ⟨d0, d1, d2, -, -⟩ := id A2.out)
      | (go_at_call 6; refine (may_any _ s k y).mono ?_; rw [HR.out]; rintro e w3 ⟨rfl, hb3⟩; have A3 := Lib.hid (A2.out.next hb3); clear hb3))
    go_returns
    exact ⟨rfl, A3.out.below⟩
end Go.Proofs.YtipappihophijaaDoor.task
