/- One machine is run to its end, or as long as there are steps left. -/
import Derived.Test.YtglkpajnhdamkaaMStep
namespace Go.Proofs.Ytglkpajnhdamkaa.mem
open Go.RowKit

theorem recover_idle (w : World) :
    CallsD Try.prog 42 #[] .returning w fun e u' w' => e = .returned (.tuple #[]) ∧ u' = .returning ∧ w' = w := by
  refine callsD_of_wpS Try.func42 rfl fun c₀ cs hu => ?_
  apply wpS_region
  simp [wpOpsS, go_sem, recoverD, hu, Try.ntmps42]
  cases c₀
  simp_all [bodyPostS, results, Try.results42]

end Go.Proofs.Ytglkpajnhdamkaa.mem
