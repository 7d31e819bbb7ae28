/- A world for the witness, where nothing is laid. -/
import Derived.Test.YtipappihophijaaTkTab
namespace Go.Proofs.Ytipappihophijaa.law
open Go.ChangeShapes Go.WideShapes Go.ChangeAt Go.RowKit
theorem own : ownKnob Try.prog.godebug = none := by kernel_rfl
/-- The settled world. -/
noncomputable def laidWorld (os : Os) : World := World.holding Try.prog os ⟨#[], #[], []⟩
end Go.Proofs.Ytipappihophijaa.law
