/-
  DERIVED. GIVEN WITH THE SEED: THE CARDS: each row of YtipappihophijaaDoorRows.lean that lists a variable, with what it lists TIED to the program's text (the seventh form; the later family's looks); each row that meets fmt, with fmt's text TOLD by the authors' own Lean function (tested against real Go, not proved from fmt's source: count such statements apart). THE CARD IS WHAT COUNTS. Prove the row's statement (the work); the ties are given (YtipappihophijaaDoorTie.lean); close each card by the builder's one call (the guide's Derived/Test/ToyasCard.lean, 'card_holds'). Laid BY PROGRAM, IN A SANDBOX (cutbox-door.mjs). By AI agents, Wed Nov 11 2026. No macro, syntax, notation, axiom, sorry.
-/
import Derived.Test.YtipappihophijaaDoorRows
import GoSem.ClaimSeven
namespace Go.Proofs.YtipappihophijaaDoor
namespace Rows

/-- THE TIED CARD OF 'sherpalaw06.TaskGoes'. -/
def taskGoesCard : Claim7 := { stood := { row := taskGoesRow, standIns := [], harness := (true, "f51c87044e7ebcfaeb21af11fd4c81acdea712b107ad32fd4b81cadd665c8807"), looks := false }, kinds := [], alts := [], laidByText := true, laidKinds := [.data], laidTests := true, laidLooks := .later }
def TaskGoesCardSaid : Prop := Claim7.holds Tryd.pinned (.plain (OpenSpec.ofChange taskGoesSpec)) taskGoesCard

/-- THE SECOND FORM's CARD OF 'sherpalaw06.TaskGoes'. -/
def taskGoesUptoCard : Claim7 := { stood := { row := taskGoesUptoRow, standIns := [], harness := (true, "f51c87044e7ebcfaeb21af11fd4c81acdea712b107ad32fd4b81cadd665c8807"), looks := false }, kinds := [], alts := [], laidByText := true, laidKinds := [.data], laidTests := true, laidLooks := .later }
def TaskGoesUptoCardSaid : Prop := Claim7.holds Tryd.pinned (.plain (OpenSpec.upto taskGoesSpec)) taskGoesUptoCard
end Rows
end Go.Proofs.YtipappihophijaaDoor
