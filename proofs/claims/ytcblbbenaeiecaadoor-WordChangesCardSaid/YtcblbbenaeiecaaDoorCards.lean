/-
  DERIVED. GIVEN WITH THE SEED: THE CARDS: each row of YtcblbbenaeiecaaDoorRows.lean that lists a variable, with what it lists TIED to the program's text (the seventh form; the later family's looks); each row that meets fmt, with fmt's text TOLD by the authors' own Lean function (tested against real Go, not proved from fmt's source: count such statements apart). THE CARD IS WHAT COUNTS. Prove the row's statement (the work); the ties are given (YtcblbbenaeiecaaDoorTie.lean); close each card by the builder's one call (the guide's Derived/Test/ToyasCard.lean, 'card_holds'). Laid BY PROGRAM, IN A SANDBOX (cutbox-door.mjs). By AI agents, Wed Nov 11 2026. No macro, syntax, notation, axiom, sorry.
-/
import Derived.Test.YtcblbbenaeiecaaDoorRows
import GoSem.ClaimSeven
namespace Go.Proofs.YtcblbbenaeiecaaDoor
namespace Rows

/-- THE TIED CARD OF 'sherpalaw01.WordPuts'. -/
def wordPutsCard : Claim7 := { stood := { row := wordPutsRow, standIns := [], harness := (true, "8be7bf84f465c228a7a2cff35516b9892ae2bcac45447d429933982341355268"), looks := false }, kinds := [], alts := [], laidByText := true, laidKinds := [.data], laidTests := true, laidLooks := .later }
def WordPutsCardSaid : Prop := Claim7.holds Tryd.pinned (.plain (OpenSpec.ofChange wordPutsSpec)) wordPutsCard

/-- THE TIED CARD OF 'sherpalaw01.WordGets'. -/
def wordGetsCard : Claim7 := { stood := { row := wordGetsRow, standIns := [], harness := (true, "8be7bf84f465c228a7a2cff35516b9892ae2bcac45447d429933982341355268"), looks := false }, kinds := [], alts := [], laidByText := true, laidKinds := [.data], laidTests := true, laidLooks := .later }
def WordGetsCardSaid : Prop := Claim7.holds Tryd.pinned (.plain (OpenSpec.ofChange wordGetsSpec)) wordGetsCard

/-- THE TIED CARD OF 'sherpalaw01.WordChanges'. -/
def wordChangesCard : Claim7 := { stood := { row := wordChangesRow, standIns := [], harness := (true, "8be7bf84f465c228a7a2cff35516b9892ae2bcac45447d429933982341355268"), looks := false }, kinds := [], alts := [], laidByText := true, laidKinds := [.data], laidTests := true, laidLooks := .later }
def WordChangesCardSaid : Prop := Claim7.holds Tryd.pinned (.plain (OpenSpec.ofChange wordChangesSpec)) wordChangesCard

/-- THE TIED CARD OF 'sherpalaw01.WordUnlike'. -/
def wordUnlikeCard : Claim7 := { stood := { row := wordUnlikeRow, standIns := [], harness := (true, "8be7bf84f465c228a7a2cff35516b9892ae2bcac45447d429933982341355268"), looks := false }, kinds := [], alts := [], laidByText := true, laidKinds := [.data], laidTests := true, laidLooks := .later }
def WordUnlikeCardSaid : Prop := Claim7.holds Tryd.pinned (.plain (OpenSpec.ofChange wordUnlikeSpec)) wordUnlikeCard

/-- THE TIED CARD OF 'sherpalaw01.WordGoes'. -/
def wordGoesCard : Claim7 := { stood := { row := wordGoesRow, standIns := [], harness := (true, "8be7bf84f465c228a7a2cff35516b9892ae2bcac45447d429933982341355268"), looks := false }, kinds := [], alts := [], laidByText := true, laidKinds := [.data], laidTests := true, laidLooks := .later }
def WordGoesCardSaid : Prop := Claim7.holds Tryd.pinned (.plain (OpenSpec.ofChange wordGoesSpec)) wordGoesCard

/-- THE SECOND FORM's CARD OF 'sherpalaw01.WordPuts'. -/
def wordPutsUptoCard : Claim7 := { stood := { row := wordPutsUptoRow, standIns := [], harness := (true, "8be7bf84f465c228a7a2cff35516b9892ae2bcac45447d429933982341355268"), looks := false }, kinds := [], alts := [], laidByText := true, laidKinds := [.data], laidTests := true, laidLooks := .later }
def WordPutsUptoCardSaid : Prop := Claim7.holds Tryd.pinned (.plain (OpenSpec.upto wordPutsSpec)) wordPutsUptoCard

/-- THE SECOND FORM's CARD OF 'sherpalaw01.WordGets'. -/
def wordGetsUptoCard : Claim7 := { stood := { row := wordGetsUptoRow, standIns := [], harness := (true, "8be7bf84f465c228a7a2cff35516b9892ae2bcac45447d429933982341355268"), looks := false }, kinds := [], alts := [], laidByText := true, laidKinds := [.data], laidTests := true, laidLooks := .later }
def WordGetsUptoCardSaid : Prop := Claim7.holds Tryd.pinned (.plain (OpenSpec.upto wordGetsSpec)) wordGetsUptoCard

/-- THE SECOND FORM's CARD OF 'sherpalaw01.WordChanges'. -/
def wordChangesUptoCard : Claim7 := { stood := { row := wordChangesUptoRow, standIns := [], harness := (true, "8be7bf84f465c228a7a2cff35516b9892ae2bcac45447d429933982341355268"), looks := false }, kinds := [], alts := [], laidByText := true, laidKinds := [.data], laidTests := true, laidLooks := .later }
def WordChangesUptoCardSaid : Prop := Claim7.holds Tryd.pinned (.plain (OpenSpec.upto wordChangesSpec)) wordChangesUptoCard

/-- THE SECOND FORM's CARD OF 'sherpalaw01.WordUnlike'. -/
def wordUnlikeUptoCard : Claim7 := { stood := { row := wordUnlikeUptoRow, standIns := [], harness := (true, "8be7bf84f465c228a7a2cff35516b9892ae2bcac45447d429933982341355268"), looks := false }, kinds := [], alts := [], laidByText := true, laidKinds := [.data], laidTests := true, laidLooks := .later }
def WordUnlikeUptoCardSaid : Prop := Claim7.holds Tryd.pinned (.plain (OpenSpec.upto wordUnlikeSpec)) wordUnlikeUptoCard

/-- THE SECOND FORM's CARD OF 'sherpalaw01.WordGoes'. -/
def wordGoesUptoCard : Claim7 := { stood := { row := wordGoesUptoRow, standIns := [], harness := (true, "8be7bf84f465c228a7a2cff35516b9892ae2bcac45447d429933982341355268"), looks := false }, kinds := [], alts := [], laidByText := true, laidKinds := [.data], laidTests := true, laidLooks := .later }
def WordGoesUptoCardSaid : Prop := Claim7.holds Tryd.pinned (.plain (OpenSpec.upto wordGoesSpec)) wordGoesUptoCard
end Rows
end Go.Proofs.YtcblbbenaeiecaaDoor
