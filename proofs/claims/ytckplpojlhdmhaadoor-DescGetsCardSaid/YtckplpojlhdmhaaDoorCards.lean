/-
  DERIVED. GIVEN WITH THE SEED: THE CARDS: each row of YtckplpojlhdmhaaDoorRows.lean that lists a variable, with what it lists TIED to the program's text (the seventh form; the later family's looks); each row that meets fmt, with fmt's text TOLD by the authors' own Lean function (tested against real Go, not proved from fmt's source: count such statements apart). THE CARD IS WHAT COUNTS. Prove the row's statement (the work); the ties are given (YtckplpojlhdmhaaDoorTie.lean); close each card by the builder's one call (the guide's Derived/Test/ToyasCard.lean, 'card_holds'). Laid BY PROGRAM, IN A SANDBOX (cutbox-door.mjs). By AI agents, Wed Nov 11 2026. No macro, syntax, notation, axiom, sorry.
-/
import Derived.Test.YtckplpojlhdmhaaDoorRows
import GoSem.ClaimSeven
namespace Go.Proofs.YtckplpojlhdmhaaDoor
namespace Rows

/-- THE TIED CARD OF 'sherpalaw02.DescPuts'. -/
def descPutsCard : Claim7 := { stood := { row := descPutsRow, standIns := [], harness := (true, "690e0593c644a8a7d4dcb5c78ff67fe9cec3ae3f9e1447a0f345182ed262e4ce"), looks := false }, kinds := [], alts := [], laidByText := true, laidKinds := [.data], laidTests := true, laidLooks := .later }
def DescPutsCardSaid : Prop := Claim7.holds Tryd.pinned (.plain (OpenSpec.ofChange descPutsSpec)) descPutsCard

/-- THE TIED CARD OF 'sherpalaw02.DescGets'. -/
def descGetsCard : Claim7 := { stood := { row := descGetsRow, standIns := [], harness := (true, "690e0593c644a8a7d4dcb5c78ff67fe9cec3ae3f9e1447a0f345182ed262e4ce"), looks := false }, kinds := [], alts := [], laidByText := true, laidKinds := [.data], laidTests := true, laidLooks := .later }
def DescGetsCardSaid : Prop := Claim7.holds Tryd.pinned (.plain (OpenSpec.ofChange descGetsSpec)) descGetsCard

/-- THE TIED CARD OF 'sherpalaw02.DescSteps'. -/
def descStepsCard : Claim7 := { stood := { row := descStepsRow, standIns := [], harness := (true, "690e0593c644a8a7d4dcb5c78ff67fe9cec3ae3f9e1447a0f345182ed262e4ce"), looks := false }, kinds := [], alts := [], laidByText := true, laidKinds := [.data], laidTests := true, laidLooks := .later }
def DescStepsCardSaid : Prop := Claim7.holds Tryd.pinned (.plain (OpenSpec.ofChange descStepsSpec)) descStepsCard

/-- THE TIED CARD OF 'sherpalaw02.DescUnlike'. -/
def descUnlikeCard : Claim7 := { stood := { row := descUnlikeRow, standIns := [], harness := (true, "690e0593c644a8a7d4dcb5c78ff67fe9cec3ae3f9e1447a0f345182ed262e4ce"), looks := false }, kinds := [], alts := [], laidByText := true, laidKinds := [.data], laidTests := true, laidLooks := .later }
def DescUnlikeCardSaid : Prop := Claim7.holds Tryd.pinned (.plain (OpenSpec.ofChange descUnlikeSpec)) descUnlikeCard

/-- THE TIED CARD OF 'sherpalaw02.DescAttempts'. -/
def descAttemptsCard : Claim7 := { stood := { row := descAttemptsRow, standIns := [], harness := (true, "690e0593c644a8a7d4dcb5c78ff67fe9cec3ae3f9e1447a0f345182ed262e4ce"), looks := false }, kinds := [], alts := [], laidByText := true, laidKinds := [.data], laidTests := true, laidLooks := .later }
def DescAttemptsCardSaid : Prop := Claim7.holds Tryd.pinned (.plain (OpenSpec.ofChange descAttemptsSpec)) descAttemptsCard

/-- THE SECOND FORM's CARD OF 'sherpalaw02.DescPuts'. -/
def descPutsUptoCard : Claim7 := { stood := { row := descPutsUptoRow, standIns := [], harness := (true, "690e0593c644a8a7d4dcb5c78ff67fe9cec3ae3f9e1447a0f345182ed262e4ce"), looks := false }, kinds := [], alts := [], laidByText := true, laidKinds := [.data], laidTests := true, laidLooks := .later }
def DescPutsUptoCardSaid : Prop := Claim7.holds Tryd.pinned (.plain (OpenSpec.upto descPutsSpec)) descPutsUptoCard

/-- THE SECOND FORM's CARD OF 'sherpalaw02.DescGets'. -/
def descGetsUptoCard : Claim7 := { stood := { row := descGetsUptoRow, standIns := [], harness := (true, "690e0593c644a8a7d4dcb5c78ff67fe9cec3ae3f9e1447a0f345182ed262e4ce"), looks := false }, kinds := [], alts := [], laidByText := true, laidKinds := [.data], laidTests := true, laidLooks := .later }
def DescGetsUptoCardSaid : Prop := Claim7.holds Tryd.pinned (.plain (OpenSpec.upto descGetsSpec)) descGetsUptoCard

/-- THE SECOND FORM's CARD OF 'sherpalaw02.DescSteps'. -/
def descStepsUptoCard : Claim7 := { stood := { row := descStepsUptoRow, standIns := [], harness := (true, "690e0593c644a8a7d4dcb5c78ff67fe9cec3ae3f9e1447a0f345182ed262e4ce"), looks := false }, kinds := [], alts := [], laidByText := true, laidKinds := [.data], laidTests := true, laidLooks := .later }
def DescStepsUptoCardSaid : Prop := Claim7.holds Tryd.pinned (.plain (OpenSpec.upto descStepsSpec)) descStepsUptoCard

/-- THE SECOND FORM's CARD OF 'sherpalaw02.DescUnlike'. -/
def descUnlikeUptoCard : Claim7 := { stood := { row := descUnlikeUptoRow, standIns := [], harness := (true, "690e0593c644a8a7d4dcb5c78ff67fe9cec3ae3f9e1447a0f345182ed262e4ce"), looks := false }, kinds := [], alts := [], laidByText := true, laidKinds := [.data], laidTests := true, laidLooks := .later }
def DescUnlikeUptoCardSaid : Prop := Claim7.holds Tryd.pinned (.plain (OpenSpec.upto descUnlikeSpec)) descUnlikeUptoCard

/-- THE SECOND FORM's CARD OF 'sherpalaw02.DescAttempts'. -/
def descAttemptsUptoCard : Claim7 := { stood := { row := descAttemptsUptoRow, standIns := [], harness := (true, "690e0593c644a8a7d4dcb5c78ff67fe9cec3ae3f9e1447a0f345182ed262e4ce"), looks := false }, kinds := [], alts := [], laidByText := true, laidKinds := [.data], laidTests := true, laidLooks := .later }
def DescAttemptsUptoCardSaid : Prop := Claim7.holds Tryd.pinned (.plain (OpenSpec.upto descAttemptsSpec)) descAttemptsUptoCard
end Rows
end Go.Proofs.YtckplpojlhdmhaaDoor
