/-
  NARROWER THAN 'FOR EVERY INPUT', by the rows' own cells (each row's printed sentence says how): WordPuts: laid · WordGets: laid · WordChanges: laid · WordUnlike: laid · WordGoes: laid.
  DERIVED. THE GIVEN ROWS OF THIS SEAT. 5 by the template 'for every input the law returns true; each argument reads behind the call as it read before'; 0 by the template 'total and deterministic' (their statements: YtcblbbenaeiecaaDoorTotals.lean).
  GIVEN WITH THE SEED: the statements are not yours to turn. If you find one false, say at which input.
  Laid BY PROGRAM, IN A SANDBOX (cutbox-rows.mjs): the forced cells as the released guide's own fill.sh prints them over the translation e1357769fac7c5f9… (all of the seat's roots in one cut). By AI agents, Wed Nov 11 2026. No macro, syntax, notation, axiom, sorry.
-/
import Derived.Test.YtcblbbenaeiecaaDoorChecked
import GoSem.Claim
import GoSem.ClaimJoined
import GoSem.ClaimMapViews
import Derived.JoinedTies
import Derived.KernelRfl
namespace Go.Proofs.YtcblbbenaeiecaaDoor
/- THE CELL 'sum', in the pinned program and in every row, IS THE sha256 OF THE DUMP (.gsa) THAT YtcblbbenaeiecaaDoorProg.lean LOADS. Nothing in Lean hashes anything: it is a label: what it is worth is what the hold of that sum in a sandbox is worth. -/
noncomputable def Tryd.pinned : Pinned := { name := "ytcblbbenaeiecaadoor", sum := "e1357769fac7c5f9da8b131fbf4f40acd5153dc37cebd404067e27e2df9ff1f5", checked := Tryd.checked }
namespace Rows
def none {H : Type} : Left H := { results := [], args := [] }

/- WHAT THE LISTED PACKAGE-LEVEL VARIABLES READ AS WHEN THE CALL BEGINS. Each datum BY PROGRAM (the guide's laid-datum.mjs) off the statement by which the dump's own 'gosem.cut.vars' lays the variable. In a bare row this is a premise. The card (YtcblbbenaeiecaaDoorCards.lean) ties it to the program's text. -/
def laid_sherpa_word_fieldWidths {H : Type} : DataW H := .agg [.lit (.int .i64 10), .lit (.int .i64 9), .lit (.int .i64 1), .lit (.int .i64 5), .lit (.int .i64 18)]

/-- 'sherpalaw01.WordPuts': WHATEVER THE INPUT: true; the input reads as it did. -/
def wordPutsSpec : ChangeSpec := { name := "wordPuts", fn := fun _ => fun
  | [d] => { results := [.lit (.bool true)], args := [d] }
  | _ => none }
def wordPutsRow : OpenClaim := { program := "ytcblbbenaeiecaadoor", sum := "e1357769fac7c5f9da8b131fbf4f40acd5153dc37cebd404067e27e2df9ff1f5", func := "sherpa/sherpalaw01.WordPuts", spec := "wordPuts", named := ["sherpa/word.fieldWidths"], apart := false, laid := [("sherpa/word.fieldWidths", laid_sherpa_word_fieldWidths)] }
def WordPutsSaid : Prop := wordPutsRow.holds Tryd.pinned (OpenSpec.ofChange wordPutsSpec)

/-- ITS FALSE NEIGHBOUR: 'it returns false'. Refute it at one input. -/
def wordPutsWrong : ChangeSpec := { name := "wordPuts", fn := fun _ => fun
  | [d] => { results := [.lit (.bool false)], args := [d] }
  | _ => none }
def WordPutsWrongFalsely : Prop := wordPutsRow.holds Tryd.pinned (OpenSpec.ofChange wordPutsWrong)

/-- 'sherpalaw01.WordGets': WHATEVER THE INPUT: true; the input reads as it did. -/
def wordGetsSpec : ChangeSpec := { name := "wordGets", fn := fun _ => fun
  | [d] => { results := [.lit (.bool true)], args := [d] }
  | _ => none }
def wordGetsRow : OpenClaim := { program := "ytcblbbenaeiecaadoor", sum := "e1357769fac7c5f9da8b131fbf4f40acd5153dc37cebd404067e27e2df9ff1f5", func := "sherpa/sherpalaw01.WordGets", spec := "wordGets", named := ["sherpa/word.fieldWidths"], apart := false, laid := [("sherpa/word.fieldWidths", laid_sherpa_word_fieldWidths)] }
def WordGetsSaid : Prop := wordGetsRow.holds Tryd.pinned (OpenSpec.ofChange wordGetsSpec)

/-- ITS FALSE NEIGHBOUR: 'it returns false'. Refute it at one input. -/
def wordGetsWrong : ChangeSpec := { name := "wordGets", fn := fun _ => fun
  | [d] => { results := [.lit (.bool false)], args := [d] }
  | _ => none }
def WordGetsWrongFalsely : Prop := wordGetsRow.holds Tryd.pinned (OpenSpec.ofChange wordGetsWrong)

/-- 'sherpalaw01.WordChanges': WHATEVER THE INPUT: true; the input reads as it did. -/
def wordChangesSpec : ChangeSpec := { name := "wordChanges", fn := fun _ => fun
  | [d1, d2, d3] => { results := [.lit (.bool true)], args := [d1, d2, d3] }
  | _ => none }
def wordChangesRow : OpenClaim := { program := "ytcblbbenaeiecaadoor", sum := "e1357769fac7c5f9da8b131fbf4f40acd5153dc37cebd404067e27e2df9ff1f5", func := "sherpa/sherpalaw01.WordChanges", spec := "wordChanges", named := ["sherpa/word.fieldWidths"], apart := false, laid := [("sherpa/word.fieldWidths", laid_sherpa_word_fieldWidths)] }
def WordChangesSaid : Prop := wordChangesRow.holds Tryd.pinned (OpenSpec.ofChange wordChangesSpec)

/-- ITS FALSE NEIGHBOUR: 'it returns false'. Refute it at one input. -/
def wordChangesWrong : ChangeSpec := { name := "wordChanges", fn := fun _ => fun
  | [d1, d2, d3] => { results := [.lit (.bool false)], args := [d1, d2, d3] }
  | _ => none }
def WordChangesWrongFalsely : Prop := wordChangesRow.holds Tryd.pinned (OpenSpec.ofChange wordChangesWrong)

/-- 'sherpalaw01.WordUnlike': WHATEVER THE INPUT: true; the input reads as it did. -/
def wordUnlikeSpec : ChangeSpec := { name := "wordUnlike", fn := fun _ => fun
  | [d1, d2] => { results := [.lit (.bool true)], args := [d1, d2] }
  | _ => none }
def wordUnlikeRow : OpenClaim := { program := "ytcblbbenaeiecaadoor", sum := "e1357769fac7c5f9da8b131fbf4f40acd5153dc37cebd404067e27e2df9ff1f5", func := "sherpa/sherpalaw01.WordUnlike", spec := "wordUnlike", named := ["sherpa/word.fieldWidths"], apart := false, laid := [("sherpa/word.fieldWidths", laid_sherpa_word_fieldWidths)] }
def WordUnlikeSaid : Prop := wordUnlikeRow.holds Tryd.pinned (OpenSpec.ofChange wordUnlikeSpec)

/-- ITS FALSE NEIGHBOUR: 'it returns false'. Refute it at one input. -/
def wordUnlikeWrong : ChangeSpec := { name := "wordUnlike", fn := fun _ => fun
  | [d1, d2] => { results := [.lit (.bool false)], args := [d1, d2] }
  | _ => none }
def WordUnlikeWrongFalsely : Prop := wordUnlikeRow.holds Tryd.pinned (OpenSpec.ofChange wordUnlikeWrong)

/-- 'sherpalaw01.WordGoes': WHATEVER THE INPUT: true; the input reads as it did. -/
def wordGoesSpec : ChangeSpec := { name := "wordGoes", fn := fun _ => fun
  | [d1, d2] => { results := [.lit (.bool true)], args := [d1, d2] }
  | _ => none }
def wordGoesRow : OpenClaim := { program := "ytcblbbenaeiecaadoor", sum := "e1357769fac7c5f9da8b131fbf4f40acd5153dc37cebd404067e27e2df9ff1f5", func := "sherpa/sherpalaw01.WordGoes", spec := "wordGoes", named := ["sherpa/word.fieldWidths"], apart := false, laid := [("sherpa/word.fieldWidths", laid_sherpa_word_fieldWidths)] }
def WordGoesSaid : Prop := wordGoesRow.holds Tryd.pinned (OpenSpec.ofChange wordGoesSpec)

/-- ITS FALSE NEIGHBOUR: 'it returns false'. Refute it at one input. -/
def wordGoesWrong : ChangeSpec := { name := "wordGoes", fn := fun _ => fun
  | [d1, d2] => { results := [.lit (.bool false)], args := [d1, d2] }
  | _ => none }
def WordGoesWrongFalsely : Prop := wordGoesRow.holds Tryd.pinned (OpenSpec.ofChange wordGoesWrong)

/- THE SECOND FORM. 'bulk': how many values and letters a reading holds, each counted each time it is reached (what is shared counts as often as it is met; a slice's spare places count too). A statement '..UptoSaid' is the law's where the arguments, and the package variables that the reading takes, are together of bulk at most 1048576: NARROWER than '..Said'. Prove '..Said' where nothing that the law and all that it calls make is longer than what came in: it says more and counts as full. Else prove '..UptoSaid'. A law counts once. -/
mutual
def uptoBulk {H : Type} : DataW H → Nat
  | .lit (.string bytes) => bytes.length + 1
  | .lit _ => 1
  | .nil => 1
  | .ptr d => uptoBulk d + 1
  | .slice elems spare => uptoBulkAll elems + uptoBulkAll spare + 1
  | .agg parts => uptoBulkAll parts + 1
  | .iface _ d => uptoBulk d + 1
  | .map entries => uptoBulkEntries entries + 1
  | .held _ => 1
def uptoBulkAll {H : Type} : List (DataW H) → Nat
  | [] => 0
  | d :: r => uptoBulk d + uptoBulkAll r
def uptoBulkEntries {H : Type} : List (Lit × DataW H) → Nat
  | [] => 0
  | x :: r => uptoBulkEntry x + uptoBulkEntries r
def uptoBulkEntry {H : Type} : Lit × DataW H → Nat
  | (.string bytes, d) => bytes.length + uptoBulk d + 1
  | (_, d) => uptoBulk d + 1
 end
def uptoSmall : (H : Type) → List (DataW H) → Bool := fun _ ds => decide (uptoBulkAll ds ≤ 1048576)
def OpenSpec.upto (s : _root_.Go.ChangeSpec) : _root_.Go.OpenSpec := { _root_.Go.OpenSpec.ofChange s with cond := some uptoSmall }

/-- 'sherpalaw01.WordPuts', WHERE WHAT IT READS IS OF BULK AT MOST 1048576: true; the input reads as it did. -/
def wordPutsUptoRow : OpenClaim := { program := "ytcblbbenaeiecaadoor", sum := "e1357769fac7c5f9da8b131fbf4f40acd5153dc37cebd404067e27e2df9ff1f5", func := "sherpa/sherpalaw01.WordPuts", spec := "wordPuts", named := ["sherpa/word.fieldWidths"], apart := false, laid := [("sherpa/word.fieldWidths", laid_sherpa_word_fieldWidths)], narrowed := true }
def WordPutsUptoSaid : Prop := wordPutsUptoRow.holds Tryd.pinned (OpenSpec.upto wordPutsSpec)

/-- 'sherpalaw01.WordGets', WHERE WHAT IT READS IS OF BULK AT MOST 1048576: true; the input reads as it did. -/
def wordGetsUptoRow : OpenClaim := { program := "ytcblbbenaeiecaadoor", sum := "e1357769fac7c5f9da8b131fbf4f40acd5153dc37cebd404067e27e2df9ff1f5", func := "sherpa/sherpalaw01.WordGets", spec := "wordGets", named := ["sherpa/word.fieldWidths"], apart := false, laid := [("sherpa/word.fieldWidths", laid_sherpa_word_fieldWidths)], narrowed := true }
def WordGetsUptoSaid : Prop := wordGetsUptoRow.holds Tryd.pinned (OpenSpec.upto wordGetsSpec)

/-- 'sherpalaw01.WordChanges', WHERE WHAT IT READS IS OF BULK AT MOST 1048576: true; the input reads as it did. -/
def wordChangesUptoRow : OpenClaim := { program := "ytcblbbenaeiecaadoor", sum := "e1357769fac7c5f9da8b131fbf4f40acd5153dc37cebd404067e27e2df9ff1f5", func := "sherpa/sherpalaw01.WordChanges", spec := "wordChanges", named := ["sherpa/word.fieldWidths"], apart := false, laid := [("sherpa/word.fieldWidths", laid_sherpa_word_fieldWidths)], narrowed := true }
def WordChangesUptoSaid : Prop := wordChangesUptoRow.holds Tryd.pinned (OpenSpec.upto wordChangesSpec)

/-- 'sherpalaw01.WordUnlike', WHERE WHAT IT READS IS OF BULK AT MOST 1048576: true; the input reads as it did. -/
def wordUnlikeUptoRow : OpenClaim := { program := "ytcblbbenaeiecaadoor", sum := "e1357769fac7c5f9da8b131fbf4f40acd5153dc37cebd404067e27e2df9ff1f5", func := "sherpa/sherpalaw01.WordUnlike", spec := "wordUnlike", named := ["sherpa/word.fieldWidths"], apart := false, laid := [("sherpa/word.fieldWidths", laid_sherpa_word_fieldWidths)], narrowed := true }
def WordUnlikeUptoSaid : Prop := wordUnlikeUptoRow.holds Tryd.pinned (OpenSpec.upto wordUnlikeSpec)

/-- 'sherpalaw01.WordGoes', WHERE WHAT IT READS IS OF BULK AT MOST 1048576: true; the input reads as it did. -/
def wordGoesUptoRow : OpenClaim := { program := "ytcblbbenaeiecaadoor", sum := "e1357769fac7c5f9da8b131fbf4f40acd5153dc37cebd404067e27e2df9ff1f5", func := "sherpa/sherpalaw01.WordGoes", spec := "wordGoes", named := ["sherpa/word.fieldWidths"], apart := false, laid := [("sherpa/word.fieldWidths", laid_sherpa_word_fieldWidths)], narrowed := true }
def WordGoesUptoSaid : Prop := wordGoesUptoRow.holds Tryd.pinned (OpenSpec.upto wordGoesSpec)

end Rows
end Go.Proofs.YtcblbbenaeiecaaDoor
