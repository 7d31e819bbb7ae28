/-
  NARROWER THAN 'FOR EVERY INPUT', by the rows' own cells (each row's printed sentence says how): TaskGoes: laid.
  DERIVED. THE GIVEN ROWS OF THIS SEAT. 1 by the template 'for every input the law returns true; each argument reads behind the call as it read before'; 0 by the template 'total and deterministic' (their statements: YtipappihophijaaDoorTotals.lean).
  GIVEN WITH THE SEED: the statements are not yours to turn. If you find one false, say at which input.
  Laid BY PROGRAM, IN A SANDBOX (cutbox-rows.mjs): the forced cells as the released guide's own fill.sh prints them over the translation 9b9fdfd9ef7d54e0… (all of the seat's roots in one cut). By AI agents, Wed Nov 11 2026. No macro, syntax, notation, axiom, sorry.
-/
import Derived.Test.YtipappihophijaaDoorChecked
import GoSem.Claim
import GoSem.ClaimJoined
import GoSem.ClaimMapViews
import Derived.JoinedTies
import Derived.KernelRfl
namespace Go.Proofs.YtipappihophijaaDoor
/- THE CELL 'sum', in the pinned program and in every row, IS THE sha256 OF THE DUMP (.gsa) THAT YtipappihophijaaDoorProg.lean LOADS. Nothing in Lean hashes anything: it is a label: what it is worth is what the hold of that sum in a sandbox is worth. -/
noncomputable def Tryd.pinned : Pinned := { name := "ytipappihophijaadoor", sum := "9b9fdfd9ef7d54e0507f6cd20469f03948b473bfdf8d7ec29b895bcc0634f7f5", checked := Tryd.checked }
namespace Rows
def none {H : Type} : Left H := { results := [], args := [] }

/- WHAT THE LISTED PACKAGE-LEVEL VARIABLES READ AS WHEN THE CALL BEGINS. Each datum BY PROGRAM (the guide's laid-datum.mjs) off the statement by which the dump's own 'gosem.cut.vars' lays the variable. In a bare row this is a premise. The card (YtipappihophijaaDoorCards.lean) ties it to the program's text. -/
def laid_sherpa_task_names {H : Type} : DataW H := .agg [.lit (.string []), .lit (.string [105, 110, 115, 101, 114, 116]), .lit (.string [100, 101, 108, 101, 116, 101]), .lit (.string [104, 97, 115]), .lit (.string [112, 117, 116]), .lit (.string [116, 97, 107, 101])]

/-- 'sherpalaw06.TaskGoes': WHATEVER THE INPUT: true; the input reads as it did. -/
def taskGoesSpec : ChangeSpec := { name := "taskGoes", fn := fun _ => fun
  | [d1, d2] => { results := [.lit (.bool true)], args := [d1, d2] }
  | _ => none }
def taskGoesRow : OpenClaim := { program := "ytipappihophijaadoor", sum := "9b9fdfd9ef7d54e0507f6cd20469f03948b473bfdf8d7ec29b895bcc0634f7f5", func := "sherpa/sherpalaw06.TaskGoes", spec := "taskGoes", named := ["sherpa/task.names"], apart := false, laid := [("sherpa/task.names", laid_sherpa_task_names)] }
def TaskGoesSaid : Prop := taskGoesRow.holds Tryd.pinned (OpenSpec.ofChange taskGoesSpec)

/-- ITS FALSE NEIGHBOUR: 'it returns false'. Refute it at one input. -/
def taskGoesWrong : ChangeSpec := { name := "taskGoes", fn := fun _ => fun
  | [d1, d2] => { results := [.lit (.bool false)], args := [d1, d2] }
  | _ => none }
def TaskGoesWrongFalsely : Prop := taskGoesRow.holds Tryd.pinned (OpenSpec.ofChange taskGoesWrong)

/- THE SECOND FORM. 'bulk': how many values and letters a reading holds, each counted each time it is reached (what is shared counts as often as it is met; a slice's spare places count too). A statement '..UptoSaid' is the law's where the arguments, and the package variables that the reading takes, are together of bulk at most 1048576: NARROWER than '..Said'. Prove '..Said' where nothing that the law and all that it calls make is longer than what came in: it says more and counts as full. Else prove '..UptoSaid'. A law counts once. -/
mutual
def uptoBulk {H : Type} : DataW H → Nat
  | .lit (.string bytes) => bytes.length + 1
  | .lit _ => 1
  | .nil => 1
  | .ptr d => uptoBulk d + 1
  | .slice elems spare => uptoBulkAll elems + uptoBulkAll spare + 1
  | .agg parts => uptoBulkAll parts + 1
  | .iface _ d => uptoBulk d + 1
  | .map entries => uptoBulkEntries entries + 1
  | .held _ => 1
def uptoBulkAll {H : Type} : List (DataW H) → Nat
  | [] => 0
  | d :: r => uptoBulk d + uptoBulkAll r
def uptoBulkEntries {H : Type} : List (Lit × DataW H) → Nat
  | [] => 0
  | x :: r => uptoBulkEntry x + uptoBulkEntries r
def uptoBulkEntry {H : Type} : Lit × DataW H → Nat
  | (.string bytes, d) => bytes.length + uptoBulk d + 1
  | (_, d) => uptoBulk d + 1
 end
def uptoSmall : (H : Type) → List (DataW H) → Bool := fun _ ds => decide (uptoBulkAll ds ≤ 1048576)
def OpenSpec.upto (s : _root_.Go.ChangeSpec) : _root_.Go.OpenSpec := { _root_.Go.OpenSpec.ofChange s with cond := some uptoSmall }

/-- 'sherpalaw06.TaskGoes', WHERE WHAT IT READS IS OF BULK AT MOST 1048576: true; the input reads as it did. -/
def taskGoesUptoRow : OpenClaim := { program := "ytipappihophijaadoor", sum := "9b9fdfd9ef7d54e0507f6cd20469f03948b473bfdf8d7ec29b895bcc0634f7f5", func := "sherpa/sherpalaw06.TaskGoes", spec := "taskGoes", named := ["sherpa/task.names"], apart := false, laid := [("sherpa/task.names", laid_sherpa_task_names)], narrowed := true }
def TaskGoesUptoSaid : Prop := taskGoesUptoRow.holds Tryd.pinned (OpenSpec.upto taskGoesSpec)

end Rows
end Go.Proofs.YtipappihophijaaDoor
