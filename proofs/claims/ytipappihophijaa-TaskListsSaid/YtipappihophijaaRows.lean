/-
  No cell of these rows narrows 'for every input' (looked for: loops, veiled, ifaces, maps, wideKeys, modest, calm, conditions, laid).
  DERIVED. THE GIVEN ROWS OF THIS SEAT. 4 by the template 'for every input the law returns true; each argument reads behind the call as it read before'; 0 by the template 'total and deterministic' (their statements: YtipappihophijaaTotals.lean).
  GIVEN WITH THE SEED: the statements are not yours to turn. If you find one false, say at which input.
  Laid BY PROGRAM, IN A SANDBOX (cutbox-rows.mjs): the forced cells as the released guide's own fill.sh prints them over the translation 4a60f120e3d23ce1… (all of the seat's roots in one cut). By AI agents, Wed Nov 11 2026. No macro, syntax, notation, axiom, sorry.
-/
import Derived.Test.YtipappihophijaaChecked
import GoSem.Claim
import GoSem.ClaimJoined
import GoSem.ClaimMapViews
import Derived.JoinedTies
import Derived.KernelRfl
namespace Go.Proofs.Ytipappihophijaa
/- THE CELL 'sum', in the pinned program and in every row, IS THE sha256 OF THE DUMP (.gsa) THAT YtipappihophijaaProg.lean LOADS. Nothing in Lean hashes anything: it is a label: what it is worth is what the hold of that sum in a sandbox is worth. -/
noncomputable def Try.pinned : Pinned := { name := "ytipappihophijaa", sum := "4a60f120e3d23ce15743a22faf6bc5df51d8f84cd4b611e2ce5dae3a37a9a0f3", checked := Try.checked }
namespace Rows
def none {H : Type} : Left H := { results := [], args := [] }

/-- 'sherpalaw06.TaskPuts': WHATEVER THE INPUT: true; the input reads as it did. -/
def taskPutsSpec : ChangeSpec := { name := "taskPuts", fn := fun _ => fun
  | [d1, d2] => { results := [.lit (.bool true)], args := [d1, d2] }
  | _ => none }
def taskPutsRow : OpenClaim := { program := "ytipappihophijaa", sum := "4a60f120e3d23ce15743a22faf6bc5df51d8f84cd4b611e2ce5dae3a37a9a0f3", func := "sherpa/sherpalaw06.TaskPuts", spec := "taskPuts", apart := false }
def TaskPutsSaid : Prop := taskPutsRow.holds Try.pinned (OpenSpec.ofChange taskPutsSpec)

/-- ITS FALSE NEIGHBOUR: 'it returns false'. Refute it at one input. -/
def taskPutsWrong : ChangeSpec := { name := "taskPuts", fn := fun _ => fun
  | [d1, d2] => { results := [.lit (.bool false)], args := [d1, d2] }
  | _ => none }
def TaskPutsWrongFalsely : Prop := taskPutsRow.holds Try.pinned (OpenSpec.ofChange taskPutsWrong)

/-- 'sherpalaw06.TaskLists': WHATEVER THE INPUT: true; the input reads as it did. -/
def taskListsSpec : ChangeSpec := { name := "taskLists", fn := fun _ => fun
  | [d1, d2] => { results := [.lit (.bool true)], args := [d1, d2] }
  | _ => none }
def taskListsRow : OpenClaim := { program := "ytipappihophijaa", sum := "4a60f120e3d23ce15743a22faf6bc5df51d8f84cd4b611e2ce5dae3a37a9a0f3", func := "sherpa/sherpalaw06.TaskLists", spec := "taskLists", apart := false }
def TaskListsSaid : Prop := taskListsRow.holds Try.pinned (OpenSpec.ofChange taskListsSpec)

/-- ITS FALSE NEIGHBOUR: 'it returns false'. Refute it at one input. -/
def taskListsWrong : ChangeSpec := { name := "taskLists", fn := fun _ => fun
  | [d1, d2] => { results := [.lit (.bool false)], args := [d1, d2] }
  | _ => none }
def TaskListsWrongFalsely : Prop := taskListsRow.holds Try.pinned (OpenSpec.ofChange taskListsWrong)

/-- 'sherpalaw06.TaskUnlike': WHATEVER THE INPUT: true; the input reads as it did. -/
def taskUnlikeSpec : ChangeSpec := { name := "taskUnlike", fn := fun _ => fun
  | [d1, d2] => { results := [.lit (.bool true)], args := [d1, d2] }
  | _ => none }
def taskUnlikeRow : OpenClaim := { program := "ytipappihophijaa", sum := "4a60f120e3d23ce15743a22faf6bc5df51d8f84cd4b611e2ce5dae3a37a9a0f3", func := "sherpa/sherpalaw06.TaskUnlike", spec := "taskUnlike", apart := false }
def TaskUnlikeSaid : Prop := taskUnlikeRow.holds Try.pinned (OpenSpec.ofChange taskUnlikeSpec)

/-- ITS FALSE NEIGHBOUR: 'it returns false'. Refute it at one input. -/
def taskUnlikeWrong : ChangeSpec := { name := "taskUnlike", fn := fun _ => fun
  | [d1, d2] => { results := [.lit (.bool false)], args := [d1, d2] }
  | _ => none }
def TaskUnlikeWrongFalsely : Prop := taskUnlikeRow.holds Try.pinned (OpenSpec.ofChange taskUnlikeWrong)

/-- 'sherpalaw06.TaskOne': WHATEVER THE INPUT: true; the input reads as it did. -/
def taskOneSpec : ChangeSpec := { name := "taskOne", fn := fun _ => fun
  | [d] => { results := [.lit (.bool true)], args := [d] }
  | _ => none }
def taskOneRow : OpenClaim := { program := "ytipappihophijaa", sum := "4a60f120e3d23ce15743a22faf6bc5df51d8f84cd4b611e2ce5dae3a37a9a0f3", func := "sherpa/sherpalaw06.TaskOne", spec := "taskOne", apart := false }
def TaskOneSaid : Prop := taskOneRow.holds Try.pinned (OpenSpec.ofChange taskOneSpec)

/-- ITS FALSE NEIGHBOUR: 'it returns false'. Refute it at one input. -/
def taskOneWrong : ChangeSpec := { name := "taskOne", fn := fun _ => fun
  | [d] => { results := [.lit (.bool false)], args := [d] }
  | _ => none }
def TaskOneWrongFalsely : Prop := taskOneRow.holds Try.pinned (OpenSpec.ofChange taskOneWrong)

/- THE SECOND FORM. 'bulk': how many values and letters a reading holds, each counted each time it is reached (what is shared counts as often as it is met; a slice's spare places count too). A statement '..UptoSaid' is the law's where the arguments, and the package variables that the reading takes, are together of bulk at most 1048576: NARROWER than '..Said'. Prove '..Said' where nothing that the law and all that it calls make is longer than what came in: it says more and counts as full. Else prove '..UptoSaid'. A law counts once. -/
mutual
def uptoBulk {H : Type} : DataW H → Nat
  | .lit (.string bytes) => bytes.length + 1
  | .lit _ => 1
  | .nil => 1
  | .ptr d => uptoBulk d + 1
  | .slice elems spare => uptoBulkAll elems + uptoBulkAll spare + 1
  | .agg parts => uptoBulkAll parts + 1
  | .iface _ d => uptoBulk d + 1
  | .map entries => uptoBulkEntries entries + 1
  | .held _ => 1
def uptoBulkAll {H : Type} : List (DataW H) → Nat
  | [] => 0
  | d :: r => uptoBulk d + uptoBulkAll r
def uptoBulkEntries {H : Type} : List (Lit × DataW H) → Nat
  | [] => 0
  | x :: r => uptoBulkEntry x + uptoBulkEntries r
def uptoBulkEntry {H : Type} : Lit × DataW H → Nat
  | (.string bytes, d) => bytes.length + uptoBulk d + 1
  | (_, d) => uptoBulk d + 1
 end
def uptoSmall : (H : Type) → List (DataW H) → Bool := fun _ ds => decide (uptoBulkAll ds ≤ 1048576)
def OpenSpec.upto (s : _root_.Go.ChangeSpec) : _root_.Go.OpenSpec := { _root_.Go.OpenSpec.ofChange s with cond := some uptoSmall }

/-- 'sherpalaw06.TaskPuts', WHERE WHAT IT READS IS OF BULK AT MOST 1048576: true; the input reads as it did. -/
def taskPutsUptoRow : OpenClaim := { program := "ytipappihophijaa", sum := "4a60f120e3d23ce15743a22faf6bc5df51d8f84cd4b611e2ce5dae3a37a9a0f3", func := "sherpa/sherpalaw06.TaskPuts", spec := "taskPuts", apart := false, narrowed := true }
def TaskPutsUptoSaid : Prop := taskPutsUptoRow.holds Try.pinned (OpenSpec.upto taskPutsSpec)

/-- 'sherpalaw06.TaskLists', WHERE WHAT IT READS IS OF BULK AT MOST 1048576: true; the input reads as it did. -/
def taskListsUptoRow : OpenClaim := { program := "ytipappihophijaa", sum := "4a60f120e3d23ce15743a22faf6bc5df51d8f84cd4b611e2ce5dae3a37a9a0f3", func := "sherpa/sherpalaw06.TaskLists", spec := "taskLists", apart := false, narrowed := true }
def TaskListsUptoSaid : Prop := taskListsUptoRow.holds Try.pinned (OpenSpec.upto taskListsSpec)

/-- 'sherpalaw06.TaskUnlike', WHERE WHAT IT READS IS OF BULK AT MOST 1048576: true; the input reads as it did. -/
def taskUnlikeUptoRow : OpenClaim := { program := "ytipappihophijaa", sum := "4a60f120e3d23ce15743a22faf6bc5df51d8f84cd4b611e2ce5dae3a37a9a0f3", func := "sherpa/sherpalaw06.TaskUnlike", spec := "taskUnlike", apart := false, narrowed := true }
def TaskUnlikeUptoSaid : Prop := taskUnlikeUptoRow.holds Try.pinned (OpenSpec.upto taskUnlikeSpec)

/-- 'sherpalaw06.TaskOne', WHERE WHAT IT READS IS OF BULK AT MOST 1048576: true; the input reads as it did. -/
def taskOneUptoRow : OpenClaim := { program := "ytipappihophijaa", sum := "4a60f120e3d23ce15743a22faf6bc5df51d8f84cd4b611e2ce5dae3a37a9a0f3", func := "sherpa/sherpalaw06.TaskOne", spec := "taskOne", apart := false, narrowed := true }
def TaskOneUptoSaid : Prop := taskOneUptoRow.holds Try.pinned (OpenSpec.upto taskOneSpec)

end Rows
end Go.Proofs.Ytipappihophijaa
