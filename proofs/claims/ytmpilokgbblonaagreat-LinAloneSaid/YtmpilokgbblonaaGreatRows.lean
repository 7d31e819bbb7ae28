/-
  No cell of these rows narrows 'for every input' (looked for: loops, veiled, ifaces, maps, wideKeys, modest, calm, conditions, laid).
  DERIVED. THE GIVEN ROWS OF THIS SEAT. 4 by the template 'for every input the law returns true; each argument reads behind the call as it read before'; 0 by the template 'total and deterministic' (their statements: YtmpilokgbblonaaGreatTotals.lean).
  GIVEN WITH THE SEED: the statements are not yours to turn. If you find one false, say at which input.
  Laid BY PROGRAM, IN A SANDBOX (cutbox-rows.mjs): the forced cells as the released guide's own fill.sh prints them over the translation 25b63231a4194dc3… (all of the seat's roots in one cut). By AI agents, Wed Nov 11 2026. No macro, syntax, notation, axiom, sorry.
-/
import Derived.Test.YtmpilokgbblonaaGreatChecked
import GoSem.Claim
import GoSem.ClaimJoined
import GoSem.ClaimMapViews
import Derived.JoinedTies
import Derived.KernelRfl
namespace Go.Proofs.YtmpilokgbblonaaGreat
/- THE CELL 'sum', in the pinned program and in every row, IS THE sha256 OF THE DUMP (.gsa) THAT YtmpilokgbblonaaGreatProg.lean LOADS. Nothing in Lean hashes anything: it is a label: what it is worth is what the hold of that sum in a sandbox is worth. -/
noncomputable def Tryz.pinned : Pinned := { name := "ytmpilokgbblonaagreat", sum := "25b63231a4194dc38341243ab4ce00902ce05ad2a2da0de89d2ed52b061d6b5d", checked := Tryz.checked }
namespace Rows
def none {H : Type} : Left H := { results := [], args := [] }

/-- 'sherpalaw09.LinOrders': WHATEVER THE INPUT: true; the input reads as it did. -/
def linOrdersSpec : ChangeSpec := { name := "linOrders", fn := fun _ => fun
  | [d1, d2] => { results := [.lit (.bool true)], args := [d1, d2] }
  | _ => none }
def linOrdersRow : OpenClaim := { program := "ytmpilokgbblonaagreat", sum := "25b63231a4194dc38341243ab4ce00902ce05ad2a2da0de89d2ed52b061d6b5d", func := "sherpa/sherpalaw09.LinOrders", spec := "linOrders", inPlace := ["slices.overlaps[int]"], unfollowed := true, recurses := true, plainKeys := false, apart := false }
def LinOrdersSaid : Prop := linOrdersRow.holds Tryz.pinned (OpenSpec.ofChange linOrdersSpec)

/-- ITS FALSE NEIGHBOUR: 'it returns false'. Refute it at one input. -/
def linOrdersWrong : ChangeSpec := { name := "linOrders", fn := fun _ => fun
  | [d1, d2] => { results := [.lit (.bool false)], args := [d1, d2] }
  | _ => none }
def LinOrdersWrongFalsely : Prop := linOrdersRow.holds Tryz.pinned (OpenSpec.ofChange linOrdersWrong)

/-- 'sherpalaw09.LinLegal': WHATEVER THE INPUT: true; the input reads as it did. -/
def linLegalSpec : ChangeSpec := { name := "linLegal", fn := fun _ => fun
  | [d1, d2, d3] => { results := [.lit (.bool true)], args := [d1, d2, d3] }
  | _ => none }
def linLegalRow : OpenClaim := { program := "ytmpilokgbblonaagreat", sum := "25b63231a4194dc38341243ab4ce00902ce05ad2a2da0de89d2ed52b061d6b5d", func := "sherpa/sherpalaw09.LinLegal", spec := "linLegal", inPlace := ["slices.overlaps[int]"], unfollowed := true, recurses := true, plainKeys := false, apart := false }
def LinLegalSaid : Prop := linLegalRow.holds Tryz.pinned (OpenSpec.ofChange linLegalSpec)

/-- ITS FALSE NEIGHBOUR: 'it returns false'. Refute it at one input. -/
def linLegalWrong : ChangeSpec := { name := "linLegal", fn := fun _ => fun
  | [d1, d2, d3] => { results := [.lit (.bool false)], args := [d1, d2, d3] }
  | _ => none }
def LinLegalWrongFalsely : Prop := linLegalRow.holds Tryz.pinned (OpenSpec.ofChange linLegalWrong)

/-- 'sherpalaw09.LinRuns': WHATEVER THE INPUT: true; the input reads as it did. -/
def linRunsSpec : ChangeSpec := { name := "linRuns", fn := fun _ => fun
  | [d1, d2] => { results := [.lit (.bool true)], args := [d1, d2] }
  | _ => none }
def linRunsRow : OpenClaim := { program := "ytmpilokgbblonaagreat", sum := "25b63231a4194dc38341243ab4ce00902ce05ad2a2da0de89d2ed52b061d6b5d", func := "sherpa/sherpalaw09.LinRuns", spec := "linRuns", inPlace := ["slices.overlaps[int]"], unfollowed := true, recurses := true, plainKeys := false, apart := false }
def LinRunsSaid : Prop := linRunsRow.holds Tryz.pinned (OpenSpec.ofChange linRunsSpec)

/-- ITS FALSE NEIGHBOUR: 'it returns false'. Refute it at one input. -/
def linRunsWrong : ChangeSpec := { name := "linRuns", fn := fun _ => fun
  | [d1, d2] => { results := [.lit (.bool false)], args := [d1, d2] }
  | _ => none }
def LinRunsWrongFalsely : Prop := linRunsRow.holds Tryz.pinned (OpenSpec.ofChange linRunsWrong)

/-- 'sherpalaw09.LinAlone': WHATEVER THE INPUT: true; the input reads as it did. -/
def linAloneSpec : ChangeSpec := { name := "linAlone", fn := fun _ => fun
  | [d1, d2, d3] => { results := [.lit (.bool true)], args := [d1, d2, d3] }
  | _ => none }
def linAloneRow : OpenClaim := { program := "ytmpilokgbblonaagreat", sum := "25b63231a4194dc38341243ab4ce00902ce05ad2a2da0de89d2ed52b061d6b5d", func := "sherpa/sherpalaw09.LinAlone", spec := "linAlone", inPlace := ["slices.overlaps[int]"], unfollowed := true, recurses := true, plainKeys := false, apart := false }
def LinAloneSaid : Prop := linAloneRow.holds Tryz.pinned (OpenSpec.ofChange linAloneSpec)

/-- ITS FALSE NEIGHBOUR: 'it returns false'. Refute it at one input. -/
def linAloneWrong : ChangeSpec := { name := "linAlone", fn := fun _ => fun
  | [d1, d2, d3] => { results := [.lit (.bool false)], args := [d1, d2, d3] }
  | _ => none }
def LinAloneWrongFalsely : Prop := linAloneRow.holds Tryz.pinned (OpenSpec.ofChange linAloneWrong)

/- THE SECOND FORM. 'bulk': how many values and letters a reading holds, each counted each time it is reached (what is shared counts as often as it is met; a slice's spare places count too). A statement '..UptoSaid' is the law's where the arguments, and the package variables that the reading takes, are together of bulk at most 1048576: NARROWER than '..Said'. Prove '..Said' where nothing that the law and all that it calls make is longer than what came in: it says more and counts as full. Else prove '..UptoSaid'. A law counts once. -/
mutual
def uptoBulk {H : Type} : DataW H → Nat
  | .lit (.string bytes) => bytes.length + 1
  | .lit _ => 1
  | .nil => 1
  | .ptr d => uptoBulk d + 1
  | .slice elems spare => uptoBulkAll elems + uptoBulkAll spare + 1
  | .agg parts => uptoBulkAll parts + 1
  | .iface _ d => uptoBulk d + 1
  | .map entries => uptoBulkEntries entries + 1
  | .held _ => 1
def uptoBulkAll {H : Type} : List (DataW H) → Nat
  | [] => 0
  | d :: r => uptoBulk d + uptoBulkAll r
def uptoBulkEntries {H : Type} : List (Lit × DataW H) → Nat
  | [] => 0
  | x :: r => uptoBulkEntry x + uptoBulkEntries r
def uptoBulkEntry {H : Type} : Lit × DataW H → Nat
  | (.string bytes, d) => bytes.length + uptoBulk d + 1
  | (_, d) => uptoBulk d + 1
 end
def uptoSmall : (H : Type) → List (DataW H) → Bool := fun _ ds => decide (uptoBulkAll ds ≤ 1048576)
def OpenSpec.upto (s : _root_.Go.ChangeSpec) : _root_.Go.OpenSpec := { _root_.Go.OpenSpec.ofChange s with cond := some uptoSmall }

/-- 'sherpalaw09.LinOrders', WHERE WHAT IT READS IS OF BULK AT MOST 1048576: true; the input reads as it did. -/
def linOrdersUptoRow : OpenClaim := { program := "ytmpilokgbblonaagreat", sum := "25b63231a4194dc38341243ab4ce00902ce05ad2a2da0de89d2ed52b061d6b5d", func := "sherpa/sherpalaw09.LinOrders", spec := "linOrders", inPlace := ["slices.overlaps[int]"], unfollowed := true, recurses := true, plainKeys := false, apart := false, narrowed := true }
def LinOrdersUptoSaid : Prop := linOrdersUptoRow.holds Tryz.pinned (OpenSpec.upto linOrdersSpec)

/-- 'sherpalaw09.LinLegal', WHERE WHAT IT READS IS OF BULK AT MOST 1048576: true; the input reads as it did. -/
def linLegalUptoRow : OpenClaim := { program := "ytmpilokgbblonaagreat", sum := "25b63231a4194dc38341243ab4ce00902ce05ad2a2da0de89d2ed52b061d6b5d", func := "sherpa/sherpalaw09.LinLegal", spec := "linLegal", inPlace := ["slices.overlaps[int]"], unfollowed := true, recurses := true, plainKeys := false, apart := false, narrowed := true }
def LinLegalUptoSaid : Prop := linLegalUptoRow.holds Tryz.pinned (OpenSpec.upto linLegalSpec)

/-- 'sherpalaw09.LinRuns', WHERE WHAT IT READS IS OF BULK AT MOST 1048576: true; the input reads as it did. -/
def linRunsUptoRow : OpenClaim := { program := "ytmpilokgbblonaagreat", sum := "25b63231a4194dc38341243ab4ce00902ce05ad2a2da0de89d2ed52b061d6b5d", func := "sherpa/sherpalaw09.LinRuns", spec := "linRuns", inPlace := ["slices.overlaps[int]"], unfollowed := true, recurses := true, plainKeys := false, apart := false, narrowed := true }
def LinRunsUptoSaid : Prop := linRunsUptoRow.holds Tryz.pinned (OpenSpec.upto linRunsSpec)

/-- 'sherpalaw09.LinAlone', WHERE WHAT IT READS IS OF BULK AT MOST 1048576: true; the input reads as it did. -/
def linAloneUptoRow : OpenClaim := { program := "ytmpilokgbblonaagreat", sum := "25b63231a4194dc38341243ab4ce00902ce05ad2a2da0de89d2ed52b061d6b5d", func := "sherpa/sherpalaw09.LinAlone", spec := "linAlone", inPlace := ["slices.overlaps[int]"], unfollowed := true, recurses := true, plainKeys := false, apart := false, narrowed := true }
def LinAloneUptoSaid : Prop := linAloneUptoRow.holds Tryz.pinned (OpenSpec.upto linAloneSpec)

end Rows
end Go.Proofs.YtmpilokgbblonaaGreat
