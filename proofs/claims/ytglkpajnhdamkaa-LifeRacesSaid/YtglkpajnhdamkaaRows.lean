/-
  No cell of these rows narrows 'for every input' (looked for: loops, veiled, ifaces, maps, wideKeys, modest, calm, conditions, laid).
  DERIVED. THE GIVEN ROWS OF THIS SEAT. 4 by the template 'for every input the law returns true; each argument reads behind the call as it read before'; 0 by the template 'total and deterministic' (their statements: YtglkpajnhdamkaaTotals.lean).
  GIVEN WITH THE SEED: the statements are not yours to turn. If you find one false, say at which input.
  Laid BY PROGRAM, IN A SANDBOX (cutbox-rows.mjs): the forced cells as the released guide's own fill.sh prints them over the translation 6f159d068044d122… (all of the seat's roots in one cut). By AI agents, Wed Nov 11 2026. No macro, syntax, notation, axiom, sorry.
-/
import Derived.Test.YtglkpajnhdamkaaChecked
import GoSem.Claim
import GoSem.ClaimJoined
import GoSem.ClaimMapViews
import Derived.JoinedTies
import Derived.KernelRfl
namespace Go.Proofs.Ytglkpajnhdamkaa
/- THE CELL 'sum', in the pinned program and in every row, IS THE sha256 OF THE DUMP (.gsa) THAT YtglkpajnhdamkaaProg.lean LOADS. Nothing in Lean hashes anything: it is a label: what it is worth is what the hold of that sum in a sandbox is worth. -/
noncomputable def Try.pinned : Pinned := { name := "ytglkpajnhdamkaa", sum := "6f159d068044d122c7aa82241d1a3fa8c292596099f5517738ed7f41c7962351", checked := Try.checked }
namespace Rows
def none {H : Type} : Left H := { results := [], args := [] }

/-- 'sherpalaw04.LifeTakes': WHATEVER THE INPUT: true; the input reads as it did. -/
def lifeTakesSpec : ChangeSpec := { name := "lifeTakes", fn := fun _ => fun
  | [d1, d2, d3] => { results := [.lit (.bool true)], args := [d1, d2, d3] }
  | _ => none }
def lifeTakesRow : OpenClaim := { program := "ytglkpajnhdamkaa", sum := "6f159d068044d122c7aa82241d1a3fa8c292596099f5517738ed7f41c7962351", func := "sherpa/sherpalaw04.LifeTakes", spec := "lifeTakes", unfollowed := true, recurses := true, apart := false }
def LifeTakesSaid : Prop := lifeTakesRow.holds Try.pinned (OpenSpec.ofChange lifeTakesSpec)

/-- ITS FALSE NEIGHBOUR: 'it returns false'. Refute it at one input. -/
def lifeTakesWrong : ChangeSpec := { name := "lifeTakes", fn := fun _ => fun
  | [d1, d2, d3] => { results := [.lit (.bool false)], args := [d1, d2, d3] }
  | _ => none }
def LifeTakesWrongFalsely : Prop := lifeTakesRow.holds Try.pinned (OpenSpec.ofChange lifeTakesWrong)

/-- 'sherpalaw04.LifeRaces': WHATEVER THE INPUT: true; the input reads as it did. -/
def lifeRacesSpec : ChangeSpec := { name := "lifeRaces", fn := fun _ => fun
  | [d1, d2, d3] => { results := [.lit (.bool true)], args := [d1, d2, d3] }
  | _ => none }
def lifeRacesRow : OpenClaim := { program := "ytglkpajnhdamkaa", sum := "6f159d068044d122c7aa82241d1a3fa8c292596099f5517738ed7f41c7962351", func := "sherpa/sherpalaw04.LifeRaces", spec := "lifeRaces", unfollowed := true, recurses := true, apart := false }
def LifeRacesSaid : Prop := lifeRacesRow.holds Try.pinned (OpenSpec.ofChange lifeRacesSpec)

/-- ITS FALSE NEIGHBOUR: 'it returns false'. Refute it at one input. -/
def lifeRacesWrong : ChangeSpec := { name := "lifeRaces", fn := fun _ => fun
  | [d1, d2, d3] => { results := [.lit (.bool false)], args := [d1, d2, d3] }
  | _ => none }
def LifeRacesWrongFalsely : Prop := lifeRacesRow.holds Try.pinned (OpenSpec.ofChange lifeRacesWrong)

/-- 'sherpalaw04.LifeGives': WHATEVER THE INPUT: true; the input reads as it did. -/
def lifeGivesSpec : ChangeSpec := { name := "lifeGives", fn := fun _ => fun
  | [d1, d2] => { results := [.lit (.bool true)], args := [d1, d2] }
  | _ => none }
def lifeGivesRow : OpenClaim := { program := "ytglkpajnhdamkaa", sum := "6f159d068044d122c7aa82241d1a3fa8c292596099f5517738ed7f41c7962351", func := "sherpa/sherpalaw04.LifeGives", spec := "lifeGives", unfollowed := true, recurses := true, apart := false }
def LifeGivesSaid : Prop := lifeGivesRow.holds Try.pinned (OpenSpec.ofChange lifeGivesSpec)

/-- ITS FALSE NEIGHBOUR: 'it returns false'. Refute it at one input. -/
def lifeGivesWrong : ChangeSpec := { name := "lifeGives", fn := fun _ => fun
  | [d1, d2] => { results := [.lit (.bool false)], args := [d1, d2] }
  | _ => none }
def LifeGivesWrongFalsely : Prop := lifeGivesRow.holds Try.pinned (OpenSpec.ofChange lifeGivesWrong)

/-- 'sherpalaw04.LifeAround': WHATEVER THE INPUT: true; the input reads as it did. -/
def lifeAroundSpec : ChangeSpec := { name := "lifeAround", fn := fun _ => fun
  | [d1, d2, d3] => { results := [.lit (.bool true)], args := [d1, d2, d3] }
  | _ => none }
def lifeAroundRow : OpenClaim := { program := "ytglkpajnhdamkaa", sum := "6f159d068044d122c7aa82241d1a3fa8c292596099f5517738ed7f41c7962351", func := "sherpa/sherpalaw04.LifeAround", spec := "lifeAround", unfollowed := true, recurses := true, apart := false }
def LifeAroundSaid : Prop := lifeAroundRow.holds Try.pinned (OpenSpec.ofChange lifeAroundSpec)

/-- ITS FALSE NEIGHBOUR: 'it returns false'. Refute it at one input. -/
def lifeAroundWrong : ChangeSpec := { name := "lifeAround", fn := fun _ => fun
  | [d1, d2, d3] => { results := [.lit (.bool false)], args := [d1, d2, d3] }
  | _ => none }
def LifeAroundWrongFalsely : Prop := lifeAroundRow.holds Try.pinned (OpenSpec.ofChange lifeAroundWrong)

/- THE SECOND FORM. 'bulk': how many values and letters a reading holds, each counted each time it is reached (what is shared counts as often as it is met; a slice's spare places count too). A statement '..UptoSaid' is the law's where the arguments, and the package variables that the reading takes, are together of bulk at most 1048576: NARROWER than '..Said'. Prove '..Said' where nothing that the law and all that it calls make is longer than what came in: it says more and counts as full. Else prove '..UptoSaid'. A law counts once. -/
mutual
def uptoBulk {H : Type} : DataW H → Nat
  | .lit (.string bytes) => bytes.length + 1
  | .lit _ => 1
  | .nil => 1
  | .ptr d => uptoBulk d + 1
  | .slice elems spare => uptoBulkAll elems + uptoBulkAll spare + 1
  | .agg parts => uptoBulkAll parts + 1
  | .iface _ d => uptoBulk d + 1
  | .map entries => uptoBulkEntries entries + 1
  | .held _ => 1
def uptoBulkAll {H : Type} : List (DataW H) → Nat
  | [] => 0
  | d :: r => uptoBulk d + uptoBulkAll r
def uptoBulkEntries {H : Type} : List (Lit × DataW H) → Nat
  | [] => 0
  | x :: r => uptoBulkEntry x + uptoBulkEntries r
def uptoBulkEntry {H : Type} : Lit × DataW H → Nat
  | (.string bytes, d) => bytes.length + uptoBulk d + 1
  | (_, d) => uptoBulk d + 1
 end
def uptoSmall : (H : Type) → List (DataW H) → Bool := fun _ ds => decide (uptoBulkAll ds ≤ 1048576)
def OpenSpec.upto (s : _root_.Go.ChangeSpec) : _root_.Go.OpenSpec := { _root_.Go.OpenSpec.ofChange s with cond := some uptoSmall }

/-- 'sherpalaw04.LifeTakes', WHERE WHAT IT READS IS OF BULK AT MOST 1048576: true; the input reads as it did. -/
def lifeTakesUptoRow : OpenClaim := { program := "ytglkpajnhdamkaa", sum := "6f159d068044d122c7aa82241d1a3fa8c292596099f5517738ed7f41c7962351", func := "sherpa/sherpalaw04.LifeTakes", spec := "lifeTakes", unfollowed := true, recurses := true, apart := false, narrowed := true }
def LifeTakesUptoSaid : Prop := lifeTakesUptoRow.holds Try.pinned (OpenSpec.upto lifeTakesSpec)

/-- 'sherpalaw04.LifeRaces', WHERE WHAT IT READS IS OF BULK AT MOST 1048576: true; the input reads as it did. -/
def lifeRacesUptoRow : OpenClaim := { program := "ytglkpajnhdamkaa", sum := "6f159d068044d122c7aa82241d1a3fa8c292596099f5517738ed7f41c7962351", func := "sherpa/sherpalaw04.LifeRaces", spec := "lifeRaces", unfollowed := true, recurses := true, apart := false, narrowed := true }
def LifeRacesUptoSaid : Prop := lifeRacesUptoRow.holds Try.pinned (OpenSpec.upto lifeRacesSpec)

/-- 'sherpalaw04.LifeGives', WHERE WHAT IT READS IS OF BULK AT MOST 1048576: true; the input reads as it did. -/
def lifeGivesUptoRow : OpenClaim := { program := "ytglkpajnhdamkaa", sum := "6f159d068044d122c7aa82241d1a3fa8c292596099f5517738ed7f41c7962351", func := "sherpa/sherpalaw04.LifeGives", spec := "lifeGives", unfollowed := true, recurses := true, apart := false, narrowed := true }
def LifeGivesUptoSaid : Prop := lifeGivesUptoRow.holds Try.pinned (OpenSpec.upto lifeGivesSpec)

/-- 'sherpalaw04.LifeAround', WHERE WHAT IT READS IS OF BULK AT MOST 1048576: true; the input reads as it did. -/
def lifeAroundUptoRow : OpenClaim := { program := "ytglkpajnhdamkaa", sum := "6f159d068044d122c7aa82241d1a3fa8c292596099f5517738ed7f41c7962351", func := "sherpa/sherpalaw04.LifeAround", spec := "lifeAround", unfollowed := true, recurses := true, apart := false, narrowed := true }
def LifeAroundUptoSaid : Prop := lifeAroundUptoRow.holds Try.pinned (OpenSpec.upto lifeAroundSpec)

end Rows
end Go.Proofs.Ytglkpajnhdamkaa
