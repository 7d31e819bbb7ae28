/- A region that draws its order, walked once in the order of the text, over a class of worlds of the prover's choice: its calls may make memory, as long as each leaves a world of the class. -/
import Derived.Test.YtfacojlheeoppaaRows
import Derived.WalkKit
import Derived.Deep.QuietTactic
import Derived.BigQuiet
import Derived.Below
namespace Go.Proofs.Ytfacojlheeoppaa.quiet
open Go.RowKit

theorem region {P : Program} {C : World → Prop} {id : Nat} {Q : Exit → Act → World → Prop} {a : Act} {w : World} {l : List Oper} (hC : C w.drew) (hm : P.follows .mixedOrders = true) (hB : Region.lexB .any l.toArray = true)
    (h : wpQuiet P l.toArray C (fun a' => ∀ w', C w' → Q .normal a' w') l a) : (Code.region id l.toArray true).wp P Q a w :=
  wp_region_quiet (C := C) hm hB hC (by simpa using h)
/-- A call, by its contract. -/
theorem call {P : Program} {C : World → Prop} {w : World} {f : FuncId} {args : Array Value} {v : Value} (h : Calls P f args w fun e w' => e = .returned v ∧ Below w.heap.size w w') (hC : ∀ w', Below w.heap.size w w' → C w') :
    Calls P f args w fun e w' => e = .returned v ∧ C w' := h.mono fun _ _ ⟨he, hb⟩ => ⟨he, hC _ hb⟩
end Go.Proofs.Ytfacojlheeoppaa.quiet
