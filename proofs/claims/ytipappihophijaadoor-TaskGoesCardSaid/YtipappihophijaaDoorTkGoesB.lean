/- What the law TaskGoes stands on while it compares: a task, where it should go. -/
import Derived.Test.YtipappihophijaaDoorTkGoesW
import Derived.Test.YtipappihophijaaDoorQuiet
namespace Go.Proofs.YtipappihophijaaDoor.task
open Go.RowKit

structure Gl (W w : World) (B : Nat) (s k y h q : Int) : Prop where
  one : One W w W.heap.size s k y
  p0 : w.cell? ⟨B, 0, none⟩ = some (.int .i64 h)
  p1 : w.cell? ⟨B, 1, none⟩ = some (.int .i64 q)
  lt : B < w.heap.size
theorem Gl.next {W w w' : World} {B : Nat} {s k y h q : Int} (g : Gl W w B s k y h q) (hb : Below w.heap.size w w') : Gl W w' B s k y h q :=
  ⟨g.one.next hb, (hb.cell g.lt).trans g.p0, (hb.cell g.lt).trans g.p1, Nat.lt_of_lt_of_le g.lt hb.size⟩
theorem Gl.drew {W w : World} {B : Nat} {s k y h q : Int} (g : Gl W w B s k y h q) : Gl W w.drew B s k y h q := ⟨g.one.drew, g.p0, g.p1, g.lt⟩
theorem Gl.cells {W w : World} {B : Nat} {s k y h q : Int} (g : Gl W w B s k y h q) : w.cell? ⟨W.heap.size, 0, none⟩ = some (.int .i64 s) ∧ w.cell? ⟨W.heap.size, 1, none⟩ = some (.int .i64 k) ∧ w.cell? ⟨W.heap.size, 2, none⟩ = some (.int .i64 y) ∧ w.cell? ⟨B, 0, none⟩ = some (.int .i64 h) ∧ w.cell? ⟨B, 1, none⟩ = some (.int .i64 q) :=
  ⟨g.one.c0, g.one.c1, g.one.c2, g.p0, g.p1⟩
end Go.Proofs.YtipappihophijaaDoor.task
