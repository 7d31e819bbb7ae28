/- A machine that counts: its step; how it is run to its end. -/
import Derived.Test.YtglkpajnhdamkaaMSit
import Derived.Defers
import Derived.Recover
namespace Go.Proofs.Ytglkpajnhdamkaa.mem
open Go.RowKit

/-- Of what there was, nothing but blocks X, Y and C has changed. -/
structure Apart3 (X Y C : Nat) (w w' : World) : Prop where
  os : w'.os = w.os
  tape : w'.tape = w.tape
  output : w'.output = w.output
  size : w.heap.size ≤ w'.heap.size
  block : ∀ b, b < w.heap.size → b ≠ X → b ≠ Y → b ≠ C → w'.heap[b]? = w.heap[b]?
section
variable {w w' w2 : World} {X Y C : Nat}
theorem Apart3.refl (w : World) : Apart3 X Y C w w := ⟨rfl, rfl, rfl, Nat.le_refl _, fun _ _ _ _ _ => rfl⟩
theorem Apart3.of (h : Apart X Y w w') : Apart3 X Y C w w' := ⟨h.os, h.tape, h.output, h.size, fun b hb hx hy _ => h.block b hb hx hy⟩
theorem Apart3.trans (h : Apart3 X Y C w w') (g : Apart3 X Y C w' w2) : Apart3 X Y C w w2 :=
  ⟨g.os.trans h.os, g.tape.trans h.tape, g.output.trans h.output, Nat.le_trans h.size g.size, fun b hb hx hy hc => (g.block b (Nat.lt_of_lt_of_le hb h.size) hx hy hc).trans (h.block b hb hx hy hc)⟩
theorem Apart3.put (h : Apart3 X Y C w w') (i : Nat) (v : Value) : Apart3 X Y C w (w'.setCell ⟨C, i, none⟩ v) :=
  ⟨h.os, h.tape, h.output, by simpa [World.setCell] using h.size, fun b hb hx hy hc => (Below.heap_setCell _ _ _ _ hc).trans (h.block b hb hx hy hc)⟩
theorem Apart3.box {b : Nat} {cs : Array Value} {T : TypeId} (ha : Apart3 X Y C w w') (h : Box w b cs T) (hx : b ≠ X) (hy : b ≠ Y) (hc : b ≠ C) : Box w' b cs T := (ha.block b h.lt hx hy hc).trans h
theorem Apart3.below {B : Nat} {w0 : World} (h : Below B w0 w) (ha : Apart3 X Y C w w') (hs : B ≤ w.heap.size) (hX : B ≤ X) (hY : B ≤ Y) (hC : B ≤ C) : Below B w0 w' :=
  h.trans ⟨ha.os, ha.tape, ha.output, ha.size, fun b hb => ha.block b (by omega) (by omega) (by omega) (by omega)⟩
end

/-- A machine's block: it counts at address 1, so many times yet. -/
abbrev cnt (L : Int) : Array Value := #[.int .i64 1, .int .i64 L]
/-- So many steps were done in all. -/
def RunSt (w : World) (X Y : Nat) (s : Int) : Prop := ∃ zs l, MemAt w X Y 1 1 zs s l ∧ zs.length = 13 ∧ wordAt zs 1 = s

end Go.Proofs.Ytglkpajnhdamkaa.mem
