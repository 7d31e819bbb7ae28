/- A word in a block of the call's own that is written again and again. -/
import Derived.Test.YtcblbbenaeiecaaDoorRows5
import Derived.Lib.SmallJoins
namespace Go.Proofs.YtcblbbenaeiecaaDoor.word
open Go.RowKit

/-- The whole block: five cells, none of them frozen. -/
def Box (w : World) (b : Nat) (k n c v : Int) (m : Bool) : Prop := w.heap[b]? = some (.cells #[.int .i64 k, .int .i64 n, .bool m, .int .i64 c, .int .i64 v] 23 (0, 0))
theorem Box.lt {w : World} {b : Nat} {k n c v : Int} {m : Bool} (h : Box w b k n c v m) : b < w.heap.size := by
  unfold Box at h
  exact (Array.getElem?_eq_some_iff.1 h).1
theorem Box.below {w w' : World} {b : Nat} {k n c v : Int} {m : Bool} (h : Box w b k n c v m) (hb : Below w.heap.size w w') : Box w' b k n c v m := (hb.block b h.lt).trans h
theorem Box.row {w : World} {b : Nat} {k n c v : Int} {m : Bool} (h : Box w b k n c v m) : Row5 w b (.int .i64 k) (.int .i64 n) (.bool m) (.int .i64 c) (.int .i64 v) :=
  ⟨by rw [Joins.cell_of_block h]; rfl, by rw [Joins.cell_of_block h]; rfl, by rw [Joins.cell_of_block h]; rfl, by rw [Joins.cell_of_block h]; rfl, by rw [Joins.cell_of_block h]; rfl, h.lt⟩
theorem Box.free {w : World} {b : Nat} {k n c v : Int} {m : Bool} (h : Box w b k n c v m) (i : Nat) : w.frozen? ⟨b, i, none⟩ = false := Joins.unfrozen_of_block h i
theorem Box.new (w : World) (k n c v : Int) (m : Bool) : Box (w.alloc (.cells #[.int .i64 k, .int .i64 n, .bool m, .int .i64 c, .int .i64 v] 23)) w.heap.size k n c v m := by
  unfold Box
  show (w.heap.push _)[w.heap.size]? = _
  simp
/-- What a whole word stored over it leaves. -/
def put5 (w : World) (b : Nat) (k n c v : Int) (m : Bool) : World := ((((w.setCell ⟨b, 0, none⟩ (.int .i64 k)).setCell ⟨b, 1, none⟩ (.int .i64 n)).setCell ⟨b, 2, none⟩ (.bool m)).setCell ⟨b, 3, none⟩ (.int .i64 c)).setCell ⟨b, 4, none⟩ (.int .i64 v)
theorem Box.put {w : World} {b : Nat} {k n c v : Int} {m : Bool} (h : Box w b k n c v m) (k' n' c' v' : Int) (m' : Bool) : Box (put5 w b k' n' c' v' m') b k' n' c' v' m' := by
  have h1 := Joins.block_setCell (i := 0) h (.int .i64 k')
  have h2 := Joins.block_setCell (i := 1) h1 (.int .i64 n')
  have h3 := Joins.block_setCell (i := 2) h2 (.bool m')
  have h4 := Joins.block_setCell (i := 3) h3 (.int .i64 c')
  exact Joins.block_setCell (i := 4) h4 (.int .i64 v')
theorem put5_below {B : Nat} {a w : World} {b : Nat} (h : Below B a w) (hB : B ≤ b) (k n c v : Int) (m : Bool) : Below B a (put5 w b k n c v m) :=
  ((((h.setCell hB _).setCell hB _).setCell hB _).setCell hB _).setCell hB _
theorem put5_other {w : World} {b d : Nat} (hd : d ≠ b) (k n c v : Int) (m : Bool) : (put5 w b k n c v m).heap[d]? = w.heap[d]? := by
  unfold put5
  rw [Below.heap_setCell _ _ _ _ hd, Below.heap_setCell _ _ _ _ hd, Below.heap_setCell _ _ _ _ hd, Below.heap_setCell _ _ _ _ hd, Below.heap_setCell _ _ _ _ hd]
end Go.Proofs.YtcblbbenaeiecaaDoor.word
