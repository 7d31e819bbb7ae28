/- Rows of five cells in blocks of the call's own, carried from world to world. -/
import Derived.Test.YtcblbbenaeiecaaDoorRight
namespace Go.Proofs.YtcblbbenaeiecaaDoor.word
open Go.RowKit

/-- Five cells of a block. -/
structure Row5 (w : World) (b : Nat) (a0 a1 a2 a3 a4 : Value) : Prop where
  c0 : w.cell? ⟨b, 0, none⟩ = some a0
  c1 : w.cell? ⟨b, 1, none⟩ = some a1
  c2 : w.cell? ⟨b, 2, none⟩ = some a2
  c3 : w.cell? ⟨b, 3, none⟩ = some a3
  c4 : w.cell? ⟨b, 4, none⟩ = some a4
  size : b < w.heap.size
theorem Row5.below {w w' : World} {b : Nat} {a0 a1 a2 a3 a4 : Value} (h : Row5 w b a0 a1 a2 a3 a4) (hb : Below w.heap.size w w') : Row5 w' b a0 a1 a2 a3 a4 :=
  ⟨(hb.cell h.size).trans h.c0, (hb.cell h.size).trans h.c1, (hb.cell h.size).trans h.c2, (hb.cell h.size).trans h.c3, (hb.cell h.size).trans h.c4, Nat.lt_of_lt_of_le h.size hb.size⟩
theorem Row5.alloc {w : World} {b : Nat} {a0 a1 a2 a3 a4 : Value} (h : Row5 w b a0 a1 a2 a3 a4) (o : Obj) : Row5 (w.alloc o) b a0 a1 a2 a3 a4 := h.below ((Below.refl _ _).alloc (Nat.le_refl _) o)
theorem Row5.drew {w : World} {b : Nat} {a0 a1 a2 a3 a4 : Value} (h : Row5 w b a0 a1 a2 a3 a4) : Row5 w.drew b a0 a1 a2 a3 a4 := ⟨h.c0, h.c1, h.c2, h.c3, h.c4, h.size⟩
theorem Row5.new (w : World) (t : TypeId) (a0 a1 a2 a3 a4 : Value) : Row5 (w.alloc (.cells #[a0, a1, a2, a3, a4] t)) w.heap.size a0 a1 a2 a3 a4 :=
  ⟨by go_simp, by go_simp, by go_simp, by go_simp, by go_simp, by simp⟩

/-- Nothing that was there has changed; the table stands. -/
structure Old (W w : World) : Prop where
  below : Below W.heap.size W w
  table : Table w
theorem Old.refl {W : World} (ht : Table W) : Old W W := ⟨Below.refl _ _, ht⟩
theorem Old.next {W w w' : World} (h : Old W w) (hb : Below w.heap.size w w') : Old W w' := ⟨h.below.trans (hb.mono h.below.size), h.table.below hb⟩
theorem Old.alloc {W w : World} (h : Old W w) (o : Obj) : Old W (w.alloc o) := h.next ((Below.refl _ _).alloc (Nat.le_refl _) o)
theorem Old.drew {W w : World} (h : Old W w) : Old W w.drew := h.next (Below.refl _ _).drew
end Go.Proofs.YtcblbbenaeiecaaDoor.word
