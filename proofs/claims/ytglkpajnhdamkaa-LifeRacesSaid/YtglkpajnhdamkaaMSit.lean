/- What a law's walk carries: blocks of the call's own, memories, nothing that was there changed. The document's example. -/
import Derived.Test.YtglkpajnhdamkaaMNew
import Derived.Test.YtglkpajnhdamkaaMOps
namespace Go.Proofs.Ytglkpajnhdamkaa.mem
open Go.RowKit

/-- A whole block of cells, none of them frozen. -/
def Box (w : World) (b : Nat) (cs : Array Value) (T : TypeId) : Prop := w.heap[b]? = some (.cells cs T (0, 0))
section
variable {w w' : World} {b X Y : Nat} {cs : Array Value} {T : TypeId}
theorem Box.lt (h : Box w b cs T) : b < w.heap.size := by
  unfold Box at h
  exact (Array.getElem?_eq_some_iff.1 h).1
theorem Box.below (h : Box w b cs T) (hb : Below w.heap.size w w') : Box w' b cs T := (hb.block b h.lt).trans h
theorem Box.apart (h : Box w b cs T) (ha : Apart X Y w w') (hx : b ≠ X) (hy : b ≠ Y) : Box w' b cs T := (ha.block b h.lt hx hy).trans h
theorem Box.at (h : Box w b cs T) (i : Nat) {v : Value} (hv : cs[i]? = some v) : w.cell? ⟨b, i, none⟩ = some v := by
  rw [Joins.cell_of_block h]
  exact hv
theorem Box.free (h : Box w b cs T) (i : Nat) : w.frozen? ⟨b, i, none⟩ = false := Joins.unfrozen_of_block h i
theorem Box.new (w : World) (cs : Array Value) (T : TypeId) : Box (w.alloc (.cells cs T)) w.heap.size cs T := new_block w cs T rfl
theorem Box.alloc (h : Box w b cs T) (o : Obj) : Box (w.alloc o) b cs T := h.below ((Below.refl _ _).alloc (Nat.le_refl _) o)
theorem Box.drew (h : Box w b cs T) : Box w.drew b cs T := h
theorem Box.put (h : Box w b cs T) (i : Nat) (v : Value) : Box (w.setCell ⟨b, i, none⟩ v) b (cs.setIfInBounds i v) T := Joins.block_setCell (i := i) h v
theorem Box.other (h : Box w b cs T) {d : Nat} (hd : b ≠ d) (i : Nat) (v : Value) : Box (w.setCell ⟨d, i, none⟩ v) b cs T := (Below.heap_setCell _ _ _ _ hd).trans h
end

/-- A layout, in a block. -/
abbrev layCells (t n : Int) : Array Value := #[.int .i64 t, .int .i64 n]

/-- One memory, and the layout in a block of the call's own. -/
structure Sit (W w : World) (b X Y : Nat) (t n : Int) (zs : List Int) (k : Int) (l : Last) : Prop where
  lay : Box w b (layCells t n) 26
  mem : MemAt w X Y t n zs k l
  below : Below W.heap.size W w
  b0 : W.heap.size ≤ b
  x0 : W.heap.size ≤ X
  y0 : W.heap.size ≤ Y
  bx : b ≠ X
  by' : b ≠ Y
section
variable {W w w' : World} {b X Y : Nat} {t n k k' : Int} {zs zs' : List Int} {l l' : Last}
theorem Sit.next (h : Sit W w b X Y t n zs k l) (hb : Below w.heap.size w w') : Sit W w' b X Y t n zs k l :=
  ⟨h.lay.below hb, h.mem.below hb, past h.below hb, h.b0, h.x0, h.y0, h.bx, h.by'⟩
theorem Sit.drew (h : Sit W w b X Y t n zs k l) : Sit W w.drew b X Y t n zs k l := h.next ((Below.refl _ _).drew)
theorem Sit.alloc (h : Sit W w b X Y t n zs k l) (o : Obj) : Sit W (w.alloc o) b X Y t n zs k l := h.next ((Below.refl _ _).alloc (Nat.le_refl _) o)
theorem Sit.act (h : Sit W w b X Y t n zs k l) (hm : MemAt w' X Y t n zs' k' l') (ha : Apart X Y w w') : Sit W w' b X Y t n zs' k' l' :=
  ⟨h.lay.apart ha h.bx h.by', hm, ha.below h.below h.below.size h.x0 h.y0, h.b0, h.x0, h.y0, h.bx, h.by'⟩
theorem Sit.size (h : Sit W w b X Y t n zs k l) : b < w.heap.size := h.lay.lt
theorem Sit.made {b : Nat} (hl : Box w b (layCells t n) 26) (hW : Below W.heap.size W w) (hb : W.heap.size ≤ b) (hm : MadeAt w t n zs X Y w') : Sit W w' b X Y t n zs 0 Last.no :=
  ⟨hl.below hm.below, hm.mem, past hW hm.below, hb, Nat.le_trans hW.size hm.x, Nat.le_trans hW.size hm.y, by have := hl.lt; have := hm.x; omega, by have := hl.lt; have := hm.y; omega⟩
end

theorem words_one (w : World) (b : Nat) (x : Int) (T : TypeId) (h : Box w b #[.int .u64 x] T) : Words w (some ⟨b, 0, none⟩) [x] := by
  intro i hi
  obtain rfl : i = 0 := by simpa using hi
  exact ⟨_, rfl, h.at 0 rfl⟩
theorem heads_is (n : Int) (h : n = 1) : 1 + n + 3 = 5 := by omega

end Go.Proofs.Ytglkpajnhdamkaa.mem
