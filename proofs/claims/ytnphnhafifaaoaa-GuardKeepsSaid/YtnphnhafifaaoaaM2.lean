/- What a law's walk carries: blocks of the call's own, memories, nothing that was there changed. The document's example. -/
import Derived.Test.YtnphnhafifaaoaaMNew
import Derived.Test.YtnphnhafifaaoaaMOps
import Derived.Defers
import Derived.Recover
namespace Go.Proofs.Ytnphnhafifaaoaa.mem
open Go.RowKit

/-- A whole block of cells, none of them frozen. -/
def Box (w : World) (b : Nat) (cs : Array Value) (T : TypeId) : Prop := w.heap[b]? = some (.cells cs T (0, 0))
section
variable {w w' : World} {b X Y : Nat} {cs : Array Value} {T : TypeId}
theorem Box.lt (h : Box w b cs T) : b < w.heap.size := by
  unfold Box at h
  exact (Array.getElem?_eq_some_iff.1 h).1
theorem Box.below (h : Box w b cs T) (hb : Below w.heap.size w w') : Box w' b cs T := (hb.block b h.lt).trans h
theorem Box.apart (h : Box w b cs T) (ha : Apart X Y w w') (hx : b ≠ X) (hy : b ≠ Y) : Box w' b cs T := (ha.block b h.lt hx hy).trans h
theorem Box.at (h : Box w b cs T) (i : Nat) {v : Value} (hv : cs[i]? = some v) : w.cell? ⟨b, i, none⟩ = some v := by
  rw [Joins.cell_of_block h]
  exact hv
theorem Box.free (h : Box w b cs T) (i : Nat) : w.frozen? ⟨b, i, none⟩ = false := Joins.unfrozen_of_block h i
theorem Box.new (w : World) (cs : Array Value) (T : TypeId) : Box (w.alloc (.cells cs T)) w.heap.size cs T := new_block w cs T rfl
theorem Box.alloc (h : Box w b cs T) (o : Obj) : Box (w.alloc o) b cs T := h.below ((Below.refl _ _).alloc (Nat.le_refl _) o)
theorem Box.drew (h : Box w b cs T) : Box w.drew b cs T := h
theorem Box.put (h : Box w b cs T) (i : Nat) (v : Value) : Box (w.setCell ⟨b, i, none⟩ v) b (cs.setIfInBounds i v) T := Joins.block_setCell (i := i) h v
theorem Box.other (h : Box w b cs T) {d : Nat} (hd : b ≠ d) (i : Nat) (v : Value) : Box (w.setCell ⟨d, i, none⟩ v) b cs T := (Below.heap_setCell _ _ _ _ hd).trans h
end

/-- A layout, in a block. -/
abbrev layCells (t n : Int) : Array Value := #[.int .i64 t, .int .i64 n]

/-- One memory, and the layout in a block of the call's own. -/
structure Sit (W w : World) (b X Y : Nat) (t n : Int) (zs : List Int) (k : Int) (l : Last) : Prop where
  lay : Box w b (layCells t n) 28
  mem : MemAt w X Y t n zs k l
  below : Below W.heap.size W w
  b0 : W.heap.size ≤ b
  x0 : W.heap.size ≤ X
  y0 : W.heap.size ≤ Y
  bx : b ≠ X
  by' : b ≠ Y
section
variable {W w w' : World} {b X Y : Nat} {t n k k' : Int} {zs zs' : List Int} {l l' : Last}
theorem Sit.next (h : Sit W w b X Y t n zs k l) (hb : Below w.heap.size w w') : Sit W w' b X Y t n zs k l :=
  ⟨h.lay.below hb, h.mem.below hb, past h.below hb, h.b0, h.x0, h.y0, h.bx, h.by'⟩
theorem Sit.drew (h : Sit W w b X Y t n zs k l) : Sit W w.drew b X Y t n zs k l := h.next ((Below.refl _ _).drew)
theorem Sit.alloc (h : Sit W w b X Y t n zs k l) (o : Obj) : Sit W (w.alloc o) b X Y t n zs k l := h.next ((Below.refl _ _).alloc (Nat.le_refl _) o)
theorem Sit.act (h : Sit W w b X Y t n zs k l) (hm : MemAt w' X Y t n zs' k' l') (ha : Apart X Y w w') : Sit W w' b X Y t n zs' k' l' :=
  ⟨h.lay.apart ha h.bx h.by', hm, ha.below h.below h.below.size h.x0 h.y0, h.b0, h.x0, h.y0, h.bx, h.by'⟩
theorem Sit.size (h : Sit W w b X Y t n zs k l) : b < w.heap.size := h.lay.lt
theorem Sit.made {b : Nat} (hl : Box w b (layCells t n) 28) (hW : Below W.heap.size W w) (hb : W.heap.size ≤ b) (hm : MadeAt w t n zs X Y w') : Sit W w' b X Y t n zs 0 Last.no :=
  ⟨hl.below hm.below, hm.mem, past hW hm.below, hb, Nat.le_trans hW.size hm.x, Nat.le_trans hW.size hm.y, by have := hl.lt; have := hm.x; omega, by have := hl.lt; have := hm.y; omega⟩
end

theorem words_one (w : World) (b : Nat) (x : Int) (T : TypeId) (h : Box w b #[.int .u64 x] T) : Words w (some ⟨b, 0, none⟩) [x] := by
  intro i hi
  obtain rfl : i = 0 := by simpa using hi
  exact ⟨_, rfl, h.at 0 rfl⟩
theorem heads_is (n : Int) (h : n = 1) : 1 + n + 3 = 5 := by omega

end Go.Proofs.Ytnphnhafifaaoaa.mem
/- A machine that counts: its step; how it is run to its end. -/
namespace Go.Proofs.Ytnphnhafifaaoaa.mem
open Go.RowKit

/-- Of what there was, nothing but blocks X, Y and C has changed. -/
structure Apart3 (X Y C : Nat) (w w' : World) : Prop where
  os : w'.os = w.os
  tape : w'.tape = w.tape
  output : w'.output = w.output
  size : w.heap.size ≤ w'.heap.size
  block : ∀ b, b < w.heap.size → b ≠ X → b ≠ Y → b ≠ C → w'.heap[b]? = w.heap[b]?
section
variable {w w' w2 : World} {X Y C : Nat}
theorem Apart3.refl (w : World) : Apart3 X Y C w w := ⟨rfl, rfl, rfl, Nat.le_refl _, fun _ _ _ _ _ => rfl⟩
theorem Apart3.of (h : Apart X Y w w') : Apart3 X Y C w w' := ⟨h.os, h.tape, h.output, h.size, fun b hb hx hy _ => h.block b hb hx hy⟩
theorem Apart3.trans (h : Apart3 X Y C w w') (g : Apart3 X Y C w' w2) : Apart3 X Y C w w2 :=
  ⟨g.os.trans h.os, g.tape.trans h.tape, g.output.trans h.output, Nat.le_trans h.size g.size, fun b hb hx hy hc => (g.block b (Nat.lt_of_lt_of_le hb h.size) hx hy hc).trans (h.block b hb hx hy hc)⟩
theorem Apart3.put (h : Apart3 X Y C w w') (i : Nat) (v : Value) : Apart3 X Y C w (w'.setCell ⟨C, i, none⟩ v) :=
  ⟨h.os, h.tape, h.output, by simpa [World.setCell] using h.size, fun b hb hx hy hc => (Below.heap_setCell _ _ _ _ hc).trans (h.block b hb hx hy hc)⟩
theorem Apart3.box {b : Nat} {cs : Array Value} {T : TypeId} (ha : Apart3 X Y C w w') (h : Box w b cs T) (hx : b ≠ X) (hy : b ≠ Y) (hc : b ≠ C) : Box w' b cs T := (ha.block b h.lt hx hy hc).trans h
theorem Apart3.below {B : Nat} {w0 : World} (h : Below B w0 w) (ha : Apart3 X Y C w w') (hs : B ≤ w.heap.size) (hX : B ≤ X) (hY : B ≤ Y) (hC : B ≤ C) : Below B w0 w' :=
  h.trans ⟨ha.os, ha.tape, ha.output, ha.size, fun b hb => ha.block b (by omega) (by omega) (by omega) (by omega)⟩
end

/-- A machine's block: it counts at address 1, so many times yet. -/
abbrev cnt (L : Int) : Array Value := #[.int .i64 1, .int .i64 L]
/-- So many steps were done in all. -/
def RunSt (w : World) (X Y : Nat) (s : Int) : Prop := ∃ zs l, MemAt w X Y 1 1 zs s l ∧ zs.length = 13 ∧ wordAt zs 1 = s

end Go.Proofs.Ytnphnhafifaaoaa.mem
/- One machine is run to its end, or as long as there are steps left. -/
namespace Go.Proofs.Ytnphnhafifaaoaa.mem
open Go.RowKit

theorem recover_idle (w : World) :
    CallsD Try.prog 50 #[] .returning w fun e u' w' => e = .returned (.tuple #[]) ∧ u' = .returning ∧ w' = w := by
  refine callsD_of_wpS Try.func50 rfl fun c₀ cs hu => ?_
  apply wpS_region
  simp [wpOpsS, go_sem, recoverD, hu, Try.ntmps50]
  cases c₀
  simp_all [bodyPostS, results, Try.results50]

end Go.Proofs.Ytnphnhafifaaoaa.mem
