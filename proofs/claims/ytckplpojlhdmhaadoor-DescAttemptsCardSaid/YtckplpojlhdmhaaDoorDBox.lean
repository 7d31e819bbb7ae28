/- A descriptor in a block of the call's own that is written again and again. -/
import Derived.Test.YtckplpojlhdmhaaDoorDRows
import Derived.Lib.SmallJoins
namespace Go.Proofs.YtckplpojlhdmhaaDoor.desc
open Go.RowKit

/-- The whole block: seven cells, none of them frozen. -/
def Box (w : World) (b : Nat) (t a v n : Int) (m : Bool) (s x : Int) : Prop := w.heap[b]? = some (.cells #[.int .i64 t, .int .i64 a, .int .i64 v, .int .i64 n, .bool m, .int .i64 s, .int .i64 x] 23 (0, 0))
theorem Box.lt {w : World} {b : Nat} {t a v n : Int} {m : Bool} {s x : Int} (h : Box w b t a v n m s x) : b < w.heap.size := by
  unfold Box at h
  exact (Array.getElem?_eq_some_iff.1 h).1
theorem Box.below {w w' : World} {b : Nat} {t a v n : Int} {m : Bool} {s x : Int} (h : Box w b t a v n m s x) (hb : Below w.heap.size w w') : Box w' b t a v n m s x := (hb.block b h.lt).trans h
theorem Box.row {w : World} {b : Nat} {t a v n : Int} {m : Bool} {s x : Int} (h : Box w b t a v n m s x) : Row7 w b t a v n m s x :=
  ⟨by rw [Joins.cell_of_block h]; rfl, by rw [Joins.cell_of_block h]; rfl, by rw [Joins.cell_of_block h]; rfl, by rw [Joins.cell_of_block h]; rfl, by rw [Joins.cell_of_block h]; rfl, by rw [Joins.cell_of_block h]; rfl, by rw [Joins.cell_of_block h]; rfl, h.lt⟩
theorem Box.free {w : World} {b : Nat} {t a v n : Int} {m : Bool} {s x : Int} (h : Box w b t a v n m s x) (i : Nat) : w.frozen? ⟨b, i, none⟩ = false := Joins.unfrozen_of_block h i
theorem Box.new (w : World) (t a v n : Int) (m : Bool) (s x : Int) : Box (w.alloc (.cells #[.int .i64 t, .int .i64 a, .int .i64 v, .int .i64 n, .bool m, .int .i64 s, .int .i64 x] 23)) w.heap.size t a v n m s x := by
  unfold Box
  show (w.heap.push _)[w.heap.size]? = _
  simp
/-- What a whole descriptor stored over it leaves. -/
def put7 (w : World) (b : Nat) (t a v n : Int) (m : Bool) (s x : Int) : World := ((((((w.setCell ⟨b, 0, none⟩ (.int .i64 t)).setCell ⟨b, 1, none⟩ (.int .i64 a)).setCell ⟨b, 2, none⟩ (.int .i64 v)).setCell ⟨b, 3, none⟩ (.int .i64 n)).setCell ⟨b, 4, none⟩ (.bool m)).setCell ⟨b, 5, none⟩ (.int .i64 s)).setCell ⟨b, 6, none⟩ (.int .i64 x)
theorem Box.put {w : World} {b : Nat} {t a v n : Int} {m : Bool} {s x : Int} (h : Box w b t a v n m s x) (t' a' v' n' : Int) (m' : Bool) (s' x' : Int) : Box (put7 w b t' a' v' n' m' s' x') b t' a' v' n' m' s' x' := by
  have h1 : Box (w.setCell ⟨b, 0, none⟩ (.int .i64 t')) b t' a v n m s x := Joins.block_setCell (i := 0) h (.int .i64 t')
  have h2 : Box ((w.setCell ⟨b, 0, none⟩ (.int .i64 t')).setCell ⟨b, 1, none⟩ (.int .i64 a')) b t' a' v n m s x := Joins.block_setCell (i := 1) h1 (.int .i64 a')
  have h3 := Joins.block_setCell (i := 2) h2 (.int .i64 v')
  have h3 : Box (((w.setCell ⟨b, 0, none⟩ (.int .i64 t')).setCell ⟨b, 1, none⟩ (.int .i64 a')).setCell ⟨b, 2, none⟩ (.int .i64 v')) b t' a' v' n m s x := h3
  have h4 := Joins.block_setCell (i := 3) h3 (.int .i64 n')
  have h4 : Box ((((w.setCell ⟨b, 0, none⟩ (.int .i64 t')).setCell ⟨b, 1, none⟩ (.int .i64 a')).setCell ⟨b, 2, none⟩ (.int .i64 v')).setCell ⟨b, 3, none⟩ (.int .i64 n')) b t' a' v' n' m s x := h4
  have h5 := Joins.block_setCell (i := 4) h4 (.bool m')
  have h5 : Box (((((w.setCell ⟨b, 0, none⟩ (.int .i64 t')).setCell ⟨b, 1, none⟩ (.int .i64 a')).setCell ⟨b, 2, none⟩ (.int .i64 v')).setCell ⟨b, 3, none⟩ (.int .i64 n')).setCell ⟨b, 4, none⟩ (.bool m')) b t' a' v' n' m' s x := h5
  have h6 := Joins.block_setCell (i := 5) h5 (.int .i64 s')
  have h6 : Box ((((((w.setCell ⟨b, 0, none⟩ (.int .i64 t')).setCell ⟨b, 1, none⟩ (.int .i64 a')).setCell ⟨b, 2, none⟩ (.int .i64 v')).setCell ⟨b, 3, none⟩ (.int .i64 n')).setCell ⟨b, 4, none⟩ (.bool m')).setCell ⟨b, 5, none⟩ (.int .i64 s')) b t' a' v' n' m' s' x := h6
  exact Joins.block_setCell (i := 6) h6 (.int .i64 x')
theorem put7_below {B : Nat} {w0 w : World} {b : Nat} (h : Below B w0 w) (hB : B ≤ b) (t a v n : Int) (m : Bool) (s x : Int) : Below B w0 (put7 w b t a v n m s x) :=
  ((((((h.setCell hB _).setCell hB _).setCell hB _).setCell hB _).setCell hB _).setCell hB _).setCell hB _
theorem put7_other {w : World} {b d : Nat} (hd : d ≠ b) (t a v n : Int) (m : Bool) (s x : Int) : (put7 w b t a v n m s x).heap[d]? = w.heap[d]? := by
  unfold put7
  rw [Below.heap_setCell _ _ _ _ hd, Below.heap_setCell _ _ _ _ hd, Below.heap_setCell _ _ _ _ hd, Below.heap_setCell _ _ _ _ hd, Below.heap_setCell _ _ _ _ hd, Below.heap_setCell _ _ _ _ hd, Below.heap_setCell _ _ _ _ hd]

/-- The law's own block holds a descriptor, the argument's the first one; nothing that was there has changed. -/
structure St (W w : World) (X : Nat) (t a v n : Int) (m : Bool) (s x : Int) (t' a' v' n' : Int) (m' : Bool) (s' x' : Int) : Prop where
  box : Box w X t' a' v' n' m' s' x'
  orig : Row7 w W.heap.size t a v n m s x
  old : Old W w
  lt : W.heap.size < X
theorem St.next {W w w' : World} {X : Nat} {t a v n : Int} {m : Bool} {s x : Int} {t' a' v' n' : Int} {m' : Bool} {s' x' : Int} (h : St W w X t a v n m s x t' a' v' n' m' s' x') (hb : Below w.heap.size w w') : St W w' X t a v n m s x t' a' v' n' m' s' x' :=
  ⟨h.box.below hb, h.orig.below hb, h.old.next hb, h.lt⟩
theorem St.alloc {W w : World} {X : Nat} {t a v n : Int} {m : Bool} {s x : Int} {t' a' v' n' : Int} {m' : Bool} {s' x' : Int} (h : St W w X t a v n m s x t' a' v' n' m' s' x') (o : Obj) : St W (w.alloc o) X t a v n m s x t' a' v' n' m' s' x' :=
  h.next ((Below.refl _ _).alloc (Nat.le_refl _) o)
theorem St.put {W w : World} {X : Nat} {t a v n : Int} {m : Bool} {s x : Int} {t' a' v' n' : Int} {m' : Bool} {s' x' : Int} (h : St W w X t a v n m s x t' a' v' n' m' s' x') (ht : Table W) (t2 a2 v2 n2 : Int) (m2 : Bool) (s2 x2 : Int) : St W (put7 w X t2 a2 v2 n2 m2 s2 x2) X t a v n m s x t2 a2 v2 n2 m2 s2 x2 := by
  have hne : W.heap.size ≠ X := Nat.ne_of_lt h.lt
  have hb := put7_below h.old.below (Nat.le_of_lt h.lt) t2 a2 v2 n2 m2 s2 x2
  have e := put7_other (w := w) hne t2 a2 v2 n2 m2 s2 x2
  have hc : ∀ o, (put7 w X t2 a2 v2 n2 m2 s2 x2).cell? ⟨W.heap.size, o, none⟩ = w.cell? ⟨W.heap.size, o, none⟩ := fun o => World.cell?_of_block e
  have hz : W.heap.size < (put7 w X t2 a2 v2 n2 m2 s2 x2).heap.size := Nat.lt_trans h.lt (h.box.put t2 a2 v2 n2 m2 s2 x2).lt
  exact ⟨h.box.put t2 a2 v2 n2 m2 s2 x2, ⟨(hc 0).trans h.orig.c0, (hc 1).trans h.orig.c1, (hc 2).trans h.orig.c2, (hc 3).trans h.orig.c3, (hc 4).trans h.orig.c4, (hc 5).trans h.orig.c5, (hc 6).trans h.orig.c6, hz⟩, ⟨hb, ht.below hb⟩, h.lt⟩
end Go.Proofs.YtckplpojlhdmhaaDoor.desc
