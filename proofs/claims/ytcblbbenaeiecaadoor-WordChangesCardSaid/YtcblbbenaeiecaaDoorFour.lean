/- Four words in blocks of the call's own, made in whatever order, then turned field by field. -/
import Derived.Test.YtcblbbenaeiecaaDoorBox
namespace Go.Proofs.YtcblbbenaeiecaaDoor.word
open Go.RowKit

/-- Four blocks of the call's own, each holding the same word; the argument's word stands; nothing that was there has changed. -/
def Four (W wx : World) (k n c v : Int) (m : Bool) (s1 s2 s3 s4 : Value) : Prop :=
  ∃ p q r t : Nat, s1 = .pointer (some ⟨p, 0, none⟩) ∧ s2 = .pointer (some ⟨q, 0, none⟩) ∧ s3 = .pointer (some ⟨r, 0, none⟩) ∧ s4 = .pointer (some ⟨t, 0, none⟩) ∧
    Box wx p k n c v m ∧ Box wx q k n c v m ∧ Box wx r k n c v m ∧ Box wx t k n c v m ∧ (p ≠ q ∧ p ≠ r ∧ p ≠ t ∧ q ≠ r ∧ q ≠ t ∧ r ≠ t) ∧
    (W.heap.size < p ∧ W.heap.size < q ∧ W.heap.size < r ∧ W.heap.size < t) ∧ Row5 wx W.heap.size (.int .i64 k) (.int .i64 n) (.bool m) (.int .i64 c) (.int .i64 v) ∧ Old W wx

def word4 (k n c v : Int) (m : Bool) : Obj := .cells #[.int .i64 k, .int .i64 n, .bool m, .int .i64 c, .int .i64 v] 23
theorem Box.alloc {w : World} {b : Nat} {k n c v : Int} {m : Bool} (h : Box w b k n c v m) (o : Obj) : Box (w.alloc o) b k n c v m := h.below ((Below.refl _ _).alloc (Nat.le_refl _) o)
theorem boxes (u : World) (k n c v : Int) (m : Bool) :
    Box ((((u.alloc (word4 k n c v m)).alloc (word4 k n c v m)).alloc (word4 k n c v m)).alloc (word4 k n c v m)) u.heap.size k n c v m ∧
    Box ((((u.alloc (word4 k n c v m)).alloc (word4 k n c v m)).alloc (word4 k n c v m)).alloc (word4 k n c v m)) (u.heap.size + 1) k n c v m ∧
    Box ((((u.alloc (word4 k n c v m)).alloc (word4 k n c v m)).alloc (word4 k n c v m)).alloc (word4 k n c v m)) (u.heap.size + 1 + 1) k n c v m ∧
    Box ((((u.alloc (word4 k n c v m)).alloc (word4 k n c v m)).alloc (word4 k n c v m)).alloc (word4 k n c v m)) (u.heap.size + 1 + 1 + 1) k n c v m := by
  have a0 := Box.new u k n c v m
  have a1 := Box.new (u.alloc (word4 k n c v m)) k n c v m
  have a2 := Box.new ((u.alloc (word4 k n c v m)).alloc (word4 k n c v m)) k n c v m
  have a3 := Box.new (((u.alloc (word4 k n c v m)).alloc (word4 k n c v m)).alloc (word4 k n c v m)) k n c v m
  simp only [World.size_alloc] at a1 a2 a3
  exact ⟨((a0.alloc _).alloc _).alloc _, (a1.alloc _).alloc _, a2.alloc _, a3⟩

/-- The four turned: as the law turns them. -/
def turned (w : World) (p q r t : Nat) (nx vv cl : Int) (mark : Bool) : World :=
  ((((((((w.setCell ⟨p, 1, none⟩ (.int .i64 nx)).setCell ⟨p, 4, none⟩ (.int .i64 vv)).setCell ⟨q, 2, none⟩ (.bool true)).setCell ⟨q, 4, none⟩ (.int .i64 vv)).setCell ⟨r, 3, none⟩ (.int .i64 cl)).setCell ⟨r, 1, none⟩ (.int .i64 nx)).setCell ⟨r, 2, none⟩ (.bool mark)).setCell ⟨t, 3, none⟩ (.int .i64 0)).setCell ⟨t, 4, none⟩ (.int .i64 vv)
theorem setCell_far {w : World} {d b i : Nat} (h : d ≠ b) (u : Value) : (w.setCell ⟨b, i, none⟩ u).heap[d]? = w.heap[d]? := Below.heap_setCell _ _ _ _ h
theorem turned_at {w : World} {p q r t d : Nat} (nx vv cl : Int) (mark : Bool) (h1 : d ≠ p) (h2 : d ≠ q) (h3 : d ≠ r) (h4 : d ≠ t) : (turned w p q r t nx vv cl mark).heap[d]? = w.heap[d]? := by
  unfold turned
  rw [setCell_far h4, setCell_far h4, setCell_far h3, setCell_far h3, setCell_far h3, setCell_far h2, setCell_far h2, setCell_far h1, setCell_far h1]
theorem turned_p {w : World} {p q r t : Nat} {k n c v : Int} {m : Bool} (h : Box w p k n c v m) (nx vv cl : Int) (mark : Bool) (h2 : p ≠ q) (h3 : p ≠ r) (h4 : p ≠ t) : Box (turned w p q r t nx vv cl mark) p k nx c vv m := by
  unfold Box turned
  rw [setCell_far h4, setCell_far h4, setCell_far h3, setCell_far h3, setCell_far h3, setCell_far h2, setCell_far h2]
  exact Joins.block_setCell (i := 4) (Joins.block_setCell (i := 1) h (.int .i64 nx)) (.int .i64 vv)
theorem turned_q {w : World} {p q r t : Nat} {k n c v : Int} {m : Bool} (h : Box w q k n c v m) (nx vv cl : Int) (mark : Bool) (h1 : q ≠ p) (h3 : q ≠ r) (h4 : q ≠ t) : Box (turned w p q r t nx vv cl mark) q k n c vv true := by
  unfold Box turned
  rw [setCell_far h4, setCell_far h4, setCell_far h3, setCell_far h3, setCell_far h3]
  have h0 : ((w.setCell ⟨p, 1, none⟩ (.int .i64 nx)).setCell ⟨p, 4, none⟩ (.int .i64 vv)).heap[q]? = some (.cells #[.int .i64 k, .int .i64 n, .bool m, .int .i64 c, .int .i64 v] 23 (0, 0)) := by
    rw [setCell_far h1, setCell_far h1]; exact h
  exact Joins.block_setCell (i := 4) (Joins.block_setCell (i := 2) h0 (.bool true)) (.int .i64 vv)
theorem turned_r {w : World} {p q r t : Nat} {k n c v : Int} {m : Bool} (h : Box w r k n c v m) (nx vv cl : Int) (mark : Bool) (h1 : r ≠ p) (h2 : r ≠ q) (h4 : r ≠ t) : Box (turned w p q r t nx vv cl mark) r k nx cl v mark := by
  unfold Box turned
  rw [setCell_far h4, setCell_far h4]
  have h0 : ((((w.setCell ⟨p, 1, none⟩ (.int .i64 nx)).setCell ⟨p, 4, none⟩ (.int .i64 vv)).setCell ⟨q, 2, none⟩ (.bool true)).setCell ⟨q, 4, none⟩ (.int .i64 vv)).heap[r]? = some (.cells #[.int .i64 k, .int .i64 n, .bool m, .int .i64 c, .int .i64 v] 23 (0, 0)) := by
    rw [setCell_far h2, setCell_far h2, setCell_far h1, setCell_far h1]; exact h
  exact Joins.block_setCell (i := 2) (Joins.block_setCell (i := 1) (Joins.block_setCell (i := 3) h0 (.int .i64 cl)) (.int .i64 nx)) (.bool mark)
theorem turned_t {w : World} {p q r t : Nat} {k n c v : Int} {m : Bool} (h : Box w t k n c v m) (nx vv cl : Int) (mark : Bool) (h1 : t ≠ p) (h2 : t ≠ q) (h3 : t ≠ r) : Box (turned w p q r t nx vv cl mark) t k n 0 vv m := by
  unfold Box turned
  have h0 : (((((((w.setCell ⟨p, 1, none⟩ (.int .i64 nx)).setCell ⟨p, 4, none⟩ (.int .i64 vv)).setCell ⟨q, 2, none⟩ (.bool true)).setCell ⟨q, 4, none⟩ (.int .i64 vv)).setCell ⟨r, 3, none⟩ (.int .i64 cl)).setCell ⟨r, 1, none⟩ (.int .i64 nx)).setCell ⟨r, 2, none⟩ (.bool mark)).heap[t]? = some (.cells #[.int .i64 k, .int .i64 n, .bool m, .int .i64 c, .int .i64 v] 23 (0, 0)) := by
    rw [setCell_far h3, setCell_far h3, setCell_far h3, setCell_far h2, setCell_far h2, setCell_far h1, setCell_far h1]; exact h
  exact Joins.block_setCell (i := 4) (Joins.block_setCell (i := 3) h0 (.int .i64 0)) (.int .i64 vv)
theorem turned_below {B : Nat} {a w : World} {p q r t : Nat} (h : Below B a w) (h1 : B ≤ p) (h2 : B ≤ q) (h3 : B ≤ r) (h4 : B ≤ t) (nx vv cl : Int) (mark : Bool) : Below B a (turned w p q r t nx vv cl mark) :=
  ((((((((h.setCell h1 _).setCell h1 _).setCell h2 _).setCell h2 _).setCell h3 _).setCell h3 _).setCell h3 _).setCell h4 _).setCell h4 _
/-- The five cells in a later world. -/
theorem cells5_keep {w w' : World} {b : Nat} {a0 a1 a2 a3 a4 : Value} (hr : Row5 w b a0 a1 a2 a3 a4) (hb : Below w.heap.size w w') :
    w'.cell? ⟨b, 0, none⟩ = some a0 ∧ w'.cell? ⟨b, 1, none⟩ = some a1 ∧ w'.cell? ⟨b, 2, none⟩ = some a2 ∧ w'.cell? ⟨b, 3, none⟩ = some a3 ∧ w'.cell? ⟨b, 4, none⟩ = some a4 :=
  ⟨(hr.below hb).c0, (hr.below hb).c1, (hr.below hb).c2, (hr.below hb).c3, (hr.below hb).c4⟩
/-- What stands behind the turns: the argument's word, the four turned ones, the rest as it was. -/
structure Done (W w : World) (p q r t : Nat) (k n c v nx vv cl : Int) (m mark : Bool) : Prop where
  x : Row5 w W.heap.size (.int .i64 k) (.int .i64 n) (.bool m) (.int .i64 c) (.int .i64 v)
  a : Row5 w p (.int .i64 k) (.int .i64 nx) (.bool m) (.int .i64 c) (.int .i64 vv)
  b : Row5 w q (.int .i64 k) (.int .i64 n) (.bool true) (.int .i64 c) (.int .i64 vv)
  c : Row5 w r (.int .i64 k) (.int .i64 nx) (.bool mark) (.int .i64 cl) (.int .i64 v)
  d : Row5 w t (.int .i64 k) (.int .i64 n) (.bool m) (.int .i64 0) (.int .i64 vv)
  old : Old W w
theorem Done.next {W w w' : World} {p q r t : Nat} {k n c v nx vv cl : Int} {m mark : Bool} (h : Done W w p q r t k n c v nx vv cl m mark) (hb : Below w.heap.size w w') : Done W w' p q r t k n c v nx vv cl m mark :=
  ⟨h.x.below hb, h.a.below hb, h.b.below hb, h.c.below hb, h.d.below hb, h.old.next hb⟩
theorem turned_done {W w : World} {p q r t : Nat} {k n c v : Int} {m : Bool} (ht : Table W) (bp : Box w p k n c v m) (bq : Box w q k n c v m) (br : Box w r k n c v m) (bt : Box w t k n c v m)
    (npq : p ≠ q) (npr : p ≠ r) (npt : p ≠ t) (nqr : q ≠ r) (nqt : q ≠ t) (nrt : r ≠ t) (lp : W.heap.size < p) (lq : W.heap.size < q) (lr : W.heap.size < r) (lt : W.heap.size < t)
    (hx : Row5 w W.heap.size (.int .i64 k) (.int .i64 n) (.bool m) (.int .i64 c) (.int .i64 v)) (ho : Old W w) (nx vv cl : Int) (mark : Bool) :
    Done W (turned w p q r t nx vv cl mark) p q r t k n c v nx vv cl m mark := by
  have e := turned_at (w := w) nx vv cl mark (Nat.ne_of_lt lp) (Nat.ne_of_lt lq) (Nat.ne_of_lt lr) (Nat.ne_of_lt lt)
  have hc : ∀ o, (turned w p q r t nx vv cl mark).cell? ⟨W.heap.size, o, none⟩ = w.cell? ⟨W.heap.size, o, none⟩ := fun o => World.cell?_of_block e
  have ha := turned_p bp nx vv cl mark npq npr npt
  have hb := turned_below ho.below (Nat.le_of_lt lp) (Nat.le_of_lt lq) (Nat.le_of_lt lr) (Nat.le_of_lt lt) nx vv cl mark
  exact ⟨⟨(hc 0).trans hx.c0, (hc 1).trans hx.c1, (hc 2).trans hx.c2, (hc 3).trans hx.c3, (hc 4).trans hx.c4, Nat.lt_trans lp ha.lt⟩, ha.row, (turned_q bq nx vv cl mark (Ne.symm npq) nqr nqt).row,
    (turned_r br nx vv cl mark (Ne.symm npr) (Ne.symm nqr) nrt).row, (turned_t bt nx vv cl mark (Ne.symm npt) (Ne.symm nqt) (Ne.symm nrt)).row, ⟨hb, ht.below hb⟩⟩
theorem Done.cells {W w : World} {p q r t : Nat} {k n c v nx vv cl : Int} {m mark : Bool} (h : Done W w p q r t k n c v nx vv cl m mark) :
    w.cell? ⟨W.heap.size, 0, none⟩ = some (.int .i64 k) ∧ w.cell? ⟨W.heap.size, 1, none⟩ = some (.int .i64 n) ∧ w.cell? ⟨W.heap.size, 2, none⟩ = some (.bool m) ∧ w.cell? ⟨W.heap.size, 3, none⟩ = some (.int .i64 c) ∧ w.cell? ⟨W.heap.size, 4, none⟩ = some (.int .i64 v) ∧ w.cell? ⟨p, 0, none⟩ = some (.int .i64 k) ∧ w.cell? ⟨p, 1, none⟩ = some (.int .i64 nx) ∧ w.cell? ⟨p, 2, none⟩ = some (.bool m) ∧ w.cell? ⟨p, 3, none⟩ = some (.int .i64 c) ∧ w.cell? ⟨p, 4, none⟩ = some (.int .i64 vv) ∧ w.cell? ⟨q, 0, none⟩ = some (.int .i64 k) ∧ w.cell? ⟨q, 1, none⟩ = some (.int .i64 n) ∧ w.cell? ⟨q, 2, none⟩ = some (.bool true) ∧ w.cell? ⟨q, 3, none⟩ = some (.int .i64 c) ∧ w.cell? ⟨q, 4, none⟩ = some (.int .i64 vv) ∧ w.cell? ⟨r, 0, none⟩ = some (.int .i64 k) ∧ w.cell? ⟨r, 1, none⟩ = some (.int .i64 nx) ∧ w.cell? ⟨r, 2, none⟩ = some (.bool mark) ∧ w.cell? ⟨r, 3, none⟩ = some (.int .i64 cl) ∧ w.cell? ⟨r, 4, none⟩ = some (.int .i64 v) ∧ w.cell? ⟨t, 0, none⟩ = some (.int .i64 k) ∧ w.cell? ⟨t, 1, none⟩ = some (.int .i64 n) ∧ w.cell? ⟨t, 2, none⟩ = some (.bool m) ∧ w.cell? ⟨t, 3, none⟩ = some (.int .i64 0) ∧ w.cell? ⟨t, 4, none⟩ = some (.int .i64 vv) ∧ Done W w p q r t k n c v nx vv cl m mark :=
  ⟨h.x.c0, h.x.c1, h.x.c2, h.x.c3, h.x.c4, h.a.c0, h.a.c1, h.a.c2, h.a.c3, h.a.c4, h.b.c0, h.b.c1, h.b.c2, h.b.c3, h.b.c4, h.c.c0, h.c.c1, h.c.c2, h.c.c3, h.c.c4, h.d.c0, h.d.c1, h.d.c2, h.d.c3, h.d.c4, h⟩
theorem Done.keep {W w w' : World} {p q r t : Nat} {k n c v nx vv cl : Int} {m mark : Bool}
    (h : w.cell? ⟨W.heap.size, 0, none⟩ = some (.int .i64 k) ∧ w.cell? ⟨W.heap.size, 1, none⟩ = some (.int .i64 n) ∧ w.cell? ⟨W.heap.size, 2, none⟩ = some (.bool m) ∧ w.cell? ⟨W.heap.size, 3, none⟩ = some (.int .i64 c) ∧ w.cell? ⟨W.heap.size, 4, none⟩ = some (.int .i64 v) ∧ w.cell? ⟨p, 0, none⟩ = some (.int .i64 k) ∧ w.cell? ⟨p, 1, none⟩ = some (.int .i64 nx) ∧ w.cell? ⟨p, 2, none⟩ = some (.bool m) ∧ w.cell? ⟨p, 3, none⟩ = some (.int .i64 c) ∧ w.cell? ⟨p, 4, none⟩ = some (.int .i64 vv) ∧ w.cell? ⟨q, 0, none⟩ = some (.int .i64 k) ∧ w.cell? ⟨q, 1, none⟩ = some (.int .i64 n) ∧ w.cell? ⟨q, 2, none⟩ = some (.bool true) ∧ w.cell? ⟨q, 3, none⟩ = some (.int .i64 c) ∧ w.cell? ⟨q, 4, none⟩ = some (.int .i64 vv) ∧ w.cell? ⟨r, 0, none⟩ = some (.int .i64 k) ∧ w.cell? ⟨r, 1, none⟩ = some (.int .i64 nx) ∧ w.cell? ⟨r, 2, none⟩ = some (.bool mark) ∧ w.cell? ⟨r, 3, none⟩ = some (.int .i64 cl) ∧ w.cell? ⟨r, 4, none⟩ = some (.int .i64 v) ∧ w.cell? ⟨t, 0, none⟩ = some (.int .i64 k) ∧ w.cell? ⟨t, 1, none⟩ = some (.int .i64 n) ∧ w.cell? ⟨t, 2, none⟩ = some (.bool m) ∧ w.cell? ⟨t, 3, none⟩ = some (.int .i64 0) ∧ w.cell? ⟨t, 4, none⟩ = some (.int .i64 vv) ∧ Done W w p q r t k n c v nx vv cl m mark) (hb : Below w.heap.size w w') :
    w'.cell? ⟨W.heap.size, 0, none⟩ = some (.int .i64 k) ∧ w'.cell? ⟨W.heap.size, 1, none⟩ = some (.int .i64 n) ∧ w'.cell? ⟨W.heap.size, 2, none⟩ = some (.bool m) ∧ w'.cell? ⟨W.heap.size, 3, none⟩ = some (.int .i64 c) ∧ w'.cell? ⟨W.heap.size, 4, none⟩ = some (.int .i64 v) ∧ w'.cell? ⟨p, 0, none⟩ = some (.int .i64 k) ∧ w'.cell? ⟨p, 1, none⟩ = some (.int .i64 nx) ∧ w'.cell? ⟨p, 2, none⟩ = some (.bool m) ∧ w'.cell? ⟨p, 3, none⟩ = some (.int .i64 c) ∧ w'.cell? ⟨p, 4, none⟩ = some (.int .i64 vv) ∧ w'.cell? ⟨q, 0, none⟩ = some (.int .i64 k) ∧ w'.cell? ⟨q, 1, none⟩ = some (.int .i64 n) ∧ w'.cell? ⟨q, 2, none⟩ = some (.bool true) ∧ w'.cell? ⟨q, 3, none⟩ = some (.int .i64 c) ∧ w'.cell? ⟨q, 4, none⟩ = some (.int .i64 vv) ∧ w'.cell? ⟨r, 0, none⟩ = some (.int .i64 k) ∧ w'.cell? ⟨r, 1, none⟩ = some (.int .i64 nx) ∧ w'.cell? ⟨r, 2, none⟩ = some (.bool mark) ∧ w'.cell? ⟨r, 3, none⟩ = some (.int .i64 cl) ∧ w'.cell? ⟨r, 4, none⟩ = some (.int .i64 v) ∧ w'.cell? ⟨t, 0, none⟩ = some (.int .i64 k) ∧ w'.cell? ⟨t, 1, none⟩ = some (.int .i64 n) ∧ w'.cell? ⟨t, 2, none⟩ = some (.bool m) ∧ w'.cell? ⟨t, 3, none⟩ = some (.int .i64 0) ∧ w'.cell? ⟨t, 4, none⟩ = some (.int .i64 vv) ∧ Done W w' p q r t k n c v nx vv cl m mark :=
  (Done.next (h.2.2.2.2.2.2.2.2.2.2.2.2.2.2.2.2.2.2.2.2.2.2.2.2.2) hb).cells
theorem nextVer_mod (v : Int) (h1 : v < 262144) (h0 : 0 ≤ v) : nextVer v = (v + 1) % 262144 := by
  unfold nextVer
  split <;> omega
end Go.Proofs.YtcblbbenaeiecaaDoor.word
