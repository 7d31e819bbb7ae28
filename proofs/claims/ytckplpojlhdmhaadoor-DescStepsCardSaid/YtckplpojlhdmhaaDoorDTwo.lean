/- What is carried through the law DescSteps: the descriptor and the answer that came in, in blocks of the call's own. -/
import Derived.Test.YtckplpojlhdmhaaDoorDIs
import Derived.Test.YtckplpojlhdmhaaDoorDEqw
namespace Go.Proofs.YtckplpojlhdmhaaDoor.desc
open Go.RowKit

/-- Three cells of a block: an answer that lies there. -/
structure Row3 (w : World) (b : Nat) (c : Int) (k : Bool) (z : Int) : Prop where
  c0 : w.cell? ⟨b, 0, none⟩ = some (.int .i64 c)
  c1 : w.cell? ⟨b, 1, none⟩ = some (.bool k)
  c2 : w.cell? ⟨b, 2, none⟩ = some (.int .i64 z)
  size : b < w.heap.size
theorem Row3.below {w w' : World} {b : Nat} {c : Int} {k : Bool} {z : Int} (h : Row3 w b c k z) (hb : Below w.heap.size w w') : Row3 w' b c k z :=
  ⟨(hb.cell h.size).trans h.c0, (hb.cell h.size).trans h.c1, (hb.cell h.size).trans h.c2, Nat.lt_of_lt_of_le h.size hb.size⟩
theorem Row3.new (w : World) (c : Int) (k : Bool) (z : Int) : Row3 (w.alloc (.cells #[.int .i64 c, .bool k, .int .i64 z] 34)) w.heap.size c k z :=
  ⟨by go_simp, by go_simp, by go_simp, by simp⟩
theorem away {w : World} {b d : Nat} (hd : d ≠ b) (i : Nat) (z : Value) (o : Nat) : (w.setCell ⟨b, i, none⟩ z).cell? ⟨d, o, none⟩ = w.cell? ⟨d, o, none⟩ :=
  World.cell?_of_block (Below.heap_setCell _ _ _ _ hd)
theorem Row3.away {w : World} {b d : Nat} {c : Int} {k : Bool} {z : Int} (h : Row3 w d c k z) (hd : d ≠ b) (i : Nat) (u : Value) : Row3 (w.setCell ⟨b, i, none⟩ u) d c k z :=
  ⟨(desc.away hd i u 0).trans h.c0, (desc.away hd i u 1).trans h.c1, (desc.away hd i u 2).trans h.c2, by simpa using h.size⟩
theorem Row7.away {w : World} {b d : Nat} {t a v n : Int} {m : Bool} {s x : Int} (h : Row7 w d t a v n m s x) (hd : d ≠ b) (i : Nat) (u : Value) : Row7 (w.setCell ⟨b, i, none⟩ u) d t a v n m s x :=
  ⟨(desc.away hd i u 0).trans h.c0, (desc.away hd i u 1).trans h.c1, (desc.away hd i u 2).trans h.c2, (desc.away hd i u 3).trans h.c3, (desc.away hd i u 4).trans h.c4, (desc.away hd i u 5).trans h.c5, (desc.away hd i u 6).trans h.c6, by simpa using h.size⟩

/-- The two arguments' blocks; nothing that was there has changed. -/
structure Two (W w : World) (t a v n : Int) (m : Bool) (s x : Int) (c : Int) (k : Bool) (z : Int) : Prop where
  drow : Row7 w W.heap.size t a v n m s x
  rrow : Row3 w (W.heap.size + 1) c k z
  free : ∀ o, w.frozen? ⟨W.heap.size, o, none⟩ = false
  old : Old W w
theorem Two.next {W w w' : World} {t a v n : Int} {m : Bool} {s x c : Int} {k : Bool} {z : Int} (h : Two W w t a v n m s x c k z) (hb : Below w.heap.size w w') : Two W w' t a v n m s x c k z :=
  ⟨h.drow.below hb, h.rrow.below hb, fun o => (hb.frozen (p := ⟨W.heap.size, o, none⟩) h.drow.size).trans (h.free o), h.old.next hb⟩
theorem Two.alloc {W w : World} {t a v n : Int} {m : Bool} {s x c : Int} {k : Bool} {z : Int} (h : Two W w t a v n m s x c k z) (o : Obj) : Two W (w.alloc o) t a v n m s x c k z :=
  h.next ((Below.refl _ _).alloc (Nat.le_refl _) o)
theorem Two.first {W : World} (ht : Table W) (t a v n : Int) (m : Bool) (s x c : Int) (k : Bool) (z : Int) : Two W ((W.alloc (.cells #[.int .i64 t, .int .i64 a, .int .i64 v, .int .i64 n, .bool m, .int .i64 s, .int .i64 x] 23)).alloc (.cells #[.int .i64 c, .bool k, .int .i64 z] 34)) t a v n m s x c k z :=
  ⟨(Row7.new W t a v n m s x).alloc _, by have h := Row3.new (W.alloc (.cells #[.int .i64 t, .int .i64 a, .int .i64 v, .int .i64 n, .bool m, .int .i64 s, .int .i64 x] 23)) c k z; simpa using h, fun o => by go_simp, ((Old.refl ht).alloc _).alloc _⟩

/-- The next attempt and the end beside them. -/
structure Lay (W w : World) (N E : Nat) (t a v n : Int) (m : Bool) (s x : Int) (c : Int) (k : Bool) (z tn fu : Int) : Prop where
  two : Two W w t a v n m s x c k z
  nrow : Row7 w N tn 0 0 0 false 1 0
  erow : Row7 w E t 0 0 fu k 5 z
  lt : W.heap.size < E
theorem Lay.next {W w w' : World} {N E : Nat} {t a v n : Int} {m : Bool} {s x c : Int} {k : Bool} {z tn fu : Int} (h : Lay W w N E t a v n m s x c k z tn fu) (hb : Below w.heap.size w w') : Lay W w' N E t a v n m s x c k z tn fu :=
  ⟨h.two.next hb, h.nrow.below hb, h.erow.below hb, h.lt⟩
/-- The same beside all the cells that are read, for a region that draws its order. -/
theorem Lay.cells {W w : World} {N E : Nat} {t a v n : Int} {m : Bool} {s x c : Int} {k : Bool} {z tn fu : Int} (h : Lay W w N E t a v n m s x c k z tn fu) : w.cell? ⟨W.heap.size, 0, none⟩ = some (.int .i64 t) ∧ w.cell? ⟨W.heap.size, 1, none⟩ = some (.int .i64 a) ∧ w.cell? ⟨W.heap.size, 2, none⟩ = some (.int .i64 v) ∧ w.cell? ⟨W.heap.size, 3, none⟩ = some (.int .i64 n) ∧ w.cell? ⟨W.heap.size, 4, none⟩ = some (.bool m) ∧ w.cell? ⟨W.heap.size, 5, none⟩ = some (.int .i64 s) ∧ w.cell? ⟨W.heap.size, 6, none⟩ = some (.int .i64 x) ∧ w.cell? ⟨W.heap.size + 1, 1, none⟩ = some (.bool k) ∧ w.cell? ⟨W.heap.size + 1, 2, none⟩ = some (.int .i64 z) ∧ w.cell? ⟨N, 0, none⟩ = some (.int .i64 tn) ∧ w.cell? ⟨N, 1, none⟩ = some (.int .i64 0) ∧ w.cell? ⟨N, 2, none⟩ = some (.int .i64 0) ∧ w.cell? ⟨N, 3, none⟩ = some (.int .i64 0) ∧ w.cell? ⟨N, 4, none⟩ = some (.bool false) ∧ w.cell? ⟨N, 5, none⟩ = some (.int .i64 1) ∧ w.cell? ⟨N, 6, none⟩ = some (.int .i64 0) ∧ w.cell? ⟨E, 0, none⟩ = some (.int .i64 t) ∧ w.cell? ⟨E, 1, none⟩ = some (.int .i64 0) ∧ w.cell? ⟨E, 2, none⟩ = some (.int .i64 0) ∧ w.cell? ⟨E, 3, none⟩ = some (.int .i64 fu) ∧ w.cell? ⟨E, 4, none⟩ = some (.bool k) ∧ w.cell? ⟨E, 5, none⟩ = some (.int .i64 5) ∧ w.cell? ⟨E, 6, none⟩ = some (.int .i64 z) ∧ Lay W w N E t a v n m s x c k z tn fu :=
  ⟨h.two.drow.c0, h.two.drow.c1, h.two.drow.c2, h.two.drow.c3, h.two.drow.c4, h.two.drow.c5, h.two.drow.c6, h.two.rrow.c1, h.two.rrow.c2, h.nrow.c0, h.nrow.c1, h.nrow.c2, h.nrow.c3, h.nrow.c4, h.nrow.c5, h.nrow.c6, h.erow.c0, h.erow.c1, h.erow.c2, h.erow.c3, h.erow.c4, h.erow.c5, h.erow.c6, h⟩
theorem Lay.keep {W w w' : World} {N E : Nat} {t a v n : Int} {m : Bool} {s x c : Int} {k : Bool} {z tn fu : Int} (h : w.cell? ⟨W.heap.size, 0, none⟩ = some (.int .i64 t) ∧ w.cell? ⟨W.heap.size, 1, none⟩ = some (.int .i64 a) ∧ w.cell? ⟨W.heap.size, 2, none⟩ = some (.int .i64 v) ∧ w.cell? ⟨W.heap.size, 3, none⟩ = some (.int .i64 n) ∧ w.cell? ⟨W.heap.size, 4, none⟩ = some (.bool m) ∧ w.cell? ⟨W.heap.size, 5, none⟩ = some (.int .i64 s) ∧ w.cell? ⟨W.heap.size, 6, none⟩ = some (.int .i64 x) ∧ w.cell? ⟨W.heap.size + 1, 1, none⟩ = some (.bool k) ∧ w.cell? ⟨W.heap.size + 1, 2, none⟩ = some (.int .i64 z) ∧ w.cell? ⟨N, 0, none⟩ = some (.int .i64 tn) ∧ w.cell? ⟨N, 1, none⟩ = some (.int .i64 0) ∧ w.cell? ⟨N, 2, none⟩ = some (.int .i64 0) ∧ w.cell? ⟨N, 3, none⟩ = some (.int .i64 0) ∧ w.cell? ⟨N, 4, none⟩ = some (.bool false) ∧ w.cell? ⟨N, 5, none⟩ = some (.int .i64 1) ∧ w.cell? ⟨N, 6, none⟩ = some (.int .i64 0) ∧ w.cell? ⟨E, 0, none⟩ = some (.int .i64 t) ∧ w.cell? ⟨E, 1, none⟩ = some (.int .i64 0) ∧ w.cell? ⟨E, 2, none⟩ = some (.int .i64 0) ∧ w.cell? ⟨E, 3, none⟩ = some (.int .i64 fu) ∧ w.cell? ⟨E, 4, none⟩ = some (.bool k) ∧ w.cell? ⟨E, 5, none⟩ = some (.int .i64 5) ∧ w.cell? ⟨E, 6, none⟩ = some (.int .i64 z) ∧ Lay W w N E t a v n m s x c k z tn fu) (hb : Below w.heap.size w w') : w'.cell? ⟨W.heap.size, 0, none⟩ = some (.int .i64 t) ∧ w'.cell? ⟨W.heap.size, 1, none⟩ = some (.int .i64 a) ∧ w'.cell? ⟨W.heap.size, 2, none⟩ = some (.int .i64 v) ∧ w'.cell? ⟨W.heap.size, 3, none⟩ = some (.int .i64 n) ∧ w'.cell? ⟨W.heap.size, 4, none⟩ = some (.bool m) ∧ w'.cell? ⟨W.heap.size, 5, none⟩ = some (.int .i64 s) ∧ w'.cell? ⟨W.heap.size, 6, none⟩ = some (.int .i64 x) ∧ w'.cell? ⟨W.heap.size + 1, 1, none⟩ = some (.bool k) ∧ w'.cell? ⟨W.heap.size + 1, 2, none⟩ = some (.int .i64 z) ∧ w'.cell? ⟨N, 0, none⟩ = some (.int .i64 tn) ∧ w'.cell? ⟨N, 1, none⟩ = some (.int .i64 0) ∧ w'.cell? ⟨N, 2, none⟩ = some (.int .i64 0) ∧ w'.cell? ⟨N, 3, none⟩ = some (.int .i64 0) ∧ w'.cell? ⟨N, 4, none⟩ = some (.bool false) ∧ w'.cell? ⟨N, 5, none⟩ = some (.int .i64 1) ∧ w'.cell? ⟨N, 6, none⟩ = some (.int .i64 0) ∧ w'.cell? ⟨E, 0, none⟩ = some (.int .i64 t) ∧ w'.cell? ⟨E, 1, none⟩ = some (.int .i64 0) ∧ w'.cell? ⟨E, 2, none⟩ = some (.int .i64 0) ∧ w'.cell? ⟨E, 3, none⟩ = some (.int .i64 fu) ∧ w'.cell? ⟨E, 4, none⟩ = some (.bool k) ∧ w'.cell? ⟨E, 5, none⟩ = some (.int .i64 5) ∧ w'.cell? ⟨E, 6, none⟩ = some (.int .i64 z) ∧ Lay W w' N E t a v n m s x c k z tn fu :=
  (h.2.2.2.2.2.2.2.2.2.2.2.2.2.2.2.2.2.2.2.2.2.2.2.next hb).cells

theorem Lay.old {W w : World} {N E : Nat} {t a v n : Int} {m : Bool} {s x : Int} {c : Int} {k : Bool} {z tn fu : Int} (h : Lay W w N E t a v n m s x c k z tn fu) : Below W.heap.size W w := h.two.old.below

theorem Lay.back {W w : World} {N E : Nat} {t a v n : Int} {m : Bool} {s x : Int} {c : Int} {k : Bool} {z tn fu : Int} (h : w.cell? ⟨W.heap.size, 0, none⟩ = some (.int .i64 t) ∧ w.cell? ⟨W.heap.size, 1, none⟩ = some (.int .i64 a) ∧ w.cell? ⟨W.heap.size, 2, none⟩ = some (.int .i64 v) ∧ w.cell? ⟨W.heap.size, 3, none⟩ = some (.int .i64 n) ∧ w.cell? ⟨W.heap.size, 4, none⟩ = some (.bool m) ∧ w.cell? ⟨W.heap.size, 5, none⟩ = some (.int .i64 s) ∧ w.cell? ⟨W.heap.size, 6, none⟩ = some (.int .i64 x) ∧ w.cell? ⟨W.heap.size + 1, 1, none⟩ = some (.bool k) ∧ w.cell? ⟨W.heap.size + 1, 2, none⟩ = some (.int .i64 z) ∧ w.cell? ⟨N, 0, none⟩ = some (.int .i64 tn) ∧ w.cell? ⟨N, 1, none⟩ = some (.int .i64 0) ∧ w.cell? ⟨N, 2, none⟩ = some (.int .i64 0) ∧ w.cell? ⟨N, 3, none⟩ = some (.int .i64 0) ∧ w.cell? ⟨N, 4, none⟩ = some (.bool false) ∧ w.cell? ⟨N, 5, none⟩ = some (.int .i64 1) ∧ w.cell? ⟨N, 6, none⟩ = some (.int .i64 0) ∧ w.cell? ⟨E, 0, none⟩ = some (.int .i64 t) ∧ w.cell? ⟨E, 1, none⟩ = some (.int .i64 0) ∧ w.cell? ⟨E, 2, none⟩ = some (.int .i64 0) ∧ w.cell? ⟨E, 3, none⟩ = some (.int .i64 fu) ∧ w.cell? ⟨E, 4, none⟩ = some (.bool k) ∧ w.cell? ⟨E, 5, none⟩ = some (.int .i64 5) ∧ w.cell? ⟨E, 6, none⟩ = some (.int .i64 z) ∧ Lay W w N E t a v n m s x c k z tn fu) : Lay W w N E t a v n m s x c k z tn fu := h.2.2.2.2.2.2.2.2.2.2.2.2.2.2.2.2.2.2.2.2.2.2.2

/-- Behind the store into the descriptor's own block: what is read later. -/
structure Fin (W w : World) (E : Nat) (t : Int) (c : Int) (k : Bool) (z fu : Int) : Prop where
  rrow : Row3 w (W.heap.size + 1) c k z
  erow : Row7 w E t 0 0 fu k 5 z
  old : Old W w
theorem Fin.next {W w w' : World} {E : Nat} {t c : Int} {k : Bool} {z fu : Int} (h : Fin W w E t c k z fu) (hb : Below w.heap.size w w') : Fin W w' E t c k z fu :=
  ⟨h.rrow.below hb, h.erow.below hb, h.old.next hb⟩
theorem Fin.alloc {W w : World} {E : Nat} {t c : Int} {k : Bool} {z fu : Int} (h : Fin W w E t c k z fu) (o : Obj) : Fin W (w.alloc o) E t c k z fu :=
  h.next ((Below.refl _ _).alloc (Nat.le_refl _) o)
theorem Lay.stored {W w : World} {N E : Nat} {t a v n : Int} {m : Bool} {s x c : Int} {k : Bool} {z tn fu : Int} (h : Lay W w N E t a v n m s x c k z tn fu) (ht : Table W) (u : Value) : Fin W (w.setCell ⟨W.heap.size, 5, none⟩ u) E t c k z fu := by
  have hb : Below W.heap.size W (w.setCell ⟨W.heap.size, 5, none⟩ u) := h.two.old.below.setCell (Nat.le_refl _) _
  exact ⟨h.two.rrow.away (by omega) _ _, h.erow.away (by have := h.lt; omega) _ _, ⟨hb, ht.below hb⟩⟩
/-- The same beside the cells that the last region reads. -/
theorem Fin.cells {W w : World} {E G : Nat} {t c : Int} {k : Bool} {z fu : Int} {c' : Int} {k' : Bool} {z' : Int} (h : Fin W w E t c k z fu) (hg : Row3 w G c' k' z') : w.cell? ⟨E, 0, none⟩ = some (.int .i64 t) ∧ w.cell? ⟨E, 1, none⟩ = some (.int .i64 0) ∧ w.cell? ⟨E, 2, none⟩ = some (.int .i64 0) ∧ w.cell? ⟨E, 3, none⟩ = some (.int .i64 fu) ∧ w.cell? ⟨E, 4, none⟩ = some (.bool k) ∧ w.cell? ⟨E, 5, none⟩ = some (.int .i64 5) ∧ w.cell? ⟨E, 6, none⟩ = some (.int .i64 z) ∧ w.cell? ⟨G, 0, none⟩ = some (.int .i64 c') ∧ w.cell? ⟨G, 1, none⟩ = some (.bool k') ∧ w.cell? ⟨G, 2, none⟩ = some (.int .i64 z') ∧ Fin W w E t c k z fu ∧ Row3 w G c' k' z' :=
  ⟨h.erow.c0, h.erow.c1, h.erow.c2, h.erow.c3, h.erow.c4, h.erow.c5, h.erow.c6, hg.c0, hg.c1, hg.c2, h, hg⟩
theorem Fin.keep {W w w' : World} {E G : Nat} {t c : Int} {k : Bool} {z fu : Int} {c' : Int} {k' : Bool} {z' : Int} (h : w.cell? ⟨E, 0, none⟩ = some (.int .i64 t) ∧ w.cell? ⟨E, 1, none⟩ = some (.int .i64 0) ∧ w.cell? ⟨E, 2, none⟩ = some (.int .i64 0) ∧ w.cell? ⟨E, 3, none⟩ = some (.int .i64 fu) ∧ w.cell? ⟨E, 4, none⟩ = some (.bool k) ∧ w.cell? ⟨E, 5, none⟩ = some (.int .i64 5) ∧ w.cell? ⟨E, 6, none⟩ = some (.int .i64 z) ∧ w.cell? ⟨G, 0, none⟩ = some (.int .i64 c') ∧ w.cell? ⟨G, 1, none⟩ = some (.bool k') ∧ w.cell? ⟨G, 2, none⟩ = some (.int .i64 z') ∧ Fin W w E t c k z fu ∧ Row3 w G c' k' z') (hb : Below w.heap.size w w') : w'.cell? ⟨E, 0, none⟩ = some (.int .i64 t) ∧ w'.cell? ⟨E, 1, none⟩ = some (.int .i64 0) ∧ w'.cell? ⟨E, 2, none⟩ = some (.int .i64 0) ∧ w'.cell? ⟨E, 3, none⟩ = some (.int .i64 fu) ∧ w'.cell? ⟨E, 4, none⟩ = some (.bool k) ∧ w'.cell? ⟨E, 5, none⟩ = some (.int .i64 5) ∧ w'.cell? ⟨E, 6, none⟩ = some (.int .i64 z) ∧ w'.cell? ⟨G, 0, none⟩ = some (.int .i64 c') ∧ w'.cell? ⟨G, 1, none⟩ = some (.bool k') ∧ w'.cell? ⟨G, 2, none⟩ = some (.int .i64 z') ∧ Fin W w' E t c k z fu ∧ Row3 w' G c' k' z' :=
  (h.2.2.2.2.2.2.2.2.2.2.1.next hb).cells (h.2.2.2.2.2.2.2.2.2.2.2.below hb)

/-- A list in memory that came in stays. -/
theorem Lst.later {W w : World} {a : Option Addr} {len : Nat} {zs : Nat → Int} (h : Lst W a len zs) (hb : Below W.heap.size W w) : Lst w a len zs := fun i hi => by
  obtain ⟨b, e, hc⟩ := h i hi
  exact ⟨b, e, (hb.cell (World.block_lt_of_cell? W _ hc)).trans hc⟩

theorem next_mod (w : World) (t a v n : Int) (m : Bool) (s x : Int) (t0 : 0 ≤ t) (t1 : t < 4096) :
    Calls Tryd.prog 13 #[.agg #[.int .i64 t, .int .i64 a, .int .i64 v, .int .i64 n, .bool m, .int .i64 s, .int .i64 x]] w fun e w' => e = .returned (.agg #[.int .i64 ((t + 1) % 4096), .int .i64 0, .int .i64 0, .int .i64 0, .bool false, .int .i64 1, .int .i64 0]) ∧ Below w.heap.size w w' :=
  (next_any w t a v n m s x t0 t1).mono fun _ _ ⟨he, hb⟩ => ⟨by rw [he, nextAtt_mod t t0 t1], hb⟩
theorem pend_is (w : World) (t a v n : Int) (m : Bool) (s x : Int) (b : Bool) (h : pend s = b) :
    Calls Tryd.prog 16 #[.agg #[.int .i64 t, .int .i64 a, .int .i64 v, .int .i64 n, .bool m, .int .i64 s, .int .i64 x]] w fun e w' => e = .returned (.bool b) ∧ Below w.heap.size w w' :=
  (pending_any w t a v n m s x).mono fun _ _ ⟨he, hb⟩ => ⟨by rw [he, h], hb⟩
theorem ended_is (w : World) (t a v n : Int) (m : Bool) (s x : Int) (c : Int) (k : Bool) (z fu : Int) (h : full c = fu) :
    Calls Tryd.prog 14 #[.agg #[.int .i64 t, .int .i64 a, .int .i64 v, .int .i64 n, .bool m, .int .i64 s, .int .i64 x], .agg #[.int .i64 c, .bool k, .int .i64 z]] w fun e w' => e = .returned (.agg #[.int .i64 t, .int .i64 0, .int .i64 0, .int .i64 fu, .bool k, .int .i64 5, .int .i64 z]) ∧ Below w.heap.size w w' :=
  (ended_any w t a v n m s x c k z).mono fun _ _ ⟨he, hb⟩ => ⟨by rw [he, h], hb⟩
end Go.Proofs.YtckplpojlhdmhaaDoor.desc
