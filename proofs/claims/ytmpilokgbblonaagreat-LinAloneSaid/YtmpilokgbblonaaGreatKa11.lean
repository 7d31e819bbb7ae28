/- A meaning in the heap: its three cells, its two rows of numbers; what an operation leaves as it was. -/
import Derived.Test.YtmpilokgbblonaaGreatKa06
import Derived.Laws.AppendOwn
import Derived.Laws.IdiomCopy
import Derived.Deep.Upon
import Derived.Lib.SmallJoins
import Derived.Shelf.SlGeneric
import Derived.Shelf.Small.Wraps
import Derived.Shelf.Slices.Cells
import Derived.Shelf.Slices.Equal
import Derived.Shelf.Slices.Empties
import Derived.Shelf.Slices.Empties2
import Derived.Shelf.Slices.Clone
import Derived.Shelf.Slices.Delete
import Derived.Shelf.Spec.SlicesInsert
import Derived.Shelf.Spec.SlicesInsertGrow
import Derived.Shelf.Spec.SlicesGrow
import Derived.Ground.Names2Prog
import Derived.Ground.Names8Prog
import Derived.Test.YtmpilokgbblonaaGreatProg
namespace Go.Proofs.YtmpilokgbblonaaGreat.spec
open Go.RowKit task

/-- Numbers at block g from cell o on, with room for c. -/
structure Row (w : World) (g o c : Nat) (xs : List Int) : Prop where
  len : xs.length ≤ c
  big : c ≤ 9223372036854775807
  blk : ∃ cur, w.heap[g]? = some (.cells cur 3 (0, 0)) ∧ o + c ≤ cur.size ∧ ∀ j, j < xs.length → cur[o + j]? = some (.int .i64 (xs.getD j 0))
section
variable {w w' : World} {g o c : Nat} {xs : List Int}
theorem Row.lt (h : Row w g o c xs) : g < w.heap.size := by
  obtain ⟨cur, hb, _⟩ := h.blk
  exact (Array.getElem?_eq_some_iff.1 hb).1
theorem Row.moved (h : Row w g o c xs) (hb : w'.heap[g]? = w.heap[g]?) : Row w' g o c xs := ⟨h.len, h.big, by rw [hb]; exact h.blk⟩
theorem Row.cell (h : Row w g o c xs) {j : Nat} (hj : j < xs.length) : w.cell? ⟨g, o + j, none⟩ = some (.int .i64 (xs.getD j 0)) := by
  obtain ⟨cur, hb, _, hc⟩ := h.blk
  rw [Joins.cell_of_block hb]
  exact hc j hj
theorem Row.there (h : Row w g o c xs) {j : Nat} (hj : j < c) : (w.cell? ⟨g, o + j, none⟩).isSome = true := by
  obtain ⟨cur, hb, hs, _⟩ := h.blk
  rw [Joins.cell_of_block hb, Array.getElem?_eq_getElem (by omega)]
  rfl
theorem Row.free (h : Row w g o c xs) (i : Nat) : w.frozen? ⟨g, i, none⟩ = false := by
  obtain ⟨cur, hb, _⟩ := h.blk
  exact Joins.unfrozen_of_block hb i
theorem Row.kind (h : Row w g o c xs) : ∃ k, o + c ≤ k ∧ w.shape? g = some (3, k) := by
  obtain ⟨cur, hb, hs, _⟩ := h.blk
  exact ⟨cur.size, hs, by simp [World.shape?, hb]⟩
/-- The cells as the library's contracts ask for them. -/
theorem Row.vals (h : Row w g o c xs) : ∀ j v, (xs.map (Value.int .i64))[j]? = some v → w.cell? ⟨g, o + j, none⟩ = some v := by
  intro j v hv
  have hj : j < xs.length := by have := (List.getElem?_eq_some_iff.1 hv).1; simpa using this
  rw [h.cell hj]
  rw [List.getElem?_map, List.getElem?_eq_getElem hj] at hv
  rw [List.getD_eq_getElem?_getD, List.getElem?_eq_getElem hj]
  exact hv
theorem one_vals (xs : List Int) : ∀ v ∈ xs.map (Value.int .i64), v.oneCell' = true := by
  intro v hv
  obtain ⟨x, _, rfl⟩ := List.mem_map.1 hv
  rfl
end

theorem block_setCells (g : Nat) : ∀ (vs : List Value) (o : Nat) (w : World) (cur : Array Value) (T : TypeId) (fr : Nat × Nat), w.heap[g]? = some (.cells cur T fr) →
    ∃ cur', (w.setCells g o vs).heap[g]? = some (.cells cur' T fr) ∧ cur'.size = cur.size ∧ (∀ i, (i < o ∨ o + vs.length ≤ i) → cur'[i]? = cur[i]?) ∧ ∀ j, j < vs.length → o + j < cur.size → cur'[o + j]? = vs[j]?
  | [], o, w, cur, T, fr, h => ⟨cur, h, rfl, fun _ _ => rfl, fun j hj => absurd hj (by simp)⟩
  | v :: vs, o, w, cur, T, fr, h => by
    obtain ⟨cur', h1, h2, h3, h4⟩ := block_setCells g vs (o + 1) _ _ T fr (Joins.block_setCell (i := o) h v)
    refine ⟨cur', h1, by rw [h2]; simp, fun i hi => ?_, fun j hj hs => ?_⟩
    · simp at hi
      rw [h3 i (by omega), Array.getElem?_setIfInBounds, if_neg (by omega)]
    · cases j with
      | zero =>
        rw [h3 (o + 0) (by omega), Array.getElem?_setIfInBounds, if_pos (by omega), if_pos (by omega)]
        rfl
      | succ j =>
        have := h4 j (by simpa using hj) (by simp; omega)
        rw [show o + (j + 1) = o + 1 + j by omega, this]
        rfl

/-- A slice of numbers: nil, or a row at block g. -/
def Rw (w : World) (g : Nat) (A : Option Addr) (c : Nat) (xs : List Int) : Prop := (A = none ∧ c = 0 ∧ xs = []) ∨ ∃ o, A = some ⟨g, o, none⟩ ∧ Row w g o c xs
section
variable {w w' : World} {g c : Nat} {A : Option Addr} {xs : List Int}
theorem Rw.moved (h : Rw w g A c xs) (hb : A ≠ none → w'.heap[g]? = w.heap[g]?) : Rw w' g A c xs := by
  rcases h with h | ⟨o, rfl, h⟩
  · exact Or.inl h
  · exact Or.inr ⟨o, rfl, h.moved (hb (by simp))⟩
theorem Rw.lt (h : Rw w g A c xs) (hA : A ≠ none) : g < w.heap.size := by
  rcases h with ⟨h, _⟩ | ⟨o, rfl, h⟩
  · exact absurd h hA
  · exact h.lt
theorem Rw.below (h : Rw w g A c xs) (hb : Below w.heap.size w w') : Rw w' g A c xs := h.moved fun hA => hb.block g (h.lt hA)
theorem Rw.row (h : Rw w g A c xs) (hx : xs ≠ []) : ∃ o, A = some ⟨g, o, none⟩ ∧ Row w g o c xs := by
  rcases h with ⟨_, _, h⟩ | h
  · exact absurd h hx
  · exact h
theorem Rw.kind (h : Rw w g A c xs) (hA : A ≠ none) : ∃ k, w.shape? g = some (3, k) := by
  rcases h with ⟨h, _⟩ | ⟨o, rfl, h⟩
  · exact absurd h hA
  · obtain ⟨k, _, hk⟩ := h.kind
    exact ⟨k, hk⟩
/-- A list of the call's own, as the library tells of it. -/
theorem Rw.ofOwns {base n : Nat} {v : Value} (h : w.ownsRow base 3 1 v n (xs.map (Value.int .i64))) : ∃ A c g, v = .slice A xs.length c ∧ Rw w g A c xs ∧ (A ≠ none → base ≤ g) ∧ (v ≠ .slice none 0 0 → A ≠ none) := by
  obtain ⟨hl, ⟨rfl, h0⟩ | ⟨g, cap, cur, rfl, hg, hb, hn, hm, hs, ht⟩⟩ := h
  · subst h0
    have : xs = [] := by simpa using hl
    subst this
    exact ⟨none, 0, 0, rfl, Or.inl ⟨rfl, rfl, rfl⟩, fun h => absurd rfl h, fun h => absurd rfl h⟩
  · have hxn : xs.length = n := by simpa using hl
    subst hxn
    refine ⟨some ⟨g, 0, none⟩, cap, g, rfl, Or.inr ⟨0, rfl, hn, by unfold maxLen at hm; omega, cur, hb, by omega, fun j hj => ?_⟩, fun _ => hg, fun _ => by simp⟩
    have e : (cur.toList.take (xs.length * 1))[j]? = (xs.map (Value.int .i64))[j]? := by rw [ht]
    rw [List.getElem?_take, if_pos (by omega), List.getElem?_map, List.getElem?_eq_getElem hj] at e
    rw [Nat.zero_add, ← Array.getElem?_toList, e, List.getD_eq_getElem?_getD, List.getElem?_eq_getElem hj]
    rfl
end

/-- Of what there was, nothing but the blocks of f has changed; f' is f, and new ones. -/
structure Went (f f' : Nat → Prop) (w w' : World) : Prop where
  os : w'.os = w.os
  tape : w'.tape = w.tape
  output : w'.output = w.output
  size : w.heap.size ≤ w'.heap.size
  block : ∀ b, b < w.heap.size → ¬ f b → w'.heap[b]? = w.heap[b]?
  more : ∀ b, f' b → f b ∨ w.heap.size ≤ b
section
variable {f f' f2 : Nat → Prop} {w w' w2 : World}
theorem Went.refl (f : Nat → Prop) (w : World) : Went f f w w := ⟨rfl, rfl, rfl, Nat.le_refl _, fun _ _ _ => rfl, fun _ h => Or.inl h⟩
theorem Went.ofBelow (h : Below w.heap.size w w') : Went f f w w' := ⟨h.os, h.tape, h.output, h.size, fun b hb _ => h.block b hb, fun _ h => Or.inl h⟩
theorem Went.trans (h : Went f f' w w') (k : Went f' f2 w' w2) : Went f f2 w w2 :=
  ⟨k.os.trans h.os, k.tape.trans h.tape, k.output.trans h.output, Nat.le_trans h.size k.size,
    fun b hb hf => (k.block b (Nat.lt_of_lt_of_le hb h.size) (fun h' => (h.more b h').elim hf (by omega))).trans (h.block b hb hf),
    fun b hb => (k.more b hb).elim (h.more b) (fun hs => Or.inr (Nat.le_trans h.size hs))⟩
theorem Went.next (h : Went f f' w w') (k : Below w'.heap.size w' w2) : Went f f' w w2 := h.trans (Went.ofBelow k)
theorem Went.ahead (h : Below w.heap.size w w') (k : Went f f' w' w2) : Went f f' w w2 := (Went.ofBelow h).trans k
/-- Behind a world that has nothing of f. -/
theorem Went.below {B : Nat} {a : World} (h : Went f f' w w') (hb : Below B a w) (hs : B ≤ w.heap.size) (hf : ∀ b, f b → B ≤ b) : Below B a w' :=
  hb.trans ⟨h.os, h.tape, h.output, h.size, fun b hl => h.block b (by omega) (fun hb => by have := hf b hb; omega)⟩
theorem Went.from {B : Nat} (h : Went f f' w w') (hs : B ≤ w.heap.size) (hf : ∀ b, f b → B ≤ b) : ∀ b, f' b → B ≤ b :=
  fun b hb => (h.more b hb).elim (hf b) (Nat.le_trans hs)
theorem Went.apart (h : Went f f' w w') {b : Nat} (hb : b < w.heap.size) (hf : ¬ f b) : ¬ f' b := fun h' => (h.more b h').elim hf (by omega)
theorem Went.cell (h : Went f f' w w') {b : Nat} (hb : b < w.heap.size) (hf : ¬ f b) (i : Nat) : w'.cell? ⟨b, i, none⟩ = w.cell? ⟨b, i, none⟩ := World.cell?_of_block (w := w) (h.block b hb hf)
theorem Went.weak {g g' : Nat → Prop} (h : Went f f' w w') (h1 : ∀ b, f b → g b) (h2 : ∀ b, g' b → g b ∨ w.heap.size ≤ b) : Went g g' w w' :=
  ⟨h.os, h.tape, h.output, h.size, fun b hb hg => h.block b hb (fun hf => hg (h1 b hf)), h2⟩
end

/-- A meaning's parts. -/
structure Parts where
  p : Nat
  q : Nat
  A : Option Addr
  B : Option Addr
  ca : Nat
  cb : Nat
  us : List Int
  vs : List Int
/-- Its items. -/
def Parts.items (t : Parts) : List Int := t.us.reverse ++ t.vs
theorem Parts.items_len (t : Parts) : t.items.length = t.us.length + t.vs.length := by simp [Parts.items]
/-- A meaning at block X, by its parts. -/
structure Two (w : World) (X : Nat) (s : Int) (t : Parts) : Prop where
  box : w.heap[X]? = some (.cells #[.slice t.A t.us.length t.ca, .slice t.B t.vs.length t.cb, .int .i64 s] 94 (0, 0))
  a : Rw w t.p t.A t.ca t.us
  b : Rw w t.q t.B t.cb t.vs
  ne : t.A ≠ none → t.B ≠ none → t.p ≠ t.q
section
variable {w w' : World} {X : Nat} {s : Int} {t : Parts}
theorem Two.lt (h : Two w X s t) : X < w.heap.size := (Array.getElem?_eq_some_iff.1 h.box).1
theorem Two.c0 (h : Two w X s t) : w.cell? ⟨X, 0, none⟩ = some (.slice t.A t.us.length t.ca) := by rw [Joins.cell_of_block h.box]; rfl
theorem Two.c1 (h : Two w X s t) : w.cell? ⟨X, 1, none⟩ = some (.slice t.B t.vs.length t.cb) := by rw [Joins.cell_of_block h.box]; rfl
theorem Two.c2 (h : Two w X s t) : w.cell? ⟨X, 2, none⟩ = some (.int .i64 s) := by rw [Joins.cell_of_block h.box]; rfl
theorem Two.free (h : Two w X s t) (i : Nat) : w.frozen? ⟨X, i, none⟩ = false := Joins.unfrozen_of_block h.box i
theorem shape_ne {w : World} {X p k : Nat} {cs : Array Value} {fr : Nat × Nat} (hb : w.heap[X]? = some (.cells cs 94 fr)) (h : w.shape? p = some (3, k)) : p ≠ X := by
  rintro rfl
  simp only [World.shape?, hb, Option.some.injEq, Prod.mk.injEq] at h
  exact absurd h.1 (by decide)
theorem Two.pX (h : Two w X s t) (hA : t.A ≠ none) : t.p ≠ X := by
  obtain ⟨k, hk⟩ := h.a.kind hA
  exact shape_ne h.box hk
theorem Two.qX (h : Two w X s t) (hB : t.B ≠ none) : t.q ≠ X := by
  obtain ⟨k, hk⟩ := h.b.kind hB
  exact shape_ne h.box hk
theorem Two.moved (h : Two w X s t) (hX : w'.heap[X]? = w.heap[X]?) (hp : t.A ≠ none → w'.heap[t.p]? = w.heap[t.p]?) (hq : t.B ≠ none → w'.heap[t.q]? = w.heap[t.q]?) : Two w' X s t :=
  ⟨by rw [hX]; exact h.box, h.a.moved hp, h.b.moved hq, h.ne⟩
theorem Two.below (h : Two w X s t) (hb : Below w.heap.size w w') : Two w' X s t := h.moved (hb.block X h.lt) (fun hA => hb.block _ (h.a.lt hA)) (fun hB => hb.block _ (h.b.lt hB))
theorem Two.drewN (h : Two w X s t) (n : Nat) : Two (w.drewN n) X s t := h.below (below_drewN (Below.refl _ _) n)
end

/-- A meaning at block X, with these items, in blocks of f. -/
def Mean (w : World) (X : Nat) (f : Nat → Prop) (s : Int) (L : List Int) : Prop := ∃ t : Parts, Two w X s t ∧ t.items = L ∧ f X ∧ f t.p ∧ f t.q ∧ ∀ b, f b → b < w.heap.size
section
variable {w w' : World} {X : Nat} {f : Nat → Prop} {s : Int} {L : List Int}
theorem Mean.lt (h : Mean w X f s L) : ∀ b, f b → b < w.heap.size := by
  obtain ⟨t, _, _, _, _, _, h⟩ := h
  exact h
theorem Mean.foot (h : Mean w X f s L) : f X := by
  obtain ⟨t, _, _, h, _⟩ := h
  exact h
theorem Mean.moved (h : Mean w X f s L) (hs : w.heap.size ≤ w'.heap.size) (hb : ∀ b, f b → w'.heap[b]? = w.heap[b]?) : Mean w' X f s L := by
  obtain ⟨t, h1, h2, h3, h4, h5, h6⟩ := h
  exact ⟨t, h1.moved (hb _ h3) (fun _ => hb _ h4) (fun _ => hb _ h5), h2, h3, h4, h5, fun b hf => Nat.lt_of_lt_of_le (h6 b hf) hs⟩
theorem Mean.below (h : Mean w X f s L) (hb : Below w.heap.size w w') : Mean w' X f s L := h.moved hb.size fun b hf => hb.block b (h.lt b hf)
/-- Another one's operation. -/
theorem Mean.apart (h : Mean w X f s L) {g g' : Nat → Prop} (hg : Went g g' w w') (hd : ∀ b, f b → ¬ g b) : Mean w' X f s L := h.moved hg.size fun b hf => hg.block b (h.lt b hf) (hd b hf)
theorem Mean.grown (h : Mean w X f s L) {row : Option Nat} (hg : w.grownBy w' row) (hd : ∀ b, row = some b → ¬ f b) : Mean w' X f s L :=
  h.moved hg.size fun b hf => hg.block b (h.lt b hf) (fun e => hd b e.symm hf)
end
end Go.Proofs.YtmpilokgbblonaaGreat.spec
/- The library's functions on slices of numbers (Insert, Delete, Clone, Equal, Reverse, Grow) and cmp.Compare, laid at this seat's numbers by program: so what is proved of them once holds here. -/
namespace Go.Proofs
open Go.Shelf
def Tryz.laysCompare_ren : Go.Shelf.Ren := ⟨fun | 122 => 84 | 215 => 95 | n => n, fun | 3 => 3 | 4 => 4 | n => n, fun | n => n⟩
theorem Tryz.laysCompare : Go.Proofs.Lays.n122 Tryz.prog Tryz.laysCompare_ren := {
  mixed := by kernel_rfl
  f122 := Tryz.func84.trans (congrArg some (by kernel_rfl))
  f215 := Tryz.func95.trans (congrArg some (by kernel_rfl))
  t3 := Tryz.underlying3
  a3 := Tryz.isAgg3
  z3 := Tryz.sizeOf3
  v3 := Tryz.zeroValue3
  t4 := Tryz.underlying4
  a4 := Tryz.isAgg4
  z4 := Tryz.sizeOf4
  v4 := Tryz.zeroValue4 }
def Tryz.laysReverse_ren : Go.Shelf.Ren := ⟨fun | 112 => 63 | n => n, fun | 28 => 29 | 3 => 3 | 4 => 4 | 0 => 0 | n => n, fun | n => n⟩
theorem Tryz.laysReverse : Go.Proofs.Lays.n112 Tryz.prog Tryz.laysReverse_ren := {
  mixed := by kernel_rfl
  f112 := Tryz.func63.trans (congrArg some (by kernel_rfl))
  t0 := Tryz.underlying0
  a0 := Tryz.isAgg0
  z0 := Tryz.sizeOf0
  v0 := Tryz.zeroValue0
  t3 := Tryz.underlying3
  a3 := Tryz.isAgg3
  z3 := Tryz.sizeOf3
  v3 := Tryz.zeroValue3
  t4 := Tryz.underlying4
  a4 := Tryz.isAgg4
  z4 := Tryz.sizeOf4
  v4 := Tryz.zeroValue4
  t28 := Tryz.underlying29
  a28 := Tryz.isAgg29
  z28 := Tryz.sizeOf29
  v28 := Tryz.zeroValue29 }
def Tryz.laysClone_ren : Go.Shelf.Ren := ⟨fun | 15 => 68 | n => n, fun | 22 => 29 | 3 => 3 | 4 => 4 | n => n, fun | n => n⟩
theorem Tryz.laysClone : Go.Proofs.Lays2.n15 Tryz.prog Tryz.laysClone_ren := {
  mixed := by kernel_rfl
  f15 := Tryz.func68.trans (congrArg some (by kernel_rfl))
  t3 := Tryz.underlying3
  a3 := Tryz.isAgg3
  z3 := Tryz.sizeOf3
  v3 := Tryz.zeroValue3
  t4 := Tryz.underlying4
  a4 := Tryz.isAgg4
  z4 := Tryz.sizeOf4
  v4 := Tryz.zeroValue4
  t22 := Tryz.underlying29
  a22 := Tryz.isAgg29
  z22 := Tryz.sizeOf29
  v22 := Tryz.zeroValue29
  i3 := by kernel_rfl }
def Tryz.laysDelete_ren : Go.Shelf.Ren := ⟨fun | 23 => 94 | n => n, fun | 22 => 29 | 3 => 3 | 4 => 4 | 0 => 0 | n => n, fun | n => n⟩
theorem Tryz.laysDelete : Go.Proofs.Lays2.n23 Tryz.prog Tryz.laysDelete_ren := {
  mixed := by kernel_rfl
  f23 := Tryz.func94.trans (congrArg some (by kernel_rfl))
  t0 := Tryz.underlying0
  a0 := Tryz.isAgg0
  z0 := Tryz.sizeOf0
  v0 := Tryz.zeroValue0
  t3 := Tryz.underlying3
  a3 := Tryz.isAgg3
  z3 := Tryz.sizeOf3
  v3 := Tryz.zeroValue3
  t4 := Tryz.underlying4
  a4 := Tryz.isAgg4
  z4 := Tryz.sizeOf4
  v4 := Tryz.zeroValue4
  t22 := Tryz.underlying29
  a22 := Tryz.isAgg29
  z22 := Tryz.sizeOf29
  v22 := Tryz.zeroValue29
  i3 := by kernel_rfl }
def Tryz.laysInsert_ren : Go.Shelf.Ren := ⟨fun | 21 => 86 | 27 => 96 | 28 => 97 | 35 => 101 | 39 => 63 | n => n, fun | 22 => 29 | 3 => 3 | 4 => 4 | 0 => 0 | n => n, fun | n => n⟩
theorem Tryz.laysInsert : Go.Proofs.Lays2.n21 Tryz.prog Tryz.laysInsert_ren := {
  mixed := by kernel_rfl
  f21 := Tryz.func86.trans (congrArg some (by kernel_rfl))
  f27 := Tryz.func96.trans (congrArg some (by kernel_rfl))
  f28 := Tryz.func97.trans (congrArg some (by kernel_rfl))
  f35 := Tryz.func101.trans (congrArg some (by kernel_rfl))
  f39 := Tryz.func63.trans (congrArg some (by kernel_rfl))
  t0 := Tryz.underlying0
  a0 := Tryz.isAgg0
  z0 := Tryz.sizeOf0
  v0 := Tryz.zeroValue0
  t3 := Tryz.underlying3
  a3 := Tryz.isAgg3
  z3 := Tryz.sizeOf3
  v3 := Tryz.zeroValue3
  t4 := Tryz.underlying4
  a4 := Tryz.isAgg4
  z4 := Tryz.sizeOf4
  v4 := Tryz.zeroValue4
  t22 := Tryz.underlying29
  a22 := Tryz.isAgg29
  z22 := Tryz.sizeOf29
  v22 := Tryz.zeroValue29
  i3 := by kernel_rfl }
def Tryz.laysGrow_ren : Go.Shelf.Ren := ⟨fun | 4 => 76 | n => n, fun | 22 => 29 | 25 => 3 | 3 => 3 | 4 => 4 | 9 => 9 | 20 => 20 | 0 => 0 | n => n, fun | n => n⟩
theorem Tryz.laysGrow : Go.Proofs.Lays8.n4 Tryz.prog Tryz.laysGrow_ren := {
  mixed := by kernel_rfl
  f4 := ⟨Tryz.f76.name, by decide, Tryz.func76.trans (congrArg some (by kernel_rfl))⟩
  t0 := Tryz.underlying0
  a0 := Tryz.isAgg0
  z0 := Tryz.sizeOf0
  v0 := Tryz.zeroValue0
  t3 := Tryz.underlying3
  a3 := Tryz.isAgg3
  z3 := Tryz.sizeOf3
  v3 := Tryz.zeroValue3
  t4 := Tryz.underlying4
  a4 := Tryz.isAgg4
  z4 := Tryz.sizeOf4
  v4 := Tryz.zeroValue4
  t9 := Tryz.underlying9
  a9 := Tryz.isAgg9
  z9 := Tryz.sizeOf9
  v9 := Tryz.zeroValue9
  t20 := Tryz.underlying20
  a20 := Tryz.isAgg20
  z20 := Tryz.sizeOf20
  v20 := Tryz.zeroValue20
  t22 := Tryz.underlying29
  a22 := Tryz.isAgg29
  z22 := Tryz.sizeOf29
  v22 := Tryz.zeroValue29 }
end Go.Proofs
