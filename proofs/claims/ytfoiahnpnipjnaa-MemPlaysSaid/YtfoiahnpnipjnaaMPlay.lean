/- What the walk of MemPlays carries: the memory, the document's words beside it, an operation and what is wanted. -/
import Derived.Test.YtfoiahnpnipjnaaMSame
import Derived.Test.YtfoiahnpnipjnaaMDuo
namespace Go.Proofs.Ytfoiahnpnipjnaa.mem
open Go.RowKit

/-- An operation. -/
structure OpV where
  K : Int
  A : Int
  Old : Int
  X : Int
/-- Operations in memory. -/
def OpsAt (w : World) (a : Option Addr) (os : List OpV) : Prop := ∀ i (hi : i < os.length), ∃ b, a = some b ∧ w.cell? (b.add (i * 4)) = some (.int .i64 os[i].K) ∧ w.cell? ⟨(b.add (i * 4)).block, (b.add (i * 4)).off + 1, none⟩ = some (.int .i64 os[i].A) ∧ w.cell? ⟨(b.add (i * 4)).block, (b.add (i * 4)).off + 2, none⟩ = some (.int .u64 os[i].Old) ∧ w.cell? ⟨(b.add (i * 4)).block, (b.add (i * 4)).off + 3, none⟩ = some (.int .u64 os[i].X)
theorem OpsAt.later {w w' : World} {a : Option Addr} {os : List OpV} (h : OpsAt w a os) (hb : Below w.heap.size w w') : OpsAt w' a os := by
  intro i hi
  obtain ⟨b, hb1, h0, h1, h2, h3⟩ := h i hi
  exact ⟨b, hb1, (hb.cell (World.block_lt_of_cell? w _ h0)).trans h0, (hb.cell (World.block_lt_of_cell? w _ h1)).trans h1, (hb.cell (World.block_lt_of_cell? w _ h2)).trans h2, (hb.cell (World.block_lt_of_cell? w _ h3)).trans h3⟩

/-- Between two rounds. -/
structure Play (W w : World) (b : Nat) (t n : Int) (X Y V : Nat) (zs rs : List Int) (k : Int) (l : Last) : Prop where
  lay : Box w b (layCells t n) 23
  mem : MemAt w X Y t n zs k l
  row : RowAt w V rs
  below : Below W.heap.size W w
  x0 : W.heap.size ≤ X
  y0 : W.heap.size ≤ Y
  v0 : W.heap.size ≤ V
  bx : b ≠ X
  by' : b ≠ Y
  bv : b ≠ V
  vx : V ≠ X
  vy : V ≠ Y
section
variable {W w w' : World} {b X Y V : Nat} {t n k k' : Int} {zs zs' rs : List Int} {l l' : Last}
theorem Play.next (h : Play W w b t n X Y V zs rs k l) (hb : Below w.heap.size w w') : Play W w' b t n X Y V zs rs k l :=
  ⟨h.lay.below hb, h.mem.below hb, h.row.below hb, past h.below hb, h.x0, h.y0, h.v0, h.bx, h.by', h.bv, h.vx, h.vy⟩
theorem RowAt.apart (h : RowAt w V rs) (ha : Apart X Y w w') (hx : V ≠ X) (hy : V ≠ Y) : RowAt w' V rs := ⟨by rw [ha.block V h.lt hx hy]; exact h.body⟩
theorem Play.act (h : Play W w b t n X Y V zs rs k l) (hm : MemAt w' X Y t n zs' k' l') (ha : Apart X Y w w') : Play W w' b t n X Y V zs' rs k' l' :=
  ⟨h.lay.apart ha h.bx h.by', hm, h.row.apart ha h.vx h.vy, ha.below h.below h.below.size h.x0 h.y0, h.x0, h.y0, h.v0, h.bx, h.by', h.bv, h.vx, h.vy⟩
theorem RowAt.put (h : RowAt w V rs) (a : Nat) (v : Int) (ha : a < rs.length) : RowAt (w.setCell ⟨V, a, none⟩ (.int .u64 v)) V (rs.set a v) := by
  obtain ⟨ex, hb⟩ := h.body
  have h1 := Joins.block_setCell (i := a) hb (.int .u64 v)
  rw [Array.setIfInBounds_append_left (by simpa [wordCells] using ha), wordCells_set] at h1
  exact ⟨⟨ex, h1⟩⟩
theorem Play.rowPut (h : Play W w b t n X Y V zs rs k l) (a : Nat) (v : Int) (ha : a < rs.length) : Play W (w.setCell ⟨V, a, none⟩ (.int .u64 v)) b t n X Y V zs (rs.set a v) k l :=
  ⟨h.lay.other h.bv _ _, h.mem.moved (Below.heap_setCell _ _ _ _ (Ne.symm h.vx)) (Below.heap_setCell _ _ _ _ (Ne.symm h.vy)), h.row.put a v ha, h.below.setCell h.v0 _, h.x0, h.y0, h.v0, h.bx, h.by', h.bv, h.vx, h.vy⟩
end

theorem play_new {W w w' : World} {b X Y : Nat} {t n k : Int} {zs rs : List Int} {l : Last} {o : Obj} (h : Solo W w b (layCells t n) 23 b (layCells t n) 23 t n X Y zs k l)
    (hg : w'.heap[w.heap.size]? = some (.cells (wordCells rs) 32 (0, 0))) (hb : Below w.heap.size (w.alloc o) w') : Play W w' b t n X Y w.heap.size zs rs k l := by
  have h2 := ((Below.refl w.heap.size w).alloc (Nat.le_refl _) o).trans hb
  have hs := h.pre.below.size
  have lb := h.pre.op1.lt
  have lx := h.mem.ltX
  have ly := h.mem.ltY
  exact ⟨h.pre.op1.below h2, h.mem.below h2, ⟨#[], by rw [Array.append_empty]; exact hg⟩, past h.pre.below h2, h.x0, h.y0, hs, h.b1x, h.b1y, by omega, by omega, by omega⟩

/-- In a round: the operation at block P, what is wanted at block Q. -/
structure Turn (W w : World) (b : Nat) (t n : Int) (X Y V : Nat) (zs rs : List Int) (k : Int) (l : Last) (P Q : Nat) (oc wc : Array Value) : Prop where
  play : Play W w b t n X Y V zs rs k l
  op : Box w P oc 34
  want : Box w Q wc 36
  p0 : W.heap.size ≤ P
  q0 : W.heap.size ≤ Q
  px : P ≠ X
  py : P ≠ Y
  pv : P ≠ V
  qx : Q ≠ X
  qy : Q ≠ Y
  qv : Q ≠ V
  pq : P ≠ Q
  qb : Q ≠ b
section
variable {W w w' : World} {b X Y V P Q : Nat} {t n k k' : Int} {zs zs' rs : List Int} {l l' : Last} {oc wc : Array Value}
theorem Turn.new (h : Play W w b t n X Y V zs rs k l) (oc wc : Array Value) : Turn W ((w.alloc (.cells oc 34)).alloc (.cells wc 36)) b t n X Y V zs rs k l w.heap.size (w.heap.size + 1) oc wc := by
  have s := h.below.size
  have x := h.mem.ltX
  have y := h.mem.ltY
  have v := h.row.lt
  have lb := h.lay.lt
  exact ⟨h.next (((Below.refl _ _).alloc (Nat.le_refl _) _).alloc (by simp) _), (Box.new w oc _).alloc _, by have := Box.new (w.alloc (.cells oc 34)) wc 36; simpa using this, s, by omega, by omega, by omega, by omega, by omega, by omega, by omega, by omega, by omega⟩
theorem Turn.next (h : Turn W w b t n X Y V zs rs k l P Q oc wc) (hb : Below w.heap.size w w') : Turn W w' b t n X Y V zs rs k l P Q oc wc :=
  ⟨h.play.next hb, h.op.below hb, h.want.below hb, h.p0, h.q0, h.px, h.py, h.pv, h.qx, h.qy, h.qv, h.pq, h.qb⟩
theorem Turn.drew (h : Turn W w b t n X Y V zs rs k l P Q oc wc) : Turn W w.drew b t n X Y V zs rs k l P Q oc wc := h.next ((Below.refl _ _).drew)
theorem Turn.act (h : Turn W w b t n X Y V zs rs k l P Q oc wc) (hm : MemAt w' X Y t n zs' k' l') (ha : Apart X Y w w') : Turn W w' b t n X Y V zs' rs k' l' P Q oc wc :=
  ⟨h.play.act hm ha, h.op.apart ha h.px h.py, h.want.apart ha h.qx h.qy, h.p0, h.q0, h.px, h.py, h.pv, h.qx, h.qy, h.qv, h.pq, h.qb⟩
theorem Turn.rowPut (h : Turn W w b t n X Y V zs rs k l P Q oc wc) (a : Nat) (v : Int) (ha : a < rs.length) : Turn W (w.setCell ⟨V, a, none⟩ (.int .u64 v)) b t n X Y V zs (rs.set a v) k l P Q oc wc :=
  ⟨h.play.rowPut a v ha, h.op.other h.pv _ _, h.want.other h.qv _ _, h.p0, h.q0, h.px, h.py, h.pv, h.qx, h.qy, h.qv, h.pq, h.qb⟩
theorem Turn.wantPut (h : Turn W w b t n X Y V zs rs k l P Q oc wc) (i : Nat) (v : Value) : Turn W (w.setCell ⟨Q, i, none⟩ v) b t n X Y V zs rs k l P Q oc (wc.setIfInBounds i v) := by
  have p := h.play
  have row : RowAt (w.setCell ⟨Q, i, none⟩ v) V rs := ⟨by rw [Below.heap_setCell _ _ _ _ (Ne.symm h.qv)]; exact p.row.body⟩
  exact ⟨⟨p.lay.other (Ne.symm h.qb) _ _, p.mem.moved (Below.heap_setCell _ _ _ _ (Ne.symm h.qx)) (Below.heap_setCell _ _ _ _ (Ne.symm h.qy)), row, p.below.setCell h.q0 _, p.x0, p.y0, p.v0, p.bx, p.by', p.bv, p.vx, p.vy⟩, h.op.other h.pq _ _, h.want.put i v, h.p0, h.q0, h.px, h.py, h.pv, h.qx, h.qy, h.qv, h.pq, h.qb⟩
end

/-- What the walk reads in a round. -/
structure TurnRow (w : World) (X Y V P Q : Nat) (K A Old x : Int) (c0 c1 : Int) (c2 c3 : Int) (c4 : Bool) : Prop where
  o0 : w.cell? ⟨P, 0, none⟩ = some (.int .i64 K)
  o1 : w.cell? ⟨P, 1, none⟩ = some (.int .i64 A)
  o2 : w.cell? ⟨P, 2, none⟩ = some (.int .u64 Old)
  o3 : w.cell? ⟨P, 3, none⟩ = some (.int .u64 x)
  q0 : w.cell? ⟨Q, 0, none⟩ = some (.int .i64 c0)
  q1 : w.cell? ⟨Q, 1, none⟩ = some (.int .i64 c1)
  q2 : w.cell? ⟨Q, 2, none⟩ = some (.int .u64 c2)
  q3 : w.cell? ⟨Q, 3, none⟩ = some (.int .u64 c3)
  q4 : w.cell? ⟨Q, 4, none⟩ = some (.bool c4)
  fq : ∀ i, w.frozen? ⟨Q, i, none⟩ = false
  fv : ∀ i, w.frozen? ⟨V, i, none⟩ = false
  lp : P < w.heap.size
  lq : Q < w.heap.size
  pv : ¬ P = V
  qv : ¬ Q = V
  vq : ¬ V = Q
  vp : ¬ V = P
  pq : ¬ P = Q
  qp : ¬ Q = P
theorem RowAt.free {w : World} {V : Nat} {rs : List Int} (h : RowAt w V rs) (i : Nat) : w.frozen? ⟨V, i, none⟩ = false := by
  obtain ⟨ex, hb⟩ := h.body
  exact Joins.unfrozen_of_block hb i
theorem Turn.cells {W w : World} {b X Y V P Q : Nat} {t n k : Int} {zs rs : List Int} {l : Last} {K A Old x c0 c1 c2 c3 : Int} {c4 : Bool}
    (h : Turn W w b t n X Y V zs rs k l P Q (opCells K A Old x) #[.int .i64 c0, .int .i64 c1, .int .u64 c2, .int .u64 c3, .bool c4]) : TurnRow w X Y V P Q K A Old x c0 c1 c2 c3 c4 :=
  ⟨h.op.at 0 rfl, h.op.at 1 rfl, h.op.at 2 rfl, h.op.at 3 rfl, h.want.at 0 rfl, h.want.at 1 rfl, h.want.at 2 rfl, h.want.at 3 rfl, h.want.at 4 rfl, h.want.free, h.play.row.free, h.op.lt, h.want.lt, h.pv, h.qv, Ne.symm h.qv, Ne.symm h.pv, h.pq, Ne.symm h.pq⟩

section
variable {w : World} {X Y : Nat} {t n k : Int} {zs : List Int} {l : Last}
theorem peek_eq (hm : MemAt w X Y t n zs k l) (a z : Int) (h : wordAt zs a = z) :
    Calls Try.prog 19 #[.pointer (some ⟨X, 0, none⟩), .int .i64 a] w fun e w' => e = .returned (.int .u64 z) ∧ w = w' := by
  rw [← h]
  exact Peek_any hm a
theorem cas_eq (hm : MemAt w X Y t n zs k l) (a y x : Int) (c : Bool) (ys : List Int) (k0 : 0 ≤ k) (k1 : k ≤ 1000000) (hb : (inB zs a && wordAt zs a == y) = c) (hy : (if c = true then setAt zs a x else zs) = ys) :
    Calls Try.prog 15 #[.pointer (some ⟨X, 0, none⟩), .int .i64 a, .int .u64 y, .int .u64 x] w fun e w' => e = .returned (.bool c) ∧ MemAt w' X Y t n ys (k + 1) ⟨3, a, wordAt zs a, only (inB zs a) x, c⟩ ∧ Apart X Y w w' := by
  have h := Cas_any hm a y x k0 k1
  rw [hb, hy] at h
  exact h
end
/-- At the head of a round: j operations were played. -/
def PlayAt (W wr : World) (b : Nat) (t n : Int) (X Y V z j : Nat) : Prop := ∃ zs l, Play W wr b t n X Y V zs zs j l ∧ zs.length = z
theorem play_at {W w : World} {b X Y V z j : Nat} {t n : Int} {zs rs : List Int} {l : Last} (h : Play W w b t n X Y V zs rs ((j : Int) + 1) l) (hr : rs = zs) (hz : zs.length = z) : PlayAt W w b t n X Y V z (j + 1) := by
  subst hr
  have e : ((j + 1 : Nat) : Int) = (j : Int) + 1 := by omega
  exact ⟨_, _, by rw [e]; exact h, hz⟩
theorem get_set (zs : List Int) (a : Nat) (v : Int) (h : a < zs.length) : (zs.set a v).getD a 0 = v := by
  rw [List.getD_eq_getElem?_getD, List.getElem?_eq_getElem (by simpa using h)]
  simp
end Go.Proofs.Ytfoiahnpnipjnaa.mem
