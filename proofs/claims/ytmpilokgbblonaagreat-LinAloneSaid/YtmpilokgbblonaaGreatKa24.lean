/- An operation is done. -/
import Derived.Test.YtmpilokgbblonaaGreatKa23
namespace Go.Proofs.YtmpilokgbblonaaGreat.spec
open Go.RowKit task

/-- A meaning; the operation's block and the result's, of the call's own. -/
structure Doing (W w : World) (X : Nat) (s : Int) (t : Parts) (k y : Int) : Prop where
  two : Two w X s t
  op : w.heap[W.heap.size]? = some (.cells #[.int .i64 k, .int .i64 y] 47 (0, 0))
  res : w.heap[W.heap.size + 1]? = some (.cells #[.int .i64 0, .bool false, .int .i64 0] 55 (0, 0))
  below : Below W.heap.size W w
section
variable {W w w' : World} {X : Nat} {s : Int} {t : Parts} {k y : Int}
theorem Doing.lt0 (h : Doing W w X s t k y) : W.heap.size < w.heap.size := (Array.getElem?_eq_some_iff.1 h.op).1
theorem Doing.lt1 (h : Doing W w X s t k y) : W.heap.size + 1 < w.heap.size := (Array.getElem?_eq_some_iff.1 h.res).1
theorem Doing.next (h : Doing W w X s t k y) (hb : Below w.heap.size w w') : Doing W w' X s t k y :=
  ⟨h.two.below hb, (hb.block _ h.lt0).trans h.op, (hb.block _ h.lt1).trans h.res, past h.below hb⟩
theorem Doing.drew (h : Doing W w X s t k y) : Doing W w.drew X s t k y := h.next (Below.refl _ _).drew
theorem Doing.new (h : Two W X s t) (k y : Int) : Doing W ((W.alloc (.cells #[.int .i64 k, .int .i64 y] 47)).alloc (.cells #[.int .i64 0, .bool false, .int .i64 0] 55)) X s t k y :=
  ⟨(h.alloc _).alloc _, by rw [Below.heap_alloc _ _ _ (by simp)]; exact new_block W _ _, by have := new_block (W.alloc (.cells #[.int .i64 k, .int .i64 y] 47)) #[.int .i64 0, .bool false, .int .i64 0] 55; simpa using this, ((Below.refl _ _).alloc (Nat.le_refl _) _).alloc (by simp) _⟩
/-- The cells that a walk reads. -/
structure DCells (W w : World) (X : Nat) (s k y : Int) : Prop where
  s2 : w.cell? ⟨X, 2, none⟩ = some (.int .i64 s)
  k0 : w.cell? ⟨W.heap.size, 0, none⟩ = some (.int .i64 k)
  k1 : w.cell? ⟨W.heap.size, 1, none⟩ = some (.int .i64 y)
  r0 : w.cell? ⟨W.heap.size + 1, 0, none⟩ = some (.int .i64 0)
  r1 : w.cell? ⟨W.heap.size + 1, 1, none⟩ = some (.bool false)
  r2 : w.cell? ⟨W.heap.size + 1, 2, none⟩ = some (.int .i64 0)
  fr : ∀ i, w.frozen? ⟨W.heap.size + 1, i, none⟩ = false
theorem Doing.cells (h : Doing W w X s t k y) : DCells W w X s k y :=
  ⟨h.two.c2, by rw [Joins.cell_of_block h.op]; rfl, by rw [Joins.cell_of_block h.op]; rfl, by rw [Joins.cell_of_block h.res]; rfl, by rw [Joins.cell_of_block h.res]; rfl, by rw [Joins.cell_of_block h.res]; rfl, Joins.unfrozen_of_block h.res⟩
end
/-- The result's three cells, written. -/
def resW (w : World) (g : Nat) (a b c : Value) : World := ((w.setCell ⟨g, 0, none⟩ a).setCell ⟨g, 1, none⟩ b).setCell ⟨g, 2, none⟩ c
theorem resW_block {w : World} {g : Nat} {x0 x1 x2 : Value} {T : TypeId} (h : w.heap[g]? = some (.cells #[x0, x1, x2] T (0, 0))) (a b c : Value) : (resW w g a b c).heap[g]? = some (.cells #[a, b, c] T (0, 0)) := by
  have h1 : (w.setCell ⟨g, 0, none⟩ a).heap[g]? = some (.cells #[a, x1, x2] T (0, 0)) := Joins.block_setCell (i := 0) h a
  have h2 : ((w.setCell ⟨g, 0, none⟩ a).setCell ⟨g, 1, none⟩ b).heap[g]? = some (.cells #[a, b, x2] T (0, 0)) := Joins.block_setCell (i := 1) h1 b
  exact Joins.block_setCell (i := 2) h2 c
theorem resW_other {w : World} {g k : Nat} (hk : k ≠ g) (a b c : Value) : (resW w g a b c).heap[k]? = w.heap[k]? := by
  unfold resW
  rw [Below.heap_setCell _ _ _ _ hk, Below.heap_setCell _ _ _ _ hk, Below.heap_setCell _ _ _ _ hk]
theorem resW_size (w : World) (g : Nat) (a b c : Value) : (resW w g a b c).heap.size = w.heap.size := by simp [resW]
theorem shape_res {w : World} {g p k : Nat} {cs : Array Value} {fr : Nat × Nat} (hb : w.heap[g]? = some (.cells cs 55 fr)) (h : w.shape? p = some (3, k)) : p ≠ g := by
  rintro rfl
  simp only [World.shape?, hb, Option.some.injEq, Prod.mk.injEq] at h
  exact absurd h.1 (by decide)
/-- A meaning whose result is then written. -/
theorem Moved.res {w w1 : World} {X g : Nat} {s : Int} {t : Parts} {L : List Int} {cs : Array Value} (h : Moved w X s t L w1) (hb : w1.heap[g]? = some (.cells cs 55 (0, 0))) (hg : w.heap.size ≤ g) (a b c : Value) : Moved w X s t L (resW w1 g a b c) := by
  obtain ⟨t', h1, h2, h3, h4, h5⟩ := h
  have hX : X ≠ g := by
    rintro rfl
    have := h1.box
    rw [hb] at this
    simp at this
  refine ⟨t', h1.moved (resW_other hX a b c) (fun hA => resW_other ?_ a b c) (fun hB => resW_other ?_ a b c), h2, ?_, by rw [resW_size]; exact h4, by rw [resW_size]; exact h5⟩
  · obtain ⟨k, hk⟩ := h1.a.kind hA
    exact shape_res hb hk
  · obtain ⟨k, hk⟩ := h1.b.kind hB
    exact shape_res hb hk
  · exact ⟨h3.os, h3.tape, h3.output, by rw [resW_size]; exact h3.size, fun k hk hf => (resW_other (by omega) a b c).trans (h3.block k hk hf), h3.more⟩
/-- The result's block is no meaning's. -/
theorem Doing.kept {W w w2 : World} {X : Nat} {s : Int} {t : Parts} {k y : Int} {f' : Nat → Prop} (h : Doing W w X s t k y) (ht : X < W.heap.size ∧ t.p < W.heap.size ∧ t.q < W.heap.size) (hw : Went (t.own X) f' w w2) :
    w2.heap[W.heap.size]? = some (.cells #[.int .i64 k, .int .i64 y] 47 (0, 0)) ∧ w2.heap[W.heap.size + 1]? = some (.cells #[.int .i64 0, .bool false, .int .i64 0] 55 (0, 0)) := by
  refine ⟨(hw.block _ h.lt0 ?_).trans h.op, (hw.block _ h.lt1 ?_).trans h.res⟩ <;> (rintro (e | e | e) <;> omega)

theorem resW_cells {w : World} {g : Nat} {x0 x1 x2 : Value} {T : TypeId} (h : w.heap[g]? = some (.cells #[x0, x1, x2] T (0, 0))) (a b c : Value) :
    (((w.setCell ⟨g, 0, none⟩ a).setCell ⟨g, 1, none⟩ b).setCell ⟨g, 2, none⟩ c).cell? ⟨g, 0, none⟩ = some a ∧ (((w.setCell ⟨g, 0, none⟩ a).setCell ⟨g, 1, none⟩ b).setCell ⟨g, 2, none⟩ c).cell? ⟨g, 1, none⟩ = some b ∧ (((w.setCell ⟨g, 0, none⟩ a).setCell ⟨g, 1, none⟩ b).setCell ⟨g, 2, none⟩ c).cell? ⟨g, 2, none⟩ = some c := by
  have hb := resW_block h a b c
  unfold resW at hb
  refine ⟨?_, ?_, ?_⟩ <;> (rw [Joins.cell_of_block hb]; rfl)
/-- The result's block behind an operation on the meaning. -/
structure Res3 (w : World) (g : Nat) : Prop where
  blk : w.heap[g]? = some (.cells #[.int .i64 0, .bool false, .int .i64 0] 55 (0, 0))
  r0 : w.cell? ⟨g, 0, none⟩ = some (.int .i64 0)
  r1 : w.cell? ⟨g, 1, none⟩ = some (.bool false)
  r2 : w.cell? ⟨g, 2, none⟩ = some (.int .i64 0)
  fr : ∀ i, w.frozen? ⟨g, i, none⟩ = false
theorem Res3.of {w : World} {g : Nat} (h : w.heap[g]? = some (.cells #[.int .i64 0, .bool false, .int .i64 0] 55 (0, 0))) : Res3 w g :=
  ⟨h, by rw [Joins.cell_of_block h]; rfl, by rw [Joins.cell_of_block h]; rfl, by rw [Joins.cell_of_block h]; rfl, Joins.unfrozen_of_block h⟩
theorem Doing.after {W w w2 : World} {X : Nat} {s : Int} {t : Parts} {k y : Int} {L : List Int} (h : Doing W w X s t k y) (ht : X < W.heap.size ∧ t.p < W.heap.size ∧ t.q < W.heap.size) (hm : Moved w X s t L w2) :
    w2.cell? ⟨W.heap.size, 1, none⟩ = some (.int .i64 y) ∧ Res3 w2 (W.heap.size + 1) ∧ Moved W X s t L w2 := by
  have hm2 := Moved.ahead h.below hm
  obtain ⟨t', _, _, hw, _⟩ := hm
  obtain ⟨h1, h2⟩ := h.kept ht hw
  exact ⟨by rw [Joins.cell_of_block h1]; rfl, Res3.of h2, hm2⟩

theorem drewN_below {w w' : World} (h : ∃ n, w' = w.drewN n) : Below w.heap.size w w' := by
  obtain ⟨n, rfl⟩ := h
  exact below_drewN (Below.refl _ _) n
/-- What Do tells, and leaves. -/
def Did (w : World) (X : Nat) (s : Int) (t : Parts) (ok : Bool) (v err : Int) (L : List Int) (e : Ending) (w' : World) : Prop :=
  e = .returned (.tuple #[.agg #[.int .i64 0, .bool ok, .int .i64 v], .int .i64 err]) ∧ Moved w X s t L w'

theorem ins_first (y : Int) (L : List Int) : insL 0 y L = y :: L := rfl
theorem ins_last (y : Int) (L : List Int) : insL L.length y L = L ++ [y] := by
  unfold insL
  rw [List.take_length, List.drop_length]
section
variable (w : World) (X : Nat) (s y : Int) (t : Parts)
set_option maxRecDepth 100000 in
set_option maxHeartbeats 2000000 in
theorem do_wrong (k : Int) (h : Two w X s t) (hr : rightB s k y = false) :
    Calls Tryz.prog 61 #[.pointer (some ⟨X, 0, none⟩), .agg #[.int .i64 k, .int .i64 y]] w (Did w X s t false 0 1 t.items) := by
  have H := Lib.hid h
  have D0 := Lib.hid (Doing.new h k y)
  have HR := Lib.hid hr
  clear h hr
  go_enter Tryz.func61, Tryz.ntmps61
  go_wp2
  have C0 := D0.out.cells
  obtain ⟨a2, a0, a1, -, -, -, -⟩ := C0
  go_region_held3 (fun wx => wx.cell? ⟨X, 2, none⟩ = some (.int .i64 s) ∧ wx.cell? ⟨w.heap.size, 0, none⟩ = some (.int .i64 k) ∧ wx.cell? ⟨w.heap.size, 1, none⟩ = some (.int .i64 y)) (go_keep)
    ((go_at_call 60; refine (right_any _ s k y).mono ?_; rw [HR.out]; rintro e w1 ⟨rfl, hb1⟩; have D1 := Lib.hid (D0.out.drew.next hb1); clear hb1; obtain ⟨b2, b0, b1, q0, q1, q2, qf⟩ := D1.out.cells))
  go_wp2
  obtain ⟨p0, p1, p2⟩ := resW_cells D1.out.res (.int .i64 0) (.bool false) (.int .i64 0)
  refine bodyPost_ret (v := .tuple #[.agg #[.int .i64 0, .bool false, .int .i64 0], .int .i64 1]) (by simp [results, Tryz.results61, go_sem, p0, p1, p2]) rfl ⟨rfl, Moved.res (Moved.same H.out D1.out.below) D1.out.res (Nat.le_succ _) _ _ _⟩
set_option maxRecDepth 100000 in
set_option maxHeartbeats 2000000 in
theorem do_insert (h : Two w X s t) (ht : X < w.heap.size ∧ t.p < w.heap.size ∧ t.q < w.heap.size) (hl : t.items.length ≤ 999) (hp : t.items.Pairwise (· < ·)) (hr : rightB s 1 y = true) :
    Calls Tryz.prog 61 #[.pointer (some ⟨X, 0, none⟩), .agg #[.int .i64 1, .int .i64 y]] w (Did w X s t (!decide (y ∈ t.items)) 0 0 (nextL s t.items 1 y)) := by
  have D0 := Lib.hid (Doing.new h 1 y)
  have HR := Lib.hid hr
  have HT := Lib.hid ht
  have HL := Lib.hid hl
  have HP := Lib.hid hp
  clear h hr ht hl hp
  go_enter Tryz.func61, Tryz.ntmps61
  go_wp2
  have C0 := D0.out.cells
  obtain ⟨a2, a0, a1, -, -, -, -⟩ := C0
  go_region_held3 (fun wx => wx.cell? ⟨X, 2, none⟩ = some (.int .i64 s) ∧ wx.cell? ⟨w.heap.size, 0, none⟩ = some (.int .i64 1) ∧ wx.cell? ⟨w.heap.size, 1, none⟩ = some (.int .i64 y)) (go_keep)
    ((go_at_call 60; refine (right_any _ s 1 y).mono ?_; rw [HR.out]; rintro e w1 ⟨rfl, hb1⟩; have D1 := Lib.hid (D0.out.drew.next hb1); clear hb1; obtain ⟨b2, b0, b1, q0, q1, q2, qf⟩ := D1.out.cells))
  go_wp2_with (go_at_call 70; refine (insert_key _ X s y t D1.out.two HL.out HP.out).mono ?_; rintro e w2 ⟨rfl, hm⟩; obtain ⟨_, hr3, hm2⟩ := D1.out.after HT.out hm; have R := Lib.hid hr3; have M := Lib.hid hm2; obtain ⟨-, c0, c1, c2, cf⟩ := hr3; clear hm hm2)
  obtain ⟨p0, p1, p2⟩ := resW_cells R.out.blk (.int .i64 0) (.bool (!decide (y ∈ t.items))) (.int .i64 0)
  refine bodyPost_ret (v := .tuple #[.agg #[.int .i64 0, .bool (!decide (y ∈ t.items)), .int .i64 0], .int .i64 0]) (by simp [results, Tryz.results61, go_sem, p0, p1, p2]) rfl ⟨rfl, Moved.res M.out R.out.blk (Nat.le_succ _) _ _ _⟩
set_option maxRecDepth 100000 in
set_option maxHeartbeats 2000000 in
theorem do_delete (h : Two w X s t) (ht : X < w.heap.size ∧ t.p < w.heap.size ∧ t.q < w.heap.size) (hl : t.items.length ≤ 999) (hp : t.items.Pairwise (· < ·)) (hr : rightB s 2 y = true) :
    Calls Tryz.prog 61 #[.pointer (some ⟨X, 0, none⟩), .agg #[.int .i64 2, .int .i64 y]] w (Did w X s t (decide (y ∈ t.items)) 0 0 (nextL s t.items 2 y)) := by
  have D0 := Lib.hid (Doing.new h 2 y)
  have HR := Lib.hid hr
  have HT := Lib.hid ht
  have HL := Lib.hid hl
  have HP := Lib.hid hp
  clear h hr ht hl hp
  go_enter Tryz.func61, Tryz.ntmps61
  go_wp2
  have C0 := D0.out.cells
  obtain ⟨a2, a0, a1, -, -, -, -⟩ := C0
  go_region_held3 (fun wx => wx.cell? ⟨X, 2, none⟩ = some (.int .i64 s) ∧ wx.cell? ⟨w.heap.size, 0, none⟩ = some (.int .i64 2) ∧ wx.cell? ⟨w.heap.size, 1, none⟩ = some (.int .i64 y)) (go_keep)
    ((go_at_call 60; refine (right_any _ s 2 y).mono ?_; rw [HR.out]; rintro e w1 ⟨rfl, hb1⟩; have D1 := Lib.hid (D0.out.drew.next hb1); clear hb1; obtain ⟨b2, b0, b1, q0, q1, q2, qf⟩ := D1.out.cells))
  go_wp2_with (go_at_call 71; refine (remove_key _ X s y t D1.out.two HL.out HP.out).mono ?_; rintro e w2 ⟨rfl, hm⟩; obtain ⟨_, hr3, hm2⟩ := D1.out.after HT.out hm; have R := Lib.hid hr3; have M := Lib.hid hm2; obtain ⟨-, c0, c1, c2, cf⟩ := hr3; clear hm hm2)
  obtain ⟨p0, p1, p2⟩ := resW_cells R.out.blk (.int .i64 0) (.bool (decide (y ∈ t.items))) (.int .i64 0)
  refine bodyPost_ret (v := .tuple #[.agg #[.int .i64 0, .bool (decide (y ∈ t.items)), .int .i64 0], .int .i64 0]) (by simp [results, Tryz.results61, go_sem, p0, p1, p2]) rfl ⟨rfl, Moved.res M.out R.out.blk (Nat.le_succ _) _ _ _⟩
set_option maxRecDepth 100000 in
set_option maxHeartbeats 2000000 in
theorem do_has (h : Two w X s t) (ht : X < w.heap.size ∧ t.p < w.heap.size ∧ t.q < w.heap.size) (hl : t.items.length ≤ 999) (hp : t.items.Pairwise (· < ·)) (hr : rightB s 3 y = true) :
    Calls Tryz.prog 61 #[.pointer (some ⟨X, 0, none⟩), .agg #[.int .i64 3, .int .i64 y]] w (Did w X s t (decide (y ∈ t.items)) 0 0 t.items) := by
  have D0 := Lib.hid (Doing.new h 3 y)
  have HR := Lib.hid hr
  have HT := Lib.hid ht
  have HL := Lib.hid hl
  have HP := Lib.hid hp
  have HH := Lib.hid h
  clear h hr ht hl hp
  go_enter Tryz.func61, Tryz.ntmps61
  go_wp2
  have C0 := D0.out.cells
  obtain ⟨a2, a0, a1, -, -, -, -⟩ := C0
  go_region_held3 (fun wx => wx.cell? ⟨X, 2, none⟩ = some (.int .i64 s) ∧ wx.cell? ⟨w.heap.size, 0, none⟩ = some (.int .i64 3) ∧ wx.cell? ⟨w.heap.size, 1, none⟩ = some (.int .i64 y)) (go_keep)
    ((go_at_call 60; refine (right_any _ s 3 y).mono ?_; rw [HR.out]; rintro e w1 ⟨rfl, hb1⟩; have D1 := Lib.hid (D0.out.drew.next hb1); clear hb1; obtain ⟨b2, b0, b1, q0, q1, q2, qf⟩ := D1.out.cells))
  go_wp2
  go_region_held3 (fun wx => wx.cell? ⟨w.heap.size, 1, none⟩ = some (.int .i64 y)) (go_keep)
    ((go_at_call 72; refine (find_any _ X y s t D1.out.drew.two (Nat.le_succ_of_le HL.out) HP.out).mono ?_; rintro e w2 ⟨⟨i, hi, rfl⟩, hb2⟩; have D2 := Lib.hid (D1.out.drew.next hb2); clear hb2 hi; obtain ⟨c2, c0, c1, e0, e1, e2, ef⟩ := D2.out.cells))
  go_wp2
  obtain ⟨p0, p1, p2⟩ := resW_cells D2.out.res (.int .i64 0) (.bool (decide (y ∈ t.items))) (.int .i64 0)
  refine bodyPost_ret (v := .tuple #[.agg #[.int .i64 0, .bool (decide (y ∈ t.items)), .int .i64 0], .int .i64 0]) (by simp [results, Tryz.results61, go_sem, p0, p1, p2]) rfl ⟨rfl, Moved.res (Moved.same HH.out D2.out.below) D2.out.res (Nat.le_succ _) _ _ _⟩
set_option maxRecDepth 100000 in
set_option maxHeartbeats 2000000 in
theorem do_put4 (h : Two w X 4 t) (ht : X < w.heap.size ∧ t.p < w.heap.size ∧ t.q < w.heap.size) (hl : t.items.length ≤ 999) (hr : rightB 4 4 y = true) :
    Calls Tryz.prog 61 #[.pointer (some ⟨X, 0, none⟩), .agg #[.int .i64 4, .int .i64 y]] w (Did w X 4 t true 0 0 (y :: t.items)) := by
  have D0 := Lib.hid (Doing.new h 4 y)
  have HR := Lib.hid hr
  have HT := Lib.hid ht
  have HL := Lib.hid hl
  clear h hr ht hl
  go_enter Tryz.func61, Tryz.ntmps61
  go_wp2
  have C0 := D0.out.cells
  obtain ⟨a2, a0, a1, -, -, -, -⟩ := C0
  go_region_held3 (fun wx => wx.cell? ⟨X, 2, none⟩ = some (.int .i64 4) ∧ wx.cell? ⟨w.heap.size, 0, none⟩ = some (.int .i64 4) ∧ wx.cell? ⟨w.heap.size, 1, none⟩ = some (.int .i64 y)) (go_keep)
    ((go_at_call 60; refine (right_any _ 4 4 y).mono ?_; rw [HR.out]; rintro e w1 ⟨rfl, hb1⟩; have D1 := Lib.hid (D0.out.drew.next hb1); clear hb1; obtain ⟨b2, b0, b1, q0, q1, q2, qf⟩ := D1.out.cells))
  go_wp2
  go_region_held3 (fun wx => wx.cell? ⟨w.heap.size, 1, none⟩ = some (.int .i64 y)) (go_keep) (first
    | (go_at_call 73; have _t := D2.out; go_loud (refine (put_any _ X y 4 t D2.out.two HL.out 0 0 rfl (Nat.zero_le _)).mono ?_; rw [ins_first]; rintro e w3 ⟨rfl, hm⟩; obtain ⟨hk3, hr3, hm2⟩ := D2.out.after HT.out hm; have R := Lib.hid hr3; have M := Lib.hid hm2; obtain ⟨-, c0, c1, c2, cf⟩ := hr3; clear hm hm2))
    | (go_at_call 74; go_loud (refine (entry_any _ X 4 t D1.out.drew.two (Nat.le_succ_of_le HL.out)).mono ?_; rintro e w2 ⟨rfl, hw2⟩; have D2 := Lib.hid (D1.out.drew.next (drewN_below hw2)); clear hw2; obtain ⟨d2, d0, d1, -, -, -, -⟩ := D2.out.cells)))
  go_wp2
  obtain ⟨p0, p1, p2⟩ := resW_cells R.out.blk (.int .i64 0) (.bool true) (.int .i64 0)
  refine bodyPost_ret (v := .tuple #[.agg #[.int .i64 0, .bool true, .int .i64 0], .int .i64 0]) (by simp [results, Tryz.results61, go_sem, p0, p1, p2]) rfl ⟨rfl, Moved.res M.out R.out.blk (Nat.le_succ _) _ _ _⟩
set_option maxRecDepth 100000 in
set_option maxHeartbeats 2000000 in
theorem do_put3 (h : Two w X 3 t) (ht : X < w.heap.size ∧ t.p < w.heap.size ∧ t.q < w.heap.size) (hl : t.items.length ≤ 999) (hr : rightB 3 4 y = true) :
    Calls Tryz.prog 61 #[.pointer (some ⟨X, 0, none⟩), .agg #[.int .i64 4, .int .i64 y]] w (Did w X 3 t true 0 0 (t.items ++ [y])) := by
  have D0 := Lib.hid (Doing.new h 4 y)
  have HR := Lib.hid hr
  have HT := Lib.hid ht
  have HL := Lib.hid hl
  clear h hr ht hl
  go_enter Tryz.func61, Tryz.ntmps61
  go_wp2
  have C0 := D0.out.cells
  obtain ⟨a2, a0, a1, -, -, -, -⟩ := C0
  go_region_held3 (fun wx => wx.cell? ⟨X, 2, none⟩ = some (.int .i64 3) ∧ wx.cell? ⟨w.heap.size, 0, none⟩ = some (.int .i64 4) ∧ wx.cell? ⟨w.heap.size, 1, none⟩ = some (.int .i64 y)) (go_keep)
    ((go_at_call 60; refine (right_any _ 3 4 y).mono ?_; rw [HR.out]; rintro e w1 ⟨rfl, hb1⟩; have D1 := Lib.hid (D0.out.drew.next hb1); clear hb1; obtain ⟨b2, b0, b1, q0, q1, q2, qf⟩ := D1.out.cells))
  go_wp2
  go_region_held3 (fun wx => wx.cell? ⟨w.heap.size, 1, none⟩ = some (.int .i64 y)) (go_keep) (first
    | (go_at_call 73; have _t := D2.out; go_loud (refine (put_any _ X y 3 t D2.out.two HL.out t.items.length _ rfl (Nat.le_refl _)).mono ?_; rw [ins_last]; rintro e w3 ⟨rfl, hm⟩; obtain ⟨hk3, hr3, hm2⟩ := D2.out.after HT.out hm; have R := Lib.hid hr3; have M := Lib.hid hm2; obtain ⟨-, c0, c1, c2, cf⟩ := hr3; clear hm hm2))
    | (go_at_call 74; go_loud (refine (entry_any _ X 3 t D1.out.drew.two (Nat.le_succ_of_le HL.out)).mono ?_; rintro e w2 ⟨rfl, hw2⟩; have D2 := Lib.hid (D1.out.drew.next (drewN_below hw2)); clear hw2; obtain ⟨d2, d0, d1, -, -, -, -⟩ := D2.out.cells)))
  go_wp2
  obtain ⟨p0, p1, p2⟩ := resW_cells R.out.blk (.int .i64 0) (.bool true) (.int .i64 0)
  refine bodyPost_ret (v := .tuple #[.agg #[.int .i64 0, .bool true, .int .i64 0], .int .i64 0]) (by simp [results, Tryz.results61, go_sem, p0, p1, p2]) rfl ⟨rfl, Moved.res M.out R.out.blk (Nat.le_succ _) _ _ _⟩
set_option maxRecDepth 100000 in
set_option maxHeartbeats 2000000 in
theorem do_take (h : Two w X s t) (ht : X < w.heap.size ∧ t.p < w.heap.size ∧ t.q < w.heap.size) (hl : t.items.length ≤ 999) (hr : rightB s 5 y = true) :
    Calls Tryz.prog 61 #[.pointer (some ⟨X, 0, none⟩), .agg #[.int .i64 5, .int .i64 y]] w (Did w X s t (!t.items.isEmpty) (headI t.items) 0 t.items.tail) := by
  have D0 := Lib.hid (Doing.new h 5 y)
  have HR := Lib.hid hr
  have HT := Lib.hid ht
  have HL := Lib.hid hl
  clear h hr ht hl
  go_enter Tryz.func61, Tryz.ntmps61
  go_wp2
  have C0 := D0.out.cells
  obtain ⟨a2, a0, a1, -, -, -, -⟩ := C0
  go_region_held3 (fun wx => wx.cell? ⟨X, 2, none⟩ = some (.int .i64 s) ∧ wx.cell? ⟨w.heap.size, 0, none⟩ = some (.int .i64 5) ∧ wx.cell? ⟨w.heap.size, 1, none⟩ = some (.int .i64 y)) (go_keep)
    ((go_at_call 60; refine (right_any _ s 5 y).mono ?_; rw [HR.out]; rintro e w1 ⟨rfl, hb1⟩; have D1 := Lib.hid (D0.out.drew.next hb1); clear hb1; obtain ⟨b2, b0, b1, q0, q1, q2, qf⟩ := D1.out.cells))
  go_wp2_with (go_at_call 75; refine (take_any _ X s t D1.out.two (Nat.le_succ_of_le HL.out)).mono ?_; rintro e w2 ⟨rfl, hm⟩; obtain ⟨_, hr3, hm2⟩ := D1.out.after HT.out hm; have R := Lib.hid hr3; have M := Lib.hid hm2; obtain ⟨-, c0, c1, c2, cf⟩ := hr3; clear hm hm2)
  obtain ⟨p0, p1, p2⟩ := resW_cells R.out.blk (.int .i64 0) (.bool (!t.items.isEmpty)) (.int .i64 (headI t.items))
  refine bodyPost_ret (v := .tuple #[.agg #[.int .i64 0, .bool (!t.items.isEmpty), .int .i64 (headI t.items)], .int .i64 0]) (by simp [results, Tryz.results61, go_sem, p0, p1, p2]) rfl ⟨rfl, Moved.res M.out R.out.blk (Nat.le_succ _) _ _ _⟩
end

/-- The items behind an operation of any kind, right or not. -/
def stepL (s : Int) (L : List Int) (k y : Int) : List Int := if rightB s k y = true then nextL s L k y else L
def toldB (s : Int) (L : List Int) (k y : Int) : Bool := rightB s k y && okB L k y
def toldI (s : Int) (L : List Int) (k y : Int) : Int := if rightB s k y = true then valI L k else 0
def errI (s k y : Int) : Int := if rightB s k y = true then 0 else 1
theorem Good.step {s k y : Int} {L : List Int} (h : Good s L) : Good s (stepL s L k y) := by
  unfold stepL
  split
  · rename_i hr
    exact h.next hr
  · exact h
theorem step_le (s k y : Int) (L : List Int) : (stepL s L k y).length ≤ L.length + 1 := by
  unfold stepL
  split
  · exact next_le s k y L
  · omega
/-- What Do tells of any operation. -/
def Done (w : World) (X : Nat) (f : Nat → Prop) (s : Int) (L : List Int) (k y : Int) (e : Ending) (w' : World) : Prop :=
  ∃ f', e = .returned (.tuple #[.agg #[.int .i64 0, .bool (toldB s L k y), .int .i64 (toldI s L k y)], .int .i64 (errI s k y)]) ∧ Mean w' X f' s (stepL s L k y) ∧ Went f f' w w'
theorem do_any (w : World) (X : Nat) (f : Nat → Prop) (s k y : Int) (L : List Int) (h : Mean w X f s L) (hl : L.length ≤ 999) (hg : Good s L) :
    Calls Tryz.prog 61 #[.pointer (some ⟨X, 0, none⟩), .agg #[.int .i64 k, .int .i64 y]] w (Done w X f s L k y) := by
  obtain ⟨t, h1, rfl, h3, h4, h5, h6⟩ := h
  have hf : f X ∧ f t.p ∧ f t.q ∧ ∀ b, f b → b < w.heap.size := ⟨h3, h4, h5, h6⟩
  have ht : X < w.heap.size ∧ t.p < w.heap.size ∧ t.q < w.heap.size := ⟨h6 _ h3, h6 _ h4, h6 _ h5⟩
  have fin : ∀ {ok : Bool} {v err : Int} {M : List Int}, Calls Tryz.prog 61 #[.pointer (some ⟨X, 0, none⟩), .agg #[.int .i64 k, .int .i64 y]] w (Did w X s t ok v err M) →
      ok = toldB s t.items k y → v = toldI s t.items k y → err = errI s k y → M = stepL s t.items k y → Calls Tryz.prog 61 #[.pointer (some ⟨X, 0, none⟩), .agg #[.int .i64 k, .int .i64 y]] w (Done w X f s t.items k y) := by
    intro ok v err M hc e1 e2 e3 e4
    subst e1 e2 e3 e4
    refine hc.mono fun e w' hd => ?_
    obtain ⟨rfl, hm⟩ := hd
    obtain ⟨f', hm1, hm2⟩ := Mean.after hf hm
    exact ⟨f', rfl, hm1, hm2⟩
  unfold toldB toldI errI stepL at fin
  cases hr : rightB s k y
  · exact fin (do_wrong w X s y t k h1 hr) (by rw [hr]; rfl) (by rw [hr]; rfl) (by rw [hr]; rfl) (by rw [hr]; rfl)
  · rw [hr] at fin
    simp only [if_true, Bool.true_and] at fin
    by_cases hs : SetS s
    · have hk := right_set hr hs
      have hp := hg.rise hs
      have hc : k = 1 ∨ k = 2 ∨ k = 3 := by omega
      rcases hc with rfl | rfl | rfl
      · exact fin (do_insert w X s y t h1 ht hl hp hr) rfl rfl rfl rfl
      · exact fin (do_delete w X s y t h1 ht hl hp hr) rfl rfl rfl rfl
      · exact fin (do_has w X s y t h1 ht hl hp hr) rfl rfl rfl rfl
    · obtain ⟨hs2, hk⟩ := right_row hr hs
      rcases hk with rfl | rfl
      · rcases hs2 with rfl | rfl
        · exact fin (do_put3 w X y t h1 ht hl hr) rfl rfl rfl rfl
        · exact fin (do_put4 w X y t h1 ht hl hr) rfl rfl rfl rfl
      · exact fin (do_take w X s y t h1 ht hl hr) rfl rfl rfl rfl
end Go.Proofs.YtmpilokgbblonaaGreat.spec
