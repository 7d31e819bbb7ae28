/- A memory in the heap: its head, its words; what an action leaves as it was. -/
import Derived.Test.YtnphnhafifaaoaaMLay
namespace Go.Proofs.Ytnphnhafifaaoaa.mem
open Go.RowKit

/-- The last action. -/
structure Last where
  kind : Int
  addr : Int
  old : Int
  new : Int
  ok : Bool
/-- No action yet. -/
def Last.no : Last := ⟨0, 0, 0, 0, false⟩

def wordCells (zs : List Int) : Array Value := (zs.map (Value.int .u64)).toArray
theorem wordCells_get (zs : List Int) (a : Nat) (h : a < zs.length) : (wordCells zs)[a]? = some (.int .u64 (zs.getD a 0)) := by
  unfold wordCells
  simp [List.getElem?_eq_getElem h]
theorem wordCells_set (zs : List Int) (a : Nat) (v : Int) : (wordCells zs).setIfInBounds a (.int .u64 v) = wordCells (zs.set a v) := by
  unfold wordCells
  simp [List.map_set]

/-- The head's nine cells. -/
def headCells (t n : Int) (Y z c : Nat) (k : Int) (l : Last) : Array Value := #[.int .i64 t, .int .i64 n, .slice (some ⟨Y, 0, none⟩) z c, .int .i64 k, .int .i64 l.kind, .int .i64 l.addr, .int .u64 l.old, .int .u64 l.new, .bool l.ok]
/-- A memory at block X, its words at block Y (behind them that row may go on). -/
structure MemAt (w : World) (X Y : Nat) (t n : Int) (zs : List Int) (k : Int) (l : Last) : Prop where
  head : ∃ c, w.heap[X]? = some (.cells (headCells t n Y zs.length c k l) 68 (0, 0))
  body : ∃ ex, w.heap[Y]? = some (.cells (wordCells zs ++ ex) 25 (0, 0))
  ne : X ≠ Y
section
variable {w w' : World} {X Y : Nat} {t n k : Int} {zs : List Int} {l : Last}
theorem MemAt.ltX (h : MemAt w X Y t n zs k l) : X < w.heap.size := by
  obtain ⟨c, h⟩ := h.head
  exact (Array.getElem?_eq_some_iff.1 h).1
theorem MemAt.ltY (h : MemAt w X Y t n zs k l) : Y < w.heap.size := by
  obtain ⟨c, h⟩ := h.body
  exact (Array.getElem?_eq_some_iff.1 h).1
theorem MemAt.moved (h : MemAt w X Y t n zs k l) (hx : w'.heap[X]? = w.heap[X]?) (hy : w'.heap[Y]? = w.heap[Y]?) : MemAt w' X Y t n zs k l :=
  ⟨by rw [hx]; exact h.head, by rw [hy]; exact h.body, h.ne⟩
theorem MemAt.below (h : MemAt w X Y t n zs k l) (hb : Below w.heap.size w w') : MemAt w' X Y t n zs k l := h.moved (hb.block X h.ltX) (hb.block Y h.ltY)
theorem MemAt.alloc (h : MemAt w X Y t n zs k l) (o : Obj) : MemAt (w.alloc o) X Y t n zs k l := h.below ((Below.refl _ _).alloc (Nat.le_refl _) o)
theorem MemAt.drew (h : MemAt w X Y t n zs k l) : MemAt w.drew X Y t n zs k l := ⟨h.head, h.body, h.ne⟩
/-- The head's cells. -/
structure Row9 (w : World) (X Y : Nat) (t n : Int) (z c : Nat) (k : Int) (l : Last) : Prop where
  c0 : w.cell? ⟨X, 0, none⟩ = some (.int .i64 t)
  c1 : w.cell? ⟨X, 1, none⟩ = some (.int .i64 n)
  c2 : w.cell? ⟨X, 2, none⟩ = some (.slice (some ⟨Y, 0, none⟩) z c)
  c3 : w.cell? ⟨X, 3, none⟩ = some (.int .i64 k)
  c4 : w.cell? ⟨X, 4, none⟩ = some (.int .i64 l.kind)
  c5 : w.cell? ⟨X, 5, none⟩ = some (.int .i64 l.addr)
  c6 : w.cell? ⟨X, 6, none⟩ = some (.int .u64 l.old)
  c7 : w.cell? ⟨X, 7, none⟩ = some (.int .u64 l.new)
  c8 : w.cell? ⟨X, 8, none⟩ = some (.bool l.ok)
  fx : ∀ i, w.frozen? ⟨X, i, none⟩ = false
  fy : ∀ i, w.frozen? ⟨Y, i, none⟩ = false
  x : X < w.heap.size
  y : Y < w.heap.size
  ne : ¬ X = Y
  en : ¬ Y = X
theorem MemAt.row (h : MemAt w X Y t n zs k l) : ∃ c, Row9 w X Y t n zs.length c k l := by
  obtain ⟨c, hh⟩ := h.head
  obtain ⟨ex, hb⟩ := h.body
  refine ⟨c, ?_, ?_, ?_, ?_, ?_, ?_, ?_, ?_, ?_, Joins.unfrozen_of_block hh, Joins.unfrozen_of_block hb, h.ltX, h.ltY, h.ne, fun e => h.ne e.symm⟩
  all_goals
    rw [Joins.cell_of_block hh]
    rfl
theorem MemAt.word (h : MemAt w X Y t n zs k l) {a : Nat} (ha : a < zs.length) : w.cell? ⟨Y, a, none⟩ = some (.int .u64 (zs.getD a 0)) := by
  obtain ⟨ex, hb⟩ := h.body
  rw [Joins.cell_of_block hb, Array.getElem?_append_left (by simpa [wordCells] using ha)]
  exact wordCells_get zs a ha
/-- A word is written. -/
theorem MemAt.put (h : MemAt w X Y t n zs k l) (a : Nat) (v : Int) (ha : a < zs.length) : MemAt (w.setCell ⟨Y, a, none⟩ (.int .u64 v)) X Y t n (zs.set a v) k l := by
  obtain ⟨c, hh⟩ := h.head
  obtain ⟨ex, hb⟩ := h.body
  refine ⟨⟨c, ?_⟩, ⟨ex, ?_⟩, h.ne⟩
  · rw [Below.heap_setCell _ _ _ _ h.ne, List.length_set]
    exact hh
  · have h1 := Joins.block_setCell (i := a) hb (.int .u64 v)
    rwa [Array.setIfInBounds_append_left (by simpa [wordCells] using ha), wordCells_set] at h1
/-- An action is counted, and noted. -/
def noted (w : World) (X : Nat) (k : Int) (l : Last) : World := (((((w.setCell ⟨X, 3, none⟩ (.int .i64 k)).setCell ⟨X, 4, none⟩ (.int .i64 l.kind)).setCell ⟨X, 5, none⟩ (.int .i64 l.addr)).setCell ⟨X, 6, none⟩ (.int .u64 l.old)).setCell ⟨X, 7, none⟩ (.int .u64 l.new)).setCell ⟨X, 8, none⟩ (.bool l.ok)
theorem noted_other {b : Nat} (hb : b ≠ X) (k' : Int) (l' : Last) : (noted w X k' l').heap[b]? = w.heap[b]? := by
  unfold noted
  rw [Below.heap_setCell _ _ _ _ hb, Below.heap_setCell _ _ _ _ hb, Below.heap_setCell _ _ _ _ hb, Below.heap_setCell _ _ _ _ hb, Below.heap_setCell _ _ _ _ hb, Below.heap_setCell _ _ _ _ hb]
theorem MemAt.note (h : MemAt w X Y t n zs k l) (k' : Int) (l' : Last) : MemAt (noted w X k' l') X Y t n zs k' l' := by
  obtain ⟨c, hh⟩ := h.head
  obtain ⟨ex, hb⟩ := h.body
  refine ⟨⟨c, ?_⟩, ⟨ex, (noted_other (fun e => h.ne e.symm) k' l').trans hb⟩, h.ne⟩
  have h1 : (w.setCell ⟨X, 3, none⟩ (.int .i64 k')).heap[X]? = some (.cells (headCells t n Y zs.length c k' l) 68 (0, 0)) := Joins.block_setCell (i := 3) hh (.int .i64 k')
  have h2 : ((w.setCell ⟨X, 3, none⟩ (.int .i64 k')).setCell ⟨X, 4, none⟩ (.int .i64 l'.kind)).heap[X]? = some (.cells (headCells t n Y zs.length c k' ⟨l'.kind, l.addr, l.old, l.new, l.ok⟩) 68 (0, 0)) := Joins.block_setCell (i := 4) h1 (.int .i64 l'.kind)
  have h3 : (((w.setCell ⟨X, 3, none⟩ (.int .i64 k')).setCell ⟨X, 4, none⟩ (.int .i64 l'.kind)).setCell ⟨X, 5, none⟩ (.int .i64 l'.addr)).heap[X]? = some (.cells (headCells t n Y zs.length c k' ⟨l'.kind, l'.addr, l.old, l.new, l.ok⟩) 68 (0, 0)) := Joins.block_setCell (i := 5) h2 (.int .i64 l'.addr)
  have h4 : ((((w.setCell ⟨X, 3, none⟩ (.int .i64 k')).setCell ⟨X, 4, none⟩ (.int .i64 l'.kind)).setCell ⟨X, 5, none⟩ (.int .i64 l'.addr)).setCell ⟨X, 6, none⟩ (.int .u64 l'.old)).heap[X]? = some (.cells (headCells t n Y zs.length c k' ⟨l'.kind, l'.addr, l'.old, l.new, l.ok⟩) 68 (0, 0)) := Joins.block_setCell (i := 6) h3 (.int .u64 l'.old)
  have h5 : (((((w.setCell ⟨X, 3, none⟩ (.int .i64 k')).setCell ⟨X, 4, none⟩ (.int .i64 l'.kind)).setCell ⟨X, 5, none⟩ (.int .i64 l'.addr)).setCell ⟨X, 6, none⟩ (.int .u64 l'.old)).setCell ⟨X, 7, none⟩ (.int .u64 l'.new)).heap[X]? = some (.cells (headCells t n Y zs.length c k' ⟨l'.kind, l'.addr, l'.old, l'.new, l.ok⟩) 68 (0, 0)) := Joins.block_setCell (i := 7) h4 (.int .u64 l'.new)
  exact Joins.block_setCell (i := 8) h5 (.bool l'.ok)
end

/-- Of what there was, nothing but blocks X and Y has changed. -/
structure Apart (X Y : Nat) (w w' : World) : Prop where
  os : w'.os = w.os
  tape : w'.tape = w.tape
  output : w'.output = w.output
  size : w.heap.size ≤ w'.heap.size
  block : ∀ b, b < w.heap.size → b ≠ X → b ≠ Y → w'.heap[b]? = w.heap[b]?
section
variable {w w' w2 : World} {X Y : Nat}
theorem Apart.below {B : Nat} {w0 : World} (h : Below B w0 w) (ha : Apart X Y w w') (hs : B ≤ w.heap.size) (hX : B ≤ X) (hY : B ≤ Y) : Below B w0 w' :=
  h.trans ⟨ha.os, ha.tape, ha.output, ha.size, fun b hb => ha.block b (by omega) (by omega) (by omega)⟩
theorem Apart.refl (w : World) : Apart X Y w w := ⟨rfl, rfl, rfl, Nat.le_refl _, fun _ _ _ _ => rfl⟩
theorem Apart.ofBelow (h : Below w.heap.size w w') : Apart X Y w w' := ⟨h.os, h.tape, h.output, h.size, fun b hb _ _ => h.block b hb⟩
theorem Apart.trans (h : Apart X Y w w') (g : Apart X Y w' w2) : Apart X Y w w2 :=
  ⟨g.os.trans h.os, g.tape.trans h.tape, g.output.trans h.output, Nat.le_trans h.size g.size, fun b hb hx hy => (g.block b (Nat.lt_of_lt_of_le hb h.size) hx hy).trans (h.block b hb hx hy)⟩
theorem Apart.alloc (h : Apart X Y w w') (o : Obj) : Apart X Y w (w'.alloc o) := h.trans (Apart.ofBelow ((Below.refl _ _).alloc (Nat.le_refl _) o))
theorem Apart.putX (h : Apart X Y w w') (i : Nat) (v : Value) : Apart X Y w (w'.setCell ⟨X, i, none⟩ v) :=
  h.trans ⟨rfl, rfl, rfl, by simp [World.setCell], fun _ _ hx _ => Below.heap_setCell _ _ _ _ hx⟩
theorem Apart.putY (h : Apart X Y w w') (i : Nat) (v : Value) : Apart X Y w (w'.setCell ⟨Y, i, none⟩ v) :=
  h.trans ⟨rfl, rfl, rfl, by simp [World.setCell], fun _ _ _ hy => Below.heap_setCell _ _ _ _ hy⟩
theorem Apart.putNew (h : Apart X Y w w') {p : Addr} (hp : w.heap.size ≤ p.block) (v : Value) : Apart X Y w (w'.setCell p v) :=
  ⟨h.os, h.tape, h.output, by simpa [World.setCell] using h.size, fun b hb hx hy => (Below.heap_setCell _ _ _ _ (by omega)).trans (h.block b hb hx hy)⟩
theorem Apart.drew (h : Apart X Y w w') : Apart X Y w w'.drew := ⟨h.os, h.tape, h.output, h.size, h.block⟩
theorem Apart.noted (h : Apart X Y w w') (k : Int) (l : Last) : Apart X Y w (mem.noted w' X k l) := (((((h.putX 3 _).putX 4 _).putX 5 _).putX 6 _).putX 7 _).putX 8 _
/-- Another memory is as it was. -/
theorem Apart.other {X2 Y2 : Nat} {t n k : Int} {zs : List Int} {l : Last} (ha : Apart X Y w w') (h : MemAt w X2 Y2 t n zs k l) (h1 : X2 ≠ X) (h2 : X2 ≠ Y) (h3 : Y2 ≠ X) (h4 : Y2 ≠ Y) : MemAt w' X2 Y2 t n zs k l :=
  h.moved (ha.block X2 h.ltX h1 h2) (ha.block Y2 h.ltY h3 h4)
theorem Apart.cell (ha : Apart X Y w w') {b i : Nat} (hb : b < w.heap.size) (hx : b ≠ X) (hy : b ≠ Y) : w'.cell? ⟨b, i, none⟩ = w.cell? ⟨b, i, none⟩ := World.cell?_of_block (w := w) (ha.block b hb hx hy)
end
end Go.Proofs.Ytnphnhafifaaoaa.mem
/- Which addresses there are; a word without an action; how many actions there were; the last one. -/
namespace Go.Proofs.Ytnphnhafifaaoaa.mem
open Go.RowKit

section
variable {w : World} {X Y : Nat} {t n k : Int} {zs : List Int} {l : Last}

theorem has_in (hm : MemAt w X Y t n zs k l) (a : Nat) (ha : a < zs.length) :
    Calls Try.prog 48 #[.pointer (some ⟨X, 0, none⟩), .int .i64 a] w fun e w' => e = .returned (.bool true) ∧ w = w' := by
  obtain ⟨cp, c0, c1, c2, c3, c4, c5, c6, c7, c8, fx, fy, hx, hy, ne, en⟩ := hm.row
  clear hm
  go_enter Try.func48, Try.ntmps48
  go_wp2
  go_returns
  exact ⟨rfl, rfl⟩
theorem has_neg (p : Option Addr) (a : Int) (ha : decide (0 ≤ a) = false) :
    Calls Try.prog 48 #[.pointer p, .int .i64 a] w fun e w' => e = .returned (.bool false) ∧ w = w' := by
  cases p
  all_goals
    go_enter Try.func48, Try.ntmps48
    go_wp2
    go_returns
    exact ⟨rfl, rfl⟩
theorem has_nil (a : Int) :
    Calls Try.prog 48 #[.pointer none, .int .i64 a] w fun e w' => e = .returned (.bool false) ∧ w = w' := by
  go_enter Try.func48, Try.ntmps48
  go_wp2
  go_returns
  exact ⟨rfl, rfl⟩
theorem has_past (hm : MemAt w X Y t n zs k l) (a : Int) (ha : (zs.length : Int) ≤ a) :
    Calls Try.prog 48 #[.pointer (some ⟨X, 0, none⟩), .int .i64 a] w fun e w' => e = .returned (.bool false) ∧ w = w' := by
  obtain ⟨cp, c0, c1, c2, c3, c4, c5, c6, c7, c8, fx, fy, hx, hy, ne, en⟩ := hm.row
  clear hm
  have h0 : decide (0 ≤ a) = true := by simp; omega
  go_enter Try.func48, Try.ntmps48
  go_wp2
  go_returns
  exact ⟨ret_bool (by simp; omega), rfl⟩
theorem has_out (hm : MemAt w X Y t n zs k l) (a : Int) (ha : ¬ (0 ≤ a ∧ a < zs.length)) :
    Calls Try.prog 48 #[.pointer (some ⟨X, 0, none⟩), .int .i64 a] w fun e w' => e = .returned (.bool false) ∧ w = w' := by
  by_cases h0 : 0 ≤ a
  · exact has_past hm a (by omega)
  · exact has_neg _ a (by simpa using h0)

theorem peek_in (hm : MemAt w X Y t n zs k l) (a : Nat) (z : Int) (ha : a < zs.length) (hz : zs.getD a 0 = z) :
    Calls Try.prog 31 #[.pointer (some ⟨X, 0, none⟩), .int .i64 a] w fun e w' => e = .returned (.int .u64 z) ∧ w = w' := by
  obtain ⟨cp, c0, c1, c2, c3, c4, c5, c6, c7, c8, fx, fy, hx, hy, ne, en⟩ := hm.row
  have hw := hm.word ha
  rw [hz] at hw
  have HM := Lib.hid hm
  clear hm hz
  go_enter Try.func31, Try.ntmps31
  go_wp2_with (go_at_call 48; refine (has_in HM.out a ha).mono ?_; rintro e w1 ⟨rfl, rfl⟩)
  go_returns
  exact ⟨rfl, rfl⟩
theorem peek_out (hm : MemAt w X Y t n zs k l) (a : Int) (ha : ¬ (0 ≤ a ∧ a < zs.length)) :
    Calls Try.prog 31 #[.pointer (some ⟨X, 0, none⟩), .int .i64 a] w fun e w' => e = .returned (.int .u64 0) ∧ w = w' := by
  have HM := Lib.hid hm
  have HA := Lib.hid ha
  clear hm ha
  go_enter Try.func31, Try.ntmps31
  go_wp2_with (go_at_call 48; refine (has_out HM.out a HA.out).mono ?_; rintro e w1 ⟨rfl, rfl⟩)
  go_returns
  exact ⟨rfl, rfl⟩
theorem peek_nil (a : Int) :
    Calls Try.prog 31 #[.pointer none, .int .i64 a] w fun e w' => e = .returned (.int .u64 0) ∧ w = w' := by
  go_enter Try.func31, Try.ntmps31
  go_wp2_with (go_at_call 48; refine (has_nil a).mono ?_; rintro e w1 ⟨rfl, rfl⟩)
  go_returns
  exact ⟨rfl, rfl⟩
/-- An action by value. -/
abbrev av (l : Last) : Value := .agg #[.int .i64 l.kind, .int .i64 l.addr, .int .u64 l.old, .int .u64 l.new, .bool l.ok]

end
end Go.Proofs.Ytnphnhafifaaoaa.mem
/- What a word is at whatever address, and what the words are behind a store there. -/
namespace Go.Proofs.Ytnphnhafifaaoaa.mem
open Go.RowKit

/-- Is there such an address? -/
def inB (zs : List Int) (a : Int) : Bool := decide (0 ≤ a ∧ a < zs.length)
/-- The word there; 0, if there is none. -/
def wordAt (zs : List Int) (a : Int) : Int := if 0 ≤ a ∧ a < zs.length then zs.getD a.toNat 0 else 0
/-- The words, that one being another one now. -/
def setAt (zs : List Int) (a v : Int) : List Int := if 0 ≤ a ∧ a < zs.length then zs.set a.toNat v else zs
/-- A number that is there where there is an address, else 0. -/
def only (b : Bool) (v : Int) : Int := if b = true then v else 0
theorem inB_nat {zs : List Int} {a : Nat} (h : a < zs.length) : inB zs a = true := by unfold inB; simp; omega
theorem inB_not {zs : List Int} {a : Int} (h : ¬ (0 ≤ a ∧ a < zs.length)) : inB zs a = false := by unfold inB; simp; omega
theorem wordAt_nat {zs : List Int} {a : Nat} (h : a < zs.length) : wordAt zs a = zs.getD a 0 := by unfold wordAt; rw [if_pos (by omega)]; rfl
theorem wordAt_not {zs : List Int} {a : Int} (h : ¬ (0 ≤ a ∧ a < zs.length)) : wordAt zs a = 0 := by unfold wordAt; rw [if_neg h]
theorem setAt_nat {zs : List Int} {a : Nat} (v : Int) (h : a < zs.length) : setAt zs a v = zs.set a v := by unfold setAt; rw [if_pos (by omega)]; rfl
theorem setAt_not {zs : List Int} {a : Int} (v : Int) (h : ¬ (0 ≤ a ∧ a < zs.length)) : setAt zs a v = zs := by unfold setAt; rw [if_neg h]
theorem setAt_length (zs : List Int) (a v : Int) : (setAt zs a v).length = zs.length := by unfold setAt; split <;> simp
theorem set_same (zs : List Int) (a : Nat) : zs.set a (zs.getD a 0) = zs := by
  by_cases h : a < zs.length
  · rw [List.getD_eq_getElem?_getD, List.getElem?_eq_getElem h]
    exact List.set_getElem_self h
  · rw [List.set_eq_of_length_le (by omega)]
theorem setAt_same (zs : List Int) (a : Int) : setAt zs a (wordAt zs a) = zs := by
  unfold setAt wordAt
  split
  · exact set_same zs _
  · rfl
theorem inB_setAt (zs : List Int) (a v b : Int) : inB (setAt zs a v) b = inB zs b := by unfold inB; rw [setAt_length]
theorem wordAt_setAt_same (zs : List Int) (a v : Int) (h : inB zs a = true) : wordAt (setAt zs a v) a = v := by
  have h : 0 ≤ a ∧ a < zs.length := by unfold inB at h; simpa using h
  unfold wordAt
  rw [setAt_length, if_pos h]
  unfold setAt
  have hl : a.toNat < (zs.set a.toNat v).length := by simp; omega
  rw [if_pos h, List.getD_eq_getElem?_getD, List.getElem?_eq_getElem hl]
  simp
theorem wordAt_setAt_other (zs : List Int) (a v b : Int) (h : a ≠ b) : wordAt (setAt zs a v) b = wordAt zs b := by
  unfold wordAt
  rw [setAt_length]
  split
  · rename_i hb
    unfold setAt
    split
    · rename_i ha
      rw [List.getD_eq_getElem?_getD, List.getD_eq_getElem?_getD, List.getElem?_set_ne (by omega)]
    · rfl
  · rfl
theorem setAt_comm (zs : List Int) (a b v u : Int) (h : a ≠ b) : setAt (setAt zs a v) b u = setAt (setAt zs b u) a v := by
  unfold setAt
  by_cases ha : 0 ≤ a ∧ a < zs.length <;> by_cases hb : 0 ≤ b ∧ b < zs.length <;> simp [ha, hb]
  exact List.set_comm _ _ (by omega)
end Go.Proofs.Ytnphnhafifaaoaa.mem
