/- A history in the heap: its ten cells, its row of calls; rows of structs by lists; what a call leaves as it was. -/
import Derived.Test.YtmpilokgbblonaaKl03
import Derived.WalkKit
import Derived.WalkSpells
import Derived.WalkLawsBesides
import Derived.Handy
import Derived.Lib.Hide
import Derived.Outline
import Derived.Below
import Derived.Laws.AppendOwn
import Derived.Laws.IdiomCopy
import Derived.Deep.Upon
import Derived.Lib.SmallJoins
import Derived.DeepKeys
import Derived.Test.YtmpilokgbblonaaRows
import Derived.Deep.RegionLaw
namespace Go.Proofs.Ytmpilokgbblonaa.hist
open Go.RowKit

theorem below_drewN {B : Nat} {a w : World} (h : Below B a w) (n : Nat) : Below B a (w.drewN n) := ⟨h.os, h.tape, h.output, h.size, h.block⟩
theorem past {W w w' : World} (h : Below W.heap.size W w) (hb : Below w.heap.size w w') : Below W.heap.size W w' := h.trans (hb.mono h.size)
theorem new_block (w : World) (cs : Array Value) (T : TypeId) : (w.alloc (.cells cs T)).heap[w.heap.size]? = some (.cells cs T (0, 0)) := heap_alloc_new w _
theorem new_block_drew (w : World) (cs : Array Value) (T : TypeId) : (w.alloc (.cells cs T)).drew.heap[w.heap.size]? = some (.cells cs T (0, 0)) := heap_alloc_new w _

/-! Rows of structs. -/
section
variable {α : Type}
/-- The cells of a row, each element's by its number and itself. -/
def rowCells (f : Nat → α → List Value) : List α → Nat → List Value
  | [], _ => []
  | a :: L, i => f i a ++ rowCells f L (i + 1)
variable {f : Nat → α → List Value} {k : Nat}
theorem row_len (hf : ∀ i a, (f i a).length = k) : ∀ (L : List α) (s : Nat), (rowCells f L s).length = L.length * k
  | [], _ => by simp [rowCells]
  | a :: L, s => by rw [rowCells, List.length_append, hf, row_len hf L, List.length_cons, Nat.succ_mul, Nat.add_comm]
theorem row_get (hf : ∀ i a, (f i a).length = k) : ∀ (L : List α) (s i j : Nat), j < k → (rowCells f L s)[i * k + j]? = L[i]?.bind fun a => (f (s + i) a)[j]?
  | [], s, i, _, hj => by simp [rowCells]
  | a :: L, s, 0, j, hj => by
    rw [rowCells, List.getElem?_append_left (by rw [hf]; omega)]
    simp
  | a :: L, s, i + 1, j, hj => by
    have e : (i + 1) * k + j = k + (i * k + j) := by rw [Nat.succ_mul]; omega
    rw [rowCells, e, List.getElem?_append_right (by rw [hf]; omega), hf, Nat.add_sub_cancel_left, row_get hf L (s + 1) i j hj, List.getElem?_cons_succ, show s + 1 + i = s + (i + 1) by omega]
theorem row_snoc (f : Nat → α → List Value) (a : α) : ∀ (L : List α) (s : Nat), rowCells f (L ++ [a]) s = rowCells f L s ++ f (s + L.length) a
  | [], s => by simp [rowCells]
  | b :: L, s => by rw [List.cons_append, rowCells, rowCells, row_snoc f a L, List.append_assoc, List.length_cons, show s + 1 + L.length = s + (L.length + 1) by omega]
/-- A list with these cells is the row's. -/
theorem row_ext (hf : ∀ i a, (f i a).length = k) (hk : 0 < k) {L : List α} {M : List Value} (hl : M.length = L.length * k) (h : ∀ i a j, L[i]? = some a → j < k → M[i * k + j]? = (f i a)[j]?) : M = rowCells f L 0 := by
  apply List.ext_getElem?
  intro n
  have e : n = n / k * k + n % k := by rw [Nat.mul_comm]; exact (Nat.div_add_mod n k).symm
  have hm := Nat.mod_lt n hk
  by_cases hn : n < L.length * k
  · have hd : n / k < L.length := (Nat.div_lt_iff_lt_mul hk).2 hn
    rw [e, row_get hf L 0 _ _ hm, List.getElem?_eq_getElem hd, h _ _ _ (List.getElem?_eq_getElem hd) hm]
    simp
  · rw [List.getElem?_eq_none (by omega), List.getElem?_eq_none (by rw [row_len hf]; omega)]

/-- How a walk spells a field's address. -/
def spell (b : Addr) (m : Nat) : Nat → Addr
  | 0 => b.add m
  | j + 1 => ⟨(b.add m).block, (b.add m).off + (j + 1), none⟩
theorem add_spelled (a : Addr) (m : Nat) : ∀ j, a.add (m + j) = spell a m j
  | 0 => rfl
  | j + 1 => by
    unfold spell Addr.add
    rw [if_neg (by omega)]
    by_cases hm : m = 0
    · subst hm
      simp
    · rw [if_neg hm]
      simp
      omega
theorem add_block (b : Addr) (n : Nat) : (b.add n).block = b.block := by
  unfold Addr.add
  split <;> rfl
theorem spell_block (b : Addr) (m : Nat) : ∀ j, (spell b m j).block = b.block
  | 0 => add_block b m
  | _ + 1 => add_block b m

/-- A row of structs in a slice: one that came in, or one of the call's own. -/
def At (f : Nat → α → List Value) (k : Nat) (w : World) (a : Option Addr) (L : List α) : Prop := ∀ i (hi : i < L.length), ∃ b, a = some b ∧ ∀ j u, (f i L[i])[j]? = some u → w.cell? (spell b (i * k) j) = some u
theorem At.moved {w w' : World} {a : Option Addr} {L : List α} (h : At f k w a L) (hb : ∀ b, a = some b → b.block < w.heap.size → w'.heap[b.block]? = w.heap[b.block]?) : At f k w' a L := by
  intro i hi
  obtain ⟨b, hb1, h0⟩ := h i hi
  refine ⟨b, hb1, fun j u hu => ?_⟩
  have hc := h0 j u hu
  have hl := World.block_lt_of_cell? w _ hc
  rw [spell_block] at hl
  exact (World.cell?_of_block (w := w) (by rw [spell_block]; exact hb b hb1 hl)).trans hc
theorem At.below {w w' : World} {B : Nat} {a : Option Addr} {L : List α} (h : At f k w a L) (hb : Below B w w') (hB : w.heap.size ≤ B) : At f k w' a L := h.moved fun _ _ hl => hb.block _ (by omega)
theorem At.later {w w' : World} {a : Option Addr} {L : List α} (h : At f k w a L) (hb : Below w.heap.size w w') : At f k w' a L := h.below hb (Nat.le_refl _)
theorem At.take {w : World} {a : Option Addr} {L : List α} (h : At f k w a L) (n : Nat) : At f k w a (L.take n) := by
  intro i hi
  have h2 : i < L.length := by simp at hi; omega
  obtain ⟨b, e, h0⟩ := h i h2
  refine ⟨b, e, ?_⟩
  rw [List.getElem_take]
  exact h0
/-- A row of the call's own. -/
def Own (f : Nat → α → List Value) (k : Nat) (T : TypeId) (w : World) (v : Value) (L : List α) : Prop := w.ownsRow 0 T k v L.length (rowCells f L 0)
/-- As a slice. -/
theorem Own.slice {T : TypeId} {w : World} {v : Value} {L : List α} (h : Own f k T w v L) : ∃ A c, v = .slice A L.length c ∧ L.length ≤ c ∧ c ≤ maxLen ∧ ∀ b, A = some b → b = ⟨b.block, 0, none⟩ := by
  obtain ⟨_, ⟨rfl, h0⟩ | ⟨g, cap, cur, rfl, _, _, h1, h2, _⟩⟩ := h
  · exact ⟨none, 0, by rw [h0], by omega, by omega, by simp⟩
  · exact ⟨some ⟨g, 0, none⟩, cap, rfl, h1, h2, fun b hb => by obtain rfl := Option.some.inj hb; rfl⟩
theorem Own.at (hf : ∀ i a, (f i a).length = k) {T : TypeId} {w : World} {A : Option Addr} {n c : Nat} {L : List α} (h : Own f k T w (.slice A n c) L) : At f k w A L := by
  intro i hi
  have h' := h
  obtain ⟨hl, ⟨hv, h0⟩ | ⟨g, cap, cur, hv, _, _, _⟩⟩ := h
  · omega
  · obtain ⟨rfl, _, _⟩ : A = some ⟨g, 0, none⟩ ∧ n = _ ∧ c = _ := by simpa using hv
    refine ⟨_, rfl, fun j u hu => ?_⟩
    have hj : j < k := by have := (List.getElem?_eq_some_iff.1 hu).1; rwa [hf] at this
    have := h'.cells (g := g) rfl (i * k + j) u (by rw [row_get hf L 0 i j hj, List.getElem?_eq_getElem hi]; simpa using hu)
    rwa [add_spelled] at this
theorem Own.moved {T : TypeId} {w w' : World} {v : Value} {L : List α} (h : Own f k T w v L) (hb : ∀ g, v.ownBlock = some g → w'.heap[g]? = w.heap[g]?) : Own f k T w' v L := by
  obtain ⟨hl, h | ⟨g, cap, cur, rfl, h0, hg, h1, h2, h3, h4⟩⟩ := h
  · exact ⟨hl, .inl h⟩
  · exact ⟨hl, .inr ⟨g, cap, cur, rfl, h0, (hb g rfl).trans hg, h1, h2, h3, h4⟩⟩
theorem Own.lt {T : TypeId} {w : World} {v : Value} {L : List α} (h : Own f k T w v L) {g : Nat} (hg : v.ownBlock = some g) : g < w.heap.size := (World.ownsRow.lt h g hg).2
theorem Own.below {T : TypeId} {w w' : World} {v : Value} {L : List α} (h : Own f k T w v L) (hb : Below w.heap.size w w') : Own f k T w' v L := h.moved fun _ hg => hb.block _ (h.lt hg)
theorem Own.nil (T : TypeId) (w : World) : Own f k T w (.slice none 0 0) [] := World.ownsRow_nil _ _ _ _
/-- An element written over, cell by cell. -/
theorem owns_set {w : World} {base size n : Nat} {e : TypeId} {v : Value} {xs : List Value} {g m : Nat} (h : w.ownsRow base e size v n xs) (hg : v.ownBlock = some g) (u : Value) : (w.setCell ⟨g, m, none⟩ u).ownsRow base e size v n (xs.set m u) := by
  obtain ⟨hl, ⟨rfl, _⟩ | ⟨g', cap, cur, rfl, h0, hb, h1, h2, h3, h4⟩⟩ := h
  · simp [Value.ownBlock] at hg
  · obtain rfl : g' = g := by simpa [Value.ownBlock] using hg
    refine ⟨by simpa using hl, .inr ⟨g', cap, cur.setIfInBounds m u, rfl, h0, Joins.block_setCell (i := m) hb u, h1, h2, by simpa using h3, ?_⟩⟩
    rw [Array.toList_setIfInBounds, List.take_set, h4]
end

/-- Of what there was, nothing but the blocks of f has changed; f' is f, and new ones. -/
structure Went (f f' : Nat → Prop) (w w' : World) : Prop where
  os : w'.os = w.os
  tape : w'.tape = w.tape
  output : w'.output = w.output
  size : w.heap.size ≤ w'.heap.size
  block : ∀ b, b < w.heap.size → ¬ f b → w'.heap[b]? = w.heap[b]?
  more : ∀ b, f' b → f b ∨ w.heap.size ≤ b
section
variable {f f' f2 : Nat → Prop} {w w' w2 : World}
theorem Went.refl (f : Nat → Prop) (w : World) : Went f f w w := ⟨rfl, rfl, rfl, Nat.le_refl _, fun _ _ _ => rfl, fun _ h => Or.inl h⟩
theorem Went.ofBelow (h : Below w.heap.size w w') : Went f f w w' := ⟨h.os, h.tape, h.output, h.size, fun b hb _ => h.block b hb, fun _ h => Or.inl h⟩
theorem Went.trans (h : Went f f' w w') (k : Went f' f2 w' w2) : Went f f2 w w2 :=
  ⟨k.os.trans h.os, k.tape.trans h.tape, k.output.trans h.output, Nat.le_trans h.size k.size,
    fun b hb hf => (k.block b (Nat.lt_of_lt_of_le hb h.size) (fun h' => (h.more b h').elim hf (by omega))).trans (h.block b hb hf),
    fun b hb => (k.more b hb).elim (h.more b) (fun hs => Or.inr (Nat.le_trans h.size hs))⟩
theorem Went.next (h : Went f f' w w') (k : Below w'.heap.size w' w2) : Went f f' w w2 := h.trans (Went.ofBelow k)
theorem Went.ahead (h : Below w.heap.size w w') (k : Went f f' w' w2) : Went f f' w w2 := (Went.ofBelow h).trans k
/-- Behind a world that has nothing of f. -/
theorem Went.below {B : Nat} {a : World} (h : Went f f' w w') (hb : Below B a w) (hs : B ≤ w.heap.size) (hf : ∀ b, f b → B ≤ b) : Below B a w' :=
  hb.trans ⟨h.os, h.tape, h.output, h.size, fun b hl => h.block b (by omega) (fun hb => by have := hf b hb; omega)⟩
theorem Went.from {B : Nat} (h : Went f f' w w') (hs : B ≤ w.heap.size) (hf : ∀ b, f b → B ≤ b) : ∀ b, f' b → B ≤ b :=
  fun b hb => (h.more b hb).elim (hf b) (Nat.le_trans hs)
theorem Went.apart (h : Went f f' w w') {b : Nat} (hb : b < w.heap.size) (hf : ¬ f b) : ¬ f' b := fun h' => (h.more b h').elim hf (by omega)
theorem Went.cell (h : Went f f' w w') {b : Nat} (hb : b < w.heap.size) (hf : ¬ f b) (i : Nat) : w'.cell? ⟨b, i, none⟩ = w.cell? ⟨b, i, none⟩ := World.cell?_of_block (w := w) (h.block b hb hf)
theorem Went.setCell (w : World) (a : Addr) (u : Value) (h : f a.block) : Went f f w (w.setCell a u) := by
  refine ⟨rfl, rfl, rfl, ?_, fun b hb hf => Below.heap_setCell _ _ _ _ (fun e => hf (e ▸ h)), fun _ h => Or.inl h⟩
  have := (Below.setCell (Below.refl 0 w) (p := a) (Nat.zero_le _) u).size
  exact this
end

/-! The cells. -/
def cells7 (_ : Nat) (v : EvV) : List Value := [.int .i64 v.T, .bool v.E, .int .i64 v.K, .int .i64 v.Y, .int .i64 v.C, .bool v.O, .int .i64 v.V]
def cells8 (_ : Nat) (c : ClV) : List Value := [.int .i64 c.T, .int .i64 c.B, .int .i64 c.D, .int .i64 c.K, .int .i64 c.Y, .int .i64 c.C, .bool c.O, .int .i64 c.V]
def cells9 (i : Nat) (c : ClV) : List Value := [.int .i64 c.B, .int .i64 c.D, .int .i64 (i : Int), .int .i64 c.T, .int .i64 c.K, .int .i64 c.Y, .int .i64 c.C, .bool c.O, .int .i64 c.V]
theorem len7 (i : Nat) (v : EvV) : (cells7 i v).length = 7 := rfl
theorem len8 (i : Nat) (v : ClV) : (cells8 i v).length = 8 := rfl
theorem len9 (i : Nat) (v : ClV) : (cells9 i v).length = 9 := rfl

/-- Which calls are open: of each thread 0, or the number behind its pending one's. -/
def Opens (l : List EvV) (o : Nat → Nat) : Prop := ∀ t, t ≤ 7 → (o t = 0 ∧ pendE l (t : Int) = false) ∨ ∃ i c, o t = i + 1 ∧ (callsE l)[i]? = some c ∧ c.D < 0 ∧ c.T = (t : Int)
theorem opens_nil : Opens [] (fun _ => 0) := fun _ _ => Or.inl ⟨rfl, rfl⟩
theorem opens_pend {l : List EvV} {o : Nat → Nat} (h : Opens l o) {t : Nat} (ht : t ≤ 7) : decide (0 < o t) = pendE l (t : Int) := by
  rcases h t ht with ⟨h1, h2⟩ | ⟨i, c, h1, h2, h3, h4⟩
  · rw [h1, h2]; rfl
  · rw [(pend_calls l t).2 ⟨c, List.mem_of_getElem? h2, h3, h4⟩, h1]
    exact decide_eq_true (by omega)
theorem opens_begin {l : List EvV} {o : Nat → Nat} (h : Opens l o) {v : EvV} {t : Nat} (hv : v.T = (t : Int)) (he : errE l v = 0) (hE : v.E = false) : Opens (l ++ [v]) (fun s => if s = t then (callsE l).length + 1 else o s) := by
  intro s hs
  rw [calls_begin he hE, pend_snoc]
  by_cases hst : s = t
  · subst hst
    exact Or.inr ⟨(callsE l).length, ⟨v.T, (l.length : Nat), -1, v.K, v.Y, 0, false, 0⟩, by simp, by simp, by show (-1 : Int) < 0; omega, hv⟩
  · simp only [if_neg hst]
    rw [if_neg (by omega)]
    rcases h s hs with h1 | ⟨i, c, h1, h2, h3⟩
    · exact Or.inl h1
    · exact Or.inr ⟨i, c, h1, by rw [List.getElem?_append_left (List.getElem?_eq_some_iff.1 h2).1]; exact h2, h3⟩
theorem opens_end {l : List EvV} {o : Nat → Nat} (h : Opens l o) {v : EvV} {t : Nat} (hv : v.T = (t : Int)) (hE : v.E = true) : Opens (l ++ [v]) (fun s => if s = t then 0 else o s) := by
  intro s hs
  rw [calls_end hE, pend_snoc]
  by_cases hst : s = t
  · subst hst
    exact Or.inl ⟨by simp, by rw [if_pos hv, hE]; rfl⟩
  · simp only [if_neg hst]
    rw [if_neg (by omega)]
    rcases h s hs with h1 | ⟨i, c, h1, h2, h3, h4⟩
    · exact Or.inl h1
    · exact Or.inr ⟨i, c, h1, by rw [List.getElem?_map, h2]; show some _ = some _; rw [close_no (fun hh => by omega)], h3, h4⟩
/-- What ends is one call alone. -/
theorem calls_set {l : List EvV} (hV : ValidE l) {v : EvV} (hE : v.E = true) {i : Nat} {c : ClV} (hi : (callsE l)[i]? = some c) (hd : c.D < 0) (ht : c.T = v.T) : callsE (l ++ [v]) = (callsE l).set i ⟨c.T, c.B, (l.length : Nat), c.K, c.Y, v.C, v.O, v.V⟩ := by
  rw [calls_end hE]
  apply List.ext_getElem?
  intro j
  rw [List.getElem?_map, List.getElem?_set]
  obtain ⟨hil, rfl⟩ := List.getElem?_eq_some_iff.1 hi
  by_cases hj : i = j
  · subst hj
    rw [hi, if_pos rfl, if_pos hil]
    show some _ = some _
    rw [close_yes ⟨hd, ht⟩]
  · rw [if_neg hj]
    cases hc : (callsE l)[j]? with
    | none => rfl
    | some d =>
      show some _ = some _
      obtain ⟨hjl, rfl⟩ := List.getElem?_eq_some_iff.1 hc
      rw [close_no]
      rintro ⟨h1, h2⟩
      have hp := List.pairwise_iff_getElem.1 (hold_of l hV).order
      rcases Nat.lt_or_gt_of_ne hj with h | h
      · have := hp i j hil hjl h (ht.trans h2.symm)
        omega
      · have := hp j i hjl hil h (h2.trans ht.symm)
        omega

/-- A history at block X, of these events. -/
structure Hat (w : World) (X : Nat) (v : Value) (o : Nat → Nat) (l : List EvV) : Prop where
  valid : ValidE l
  opens : Opens l o
  box : ∃ cur, w.heap[X]? = some (.cells cur 46 (0, 0)) ∧ cur.size = 10 ∧ cur[0]? = some v ∧ cur[1]? = some (.int .i64 (l.length : Nat)) ∧ ∀ t, t ≤ 7 → cur[2 + t]? = some (.int .i64 (o t : Nat))
  row : Own cells9 9 52 w v (callsE l)
section
variable {w w' : World} {X : Nat} {v : Value} {o : Nat → Nat} {l : List EvV}
theorem Hat.lt (h : Hat w X v o l) : X < w.heap.size := by
  obtain ⟨cur, hb, _⟩ := h.box
  exact (Array.getElem?_eq_some_iff.1 hb).1
theorem Hat.c0 (h : Hat w X v o l) : w.cell? ⟨X, 0, none⟩ = some v := by
  obtain ⟨cur, hb, _, h0, _⟩ := h.box
  rw [Joins.cell_of_block hb]; exact h0
theorem Hat.c1 (h : Hat w X v o l) : w.cell? ⟨X, 1, none⟩ = some (.int .i64 (l.length : Nat)) := by
  obtain ⟨cur, hb, _, _, h1, _⟩ := h.box
  rw [Joins.cell_of_block hb]; exact h1
theorem Hat.co (h : Hat w X v o l) {t : Nat} (ht : t ≤ 7) : w.cell? ⟨X, 2 + t, none⟩ = some (.int .i64 (o t : Nat)) := by
  obtain ⟨cur, hb, _, _, _, h2⟩ := h.box
  rw [Joins.cell_of_block hb]; exact h2 t ht
theorem Hat.free (h : Hat w X v o l) (i : Nat) : w.frozen? ⟨X, i, none⟩ = false := by
  obtain ⟨cur, hb, _⟩ := h.box
  exact Joins.unfrozen_of_block hb i
theorem Hat.moved (h : Hat w X v o l) (hX : w'.heap[X]? = w.heap[X]?) (hv : ∀ g, v.ownBlock = some g → w'.heap[g]? = w.heap[g]?) : Hat w' X v o l :=
  ⟨h.valid, h.opens, by rw [hX]; exact h.box, h.row.moved hv⟩
theorem Hat.below (h : Hat w X v o l) (hb : Below w.heap.size w w') : Hat w' X v o l := h.moved (hb.block X h.lt) fun _ hg => hb.block _ (h.row.lt hg)
theorem Hat.apart (h : Hat w X v o l) {g : Nat} (hg : v.ownBlock = some g) : g ≠ X := by
  intro hX
  subst hX
  obtain ⟨cur, hb, _⟩ := h.box
  obtain ⟨_, ⟨rfl, _⟩ | ⟨g', cap, cur', rfl, _, hgg, _⟩⟩ := h.row
  · simp [Value.ownBlock] at hg
  · obtain rfl : g' = g := by simpa [Value.ownBlock] using hg
    rw [hb] at hgg
    simp at hgg
end
/-- A history of these events, in blocks of f. -/
def Hst (w : World) (X : Nat) (f : Nat → Prop) (l : List EvV) : Prop := ∃ v o, Hat w X v o l ∧ f X ∧ (∀ g, v.ownBlock = some g → f g) ∧ ∀ b, f b → b < w.heap.size
section
variable {w w' : World} {X : Nat} {f : Nat → Prop} {l : List EvV}
theorem Hst.lt (h : Hst w X f l) : ∀ b, f b → b < w.heap.size := by
  obtain ⟨v, o, _, _, _, h⟩ := h
  exact h
theorem Hst.valid (h : Hst w X f l) : ValidE l := by
  obtain ⟨v, o, h, _⟩ := h
  exact h.valid
theorem Hst.moved (h : Hst w X f l) (hs : w.heap.size ≤ w'.heap.size) (hb : ∀ b, f b → w'.heap[b]? = w.heap[b]?) : Hst w' X f l := by
  obtain ⟨v, o, h1, h2, h3, h4⟩ := h
  exact ⟨v, o, h1.moved (hb _ h2) (fun g hg => hb _ (h3 g hg)), h2, h3, fun b hf => Nat.lt_of_lt_of_le (h4 b hf) hs⟩
theorem Hst.below (h : Hst w X f l) (hb : Below w.heap.size w w') : Hst w' X f l := h.moved hb.size fun b hf => hb.block b (h.lt b hf)
/-- Another one's operation. -/
theorem Hst.apart (h : Hst w X f l) {g g' : Nat → Prop} (hg : Went g g' w w') (hd : ∀ b, f b → ¬ g b) : Hst w' X f l := h.moved hg.size fun b hf => hg.block b (h.lt b hf) (hd b hf)
theorem Hst.grown (h : Hst w X f l) {row : Option Nat} (hg : w.grownBy w' row) (hd : ∀ b, row = some b → ¬ f b) : Hst w' X f l :=
  h.moved hg.size fun b hf => hg.block b (h.lt b hf) (fun e => hd b e.symm hf)
end
end Go.Proofs.Ytmpilokgbblonaa.hist
/- Two steps of a region that draws its order: an append whose run is known; a call by its contract. -/
namespace Go.Proofs.Ytmpilokgbblonaa.quiet
open Go.RowKit

section
variable {P : Program} {ops : Array Oper} {o : Oper} {a : Act} {w : World} {K : Act → World → Prop} {Q : Exit → Act → World → Prop} {E : Prop}
/-- An append of which it is known how it runs. -/
theorem step_known (hg : o.guard = none) (s x : Operand) (t : TypeId) (hop : o.op = Op.call { callee := Callee.builtin Builtin.append, args := #[s, x], argTypes := #[t, t] }) (v u v' : Value) (w' : World) (hs : a.eval s = v) (hx : a.eval x = u)
    (hrun : (Builtin.append_ #[t, t] o.type #[v, u]).run P w = .ok v' w') (hK : K (a.put o.dst v') w') : if Region.wanted o (yielded ops a.tmps) = true then Oper.wp P o a w K Q else E := by
  rw [if_pos (by simp [Region.wanted, hg])]
  unfold Oper.wp
  simp [execOp, hop, resolve, invoke, builtin, hs, hx, hrun, Result.andThen]
  exact hK
/-- A call of two arguments, by its contract. -/
theorem step_call2 (hg : o.guard = none) (f : FuncId) (s x : Operand) (t u : TypeId) (hop : o.op = Op.call { callee := Callee.value (Operand.func f), args := #[s, x], argTypes := #[t, u] }) (v y : Value) (hs : a.eval s = v) (hx : a.eval x = y) (hcf : (callFunc f #[v, y]).run P w = .ok (.enter f #[v, y]) w)
    {R : Value → World → Prop} (hc : Calls P f #[v, y] w fun e w' => ∃ r, e = .returned r ∧ R r w') (hK : ∀ r w', R r w' → K (a.put o.dst r) w') : if Region.wanted o (yielded ops a.tmps) = true then Oper.wp P o a w K Q else E := by
  rw [if_pos (by simp [Region.wanted, hg])]
  unfold Oper.wp
  simp only [go_sem] at hs hx
  simp [execOp, hop, go_sem]
  simp only [Array.getD_eq_getD_getElem?] at hs hx
  rw [hs, hx, hcf]
  show Calls P f #[v, y] w _
  refine Calls.mono hc (fun e w' he => ?_)
  obtain ⟨r, rfl, hr⟩ := he
  exact hK _ _ hr
end
end Go.Proofs.Ytmpilokgbblonaa.quiet
/- What a history's methods do, and tell. -/
namespace Go.Proofs.Ytmpilokgbblonaa.hist
open Go.RowKit

set_option maxHeartbeats 1000000 in
theorem pending_any (w : World) (X : Nat) (v : Value) (o : Nat → Nat) (l : List EvV) (h : Hat w X v o l) (t : Int) :
    Calls Try.prog 14 #[.pointer (some ⟨X, 0, none⟩), .int .i64 t] w fun e w' => e = .returned (.bool (decide (0 ≤ t ∧ t ≤ 7) && pendE l t)) ∧ w = w' := by
  by_cases ht : 0 ≤ t ∧ t ≤ 7
  · obtain ⟨k, rfl⟩ : ∃ k : Nat, t = k := ⟨t.toNat, by omega⟩
    have hk : k ≤ 7 := by omega
    have co := h.co hk
    rw [decide_eq_true ht, Bool.true_and, ← opens_pend h.opens hk]
    clear h ht
    have hk1 : (k : Int) < 8 := by omega
    have hk2 : (0 : Int) ≤ k := by omega
    have d1 : decide ((0 : Int) ≤ k) = true := decide_eq_true hk2
    have d2 : decide ((k : Int) < 8) = true := decide_eq_true hk1
    generalize o k = n at *
    go_enter Try.func14, Try.ntmps14
    go_wp2
    go_returns
    exact ⟨rfl, rfl⟩
  · rw [decide_eq_false ht, Bool.false_and]
    clear h
    go_enter Try.func14, Try.ntmps14
    go_wp2
    all_goals
      go_returns
      exact ⟨rfl, rfl⟩
/-- An append to a row of the call's own. -/
theorem append_row {α : Type} {f : Nat → α → List Value} {k : Nat} (hf : ∀ i a, (f i a).length = k) (w : World) (t ty e : TypeId) (i : TypeInfo) (z : Value) (bytes : Nat) (ht : Try.prog.underlying t = some (.slice e)) (hi : Try.prog.info? e = some i) (hz : i.zero = some z) (hs : i.size = k) (hb : i.bytes = bytes) (hzs : z.cells.size = k) (hk : 0 < k)
    (v : Value) (L : List α) (a : α) (h : Own f k e w v L) (p : Nat) (hp : ∀ j u, (f L.length a)[j]? = some u → w.cell? ((⟨p, 0, none⟩ : Addr).add j) = some u) (h1 : ∀ u ∈ f L.length a, u.oneCell' = true) (hm : L.length + 1 ≤ maxLen) (hby : (L.length + 1) * bytes ≤ 140737488355328) :
    ∃ v' w', (Builtin.append_ #[t, t] ty #[v, .slice (some ⟨p, 0, none⟩) 1 1]).run Try.prog w = .ok v' w' ∧ Own f k e w' v' (L ++ [a]) ∧ w.grownBy w' v.ownBlock ∧ (v'.ownBlock = v.ownBlock ∨ v'.ownBlock = some w.heap.size) ∧ (∃ A c, v' = .slice (some A) (L.length + 1) c) := by
  obtain ⟨v', w', h1, h2, h3, h4, h5⟩ := run_append_own_at (P := Try.prog) w 0 t ty e i z k bytes ht hi hz hs hb hzs hk v L.length (rowCells f L 0) h ⟨p, 0, none⟩ 1 1 (f L.length a) (by rw [hf]; omega) hp h1 hm hby (Nat.zero_le _)
  refine ⟨v', w', h1, ?_, h3, h5, ?_⟩
  · unfold Own
    rw [row_snoc, Nat.zero_add, List.length_append]
    exact h2
  · obtain ⟨_, ⟨hv, h0⟩ | ⟨g, cap, cur, hv, _⟩⟩ := h2
    · omega
    · exact ⟨_, _, hv⟩
theorem one9 (i : Nat) (c : ClV) : ∀ u ∈ cells9 i c, u.oneCell' = true := by
  intro u hu
  simp [cells9] at hu
  rcases hu with rfl | rfl | rfl | rfl | rfl | rfl | rfl | rfl | rfl <;> rfl
theorem one8 (i : Nat) (c : ClV) : ∀ u ∈ cells8 i c, u.oneCell' = true := by
  intro u hu
  simp [cells8] at hu
  rcases hu with rfl | rfl | rfl | rfl | rfl | rfl | rfl | rfl <;> rfl
theorem one7 (i : Nat) (c : EvV) : ∀ u ∈ cells7 i c, u.oneCell' = true := by
  intro u hu
  simp [cells7] at hu
  rcases hu with rfl | rfl | rfl | rfl | rfl | rfl | rfl <;> rfl
/-- What a new block has. -/
theorem new_cells (w : World) (cs : List Value) (T : TypeId) : ∀ j u, cs[j]? = some u → (w.alloc (.cells cs.toArray T)).cell? ((⟨w.heap.size, 0, none⟩ : Addr).add j) = some u := by
  intro j u hu
  rw [Addr.add_lit, Joins.cell_of_block (new_block w cs.toArray T)]
  simpa using hu
theorem Tryinfo_call : (Try.prog.info? 52).map (fun i => (i.zero, i.size, i.bytes)) = some (some (.agg #[.int .i64 0, .int .i64 0, .int .i64 0, .int .i64 0, .int .i64 0, .int .i64 0, .int .i64 0, .bool false, .int .i64 0]), 9, 72) := by kernel_rfl

/-- Behind a beginning: the row has one call more, three cells are written. -/
theorem hat_begin {w w5 w6 : World} {X : Nat} {v v' : Value} {o : Nat → Nat} {l : List EvV} {n M : Nat} {k y : Int} {cur : Array Value} (h : Hat w X v o l) (hM : (callsE l).length = M) (hn : n ≤ 7) (he : errE l ⟨n, false, k, y, 0, false, 0⟩ = 0)
    (hc : w.heap[X]? = some (.cells cur 46 (0, 0))) (h6 : w6.heap[X]? = some (.cells (((cur.setIfInBounds 1 (.int .i64 ((l.length : Int) + 1))).setIfInBounds 0 v').setIfInBounds (2 + n) (.int .i64 ((M : Int) + 1))) 46 (0, 0)))
    (hr : Own cells9 9 52 w5 v' (callsE l ++ [⟨n, (l.length : Nat), -1, k, y, 0, false, 0⟩])) (hv : ∀ g, v'.ownBlock = some g → w6.heap[g]? = w5.heap[g]?) :
    Hat w6 X v' (fun s => if s = n then (callsE l).length + 1 else o s) (l ++ [⟨n, false, k, y, 0, false, 0⟩]) := by
  obtain ⟨cur', h1, h2, h3, h4, h5⟩ := h.box
  obtain rfl : cur' = cur := by
    rw [hc] at h1
    simpa using h1.symm
  refine ⟨valid_snoc.2 ⟨h.valid, he⟩, opens_begin h.opens rfl he rfl, ⟨_, h6, by simpa using h2, ?_, ?_, ?_⟩, by rw [calls_begin he rfl]; exact hr.moved hv⟩
  · rw [Array.getElem?_setIfInBounds, if_neg (by omega), Array.getElem?_setIfInBounds, if_pos rfl, if_pos (by simp; omega)]
  · rw [Array.getElem?_setIfInBounds, if_neg (by omega), Array.getElem?_setIfInBounds, if_neg (by omega), Array.getElem?_setIfInBounds, if_pos rfl, if_pos (by omega)]
    simp
  · intro s hs
    by_cases hsn : s = n
    · subst hsn
      rw [Array.getElem?_setIfInBounds, if_pos rfl, if_pos (by simp; omega), if_pos rfl, hM]
      simp
    · rw [Array.getElem?_setIfInBounds, if_neg (by omega), Array.getElem?_setIfInBounds, if_neg (by omega), Array.getElem?_setIfInBounds, if_neg (by omega), if_neg hsn]
      exact h5 s hs

end Go.Proofs.Ytmpilokgbblonaa.hist
/- The document's functions over events in a slice: who has one pending, what is wrong with an event; an event without what doesn't count. -/
namespace Go.Proofs.Ytmpilokgbblonaa.hist
open Go.RowKit

section
variable {w : World} {a : Option Addr}
/-- An event's cells, as a walk spells them. -/
theorem At.ev {L : List EvV} (h : At cells7 7 w a L) (i : Nat) (hi : i < L.length) : ∃ b, a = some b ∧ w.cell? (b.add (i * 7)) = some (.int .i64 L[i].T) ∧ w.cell? ⟨(b.add (i * 7)).block, (b.add (i * 7)).off + 1, none⟩ = some (.bool L[i].E)
    ∧ w.cell? ⟨(b.add (i * 7)).block, (b.add (i * 7)).off + 2, none⟩ = some (.int .i64 L[i].K) ∧ w.cell? ⟨(b.add (i * 7)).block, (b.add (i * 7)).off + 3, none⟩ = some (.int .i64 L[i].Y) ∧ w.cell? ⟨(b.add (i * 7)).block, (b.add (i * 7)).off + 4, none⟩ = some (.int .i64 L[i].C)
    ∧ w.cell? ⟨(b.add (i * 7)).block, (b.add (i * 7)).off + 5, none⟩ = some (.bool L[i].O) ∧ w.cell? ⟨(b.add (i * 7)).block, (b.add (i * 7)).off + 6, none⟩ = some (.int .i64 L[i].V) := by
  obtain ⟨b, hb, hc⟩ := h i hi
  exact ⟨b, hb, hc 0 _ rfl, hc 1 _ rfl, hc 2 _ rfl, hc 3 _ rfl, hc 4 _ rfl, hc 5 _ rfl, hc 6 _ rfl⟩
theorem At.cl {L : List ClV} (h : At cells8 8 w a L) (i : Nat) (hi : i < L.length) : ∃ b, a = some b ∧ w.cell? (b.add (i * 8)) = some (.int .i64 L[i].T) ∧ w.cell? ⟨(b.add (i * 8)).block, (b.add (i * 8)).off + 1, none⟩ = some (.int .i64 L[i].B)
    ∧ w.cell? ⟨(b.add (i * 8)).block, (b.add (i * 8)).off + 2, none⟩ = some (.int .i64 L[i].D) ∧ w.cell? ⟨(b.add (i * 8)).block, (b.add (i * 8)).off + 3, none⟩ = some (.int .i64 L[i].K) ∧ w.cell? ⟨(b.add (i * 8)).block, (b.add (i * 8)).off + 4, none⟩ = some (.int .i64 L[i].Y)
    ∧ w.cell? ⟨(b.add (i * 8)).block, (b.add (i * 8)).off + 5, none⟩ = some (.int .i64 L[i].C) ∧ w.cell? ⟨(b.add (i * 8)).block, (b.add (i * 8)).off + 6, none⟩ = some (.bool L[i].O) ∧ w.cell? ⟨(b.add (i * 8)).block, (b.add (i * 8)).off + 7, none⟩ = some (.int .i64 L[i].V) := by
  obtain ⟨b, hb, hc⟩ := h i hi
  exact ⟨b, hb, hc 0 _ rfl, hc 1 _ rfl, hc 2 _ rfl, hc 3 _ rfl, hc 4 _ rfl, hc 5 _ rfl, hc 6 _ rfl, hc 7 _ rfl⟩
theorem At.ca {L : List ClV} (h : At cells9 9 w a L) (i : Nat) (hi : i < L.length) : ∃ b, a = some b ∧ w.cell? (b.add (i * 9)) = some (.int .i64 L[i].B) ∧ w.cell? ⟨(b.add (i * 9)).block, (b.add (i * 9)).off + 1, none⟩ = some (.int .i64 L[i].D)
    ∧ w.cell? ⟨(b.add (i * 9)).block, (b.add (i * 9)).off + 2, none⟩ = some (.int .i64 (i : Int)) ∧ w.cell? ⟨(b.add (i * 9)).block, (b.add (i * 9)).off + 3, none⟩ = some (.int .i64 L[i].T) ∧ w.cell? ⟨(b.add (i * 9)).block, (b.add (i * 9)).off + 4, none⟩ = some (.int .i64 L[i].K)
    ∧ w.cell? ⟨(b.add (i * 9)).block, (b.add (i * 9)).off + 5, none⟩ = some (.int .i64 L[i].Y) ∧ w.cell? ⟨(b.add (i * 9)).block, (b.add (i * 9)).off + 6, none⟩ = some (.int .i64 L[i].C) ∧ w.cell? ⟨(b.add (i * 9)).block, (b.add (i * 9)).off + 7, none⟩ = some (.bool L[i].O) ∧ w.cell? ⟨(b.add (i * 9)).block, (b.add (i * 9)).off + 8, none⟩ = some (.int .i64 L[i].V) := by
  obtain ⟨b, hb, hc⟩ := h i hi
  exact ⟨b, hb, hc 0 _ rfl, hc 1 _ rfl, hc 2 _ rfl, hc 3 _ rfl, hc 4 _ rfl, hc 5 _ rfl, hc 6 _ rfl, hc 7 _ rfl, hc 8 _ rfl⟩
end

theorem pend_take {l : List EvV} {k : Nat} (hk : k < l.length) (t : Int) : pendE (l.take (k + 1)) t = if l[k].T = t then !l[k].E else pendE (l.take k) t := by
  rw [List.take_succ_eq_append_getElem hk, pend_snoc]

/-- An event as an argument. -/
def evV (v : EvV) : Value := .agg #[.int .i64 v.T, .bool v.E, .int .i64 v.K, .int .i64 v.Y, .int .i64 v.C, .bool v.O, .int .i64 v.V]
end Go.Proofs.Ytmpilokgbblonaa.hist
