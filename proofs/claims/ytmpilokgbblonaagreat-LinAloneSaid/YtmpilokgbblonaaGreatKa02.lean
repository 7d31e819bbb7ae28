/- A history in the heap: its ten cells, its row of calls; rows of structs by lists; what a call leaves as it was. -/
import Derived.Test.YtmpilokgbblonaaGreatKa01
import Derived.WalkKit
import Derived.WalkSpells
import Derived.WalkLawsBesides
import Derived.Handy
import Derived.Lib.Hide
import Derived.Outline
import Derived.Below
import Derived.Laws.AppendOwn
import Derived.Laws.IdiomCopy
import Derived.Deep.Upon
import Derived.Lib.SmallJoins
import Derived.DeepKeys
import Derived.Deep.Slices
import Derived.Deep.Strs
import Derived.ChangeSame
namespace Go.Proofs.YtmpilokgbblonaaGreat.hist
open Go.RowKit

theorem below_drewN {B : Nat} {a w : World} (h : Below B a w) (n : Nat) : Below B a (w.drewN n) := ⟨h.os, h.tape, h.output, h.size, h.block⟩
theorem past {W w w' : World} (h : Below W.heap.size W w) (hb : Below w.heap.size w w') : Below W.heap.size W w' := h.trans (hb.mono h.size)
theorem new_block (w : World) (cs : Array Value) (T : TypeId) : (w.alloc (.cells cs T)).heap[w.heap.size]? = some (.cells cs T (0, 0)) := heap_alloc_new w _
theorem new_block_drew (w : World) (cs : Array Value) (T : TypeId) : (w.alloc (.cells cs T)).drew.heap[w.heap.size]? = some (.cells cs T (0, 0)) := heap_alloc_new w _

/-! Rows of structs. -/
section
variable {α : Type}
/-- The cells of a row, each element's by its number and itself. -/
def rowCells (f : Nat → α → List Value) : List α → Nat → List Value
  | [], _ => []
  | a :: L, i => f i a ++ rowCells f L (i + 1)
variable {f : Nat → α → List Value} {k : Nat}
theorem row_len (hf : ∀ i a, (f i a).length = k) : ∀ (L : List α) (s : Nat), (rowCells f L s).length = L.length * k
  | [], _ => by simp [rowCells]
  | a :: L, s => by rw [rowCells, List.length_append, hf, row_len hf L, List.length_cons, Nat.succ_mul, Nat.add_comm]
theorem row_get (hf : ∀ i a, (f i a).length = k) : ∀ (L : List α) (s i j : Nat), j < k → (rowCells f L s)[i * k + j]? = L[i]?.bind fun a => (f (s + i) a)[j]?
  | [], s, i, _, hj => by simp [rowCells]
  | a :: L, s, 0, j, hj => by
    rw [rowCells, List.getElem?_append_left (by rw [hf]; omega)]
    simp
  | a :: L, s, i + 1, j, hj => by
    have e : (i + 1) * k + j = k + (i * k + j) := by rw [Nat.succ_mul]; omega
    rw [rowCells, e, List.getElem?_append_right (by rw [hf]; omega), hf, Nat.add_sub_cancel_left, row_get hf L (s + 1) i j hj, List.getElem?_cons_succ, show s + 1 + i = s + (i + 1) by omega]
theorem row_snoc (f : Nat → α → List Value) (a : α) : ∀ (L : List α) (s : Nat), rowCells f (L ++ [a]) s = rowCells f L s ++ f (s + L.length) a
  | [], s => by simp [rowCells]
  | b :: L, s => by rw [List.cons_append, rowCells, rowCells, row_snoc f a L, List.append_assoc, List.length_cons, show s + 1 + L.length = s + (L.length + 1) by omega]
/-- A list with these cells is the row's. -/
theorem row_ext (hf : ∀ i a, (f i a).length = k) (hk : 0 < k) {L : List α} {M : List Value} (hl : M.length = L.length * k) (h : ∀ i a j, L[i]? = some a → j < k → M[i * k + j]? = (f i a)[j]?) : M = rowCells f L 0 := by
  apply List.ext_getElem?
  intro n
  have e : n = n / k * k + n % k := by rw [Nat.mul_comm]; exact (Nat.div_add_mod n k).symm
  have hm := Nat.mod_lt n hk
  by_cases hn : n < L.length * k
  · have hd : n / k < L.length := (Nat.div_lt_iff_lt_mul hk).2 hn
    rw [e, row_get hf L 0 _ _ hm, List.getElem?_eq_getElem hd, h _ _ _ (List.getElem?_eq_getElem hd) hm]
    simp
  · rw [List.getElem?_eq_none (by omega), List.getElem?_eq_none (by rw [row_len hf]; omega)]

/-- How a walk spells a field's address. -/
def spell (b : Addr) (m : Nat) : Nat → Addr
  | 0 => b.add m
  | j + 1 => ⟨(b.add m).block, (b.add m).off + (j + 1), none⟩
theorem add_spelled (a : Addr) (m : Nat) : ∀ j, a.add (m + j) = spell a m j
  | 0 => rfl
  | j + 1 => by
    unfold spell Addr.add
    rw [if_neg (by omega)]
    by_cases hm : m = 0
    · subst hm
      simp
    · rw [if_neg hm]
      simp
      omega
theorem add_block (b : Addr) (n : Nat) : (b.add n).block = b.block := by
  unfold Addr.add
  split <;> rfl
theorem spell_block (b : Addr) (m : Nat) : ∀ j, (spell b m j).block = b.block
  | 0 => add_block b m
  | _ + 1 => add_block b m

/-- A row of structs in a slice: one that came in, or one of the call's own. -/
def At (f : Nat → α → List Value) (k : Nat) (w : World) (a : Option Addr) (L : List α) : Prop := ∀ i (hi : i < L.length), ∃ b, a = some b ∧ ∀ j u, (f i L[i])[j]? = some u → w.cell? (spell b (i * k) j) = some u
theorem At.moved {w w' : World} {a : Option Addr} {L : List α} (h : At f k w a L) (hb : ∀ b, a = some b → b.block < w.heap.size → w'.heap[b.block]? = w.heap[b.block]?) : At f k w' a L := by
  intro i hi
  obtain ⟨b, hb1, h0⟩ := h i hi
  refine ⟨b, hb1, fun j u hu => ?_⟩
  have hc := h0 j u hu
  have hl := World.block_lt_of_cell? w _ hc
  rw [spell_block] at hl
  exact (World.cell?_of_block (w := w) (by rw [spell_block]; exact hb b hb1 hl)).trans hc
theorem At.below {w w' : World} {B : Nat} {a : Option Addr} {L : List α} (h : At f k w a L) (hb : Below B w w') (hB : w.heap.size ≤ B) : At f k w' a L := h.moved fun _ _ hl => hb.block _ (by omega)
theorem At.later {w w' : World} {a : Option Addr} {L : List α} (h : At f k w a L) (hb : Below w.heap.size w w') : At f k w' a L := h.below hb (Nat.le_refl _)
theorem At.take {w : World} {a : Option Addr} {L : List α} (h : At f k w a L) (n : Nat) : At f k w a (L.take n) := by
  intro i hi
  have h2 : i < L.length := by simp at hi; omega
  obtain ⟨b, e, h0⟩ := h i h2
  refine ⟨b, e, ?_⟩
  rw [List.getElem_take]
  exact h0
/-- A row of the call's own. -/
def Own (f : Nat → α → List Value) (k : Nat) (T : TypeId) (w : World) (v : Value) (L : List α) : Prop := w.ownsRow 0 T k v L.length (rowCells f L 0)
/-- As a slice. -/
theorem Own.slice {T : TypeId} {w : World} {v : Value} {L : List α} (h : Own f k T w v L) : ∃ A c, v = .slice A L.length c ∧ L.length ≤ c ∧ c ≤ maxLen ∧ ∀ b, A = some b → b = ⟨b.block, 0, none⟩ := by
  obtain ⟨_, ⟨rfl, h0⟩ | ⟨g, cap, cur, rfl, _, _, h1, h2, _⟩⟩ := h
  · exact ⟨none, 0, by rw [h0], by omega, by omega, by simp⟩
  · exact ⟨some ⟨g, 0, none⟩, cap, rfl, h1, h2, fun b hb => by obtain rfl := Option.some.inj hb; rfl⟩
theorem Own.at (hf : ∀ i a, (f i a).length = k) {T : TypeId} {w : World} {A : Option Addr} {n c : Nat} {L : List α} (h : Own f k T w (.slice A n c) L) : At f k w A L := by
  intro i hi
  have h' := h
  obtain ⟨hl, ⟨hv, h0⟩ | ⟨g, cap, cur, hv, _, _, _⟩⟩ := h
  · omega
  · obtain ⟨rfl, _, _⟩ : A = some ⟨g, 0, none⟩ ∧ n = _ ∧ c = _ := by simpa using hv
    refine ⟨_, rfl, fun j u hu => ?_⟩
    have hj : j < k := by have := (List.getElem?_eq_some_iff.1 hu).1; rwa [hf] at this
    have := h'.cells (g := g) rfl (i * k + j) u (by rw [row_get hf L 0 i j hj, List.getElem?_eq_getElem hi]; simpa using hu)
    rwa [add_spelled] at this
theorem Own.moved {T : TypeId} {w w' : World} {v : Value} {L : List α} (h : Own f k T w v L) (hb : ∀ g, v.ownBlock = some g → w'.heap[g]? = w.heap[g]?) : Own f k T w' v L := by
  obtain ⟨hl, h | ⟨g, cap, cur, rfl, h0, hg, h1, h2, h3, h4⟩⟩ := h
  · exact ⟨hl, .inl h⟩
  · exact ⟨hl, .inr ⟨g, cap, cur, rfl, h0, (hb g rfl).trans hg, h1, h2, h3, h4⟩⟩
theorem Own.lt {T : TypeId} {w : World} {v : Value} {L : List α} (h : Own f k T w v L) {g : Nat} (hg : v.ownBlock = some g) : g < w.heap.size := (World.ownsRow.lt h g hg).2
theorem Own.below {T : TypeId} {w w' : World} {v : Value} {L : List α} (h : Own f k T w v L) (hb : Below w.heap.size w w') : Own f k T w' v L := h.moved fun _ hg => hb.block _ (h.lt hg)
theorem Own.nil (T : TypeId) (w : World) : Own f k T w (.slice none 0 0) [] := World.ownsRow_nil _ _ _ _
/-- An element written over, cell by cell. -/
theorem owns_set {w : World} {base size n : Nat} {e : TypeId} {v : Value} {xs : List Value} {g m : Nat} (h : w.ownsRow base e size v n xs) (hg : v.ownBlock = some g) (u : Value) : (w.setCell ⟨g, m, none⟩ u).ownsRow base e size v n (xs.set m u) := by
  obtain ⟨hl, ⟨rfl, _⟩ | ⟨g', cap, cur, rfl, h0, hb, h1, h2, h3, h4⟩⟩ := h
  · simp [Value.ownBlock] at hg
  · obtain rfl : g' = g := by simpa [Value.ownBlock] using hg
    refine ⟨by simpa using hl, .inr ⟨g', cap, cur.setIfInBounds m u, rfl, h0, Joins.block_setCell (i := m) hb u, h1, h2, by simpa using h3, ?_⟩⟩
    rw [Array.toList_setIfInBounds, List.take_set, h4]
end

/-- Of what there was, nothing but the blocks of f has changed; f' is f, and new ones. -/
structure Went (f f' : Nat → Prop) (w w' : World) : Prop where
  os : w'.os = w.os
  tape : w'.tape = w.tape
  output : w'.output = w.output
  size : w.heap.size ≤ w'.heap.size
  block : ∀ b, b < w.heap.size → ¬ f b → w'.heap[b]? = w.heap[b]?
  more : ∀ b, f' b → f b ∨ w.heap.size ≤ b
section
variable {f f' f2 : Nat → Prop} {w w' w2 : World}
theorem Went.refl (f : Nat → Prop) (w : World) : Went f f w w := ⟨rfl, rfl, rfl, Nat.le_refl _, fun _ _ _ => rfl, fun _ h => Or.inl h⟩
theorem Went.ofBelow (h : Below w.heap.size w w') : Went f f w w' := ⟨h.os, h.tape, h.output, h.size, fun b hb _ => h.block b hb, fun _ h => Or.inl h⟩
theorem Went.trans (h : Went f f' w w') (k : Went f' f2 w' w2) : Went f f2 w w2 :=
  ⟨k.os.trans h.os, k.tape.trans h.tape, k.output.trans h.output, Nat.le_trans h.size k.size,
    fun b hb hf => (k.block b (Nat.lt_of_lt_of_le hb h.size) (fun h' => (h.more b h').elim hf (by omega))).trans (h.block b hb hf),
    fun b hb => (k.more b hb).elim (h.more b) (fun hs => Or.inr (Nat.le_trans h.size hs))⟩
theorem Went.next (h : Went f f' w w') (k : Below w'.heap.size w' w2) : Went f f' w w2 := h.trans (Went.ofBelow k)
theorem Went.ahead (h : Below w.heap.size w w') (k : Went f f' w' w2) : Went f f' w w2 := (Went.ofBelow h).trans k
/-- Behind a world that has nothing of f. -/
theorem Went.below {B : Nat} {a : World} (h : Went f f' w w') (hb : Below B a w) (hs : B ≤ w.heap.size) (hf : ∀ b, f b → B ≤ b) : Below B a w' :=
  hb.trans ⟨h.os, h.tape, h.output, h.size, fun b hl => h.block b (by omega) (fun hb => by have := hf b hb; omega)⟩
theorem Went.from {B : Nat} (h : Went f f' w w') (hs : B ≤ w.heap.size) (hf : ∀ b, f b → B ≤ b) : ∀ b, f' b → B ≤ b :=
  fun b hb => (h.more b hb).elim (hf b) (Nat.le_trans hs)
theorem Went.apart (h : Went f f' w w') {b : Nat} (hb : b < w.heap.size) (hf : ¬ f b) : ¬ f' b := fun h' => (h.more b h').elim hf (by omega)
theorem Went.cell (h : Went f f' w w') {b : Nat} (hb : b < w.heap.size) (hf : ¬ f b) (i : Nat) : w'.cell? ⟨b, i, none⟩ = w.cell? ⟨b, i, none⟩ := World.cell?_of_block (w := w) (h.block b hb hf)
theorem Went.setCell (w : World) (a : Addr) (u : Value) (h : f a.block) : Went f f w (w.setCell a u) := by
  refine ⟨rfl, rfl, rfl, ?_, fun b hb hf => Below.heap_setCell _ _ _ _ (fun e => hf (e ▸ h)), fun _ h => Or.inl h⟩
  have := (Below.setCell (Below.refl 0 w) (p := a) (Nat.zero_le _) u).size
  exact this
end

/-! The cells. -/
def cells7 (_ : Nat) (v : EvV) : List Value := [.int .i64 v.T, .bool v.E, .int .i64 v.K, .int .i64 v.Y, .int .i64 v.C, .bool v.O, .int .i64 v.V]
def cells8 (_ : Nat) (c : ClV) : List Value := [.int .i64 c.T, .int .i64 c.B, .int .i64 c.D, .int .i64 c.K, .int .i64 c.Y, .int .i64 c.C, .bool c.O, .int .i64 c.V]
def cells9 (i : Nat) (c : ClV) : List Value := [.int .i64 c.B, .int .i64 c.D, .int .i64 (i : Int), .int .i64 c.T, .int .i64 c.K, .int .i64 c.Y, .int .i64 c.C, .bool c.O, .int .i64 c.V]
theorem len7 (i : Nat) (v : EvV) : (cells7 i v).length = 7 := rfl
theorem len8 (i : Nat) (v : ClV) : (cells8 i v).length = 8 := rfl
theorem len9 (i : Nat) (v : ClV) : (cells9 i v).length = 9 := rfl

/-- Which calls are open: of each thread 0, or the number behind its pending one's. -/
def Opens (l : List EvV) (o : Nat → Nat) : Prop := ∀ t, t ≤ 7 → (o t = 0 ∧ pendE l (t : Int) = false) ∨ ∃ i c, o t = i + 1 ∧ (callsE l)[i]? = some c ∧ c.D < 0 ∧ c.T = (t : Int)
theorem opens_nil : Opens [] (fun _ => 0) := fun _ _ => Or.inl ⟨rfl, rfl⟩
theorem opens_pend {l : List EvV} {o : Nat → Nat} (h : Opens l o) {t : Nat} (ht : t ≤ 7) : decide (0 < o t) = pendE l (t : Int) := by
  rcases h t ht with ⟨h1, h2⟩ | ⟨i, c, h1, h2, h3, h4⟩
  · rw [h1, h2]; rfl
  · rw [(pend_calls l t).2 ⟨c, List.mem_of_getElem? h2, h3, h4⟩, h1]
    exact decide_eq_true (by omega)
theorem opens_begin {l : List EvV} {o : Nat → Nat} (h : Opens l o) {v : EvV} {t : Nat} (hv : v.T = (t : Int)) (he : errE l v = 0) (hE : v.E = false) : Opens (l ++ [v]) (fun s => if s = t then (callsE l).length + 1 else o s) := by
  intro s hs
  rw [calls_begin he hE, pend_snoc]
  by_cases hst : s = t
  · subst hst
    exact Or.inr ⟨(callsE l).length, ⟨v.T, (l.length : Nat), -1, v.K, v.Y, 0, false, 0⟩, by simp, by simp, by show (-1 : Int) < 0; omega, hv⟩
  · simp only [if_neg hst]
    rw [if_neg (by omega)]
    rcases h s hs with h1 | ⟨i, c, h1, h2, h3⟩
    · exact Or.inl h1
    · exact Or.inr ⟨i, c, h1, by rw [List.getElem?_append_left (List.getElem?_eq_some_iff.1 h2).1]; exact h2, h3⟩
theorem opens_end {l : List EvV} {o : Nat → Nat} (h : Opens l o) {v : EvV} {t : Nat} (hv : v.T = (t : Int)) (hE : v.E = true) : Opens (l ++ [v]) (fun s => if s = t then 0 else o s) := by
  intro s hs
  rw [calls_end hE, pend_snoc]
  by_cases hst : s = t
  · subst hst
    exact Or.inl ⟨by simp, by rw [if_pos hv, hE]; rfl⟩
  · simp only [if_neg hst]
    rw [if_neg (by omega)]
    rcases h s hs with h1 | ⟨i, c, h1, h2, h3, h4⟩
    · exact Or.inl h1
    · exact Or.inr ⟨i, c, h1, by rw [List.getElem?_map, h2]; show some _ = some _; rw [close_no (fun hh => by omega)], h3, h4⟩
/-- What ends is one call alone. -/
theorem calls_set {l : List EvV} (hV : ValidE l) {v : EvV} (hE : v.E = true) {i : Nat} {c : ClV} (hi : (callsE l)[i]? = some c) (hd : c.D < 0) (ht : c.T = v.T) : callsE (l ++ [v]) = (callsE l).set i ⟨c.T, c.B, (l.length : Nat), c.K, c.Y, v.C, v.O, v.V⟩ := by
  rw [calls_end hE]
  apply List.ext_getElem?
  intro j
  rw [List.getElem?_map, List.getElem?_set]
  obtain ⟨hil, rfl⟩ := List.getElem?_eq_some_iff.1 hi
  by_cases hj : i = j
  · subst hj
    rw [hi, if_pos rfl, if_pos hil]
    show some _ = some _
    rw [close_yes ⟨hd, ht⟩]
  · rw [if_neg hj]
    cases hc : (callsE l)[j]? with
    | none => rfl
    | some d =>
      show some _ = some _
      obtain ⟨hjl, rfl⟩ := List.getElem?_eq_some_iff.1 hc
      rw [close_no]
      rintro ⟨h1, h2⟩
      have hp := List.pairwise_iff_getElem.1 (hold_of l hV).order
      rcases Nat.lt_or_gt_of_ne hj with h | h
      · have := hp i j hil hjl h (ht.trans h2.symm)
        omega
      · have := hp j i hjl hil h (h2.trans ht.symm)
        omega

/-- A history at block X, of these events. -/
structure Hat (w : World) (X : Nat) (v : Value) (o : Nat → Nat) (l : List EvV) : Prop where
  valid : ValidE l
  opens : Opens l o
  box : ∃ cur, w.heap[X]? = some (.cells cur 99 (0, 0)) ∧ cur.size = 10 ∧ cur[0]? = some v ∧ cur[1]? = some (.int .i64 (l.length : Nat)) ∧ ∀ t, t ≤ 7 → cur[2 + t]? = some (.int .i64 (o t : Nat))
  row : Own cells9 9 85 w v (callsE l)
section
variable {w w' : World} {X : Nat} {v : Value} {o : Nat → Nat} {l : List EvV}
theorem Hat.lt (h : Hat w X v o l) : X < w.heap.size := by
  obtain ⟨cur, hb, _⟩ := h.box
  exact (Array.getElem?_eq_some_iff.1 hb).1
theorem Hat.c0 (h : Hat w X v o l) : w.cell? ⟨X, 0, none⟩ = some v := by
  obtain ⟨cur, hb, _, h0, _⟩ := h.box
  rw [Joins.cell_of_block hb]; exact h0
theorem Hat.c1 (h : Hat w X v o l) : w.cell? ⟨X, 1, none⟩ = some (.int .i64 (l.length : Nat)) := by
  obtain ⟨cur, hb, _, _, h1, _⟩ := h.box
  rw [Joins.cell_of_block hb]; exact h1
theorem Hat.co (h : Hat w X v o l) {t : Nat} (ht : t ≤ 7) : w.cell? ⟨X, 2 + t, none⟩ = some (.int .i64 (o t : Nat)) := by
  obtain ⟨cur, hb, _, _, _, h2⟩ := h.box
  rw [Joins.cell_of_block hb]; exact h2 t ht
theorem Hat.free (h : Hat w X v o l) (i : Nat) : w.frozen? ⟨X, i, none⟩ = false := by
  obtain ⟨cur, hb, _⟩ := h.box
  exact Joins.unfrozen_of_block hb i
theorem Hat.moved (h : Hat w X v o l) (hX : w'.heap[X]? = w.heap[X]?) (hv : ∀ g, v.ownBlock = some g → w'.heap[g]? = w.heap[g]?) : Hat w' X v o l :=
  ⟨h.valid, h.opens, by rw [hX]; exact h.box, h.row.moved hv⟩
theorem Hat.below (h : Hat w X v o l) (hb : Below w.heap.size w w') : Hat w' X v o l := h.moved (hb.block X h.lt) fun _ hg => hb.block _ (h.row.lt hg)
theorem Hat.apart (h : Hat w X v o l) {g : Nat} (hg : v.ownBlock = some g) : g ≠ X := by
  intro hX
  subst hX
  obtain ⟨cur, hb, _⟩ := h.box
  obtain ⟨_, ⟨rfl, _⟩ | ⟨g', cap, cur', rfl, _, hgg, _⟩⟩ := h.row
  · simp [Value.ownBlock] at hg
  · obtain rfl : g' = g := by simpa [Value.ownBlock] using hg
    rw [hb] at hgg
    simp at hgg
end
/-- A history of these events, in blocks of f. -/
def Hst (w : World) (X : Nat) (f : Nat → Prop) (l : List EvV) : Prop := ∃ v o, Hat w X v o l ∧ f X ∧ (∀ g, v.ownBlock = some g → f g) ∧ ∀ b, f b → b < w.heap.size
section
variable {w w' : World} {X : Nat} {f : Nat → Prop} {l : List EvV}
theorem Hst.lt (h : Hst w X f l) : ∀ b, f b → b < w.heap.size := by
  obtain ⟨v, o, _, _, _, h⟩ := h
  exact h
theorem Hst.valid (h : Hst w X f l) : ValidE l := by
  obtain ⟨v, o, h, _⟩ := h
  exact h.valid
theorem Hst.moved (h : Hst w X f l) (hs : w.heap.size ≤ w'.heap.size) (hb : ∀ b, f b → w'.heap[b]? = w.heap[b]?) : Hst w' X f l := by
  obtain ⟨v, o, h1, h2, h3, h4⟩ := h
  exact ⟨v, o, h1.moved (hb _ h2) (fun g hg => hb _ (h3 g hg)), h2, h3, fun b hf => Nat.lt_of_lt_of_le (h4 b hf) hs⟩
theorem Hst.below (h : Hst w X f l) (hb : Below w.heap.size w w') : Hst w' X f l := h.moved hb.size fun b hf => hb.block b (h.lt b hf)
/-- Another one's operation. -/
theorem Hst.apart (h : Hst w X f l) {g g' : Nat → Prop} (hg : Went g g' w w') (hd : ∀ b, f b → ¬ g b) : Hst w' X f l := h.moved hg.size fun b hf => hg.block b (h.lt b hf) (hd b hf)
theorem Hst.grown (h : Hst w X f l) {row : Option Nat} (hg : w.grownBy w' row) (hd : ∀ b, row = some b → ¬ f b) : Hst w' X f l :=
  h.moved hg.size fun b hf => hg.block b (h.lt b hf) (fun e => hd b e.symm hf)
end
end Go.Proofs.YtmpilokgbblonaaGreat.hist
/- A world for the witness, where nothing is laid; a slice of events as it came in. -/
namespace Go.Proofs.YtmpilokgbblonaaGreat.law
open Go.ChangeShapes Go.WideShapes Go.ChangeAt Go.RowKit Go.Deep Go.Joins

theorem laidOut : laidOutB Tryz.prog = true := by kernel_rfl
theorem own : ownKnob Tryz.prog.godebug = none := by kernel_rfl
/-- The settled world. -/
noncomputable def laidWorld (os : Os) : World := World.holding Tryz.prog os ⟨#[], #[], []⟩
section
variable {H : Type} {enc : TypeId × Value → H} {w : World} {base : Nat} {spare : Nat → Bool} {held : Bool}
/-- An event's seven cells, read. -/
theorem event_cells {fuel : Nat} {cs : List Value} {x : DataW H × List MemPlace} (hl : cs.length = 7) (h : DataW.trod enc Tryz.prog w base spare held fuel 64 cs = some x) : ∃ v : hist.EvV, cs = hist.cells7 0 v := by
  obtain ⟨c0, c1, c2, c3, c4, c5, c6, rfl⟩ : ∃ c0 c1 c2 c3 c4 c5 c6, cs = [c0, c1, c2, c3, c4, c5, c6] := by
    match cs, hl with
    | [a, b, c, d, e, f, g], _ => exact ⟨a, b, c, d, e, f, g, rfl⟩
  obtain ⟨y0, y1, y2, y3, n, _, _, r0, r1, r2, r3⟩ := trod_struct4 Tryz.underlying64 h
  rw [show Tryz.prog.cellsOf 3 = 1 by kernel_rfl] at r0
  rw [show Tryz.prog.cellsOf 4 = 1 by kernel_rfl] at r1
  rw [show Tryz.prog.cellsOf 47 = 2 by kernel_rfl] at r2
  rw [show Tryz.prog.cellsOf 55 = 3 by kernel_rfl] at r3
  simp only [List.drop_zero, List.drop_succ_cons, List.take_succ_cons, List.take_zero] at r0 r1 r2 r3
  obtain ⟨T, rfl, _⟩ := cell_int Tryz.underlying3 r0
  obtain ⟨E, rfl⟩ := cell_bool Tryz.underlying4 r1
  obtain ⟨z0, z1, m, _, _, s0, s1⟩ := trod_struct2 Tryz.underlying47 r2
  obtain ⟨u0, u1, u2, m', _, _, t0, t1, t2⟩ := trod_struct3 Tryz.underlying55 r3
  rw [show Tryz.prog.cellsOf 3 = 1 by kernel_rfl] at s0 s1 t2
  rw [show Tryz.prog.cellsOf 30 = 1 by kernel_rfl] at t0
  rw [show Tryz.prog.cellsOf 4 = 1 by kernel_rfl] at t1
  simp only [List.drop_zero, List.drop_succ_cons, List.take_succ_cons, List.take_zero] at s0 s1 t0 t1 t2
  obtain ⟨K, rfl, _⟩ := cell_int Tryz.underlying3 s0
  obtain ⟨Y, rfl, _⟩ := cell_int Tryz.underlying3 s1
  obtain ⟨C, rfl, _⟩ := cell_int Tryz.underlying30 t0
  obtain ⟨O, rfl⟩ := cell_bool Tryz.underlying4 t1
  obtain ⟨V, rfl, _⟩ := cell_int Tryz.underlying3 t2
  exact ⟨⟨T, E, K, Y, C, O, V⟩, rfl⟩
end

set_option maxRecDepth 100000 in
theorem open_evs {H : Type} {enc : TypeId × Value → H} {W : World} {b0 base : Nat} {spare : Nat → Bool} {held : Bool} {r : Reach} {v : Value} {d : DataW H} {p : List MemPlace}
    (hv : Value.okWide Tryz.prog W r b0 22 v) (h : DataW.Trod enc Tryz.prog W base spare held 22 v d p) :
    ∃ (a : Option Addr) (l : List hist.EvV) (M cap : Nat), v = .slice a M cap ∧ l.length = M ∧ hist.At hist.cells7 7 W a l := by
  obtain ⟨a1, len, cap, rfl⟩ := okWide_slice Tryz.underlying22 hv
  obtain ⟨fuel, hf⟩ := h
  rcases open_slice Tryz.underlying22 hf with ⟨hcs, _⟩ | ⟨b, len', cap', m, n, D, Pl, hcs, _, hle, _, hm, _, element⟩
  · simp [Value.cells] at hcs
    obtain ⟨rfl, rfl, rfl⟩ := hcs
    exact ⟨none, [], 0, 0, rfl, rfl, fun i hi => absurd hi (by simp)⟩
  · simp [Value.cells] at hcs
    obtain ⟨rfl, rfl, rfl⟩ := hcs
    have hlm : len ≤ m := by rw [hm]; split <;> omega
    have h7 : Tryz.prog.cellsOf 64 = 7 := by kernel_rfl
    have each : ∀ i, i < len → ∃ o : hist.EvV, ∀ j u, (hist.cells7 0 o)[j]? = some u → W.cell? (hist.spell b (i * 7) j) = some u := by
      intro i hi
      obtain ⟨cs, hc, hr⟩ := element i (by omega)
      rw [h7] at hc
      obtain ⟨_, hl, cell⟩ := World.cells?_some hc
      obtain ⟨o, rfl⟩ := event_cells hl hr
      refine ⟨o, fun j u hu => ?_⟩
      have hj := (List.getElem?_eq_some_iff.1 hu).1
      have := cell j hj
      rw [Go.Deep.add_add, hist.add_spelled] at this
      rw [this]
      exact hu
    have : Inhabited hist.EvV := ⟨⟨0, false, 0, 0, 0, false, 0⟩⟩
    obtain ⟨f, hf⟩ := choose_lt each
    refine ⟨some b, (List.range len).map f, len, cap, rfl, by simp, ?_⟩
    intro i hi
    have hi2 : i < len := by simpa using hi
    refine ⟨b, rfl, ?_⟩
    simp only [List.getElem_map, List.getElem_range]
    exact hf i hi2
end Go.Proofs.YtmpilokgbblonaaGreat.law
