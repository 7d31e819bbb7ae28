/- All events of a history, told by its calls. -/
import Derived.Test.YtmpilokgbblonaaGreatKa08
namespace Go.Proofs.YtmpilokgbblonaaGreat.hist
open Go.RowKit

/-- No event. -/
def zeroE : EvV := ⟨0, false, 0, 0, 0, false, 0⟩
theorem Tryzinfo_ev : (Tryz.prog.info? 63).map (fun i => (i.zero, i.size, i.bytes)) = some (some (.agg #[.int .i64 0, .bool false, .int .i64 0, .int .i64 0, .int .i64 0, .bool false, .int .i64 0]), 7, 56) := by kernel_rfl
theorem made_row (n : Nat) : (madeCells #[.int .i64 0, .bool false, .int .i64 0, .int .i64 0, .int .i64 0, .bool false, .int .i64 0] (n * 7)).toList = rowCells cells7 (List.replicate n zeroE) 0 := by
  refine row_ext len7 (by decide) (by simp [madeCells]) fun i a j ha hj => ?_
  have hi := (List.getElem?_eq_some_iff.1 ha).1
  simp at hi
  obtain rfl : zeroE = a := by
    rw [List.getElem?_replicate, if_pos hi] at ha
    exact Option.some.inj ha
  have hl : i * 7 + j < n * 7 := by omega
  have hm : (i * 7 + j) % 7 = j := by omega
  rw [Array.getElem?_toList]
  unfold madeCells
  rw [Array.getElem?_map, Array.getElem?_range, if_pos hl]
  show some _ = _
  simp only [show (#[Value.int .i64 0, .bool false, .int .i64 0, .int .i64 0, .int .i64 0, .bool false, .int .i64 0] : Array Value).size = 7 from rfl, hm]
  match j, hj with
  | 0, _ => rfl
  | 1, _ => rfl
  | 2, _ => rfl
  | 3, _ => rfl
  | 4, _ => rfl
  | 5, _ => rfl
  | 6, _ => rfl
/-- A row of n events in block g, made behind W. -/
structure Evs (W w : World) (g n : Nat) (M : List EvV) : Prop where
  own : Own cells7 7 63 w (.slice (some ⟨g, 0, none⟩) n n) M
  len : M.length = n
  new : W.heap.size ≤ g
  below : Below W.heap.size W w
theorem make_ev (w : World) (n : Nat) (hn : n ≤ 1000) : ∃ w', (Instr.makeSlice 103 (.int .i64 (n : Int)) (.int .i64 (n : Int))).run Tryz.prog w = .ok (.slice (some ⟨w.heap.size, 0, none⟩) n n) w' ∧ Evs w w' w.heap.size n (List.replicate n zeroE) := by
  obtain ⟨i, hi, h0, h1, h2⟩ := info_parts Tryzinfo_ev
  have h := run_make (P := Tryz.prog) w 103 63 i _ Tryz.underlying103 hi h0 .i64 .i64 n n (by omega) (by omega) (by rw [h2]; omega) (by omega)
  rw [h1] at h
  simp only [Int.toNat_natCast] at h
  refine ⟨_, h, ⟨by simp [row_len len7], .inr ⟨w.heap.size, n, _, by simp, Nat.zero_le _, new_block _ _ _, by simp, by unfold maxLen; omega, size_madeCells _ _, ?_⟩⟩, by simp, Nat.le_refl _, (Below.refl _ _).alloc (Nat.le_refl _) _⟩
  rw [← made_row]
  have e : (madeCells (Value.agg #[.int .i64 0, .bool false, .int .i64 0, .int .i64 0, .int .i64 0, .bool false, .int .i64 0]).cells (n * 7)).toList.length = n * 7 := by simp [madeCells]
  rw [List.take_of_length_le (by rw [e]; simp)]
  rfl
theorem Evs.next {W w w' : World} {g n : Nat} {M : List EvV} (h : Evs W w g n M) (hb : Below w.heap.size w w') : Evs W w' g n M := ⟨h.own.below hb, h.len, h.new, past h.below hb⟩
theorem Evs.lt {W w : World} {g n : Nat} {M : List EvV} (h : Evs W w g n M) : g < w.heap.size := h.own.lt rfl
/-- The seven cells of an event, written. -/
def put7 (w : World) (g p : Nat) (u : EvV) : World :=
  ((((((w.setCell ⟨g, p * 7, none⟩ (.int .i64 u.T)).setCell ⟨g, p * 7 + 1, none⟩ (.bool u.E)).setCell ⟨g, p * 7 + 2, none⟩ (.int .i64 u.K)).setCell ⟨g, p * 7 + 3, none⟩ (.int .i64 u.Y)).setCell ⟨g, p * 7 + 4, none⟩ (.int .i64 u.C)).setCell ⟨g, p * 7 + 5, none⟩ (.bool u.O)).setCell ⟨g, p * 7 + 6, none⟩ (.int .i64 u.V)
theorem Evs.put {W w : World} {g n p : Nat} {M : List EvV} (h : Evs W w g n M) (hp : p < n) (u : EvV) : Evs W (put7 w g p u) g n (M.set p u) := by
  have hg : (Value.slice (some ⟨g, 0, none⟩) n n).ownBlock = some g := rfl
  have h7 := owns_set (owns_set (owns_set (owns_set (owns_set (owns_set (owns_set h.own hg (m := p * 7) (.int .i64 u.T)) hg (m := p * 7 + 1) (.bool u.E)) hg (m := p * 7 + 2) (.int .i64 u.K)) hg (m := p * 7 + 3) (.int .i64 u.Y)) hg (m := p * 7 + 4) (.int .i64 u.C)) hg (m := p * 7 + 5) (.bool u.O)) hg (m := p * 7 + 6) (.int .i64 u.V)
  have hrl := row_len (f := cells7) len7 M 0
  have hb : p * 7 + 6 < (rowCells cells7 M 0).length := by have := h.len; omega
  refine ⟨?_, by simpa using h.len, h.new, ?_⟩
  · unfold Own
    rw [List.length_set]
    have e := row_ext (f := cells7) (k := 7) len7 (by decide) (L := M.set p u) (M := ((((((((rowCells cells7 M 0).set (p * 7) (.int .i64 u.T)).set (p * 7 + 1) (.bool u.E)).set (p * 7 + 2) (.int .i64 u.K)).set (p * 7 + 3) (.int .i64 u.Y)).set (p * 7 + 4) (.int .i64 u.C)).set (p * 7 + 5) (.bool u.O)).set (p * 7 + 6) (.int .i64 u.V))) (by simp [row_len len7]) (by
      intro k a j ha hj
      have hk := (List.getElem?_eq_some_iff.1 ha).1
      rw [List.length_set] at hk
      rw [List.getElem?_set] at ha
      by_cases hik : p = k
      · subst hik
        rw [if_pos rfl, if_pos hk] at ha
        obtain rfl := Option.some.inj ha
        match j, hj with
        | 0, _ => rw [List.getElem?_set_ne (by omega), List.getElem?_set_ne (by omega), List.getElem?_set_ne (by omega), List.getElem?_set_ne (by omega), List.getElem?_set_ne (by omega), List.getElem?_set_ne (by omega), Nat.add_zero, List.getElem?_set_self (by omega)]; rfl
        | 1, _ => rw [List.getElem?_set_ne (by omega), List.getElem?_set_ne (by omega), List.getElem?_set_ne (by omega), List.getElem?_set_ne (by omega), List.getElem?_set_ne (by omega), List.getElem?_set_self (by simp only [List.length_set]; omega)]; rfl
        | 2, _ => rw [List.getElem?_set_ne (by omega), List.getElem?_set_ne (by omega), List.getElem?_set_ne (by omega), List.getElem?_set_ne (by omega), List.getElem?_set_self (by simp only [List.length_set]; omega)]; rfl
        | 3, _ => rw [List.getElem?_set_ne (by omega), List.getElem?_set_ne (by omega), List.getElem?_set_ne (by omega), List.getElem?_set_self (by simp only [List.length_set]; omega)]; rfl
        | 4, _ => rw [List.getElem?_set_ne (by omega), List.getElem?_set_ne (by omega), List.getElem?_set_self (by simp only [List.length_set]; omega)]; rfl
        | 5, _ => rw [List.getElem?_set_ne (by omega), List.getElem?_set_self (by simp only [List.length_set]; omega)]; rfl
        | 6, _ => rw [List.getElem?_set_self (by simp only [List.length_set]; omega)]; rfl
      · rw [if_neg hik] at ha
        rw [List.getElem?_set_ne (by omega), List.getElem?_set_ne (by omega), List.getElem?_set_ne (by omega), List.getElem?_set_ne (by omega), List.getElem?_set_ne (by omega), List.getElem?_set_ne (by omega), List.getElem?_set_ne (by omega), row_get (f := cells7) len7 M 0 k j hj, ha]
        simp)
    rw [← e]
    exact h7
  · have hn : W.heap.size ≤ g := h.new
    exact ((((((h.below.setCell (p := ⟨g, p * 7, none⟩) hn _).setCell (p := ⟨g, p * 7 + 1, none⟩) hn _).setCell (p := ⟨g, p * 7 + 2, none⟩) hn _).setCell (p := ⟨g, p * 7 + 3, none⟩) hn _).setCell (p := ⟨g, p * 7 + 4, none⟩) hn _).setCell (p := ⟨g, p * 7 + 5, none⟩) hn _).setCell (p := ⟨g, p * 7 + 6, none⟩) hn _
/-- Its cells are there, and may be written. -/
theorem Evs.there {W w : World} {g n p : Nat} {M : List EvV} (h : Evs W w g n M) (hp : p < n) : ∃ u0 u1 u2 u3 u4 u5 u6, w.cell? ⟨g, p * 7, none⟩ = some u0 ∧ w.cell? ⟨g, p * 7 + 1, none⟩ = some u1 ∧ w.cell? ⟨g, p * 7 + 2, none⟩ = some u2 ∧ w.cell? ⟨g, p * 7 + 3, none⟩ = some u3 ∧ w.cell? ⟨g, p * 7 + 4, none⟩ = some u4 ∧ w.cell? ⟨g, p * 7 + 5, none⟩ = some u5 ∧ w.cell? ⟨g, p * 7 + 6, none⟩ = some u6 := by
  have hpl : p < M.length := by rw [h.len]; exact hp
  have hc : ∀ j u, (cells7 p M[p])[j]? = some u → j < 7 → w.cell? ⟨g, p * 7 + j, none⟩ = some u := fun j u hu hj => by
    have := h.own.cells (g := g) rfl (p * 7 + j) u (by rw [row_get len7 M 0 p j hj, List.getElem?_eq_getElem hpl]; simpa using hu)
    rw [Addr.add_lit] at this
    simpa using this
  exact ⟨_, _, _, _, _, _, _, hc 0 _ rfl (by omega), hc 1 _ rfl (by omega), hc 2 _ rfl (by omega), hc 3 _ rfl (by omega), hc 4 _ rfl (by omega), hc 5 _ rfl (by omega), hc 6 _ rfl (by omega)⟩
theorem Evs.free {W w : World} {g n : Nat} {M : List EvV} (h : Evs W w g n M) (i : Nat) : w.frozen? ⟨g, i, none⟩ = false := by
  obtain ⟨_, ⟨h0, _⟩ | ⟨g', cap', cg, hv', _, hb, _⟩⟩ := h.own
  · simp at h0
  · obtain rfl : g' = g := by simp at hv'; exact hv'.1.symm
    exact Joins.unfrozen_of_block hb i
theorem put_size (w : World) (g p : Nat) (u : EvV) : (put7 w g p u).heap.size = w.heap.size := by simp [put7]
theorem put_block (w w2 : World) (g p : Nat) (u : EvV) (cs : Array Value) (T : TypeId) (hb : Below ((put7 w g p u).alloc (.cells cs T)).heap.size ((put7 w g p u).alloc (.cells cs T)) w2) : w2.heap[w.heap.size]? = some (.cells cs T (0, 0)) := by
  have h := new_block (put7 w g p u) cs T
  rw [put_size] at h
  rw [hb.block w.heap.size (by simp [put_size])]
  exact h
/-- The events of the first calls stand at their places. -/
def Placed (l M : List EvV) (k : Nat) : Prop := ∀ i (h : i < (callsE l).length), i < k → (∀ p : Nat, (callsE l)[i].B = p → M[p]? = l[p]?) ∧ ∀ q : Nat, (callsE l)[i].D = q → M[q]? = l[q]?
theorem placed_set {l M : List EvV} {k p : Nat} {u : EvV} (h : Placed l M k) (hl : M.length = l.length) (hu : l[p]? = some u) : Placed l (M.set p u) k := by
  have hp : p < M.length := by rw [hl]; exact (List.getElem?_eq_some_iff.1 hu).1
  have key : ∀ q : Nat, M[q]? = l[q]? → (M.set p u)[q]? = l[q]? := fun q hq => by
    by_cases hpq : p = q
    · subst hpq
      rw [List.getElem?_set_self hp, hu]
    · rw [List.getElem?_set_ne hpq, hq]
  exact fun i hi hk => ⟨fun q hq => key q ((h i hi hk).1 q hq), fun q hq => key q ((h i hi hk).2 q hq)⟩
theorem placed_next {l M : List EvV} {k : Nat} (h : Placed l M k) (hk : k < (callsE l).length) (hb : ∀ p : Nat, (callsE l)[k].B = p → M[p]? = l[p]?) (hd : ∀ q : Nat, (callsE l)[k].D = q → M[q]? = l[q]?) : Placed l M (k + 1) := by
  intro i hi hik
  by_cases h1 : i = k
  · subst h1
    exact ⟨hb, hd⟩
  · exact h i hi (by omega)
theorem placed_one {l M : List EvV} {k p : Nat} {u : EvV} (h : Placed l M k) (hl : M.length = l.length) (hk : k < (callsE l).length) (hB : (callsE l)[k].B = p) (hu : l[p]? = some u) (hD : (callsE l)[k].D = -1) : Placed l (M.set p u) (k + 1) := by
  have hp : p < M.length := by rw [hl]; exact (List.getElem?_eq_some_iff.1 hu).1
  refine placed_next (placed_set h hl hu) hk (fun p' hp' => ?_) (fun q hq => by omega)
  obtain rfl : p = p' := by omega
  rw [List.getElem?_set_self hp, hu]
theorem placed_two {l M : List EvV} {k p q : Nat} {u u' : EvV} (h : Placed l M k) (hl : M.length = l.length) (hk : k < (callsE l).length) (hB : (callsE l)[k].B = p) (hu : l[p]? = some u) (hD : (callsE l)[k].D = q) (hu' : l[q]? = some u') : Placed l ((M.set p u).set q u') (k + 1) := by
  have hp : p < M.length := by rw [hl]; exact (List.getElem?_eq_some_iff.1 hu).1
  have hq : q < M.length := by rw [hl]; exact (List.getElem?_eq_some_iff.1 hu').1
  have hl2 : (M.set p u).length = l.length := by simpa using hl
  refine placed_next (placed_set (placed_set h hl hu) hl2 hu') hk (fun p' hp' => ?_) (fun q' hq' => ?_)
  · obtain rfl : p = p' := by omega
    by_cases hpq : q = p
    · subst hpq
      rw [List.getElem?_set_self (by simpa using hq), hu']
    · rw [List.getElem?_set_ne hpq, List.getElem?_set_self hp, hu]
  · obtain rfl : q = q' := by omega
    rw [List.getElem?_set_self (by simpa using hq), hu']
theorem placed_all {l M : List EvV} (hV : ValidE l) (hl : M.length = l.length) (h : Placed l M (callsE l).length) : M = l := by
  refine all_events hV hl fun c hc => ?_
  obtain ⟨i, hi, rfl⟩ := List.getElem_of_mem hc
  exact h i hi hi
end Go.Proofs.YtmpilokgbblonaaGreat.hist
/- All events of a history: the walk. -/
namespace Go.Proofs.YtmpilokgbblonaaGreat.hist
open Go.RowKit

end Go.Proofs.YtmpilokgbblonaaGreat.hist
/- The law's helpers: a history's events are these, its calls are those of these events. -/
namespace Go.Proofs.YtmpilokgbblonaaGreat.hist
open Go.RowKit

theorem eqi (n : Nat) (x y : Int) (w : World) : (Op.equalIn (n + 1) 3 (.int .i64 x) (.int .i64 y)).run Tryz.prog w = .ok (x == y) w := by
  simp [Op.equalIn, run_underlying Tryz.underlying3]
theorem eqe (n : Nat) (x y : Int) (w : World) : (Op.equalIn (n + 1) 30 (.int .i64 x) (.int .i64 y)).run Tryz.prog w = .ok (x == y) w := by
  simp [Op.equalIn, run_underlying Tryz.underlying30]
theorem eqb (n : Nat) (x y : Bool) (w : World) : (Op.equalIn (n + 1) 4 (.bool x) (.bool y)).run Tryz.prog w = .ok (x == y) w := by
  simp [Op.equalIn, run_underlying Tryz.underlying4]
theorem eq_op_at (d : Nat) (k y k' y' : Int) (w : World) : (Op.equalIn (d + 1 + 1) 47 (.agg #[.int .i64 k, .int .i64 y]) (.agg #[.int .i64 k', .int .i64 y'])).run Tryz.prog w = .ok (k == k' && y == y') w := by
  have hs : Tryz.prog.stoodInHeld 47 = false := by kernel_rfl
  unfold Op.equalIn
  simp only [Sem.run_bind, run_underlying Tryz.underlying47, Result.andThen_ok]
  simp [go_sem, hs, eqi]
  by_cases h1 : k = k' <;> by_cases h2 : y = y' <;> simp [*]
theorem eq_op (k y k' y' : Int) (w : World) : (Op.equalIn 10000 47 (.agg #[.int .i64 k, .int .i64 y]) (.agg #[.int .i64 k', .int .i64 y'])).run Tryz.prog w = .ok (k == k' && y == y') w :=
  eq_op_at 9998 k y k' y' w
theorem eq_span_at (d : Nat) (k y k' y' : Int) (w : World) : (Op.equalIn (d + 1 + 1) 83 (.agg #[.int .i64 k, .int .i64 y]) (.agg #[.int .i64 k', .int .i64 y'])).run Tryz.prog w = .ok (k == k' && y == y') w := by
  have hs : Tryz.prog.stoodInHeld 83 = false := by kernel_rfl
  unfold Op.equalIn
  simp only [Sem.run_bind, run_underlying Tryz.underlying83, Result.andThen_ok]
  simp [go_sem, hs, eqi]
  by_cases h1 : k = k' <;> by_cases h2 : y = y' <;> simp [*]
theorem eq_span (k y k' y' : Int) (w : World) : (Op.equalIn 10000 83 (.agg #[.int .i64 k, .int .i64 y]) (.agg #[.int .i64 k', .int .i64 y'])).run Tryz.prog w = .ok (k == k' && y == y') w :=
  eq_span_at 9998 k y k' y' w
theorem eq_res_at (d : Nat) (c c' : Int) (b b' : Bool) (v v' : Int) (w : World) : (Op.equalIn (d + 1 + 1) 55 (.agg #[.int .i64 c, .bool b, .int .i64 v]) (.agg #[.int .i64 c', .bool b', .int .i64 v'])).run Tryz.prog w = .ok (c == c' && (b == b' && v == v')) w := by
  have hs : Tryz.prog.stoodInHeld 55 = false := by kernel_rfl
  unfold Op.equalIn
  simp only [Sem.run_bind, run_underlying Tryz.underlying55, Result.andThen_ok]
  simp [go_sem, hs, eqi, eqe, eqb]
  by_cases h1 : c = c' <;> by_cases h2 : b = b' <;> by_cases h3 : v = v' <;> simp [*]
/-- As the walk asks it. -/
theorem eq_res (c c' : Int) (b b' : Bool) (v v' : Int) (w : World) : (Op.equalIn 10000 55 (.agg #[.int .i64 c, .bool b, .int .i64 v]) (.agg #[.int .i64 c', .bool b', .int .i64 v'])).run Tryz.prog w = .ok (c == c' && (b == b' && v == v')) w :=
  eq_res_at 9998 c c' b b' v v' w

attribute [local go_sem] eq_op eq_res eq_span
end Go.Proofs.YtmpilokgbblonaaGreat.hist
/- The law's helper: a history's calls are those of these events. -/
namespace Go.Proofs.YtmpilokgbblonaaGreat.hist
open Go.RowKit

/-- Two blocks: a call as the document has it, and the history's. -/
structure Blk8 (w : World) (B : Nat) (c : ClV) : Prop where
  box : w.heap[B]? = some (.cells #[.int .i64 c.T, .int .i64 c.B, .int .i64 c.D, .int .i64 c.K, .int .i64 c.Y, .int .i64 c.C, .bool c.O, .int .i64 c.V] 67 (0, 0))
theorem Blk8.lt {w : World} {B : Nat} {c : ClV} (h : Blk8 w B c) : B < w.heap.size := (Array.getElem?_eq_some_iff.1 h.box).1
theorem Blk8.below {w w' : World} {B : Nat} {c : ClV} (h : Blk8 w B c) (hb : Below w.heap.size w w') : Blk8 w' B c := ⟨(hb.block B h.lt).trans h.box⟩
theorem Blk8.cells {w : World} {B : Nat} {c : ClV} (h : Blk8 w B c) : w.cell? ⟨B, 0, none⟩ = some (.int .i64 c.T) ∧ w.cell? ⟨B, 1, none⟩ = some (.int .i64 c.B) ∧ w.cell? ⟨B, 2, none⟩ = some (.int .i64 c.D) ∧ w.cell? ⟨B, 3, none⟩ = some (.int .i64 c.K) ∧ w.cell? ⟨B, 4, none⟩ = some (.int .i64 c.Y)
    ∧ w.cell? ⟨B, 5, none⟩ = some (.int .i64 c.C) ∧ w.cell? ⟨B, 6, none⟩ = some (.bool c.O) ∧ w.cell? ⟨B, 7, none⟩ = some (.int .i64 c.V) := by
  have hb := h.box
  refine ⟨?_, ?_, ?_, ?_, ?_, ?_, ?_, ?_⟩ <;> (rw [Joins.cell_of_block hb]; rfl)
structure Blk9 (w : World) (B k : Nat) (c : ClV) : Prop where
  box : w.heap[B]? = some (.cells #[.int .i64 c.B, .int .i64 c.D, .int .i64 (k : Int), .int .i64 c.T, .int .i64 c.K, .int .i64 c.Y, .int .i64 c.C, .bool c.O, .int .i64 c.V] 85 (0, 0))
theorem Blk9.lt {w : World} {B k : Nat} {c : ClV} (h : Blk9 w B k c) : B < w.heap.size := (Array.getElem?_eq_some_iff.1 h.box).1
theorem Blk9.below {w w' : World} {B k : Nat} {c : ClV} (h : Blk9 w B k c) (hb : Below w.heap.size w w') : Blk9 w' B k c := ⟨(hb.block B h.lt).trans h.box⟩
theorem Blk9.cells {w : World} {B k : Nat} {c : ClV} (h : Blk9 w B k c) : w.cell? ⟨B, 0, none⟩ = some (.int .i64 c.B) ∧ w.cell? ⟨B, 1, none⟩ = some (.int .i64 c.D) ∧ w.cell? ⟨B, 2, none⟩ = some (.int .i64 (k : Int)) ∧ w.cell? ⟨B, 3, none⟩ = some (.int .i64 c.T) ∧ w.cell? ⟨B, 4, none⟩ = some (.int .i64 c.K)
    ∧ w.cell? ⟨B, 5, none⟩ = some (.int .i64 c.Y) ∧ w.cell? ⟨B, 6, none⟩ = some (.int .i64 c.C) ∧ w.cell? ⟨B, 7, none⟩ = some (.bool c.O) ∧ w.cell? ⟨B, 8, none⟩ = some (.int .i64 c.V) := by
  have hb := h.box
  refine ⟨?_, ?_, ?_, ?_, ?_, ?_, ?_, ?_, ?_⟩ <;> (rw [Joins.cell_of_block hb]; rfl)
theorem both17 {w : World} {P Q k : Nat} {c : ClV} (h8 : Blk8 w P c) (h9 : Blk9 w Q k c) : w.cell? ⟨P, 0, none⟩ = some (.int .i64 c.T) ∧ w.cell? ⟨P, 1, none⟩ = some (.int .i64 c.B) ∧ w.cell? ⟨P, 2, none⟩ = some (.int .i64 c.D) ∧ w.cell? ⟨P, 3, none⟩ = some (.int .i64 c.K) ∧ w.cell? ⟨P, 4, none⟩ = some (.int .i64 c.Y) ∧ w.cell? ⟨P, 5, none⟩ = some (.int .i64 c.C) ∧ w.cell? ⟨P, 6, none⟩ = some (.bool c.O) ∧ w.cell? ⟨P, 7, none⟩ = some (.int .i64 c.V) ∧ w.cell? ⟨Q, 0, none⟩ = some (.int .i64 c.B) ∧ w.cell? ⟨Q, 1, none⟩ = some (.int .i64 c.D) ∧ w.cell? ⟨Q, 2, none⟩ = some (.int .i64 (k : Int)) ∧ w.cell? ⟨Q, 3, none⟩ = some (.int .i64 c.T) ∧ w.cell? ⟨Q, 4, none⟩ = some (.int .i64 c.K) ∧ w.cell? ⟨Q, 5, none⟩ = some (.int .i64 c.Y) ∧ w.cell? ⟨Q, 6, none⟩ = some (.int .i64 c.C) ∧ w.cell? ⟨Q, 7, none⟩ = some (.bool c.O) ∧ w.cell? ⟨Q, 8, none⟩ = some (.int .i64 c.V) := by
  obtain ⟨a0, a1, a2, a3, a4, a5, a6, a7⟩ := h8.cells
  obtain ⟨b0, b1, b2, b3, b4, b5, b6, b7, b8⟩ := h9.cells
  exact ⟨a0, a1, a2, a3, a4, a5, a6, a7, b0, b1, b2, b3, b4, b5, b6, b7, b8⟩
theorem all20 {w : World} {P Q R k j : Nat} {c d : ClV} {b' : Addr} (h8 : Blk8 w P c) (h9 : Blk9 w Q k c) (hd : Blk8 w R d) (r0 : w.cell? (b'.add (j * 9)) = some (.int .i64 d.B)) (r1 : w.cell? ⟨(b'.add (j * 9)).block, (b'.add (j * 9)).off + 1, none⟩ = some (.int .i64 d.D)) : w.cell? ⟨P, 0, none⟩ = some (.int .i64 c.T) ∧ w.cell? ⟨P, 1, none⟩ = some (.int .i64 c.B) ∧ w.cell? ⟨P, 2, none⟩ = some (.int .i64 c.D) ∧ w.cell? ⟨P, 3, none⟩ = some (.int .i64 c.K) ∧ w.cell? ⟨P, 4, none⟩ = some (.int .i64 c.Y) ∧ w.cell? ⟨P, 5, none⟩ = some (.int .i64 c.C) ∧ w.cell? ⟨P, 6, none⟩ = some (.bool c.O) ∧ w.cell? ⟨P, 7, none⟩ = some (.int .i64 c.V) ∧ w.cell? ⟨Q, 0, none⟩ = some (.int .i64 c.B) ∧ w.cell? ⟨Q, 1, none⟩ = some (.int .i64 c.D) ∧ w.cell? ⟨R, 0, none⟩ = some (.int .i64 d.T) ∧ w.cell? ⟨R, 1, none⟩ = some (.int .i64 d.B) ∧ w.cell? ⟨R, 2, none⟩ = some (.int .i64 d.D) ∧ w.cell? ⟨R, 3, none⟩ = some (.int .i64 d.K) ∧ w.cell? ⟨R, 4, none⟩ = some (.int .i64 d.Y) ∧ w.cell? ⟨R, 5, none⟩ = some (.int .i64 d.C) ∧ w.cell? ⟨R, 6, none⟩ = some (.bool d.O) ∧ w.cell? ⟨R, 7, none⟩ = some (.int .i64 d.V) ∧ w.cell? (b'.add (j * 9)) = some (.int .i64 d.B) ∧ w.cell? ⟨(b'.add (j * 9)).block, (b'.add (j * 9)).off + 1, none⟩ = some (.int .i64 d.D) := by
  obtain ⟨a0, a1, a2, a3, a4, a5, a6, a7⟩ := h8.cells
  obtain ⟨b0, b1, -⟩ := h9.cells
  obtain ⟨d0, d1, d2, d3, d4, d5, d6, d7⟩ := hd.cells
  exact ⟨a0, a1, a2, a3, a4, a5, a6, a7, b0, b1, d0, d1, d2, d3, d4, d5, d6, d7, r0, r1⟩
theorem drew_below (w : World) : Below w.heap.size w w.drew := (Below.refl _ _).drew

attribute [local go_sem] eq_op eq_res eq_span
end Go.Proofs.YtmpilokgbblonaaGreat.hist
