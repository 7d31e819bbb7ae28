/- What a history's methods do, and tell. -/
import Derived.Test.YtfacojlheeoppaaHBase
import Derived.Test.YtfacojlheeoppaaStepLaw
namespace Go.Proofs.Ytfacojlheeoppaa.hist
open Go.RowKit

set_option maxHeartbeats 1000000 in
theorem pending_any (w : World) (X : Nat) (v : Value) (o : Nat → Nat) (l : List EvV) (h : Hat w X v o l) (t : Int) :
    Calls Try.prog 14 #[.pointer (some ⟨X, 0, none⟩), .int .i64 t] w fun e w' => e = .returned (.bool (decide (0 ≤ t ∧ t ≤ 7) && pendE l t)) ∧ w = w' := by
  by_cases ht : 0 ≤ t ∧ t ≤ 7
  · obtain ⟨k, rfl⟩ : ∃ k : Nat, t = k := ⟨t.toNat, by omega⟩
    have hk : k ≤ 7 := by omega
    have co := h.co hk
    rw [decide_eq_true ht, Bool.true_and, ← opens_pend h.opens hk]
    clear h ht
    have hk1 : (k : Int) < 8 := by omega
    have hk2 : (0 : Int) ≤ k := by omega
    have d1 : decide ((0 : Int) ≤ k) = true := decide_eq_true hk2
    have d2 : decide ((k : Int) < 8) = true := decide_eq_true hk1
    generalize o k = n at *
    go_enter Try.func14, Try.ntmps14
    go_wp2
    go_returns
    exact ⟨rfl, rfl⟩
  · rw [decide_eq_false ht, Bool.false_and]
    clear h
    go_enter Try.func14, Try.ntmps14
    go_wp2
    all_goals
      go_returns
      exact ⟨rfl, rfl⟩
/-- An append to a row of the call's own. -/
theorem append_row {α : Type} {f : Nat → α → List Value} {k : Nat} (hf : ∀ i a, (f i a).length = k) (w : World) (t ty e : TypeId) (i : TypeInfo) (z : Value) (bytes : Nat) (ht : Try.prog.underlying t = some (.slice e)) (hi : Try.prog.info? e = some i) (hz : i.zero = some z) (hs : i.size = k) (hb : i.bytes = bytes) (hzs : z.cells.size = k) (hk : 0 < k)
    (v : Value) (L : List α) (a : α) (h : Own f k e w v L) (p : Nat) (hp : ∀ j u, (f L.length a)[j]? = some u → w.cell? ((⟨p, 0, none⟩ : Addr).add j) = some u) (h1 : ∀ u ∈ f L.length a, u.oneCell' = true) (hm : L.length + 1 ≤ maxLen) (hby : (L.length + 1) * bytes ≤ 140737488355328) :
    ∃ v' w', (Builtin.append_ #[t, t] ty #[v, .slice (some ⟨p, 0, none⟩) 1 1]).run Try.prog w = .ok v' w' ∧ Own f k e w' v' (L ++ [a]) ∧ w.grownBy w' v.ownBlock ∧ (v'.ownBlock = v.ownBlock ∨ v'.ownBlock = some w.heap.size) ∧ (∃ A c, v' = .slice (some A) (L.length + 1) c) := by
  obtain ⟨v', w', h1, h2, h3, h4, h5⟩ := run_append_own_at (P := Try.prog) w 0 t ty e i z k bytes ht hi hz hs hb hzs hk v L.length (rowCells f L 0) h ⟨p, 0, none⟩ 1 1 (f L.length a) (by rw [hf]; omega) hp h1 hm hby (Nat.zero_le _)
  refine ⟨v', w', h1, ?_, h3, h5, ?_⟩
  · unfold Own
    rw [row_snoc, Nat.zero_add, List.length_append]
    exact h2
  · obtain ⟨_, ⟨hv, h0⟩ | ⟨g, cap, cur, hv, _⟩⟩ := h2
    · omega
    · exact ⟨_, _, hv⟩
theorem one9 (i : Nat) (c : ClV) : ∀ u ∈ cells9 i c, u.oneCell' = true := by
  intro u hu
  simp [cells9] at hu
  rcases hu with rfl | rfl | rfl | rfl | rfl | rfl | rfl | rfl | rfl <;> rfl
theorem one8 (i : Nat) (c : ClV) : ∀ u ∈ cells8 i c, u.oneCell' = true := by
  intro u hu
  simp [cells8] at hu
  rcases hu with rfl | rfl | rfl | rfl | rfl | rfl | rfl | rfl <;> rfl
theorem one7 (i : Nat) (c : EvV) : ∀ u ∈ cells7 i c, u.oneCell' = true := by
  intro u hu
  simp [cells7] at hu
  rcases hu with rfl | rfl | rfl | rfl | rfl | rfl | rfl <;> rfl
/-- What a new block has. -/
theorem new_cells (w : World) (cs : List Value) (T : TypeId) : ∀ j u, cs[j]? = some u → (w.alloc (.cells cs.toArray T)).cell? ((⟨w.heap.size, 0, none⟩ : Addr).add j) = some u := by
  intro j u hu
  rw [Addr.add_lit, Joins.cell_of_block (new_block w cs.toArray T)]
  simpa using hu
theorem Tryinfo_call : (Try.prog.info? 51).map (fun i => (i.zero, i.size, i.bytes)) = some (some (.agg #[.int .i64 0, .int .i64 0, .int .i64 0, .int .i64 0, .int .i64 0, .int .i64 0, .int .i64 0, .bool false, .int .i64 0]), 9, 72) := by kernel_rfl

/-- Behind a beginning: the row has one call more, three cells are written. -/
theorem hat_begin {w w5 w6 : World} {X : Nat} {v v' : Value} {o : Nat → Nat} {l : List EvV} {n M : Nat} {k y : Int} {cur : Array Value} (h : Hat w X v o l) (hM : (callsE l).length = M) (hn : n ≤ 7) (he : errE l ⟨n, false, k, y, 0, false, 0⟩ = 0)
    (hc : w.heap[X]? = some (.cells cur 60 (0, 0))) (h6 : w6.heap[X]? = some (.cells (((cur.setIfInBounds 1 (.int .i64 ((l.length : Int) + 1))).setIfInBounds 0 v').setIfInBounds (2 + n) (.int .i64 ((M : Int) + 1))) 60 (0, 0)))
    (hr : Own cells9 9 51 w5 v' (callsE l ++ [⟨n, (l.length : Nat), -1, k, y, 0, false, 0⟩])) (hv : ∀ g, v'.ownBlock = some g → w6.heap[g]? = w5.heap[g]?) :
    Hat w6 X v' (fun s => if s = n then (callsE l).length + 1 else o s) (l ++ [⟨n, false, k, y, 0, false, 0⟩]) := by
  obtain ⟨cur', h1, h2, h3, h4, h5⟩ := h.box
  obtain rfl : cur' = cur := by
    rw [hc] at h1
    simpa using h1.symm
  refine ⟨valid_snoc.2 ⟨h.valid, he⟩, opens_begin h.opens rfl he rfl, ⟨_, h6, by simpa using h2, ?_, ?_, ?_⟩, by rw [calls_begin he rfl]; exact hr.moved hv⟩
  · rw [Array.getElem?_setIfInBounds, if_neg (by omega), Array.getElem?_setIfInBounds, if_pos rfl, if_pos (by simp; omega)]
  · rw [Array.getElem?_setIfInBounds, if_neg (by omega), Array.getElem?_setIfInBounds, if_neg (by omega), Array.getElem?_setIfInBounds, if_pos rfl, if_pos (by omega)]
    simp
  · intro s hs
    by_cases hsn : s = n
    · subst hsn
      rw [Array.getElem?_setIfInBounds, if_pos rfl, if_pos (by simp; omega), if_pos rfl, hM]
      simp
    · rw [Array.getElem?_setIfInBounds, if_neg (by omega), Array.getElem?_setIfInBounds, if_neg (by omega), Array.getElem?_setIfInBounds, if_neg (by omega), if_neg hsn]
      exact h5 s hs

end Go.Proofs.Ytfacojlheeoppaa.hist
