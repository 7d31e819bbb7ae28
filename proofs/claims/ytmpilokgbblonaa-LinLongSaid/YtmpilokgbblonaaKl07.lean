/- Rows of the call's own that grow; the document's calls of events. -/
import Derived.Test.YtmpilokgbblonaaKl06
import Derived.BigRegion
import Derived.Test.YtmpilokgbblonaaKl03
import Derived.BigQuiet
import Derived.Deep.RegionHeld3
import Derived.Lib.SliceRun
namespace Go.Proofs.Ytmpilokgbblonaa.hist
open Go.RowKit

theorem wpList_known {P : Program} {w : World} {ops : Array Oper} {rest : List Oper} {o : Oper} {a : Act} {Q : Exit → Act → World → Prop} (hgd : o.guard = none) (s x : Operand) (t : TypeId)
    (ho : o.op = .call { callee := .builtin .append, args := #[s, x], argTypes := #[t, t] }) (v u v' : Value) (w' : World) (hs : a.eval s = v) (hx : a.eval x = u)
    (hrun : (Builtin.append_ #[t, t] o.type #[v, u]).run P w = .ok v' w') (h : wpList P ops Q rest (a.put o.dst v') w') : wpList P ops Q (o :: rest) a w := by
  refine wpList_plain hgd fun K hK => ?_
  unfold Oper.wp
  simp [execOp, ho, resolve, invoke, builtin, hs, hx, hrun, Result.andThen]
  exact hK _ _ h

/-- A row of the call's own, made behind world W. -/
structure Grow {α : Type} (f : Nat → α → List Value) (k : Nat) (T : TypeId) (W w : World) (v : Value) (L : List α) : Prop where
  own : Own f k T w v L
  new : ∀ g, v.ownBlock = some g → W.heap.size ≤ g
  below : Below W.heap.size W w
section
variable {α : Type} {f : Nat → α → List Value} {k : Nat} {T : TypeId} {W w w' : World} {v v' : Value} {L : List α}
theorem Grow.nil (f : Nat → α → List Value) (k : Nat) (T : TypeId) (h : Below W.heap.size W w) : Grow f k T W w (.slice none 0 0) [] := ⟨Own.nil _ _, fun g hg => by simp [Value.ownBlock] at hg, h⟩
theorem Grow.next (h : Grow f k T W w v L) (hb : Below w.heap.size w w') : Grow f k T W w' v L := ⟨h.own.below hb, h.new, past h.below hb⟩
theorem Grow.more (h : Grow f k T W w v L) {a : α} (ho : Own f k T w' v' (L ++ [a])) (hg : w.grownBy w' v.ownBlock) (hat : v'.ownBlock = v.ownBlock ∨ v'.ownBlock = some w.heap.size) : Grow f k T W w' v' (L ++ [a]) := by
  refine ⟨ho, fun g hg' => ?_, h.below.grown hg h.below.size h.new⟩
  rcases hat with e | e
  · exact h.new g (e ▸ hg')
  · rw [hg'] at e
    have := Option.some.inj e
    have := h.below.size
    omega
/-- Another one's blocks have changed. -/
theorem Grow.went (h : Grow f k T W w v L) {p p' : Nat → Prop} (hw : Went p p' w w') (hp : ∀ b, p b → W.heap.size ≤ b) (hv : ∀ g, v.ownBlock = some g → ¬ p g) : Grow f k T W w' v L :=
  ⟨h.own.moved fun g hg => hw.block g (h.own.lt hg) (hv g hg), h.new, hw.below h.below h.below.size hp⟩
theorem Grow.told (h : Grow f k T W w v L) (hf : ∀ i a, (f i a).length = k) : ∃ A c, v = .slice A L.length c ∧ L.length ≤ c ∧ c ≤ maxLen ∧ At f k w A L := by
  obtain ⟨A, c, rfl, h1, h2, _⟩ := h.own.slice
  exact ⟨A, c, rfl, h1, h2, h.own.at hf⟩
end

/-- The calls of the first events, each looked up in all. -/
def preC (l : List EvV) : Nat → List ClV
  | 0 => []
  | k + 1 => preC l k ++ match l[k]? with | some v => (if v.E = true then [] else [callOf v k (findE v.T (l.drop (k + 1)) (k + 1))]) | none => []
theorem pre_at {l : List EvV} {k : Nat} (hk : k < l.length) : preC l (k + 1) = preC l k ++ if l[k].E = true then [] else [callOf l[k] k (findE l[k].T (l.drop (k + 1)) (k + 1))] := by
  rw [preC, List.getElem?_eq_getElem hk]
theorem pre_go (l : List EvV) : ∀ k, k ≤ l.length → preC l k ++ callsGo (l.drop k) k = callsE l
  | 0, _ => rfl
  | k + 1, h => by
    have hk : k < l.length := by omega
    rw [← pre_go l k (by omega), pre_at hk, List.append_assoc, List.drop_eq_getElem_cons hk, callsGo]
theorem pre_all (l : List EvV) : preC l l.length = callsE l := by
  have h := pre_go l l.length (Nat.le_refl _)
  rw [List.drop_length] at h
  rw [← h, callsGo, List.append_nil]
theorem pre_len (l : List EvV) : ∀ k, (preC l k).length ≤ k
  | 0 => Nat.le_refl _
  | k + 1 => by
    have := pre_len l k
    rw [preC, List.length_append]
    cases l[k]? with
    | none => simp; omega
    | some v => simp only; split <;> simp <;> omega
theorem find_at {l : List EvV} {j : Nat} (hj : j < l.length) (t : Int) : findE t (l.drop j) j = if l[j].T = t then some (j, l[j]) else findE t (l.drop (j + 1)) (j + 1) := by
  rw [List.drop_eq_getElem_cons hj, findE]
theorem find_end {l : List EvV} {j : Nat} (hj : l.length ≤ j) (t : Int) : findE t (l.drop j) j = none := by
  rw [List.drop_eq_nil_of_le hj, findE]
theorem put_end {w : World} {B : Nat} {T : TypeId} {a0 a1 a2 a3 a4 a5 a6 a7 : Value} (h : w.heap[B]? = some (.cells #[a0, a1, a2, a3, a4, a5, a6, a7] T (0, 0))) (x y z u : Value) :
    ((((w.setCell ⟨B, 2, none⟩ x).setCell ⟨B, 5, none⟩ y).setCell ⟨B, 5 + 1, none⟩ z).setCell ⟨B, 5 + 2, none⟩ u).heap[B]? = some (.cells #[a0, a1, x, a3, a4, y, z, u] T (0, 0)) := by
  have h1 : (w.setCell ⟨B, 2, none⟩ x).heap[B]? = some (.cells #[a0, a1, x, a3, a4, a5, a6, a7] T (0, 0)) := Joins.block_setCell (i := 2) h x
  have h2 : ((w.setCell ⟨B, 2, none⟩ x).setCell ⟨B, 5, none⟩ y).heap[B]? = some (.cells #[a0, a1, x, a3, a4, y, a6, a7] T (0, 0)) := Joins.block_setCell (i := 5) h1 y
  have h3 : (((w.setCell ⟨B, 2, none⟩ x).setCell ⟨B, 5, none⟩ y).setCell ⟨B, 5 + 1, none⟩ z).heap[B]? = some (.cells #[a0, a1, x, a3, a4, y, z, a7] T (0, 0)) := Joins.block_setCell (i := 6) h2 z
  exact Joins.block_setCell (i := 7) h3 u
end Go.Proofs.Ytmpilokgbblonaa.hist
/- A history's other methods: what is told of it, copies; one call before another one. -/
namespace Go.Proofs.Ytmpilokgbblonaa.hist
open Go.RowKit

theorem spanPend_any (w : World) (B D : Int) :
    Calls Try.prog 39 #[.agg #[.int .i64 B, .int .i64 D]] w fun e w' => e = .returned (.bool (decide (D < 0))) ∧ Below w.heap.size w w' := by
  go_enter Try.func39, Try.ntmps39
  go_wp2
  go_returns
  exact ⟨rfl, by go_grown⟩
theorem before_any (w : World) (B D B' D' : Int) :
    Calls Try.prog 38 #[.agg #[.int .i64 B, .int .i64 D], .agg #[.int .i64 B', .int .i64 D']] w fun e w' => e = .returned (.bool (befB D B')) ∧ Below w.heap.size w w' := by
  by_cases hd : D < 0
  · have e : befB D B' = false := decide_eq_false (by omega)
    rw [e]
    have hdd : decide (D < 0) = true := decide_eq_true hd
    clear e
    go_enter Try.func38, Try.ntmps38
    go_wp2_with (go_at_call 39; refine (spanPend_any _ B D).mono ?_; rintro e w1 ⟨rfl, hb⟩; have B1 := Lib.hid hb; clear hb; rw [hdd])
    go_returns
    exact ⟨rfl, past (by go_grown) B1.out⟩
  · have e : befB D B' = decide (D < B') := by unfold befB; rw [Bool.eq_iff_iff, decide_eq_true_eq, decide_eq_true_eq]; omega
    rw [e]
    have hdd : decide (D < 0) = false := decide_eq_false hd
    clear e
    go_enter Try.func38, Try.ntmps38
    go_wp2_with (go_at_call 39; refine (spanPend_any _ B D).mono ?_; rintro e w1 ⟨rfl, hb⟩; have B1 := Lib.hid hb; have q0 := hb.cell (p := ⟨w.heap.size, 1, none⟩) (by simp; omega); have q1 := hb.cell (p := ⟨w.heap.size + 1, 0, none⟩) (by simp); simp at q0 q1; clear hb; rw [hdd])
    go_returns
    exact ⟨rfl, past (by go_grown) B1.out⟩
/-- A call of the document's as an argument. -/
def clV (c : ClV) : Value := .agg #[.int .i64 c.T, .int .i64 c.B, .int .i64 c.D, .int .i64 c.K, .int .i64 c.Y, .int .i64 c.C, .bool c.O, .int .i64 c.V]
/-- A history without events. -/
theorem hst_new {w : World} {X : Nat} (h : w.heap[X]? = some (.cells #[.slice none 0 0, .int .i64 0, .int .i64 0, .int .i64 0, .int .i64 0, .int .i64 0, .int .i64 0, .int .i64 0, .int .i64 0, .int .i64 0] 46 (0, 0))) : Hst w X (fun b => b = X) [] := by
  refine ⟨.slice none 0 0, fun _ => 0, ⟨valid_nil, opens_nil, ⟨_, h, rfl, rfl, rfl, fun t ht => ?_⟩, Own.nil _ _⟩, rfl, fun g hg => by simp [Value.ownBlock] at hg, fun b hb => by rw [hb]; exact (Array.getElem?_eq_some_iff.1 h).1⟩
  match t, ht with
  | 0, _ => rfl
  | 1, _ => rfl
  | 2, _ => rfl
  | 3, _ => rfl
  | 4, _ => rfl
  | 5, _ => rfl
  | 6, _ => rfl
  | 7, _ => rfl
theorem new_any (w : World) :
    Calls Try.prog 5 #[] w fun e w' => ∃ X f, e = .returned (.pointer (some ⟨X, 0, none⟩)) ∧ Hst w' X f [] ∧ (∀ b, f b → w.heap.size ≤ b) ∧ Below w.heap.size w w' := by
  go_enter Try.func5, Try.ntmps5
  go_wp2
  go_returns
  exact ⟨w.heap.size, _, rfl, hst_new (new_block _ _ _), fun b hb => Nat.le_of_eq hb.symm, by go_grown⟩
theorem hst_pending (w : World) (X : Nat) (f : Nat → Prop) (l : List EvV) (h : Hst w X f l) (t : Int) :
    Calls Try.prog 14 #[.pointer (some ⟨X, 0, none⟩), .int .i64 t] w fun e w' => e = .returned (.bool (pendE l t)) ∧ w = w' := by
  obtain ⟨v, o, h, _⟩ := h
  refine (pending_any w X v o l h t).mono fun e w' ⟨he, hw⟩ => ⟨?_, hw⟩
  rw [he]
  by_cases ht : 0 ≤ t ∧ t ≤ 7
  · rw [decide_eq_true ht, Bool.true_and]
  · rw [decide_eq_false ht, Bool.false_and, pend_out h.valid ht]

set_option maxHeartbeats 1000000 in
theorem clone_any (w : World) (v : Value) (L : List ClV) (h : Own cells9 9 52 w v L) (hL : L.length ≤ 1000) :
    Calls Try.prog 24 #[v] w fun e w' => ∃ v', e = .returned v' ∧ Grow cells9 9 52 w w' v' L := by
  have H := Lib.hid h
  obtain ⟨hl, ⟨rfl, h0⟩ | ⟨g, cap, cur, rfl, _, hb, h1, h2, h3, h4⟩⟩ := h
  · clear hl
    have qT : ∀ (w : World) (a : Option Addr) (n c n' c' : Nat), (binOp .eql 43 (.slice a n c) (.slice none n' c')).run Try.prog w = .ok (.bool a.isNone) w := fun w a n c n' c' => Lib.run_eql_slice_nil w _ _ a n c n' c' Try.underlying43
    go_enter Try.func24, Try.ntmps24
    go_wp2
    go_returns
    obtain rfl := List.eq_nil_of_length_eq_zero h0
    exact ⟨_, rfl, Grow.nil _ _ _ (Below.refl _ _)⟩
  · obtain ⟨i0, hi, hz0, hz1, hz2⟩ := info_parts Tryinfo_call
    have hrow : ((w.alloc (.cells #[] 52))).ownsRow w.heap.size 52 9 (.slice (some ⟨w.heap.size, 0, none⟩) 0 0) 0 [] := World.ownsRow_made w #[] 0 (Nat.le_refl _) (by unfold maxLen; omega) rfl
    obtain ⟨v', w', hrun, hown, hgr, _, hat⟩ := run_append_own_at (P := Try.prog) (w.alloc (.cells #[] 52)) w.heap.size 43 43 52 i0 _ 9 72 Try.underlying43 hi hz0 hz1 hz2 rfl (by decide) _ 0 [] hrow ⟨g, 0, none⟩ L.length cap (rowCells cells9 L 0) (row_len len9 L 0) (fun j u hj => (((Below.refl w.heap.size w).alloc (Nat.le_refl _) _).cell (by rw [Addr.add_lit]; exact (Array.getElem?_eq_some_iff.1 hb).1)).trans (H.out.cells (g := g) rfl j u hj)) (fun u hu => by
      obtain ⟨m, hm⟩ := List.getElem?_of_mem hu
      have hml := (List.getElem?_eq_some_iff.1 hm).1
      rw [row_len len9] at hml
      have e : m = m / 9 * 9 + m % 9 := by omega
      rw [e, row_get len9 L 0 _ _ (by omega)] at hm
      cases hc : L[m / 9]? with
      | none => rw [hc] at hm; simp at hm
      | some c =>
        rw [hc] at hm
        exact one9 _ _ u (List.mem_of_getElem? hm)) (by unfold maxLen; omega) (by omega) (by simp)
    have G : Hid (Grow cells9 9 52 w w' v' L) := by
      have hb0 : Below w.heap.size w (w.alloc (.cells #[] 52)) := (Below.refl _ _).alloc (Nat.le_refl _) _
      refine Lib.hid ⟨?_, fun g' hg' => ?_, hb0.grown hgr hb0.size (fun b hb => by simp [Value.ownBlock] at hb; omega)⟩
      · obtain ⟨k1, k2⟩ := hown
        refine ⟨by simpa using k1, ?_⟩
        rcases k2 with ⟨k2, k3⟩ | ⟨g2, c2, r2, e1, e2, e3, e4, e5, e6, e7⟩
        · exact Or.inl ⟨k2, by omega⟩
        · exact Or.inr ⟨g2, c2, r2, by rw [e1, Nat.zero_add], Nat.zero_le _, e3, by omega, e5, e6, by simpa using e7⟩
      · rcases hat with e | e
        · rw [hg'] at e
          simp [Value.ownBlock] at e
          omega
        · rw [hg'] at e
          have := Option.some.inj e
          simp at this
          omega
    have HR := Lib.hid hrun
    clear hrow hrun hown hgr hat hl h1 h2 h3 h4 hb
    have qT : ∀ (w : World) (a : Option Addr) (n c n' c' : Nat), (binOp .eql 43 (.slice a n c) (.slice none n' c')).run Try.prog w = .ok (.bool a.isNone) w := fun w a n c n' c' => Lib.run_eql_slice_nil w _ _ a n c n' c' Try.underlying43
    go_enter Try.func24, Try.ntmps24
    go_wp2_with (at_builtin; go_loud (refine wpList_known rfl (.tmp 5) (.tmp 6) 43 rfl _ _ v' w' rfl rfl HR.out ?_))
    go_returns
    exact ⟨v', rfl, G.out⟩

theorem calls_any (w : World) (X : Nat) (f : Nat → Prop) (l : List EvV) (h : Hst w X f l) (hl : l.length ≤ 1000) :
    Calls Try.prog 17 #[.pointer (some ⟨X, 0, none⟩)] w fun e w' => ∃ v', e = .returned v' ∧ Grow cells9 9 52 w w' v' (callsE l) := by
  obtain ⟨v, o, h, _⟩ := h
  have c0 := h.c0
  have HO := Lib.hid h.row
  have HL := Lib.hid (Nat.le_trans (calls_le h.valid) hl)
  clear h
  go_enter Try.func17, Try.ntmps17
  go_wp2_with (go_at_call 24; refine (clone_any _ v _ HO.out HL.out).mono ?_; rintro e w1 ⟨v1, rfl, hg⟩; have G1 := Lib.hid hg; clear hg)
  go_returns
  exact ⟨v1, rfl, G1.out⟩

/-- A copy's block and row. -/
theorem hst_copied {w w1 : World} {o : Nat → Nat} {l : List EvV} {v : Value} (hV : ValidE l) (ho : Opens l o) (hg : Grow cells9 9 52 w w1 v (callsE l)) :
    ∃ f', Hst (w1.alloc (.cells #[v, .int .i64 (l.length : Nat), .int .i64 (o 0 : Nat), .int .i64 (o 1 : Nat), .int .i64 (o 2 : Nat), .int .i64 (o 3 : Nat), .int .i64 (o 4 : Nat), .int .i64 (o 5 : Nat), .int .i64 (o 6 : Nat), .int .i64 (o 7 : Nat)] 46)) w1.heap.size f' l ∧ ∀ b, f' b → w.heap.size ≤ b := by
  have hs := hg.below.size
  refine ⟨fun b => w.heap.size ≤ b ∧ b < w1.heap.size + 1, ⟨v, o, ⟨hV, ho, ⟨_, new_block _ _ _, rfl, rfl, rfl, fun t ht => ?_⟩, hg.own.below ((Below.refl _ _).alloc (Nat.le_refl _) _)⟩, ⟨hs, by omega⟩, fun g h => ⟨hg.new g h, by have := hg.own.lt h; omega⟩, fun b hb => by simp; omega⟩, fun b hb => hb.1⟩
  match t, ht with
  | 0, _ => rfl
  | 1, _ => rfl
  | 2, _ => rfl
  | 3, _ => rfl
  | 4, _ => rfl
  | 5, _ => rfl
  | 6, _ => rfl
  | 7, _ => rfl
end Go.Proofs.Ytmpilokgbblonaa.hist
/- All events of a history, told by its calls. -/
namespace Go.Proofs.Ytmpilokgbblonaa.hist
open Go.RowKit

/-- No event. -/
def zeroE : EvV := ⟨0, false, 0, 0, 0, false, 0⟩
theorem Tryinfo_ev : (Try.prog.info? 41).map (fun i => (i.zero, i.size, i.bytes)) = some (some (.agg #[.int .i64 0, .bool false, .int .i64 0, .int .i64 0, .int .i64 0, .bool false, .int .i64 0]), 7, 56) := by kernel_rfl
theorem made_row (n : Nat) : (madeCells #[.int .i64 0, .bool false, .int .i64 0, .int .i64 0, .int .i64 0, .bool false, .int .i64 0] (n * 7)).toList = rowCells cells7 (List.replicate n zeroE) 0 := by
  refine row_ext len7 (by decide) (by simp [madeCells]) fun i a j ha hj => ?_
  have hi := (List.getElem?_eq_some_iff.1 ha).1
  simp at hi
  obtain rfl : zeroE = a := by
    rw [List.getElem?_replicate, if_pos hi] at ha
    exact Option.some.inj ha
  have hl : i * 7 + j < n * 7 := by omega
  have hm : (i * 7 + j) % 7 = j := by omega
  rw [Array.getElem?_toList]
  unfold madeCells
  rw [Array.getElem?_map, Array.getElem?_range, if_pos hl]
  show some _ = _
  simp only [show (#[Value.int .i64 0, .bool false, .int .i64 0, .int .i64 0, .int .i64 0, .bool false, .int .i64 0] : Array Value).size = 7 from rfl, hm]
  match j, hj with
  | 0, _ => rfl
  | 1, _ => rfl
  | 2, _ => rfl
  | 3, _ => rfl
  | 4, _ => rfl
  | 5, _ => rfl
  | 6, _ => rfl
/-- A row of n events in block g, made behind W. -/
structure Evs (W w : World) (g n : Nat) (M : List EvV) : Prop where
  own : Own cells7 7 41 w (.slice (some ⟨g, 0, none⟩) n n) M
  len : M.length = n
  new : W.heap.size ≤ g
  below : Below W.heap.size W w
theorem make_ev (w : World) (n : Nat) (hn : n ≤ 1000) : ∃ w', (Instr.makeSlice 67 (.int .i64 (n : Int)) (.int .i64 (n : Int))).run Try.prog w = .ok (.slice (some ⟨w.heap.size, 0, none⟩) n n) w' ∧ Evs w w' w.heap.size n (List.replicate n zeroE) := by
  obtain ⟨i, hi, h0, h1, h2⟩ := info_parts Tryinfo_ev
  have h := run_make (P := Try.prog) w 67 41 i _ Try.underlying67 hi h0 .i64 .i64 n n (by omega) (by omega) (by rw [h2]; omega) (by omega)
  rw [h1] at h
  simp only [Int.toNat_natCast] at h
  refine ⟨_, h, ⟨by simp [row_len len7], .inr ⟨w.heap.size, n, _, by simp, Nat.zero_le _, new_block _ _ _, by simp, by unfold maxLen; omega, size_madeCells _ _, ?_⟩⟩, by simp, Nat.le_refl _, (Below.refl _ _).alloc (Nat.le_refl _) _⟩
  rw [← made_row]
  have e : (madeCells (Value.agg #[.int .i64 0, .bool false, .int .i64 0, .int .i64 0, .int .i64 0, .bool false, .int .i64 0]).cells (n * 7)).toList.length = n * 7 := by simp [madeCells]
  rw [List.take_of_length_le (by rw [e]; simp)]
  rfl
theorem Evs.next {W w w' : World} {g n : Nat} {M : List EvV} (h : Evs W w g n M) (hb : Below w.heap.size w w') : Evs W w' g n M := ⟨h.own.below hb, h.len, h.new, past h.below hb⟩
theorem Evs.lt {W w : World} {g n : Nat} {M : List EvV} (h : Evs W w g n M) : g < w.heap.size := h.own.lt rfl
/-- The seven cells of an event, written. -/
def put7 (w : World) (g p : Nat) (u : EvV) : World :=
  ((((((w.setCell ⟨g, p * 7, none⟩ (.int .i64 u.T)).setCell ⟨g, p * 7 + 1, none⟩ (.bool u.E)).setCell ⟨g, p * 7 + 2, none⟩ (.int .i64 u.K)).setCell ⟨g, p * 7 + 3, none⟩ (.int .i64 u.Y)).setCell ⟨g, p * 7 + 4, none⟩ (.int .i64 u.C)).setCell ⟨g, p * 7 + 5, none⟩ (.bool u.O)).setCell ⟨g, p * 7 + 6, none⟩ (.int .i64 u.V)
theorem Evs.put {W w : World} {g n p : Nat} {M : List EvV} (h : Evs W w g n M) (hp : p < n) (u : EvV) : Evs W (put7 w g p u) g n (M.set p u) := by
  have hg : (Value.slice (some ⟨g, 0, none⟩) n n).ownBlock = some g := rfl
  have h7 := owns_set (owns_set (owns_set (owns_set (owns_set (owns_set (owns_set h.own hg (m := p * 7) (.int .i64 u.T)) hg (m := p * 7 + 1) (.bool u.E)) hg (m := p * 7 + 2) (.int .i64 u.K)) hg (m := p * 7 + 3) (.int .i64 u.Y)) hg (m := p * 7 + 4) (.int .i64 u.C)) hg (m := p * 7 + 5) (.bool u.O)) hg (m := p * 7 + 6) (.int .i64 u.V)
  have hrl := row_len (f := cells7) len7 M 0
  have hb : p * 7 + 6 < (rowCells cells7 M 0).length := by have := h.len; omega
  refine ⟨?_, by simpa using h.len, h.new, ?_⟩
  · unfold Own
    rw [List.length_set]
    have e := row_ext (f := cells7) (k := 7) len7 (by decide) (L := M.set p u) (M := ((((((((rowCells cells7 M 0).set (p * 7) (.int .i64 u.T)).set (p * 7 + 1) (.bool u.E)).set (p * 7 + 2) (.int .i64 u.K)).set (p * 7 + 3) (.int .i64 u.Y)).set (p * 7 + 4) (.int .i64 u.C)).set (p * 7 + 5) (.bool u.O)).set (p * 7 + 6) (.int .i64 u.V))) (by simp [row_len len7]) (by
      intro k a j ha hj
      have hk := (List.getElem?_eq_some_iff.1 ha).1
      rw [List.length_set] at hk
      rw [List.getElem?_set] at ha
      by_cases hik : p = k
      · subst hik
        rw [if_pos rfl, if_pos hk] at ha
        obtain rfl := Option.some.inj ha
        match j, hj with
        | 0, _ => rw [List.getElem?_set_ne (by omega), List.getElem?_set_ne (by omega), List.getElem?_set_ne (by omega), List.getElem?_set_ne (by omega), List.getElem?_set_ne (by omega), List.getElem?_set_ne (by omega), Nat.add_zero, List.getElem?_set_self (by omega)]; rfl
        | 1, _ => rw [List.getElem?_set_ne (by omega), List.getElem?_set_ne (by omega), List.getElem?_set_ne (by omega), List.getElem?_set_ne (by omega), List.getElem?_set_ne (by omega), List.getElem?_set_self (by simp only [List.length_set]; omega)]; rfl
        | 2, _ => rw [List.getElem?_set_ne (by omega), List.getElem?_set_ne (by omega), List.getElem?_set_ne (by omega), List.getElem?_set_ne (by omega), List.getElem?_set_self (by simp only [List.length_set]; omega)]; rfl
        | 3, _ => rw [List.getElem?_set_ne (by omega), List.getElem?_set_ne (by omega), List.getElem?_set_ne (by omega), List.getElem?_set_self (by simp only [List.length_set]; omega)]; rfl
        | 4, _ => rw [List.getElem?_set_ne (by omega), List.getElem?_set_ne (by omega), List.getElem?_set_self (by simp only [List.length_set]; omega)]; rfl
        | 5, _ => rw [List.getElem?_set_ne (by omega), List.getElem?_set_self (by simp only [List.length_set]; omega)]; rfl
        | 6, _ => rw [List.getElem?_set_self (by simp only [List.length_set]; omega)]; rfl
      · rw [if_neg hik] at ha
        rw [List.getElem?_set_ne (by omega), List.getElem?_set_ne (by omega), List.getElem?_set_ne (by omega), List.getElem?_set_ne (by omega), List.getElem?_set_ne (by omega), List.getElem?_set_ne (by omega), List.getElem?_set_ne (by omega), row_get (f := cells7) len7 M 0 k j hj, ha]
        simp)
    rw [← e]
    exact h7
  · have hn : W.heap.size ≤ g := h.new
    exact ((((((h.below.setCell (p := ⟨g, p * 7, none⟩) hn _).setCell (p := ⟨g, p * 7 + 1, none⟩) hn _).setCell (p := ⟨g, p * 7 + 2, none⟩) hn _).setCell (p := ⟨g, p * 7 + 3, none⟩) hn _).setCell (p := ⟨g, p * 7 + 4, none⟩) hn _).setCell (p := ⟨g, p * 7 + 5, none⟩) hn _).setCell (p := ⟨g, p * 7 + 6, none⟩) hn _
/-- Its cells are there, and may be written. -/
theorem Evs.there {W w : World} {g n p : Nat} {M : List EvV} (h : Evs W w g n M) (hp : p < n) : ∃ u0 u1 u2 u3 u4 u5 u6, w.cell? ⟨g, p * 7, none⟩ = some u0 ∧ w.cell? ⟨g, p * 7 + 1, none⟩ = some u1 ∧ w.cell? ⟨g, p * 7 + 2, none⟩ = some u2 ∧ w.cell? ⟨g, p * 7 + 3, none⟩ = some u3 ∧ w.cell? ⟨g, p * 7 + 4, none⟩ = some u4 ∧ w.cell? ⟨g, p * 7 + 5, none⟩ = some u5 ∧ w.cell? ⟨g, p * 7 + 6, none⟩ = some u6 := by
  have hpl : p < M.length := by rw [h.len]; exact hp
  have hc : ∀ j u, (cells7 p M[p])[j]? = some u → j < 7 → w.cell? ⟨g, p * 7 + j, none⟩ = some u := fun j u hu hj => by
    have := h.own.cells (g := g) rfl (p * 7 + j) u (by rw [row_get len7 M 0 p j hj, List.getElem?_eq_getElem hpl]; simpa using hu)
    rw [Addr.add_lit] at this
    simpa using this
  exact ⟨_, _, _, _, _, _, _, hc 0 _ rfl (by omega), hc 1 _ rfl (by omega), hc 2 _ rfl (by omega), hc 3 _ rfl (by omega), hc 4 _ rfl (by omega), hc 5 _ rfl (by omega), hc 6 _ rfl (by omega)⟩
theorem Evs.free {W w : World} {g n : Nat} {M : List EvV} (h : Evs W w g n M) (i : Nat) : w.frozen? ⟨g, i, none⟩ = false := by
  obtain ⟨_, ⟨h0, _⟩ | ⟨g', cap', cg, hv', _, hb, _⟩⟩ := h.own
  · simp at h0
  · obtain rfl : g' = g := by simp at hv'; exact hv'.1.symm
    exact Joins.unfrozen_of_block hb i
theorem put_size (w : World) (g p : Nat) (u : EvV) : (put7 w g p u).heap.size = w.heap.size := by simp [put7]
theorem put_block (w w2 : World) (g p : Nat) (u : EvV) (cs : Array Value) (T : TypeId) (hb : Below ((put7 w g p u).alloc (.cells cs T)).heap.size ((put7 w g p u).alloc (.cells cs T)) w2) : w2.heap[w.heap.size]? = some (.cells cs T (0, 0)) := by
  have h := new_block (put7 w g p u) cs T
  rw [put_size] at h
  rw [hb.block w.heap.size (by simp [put_size])]
  exact h
/-- The events of the first calls stand at their places. -/
def Placed (l M : List EvV) (k : Nat) : Prop := ∀ i (h : i < (callsE l).length), i < k → (∀ p : Nat, (callsE l)[i].B = p → M[p]? = l[p]?) ∧ ∀ q : Nat, (callsE l)[i].D = q → M[q]? = l[q]?
theorem placed_set {l M : List EvV} {k p : Nat} {u : EvV} (h : Placed l M k) (hl : M.length = l.length) (hu : l[p]? = some u) : Placed l (M.set p u) k := by
  have hp : p < M.length := by rw [hl]; exact (List.getElem?_eq_some_iff.1 hu).1
  have key : ∀ q : Nat, M[q]? = l[q]? → (M.set p u)[q]? = l[q]? := fun q hq => by
    by_cases hpq : p = q
    · subst hpq
      rw [List.getElem?_set_self hp, hu]
    · rw [List.getElem?_set_ne hpq, hq]
  exact fun i hi hk => ⟨fun q hq => key q ((h i hi hk).1 q hq), fun q hq => key q ((h i hi hk).2 q hq)⟩
theorem placed_next {l M : List EvV} {k : Nat} (h : Placed l M k) (hk : k < (callsE l).length) (hb : ∀ p : Nat, (callsE l)[k].B = p → M[p]? = l[p]?) (hd : ∀ q : Nat, (callsE l)[k].D = q → M[q]? = l[q]?) : Placed l M (k + 1) := by
  intro i hi hik
  by_cases h1 : i = k
  · subst h1
    exact ⟨hb, hd⟩
  · exact h i hi (by omega)
theorem placed_one {l M : List EvV} {k p : Nat} {u : EvV} (h : Placed l M k) (hl : M.length = l.length) (hk : k < (callsE l).length) (hB : (callsE l)[k].B = p) (hu : l[p]? = some u) (hD : (callsE l)[k].D = -1) : Placed l (M.set p u) (k + 1) := by
  have hp : p < M.length := by rw [hl]; exact (List.getElem?_eq_some_iff.1 hu).1
  refine placed_next (placed_set h hl hu) hk (fun p' hp' => ?_) (fun q hq => by omega)
  obtain rfl : p = p' := by omega
  rw [List.getElem?_set_self hp, hu]
theorem placed_two {l M : List EvV} {k p q : Nat} {u u' : EvV} (h : Placed l M k) (hl : M.length = l.length) (hk : k < (callsE l).length) (hB : (callsE l)[k].B = p) (hu : l[p]? = some u) (hD : (callsE l)[k].D = q) (hu' : l[q]? = some u') : Placed l ((M.set p u).set q u') (k + 1) := by
  have hp : p < M.length := by rw [hl]; exact (List.getElem?_eq_some_iff.1 hu).1
  have hq : q < M.length := by rw [hl]; exact (List.getElem?_eq_some_iff.1 hu').1
  have hl2 : (M.set p u).length = l.length := by simpa using hl
  refine placed_next (placed_set (placed_set h hl hu) hl2 hu') hk (fun p' hp' => ?_) (fun q' hq' => ?_)
  · obtain rfl : p = p' := by omega
    by_cases hpq : q = p
    · subst hpq
      rw [List.getElem?_set_self (by simpa using hq), hu']
    · rw [List.getElem?_set_ne hpq, List.getElem?_set_self hp, hu]
  · obtain rfl : q = q' := by omega
    rw [List.getElem?_set_self (by simpa using hq), hu']
theorem placed_all {l M : List EvV} (hV : ValidE l) (hl : M.length = l.length) (h : Placed l M (callsE l).length) : M = l := by
  refine all_events hV hl fun c hc => ?_
  obtain ⟨i, hi, rfl⟩ := List.getElem_of_mem hc
  exact h i hi hi
end Go.Proofs.Ytmpilokgbblonaa.hist
/- All events of a history: the walk. -/
namespace Go.Proofs.Ytmpilokgbblonaa.hist
open Go.RowKit

end Go.Proofs.Ytmpilokgbblonaa.hist
/- The law's helpers: a history's events are these, its calls are those of these events. -/
namespace Go.Proofs.Ytmpilokgbblonaa.hist
open Go.RowKit

theorem eqi (n : Nat) (x y : Int) (w : World) : (Op.equalIn (n + 1) 3 (.int .i64 x) (.int .i64 y)).run Try.prog w = .ok (x == y) w := by
  simp [Op.equalIn, run_underlying Try.underlying3]
theorem eqe (n : Nat) (x y : Int) (w : World) : (Op.equalIn (n + 1) 25 (.int .i64 x) (.int .i64 y)).run Try.prog w = .ok (x == y) w := by
  simp [Op.equalIn, run_underlying Try.underlying25]
theorem eqb (n : Nat) (x y : Bool) (w : World) : (Op.equalIn (n + 1) 4 (.bool x) (.bool y)).run Try.prog w = .ok (x == y) w := by
  simp [Op.equalIn, run_underlying Try.underlying4]
theorem eq_op_at (d : Nat) (k y k' y' : Int) (w : World) : (Op.equalIn (d + 1 + 1) 28 (.agg #[.int .i64 k, .int .i64 y]) (.agg #[.int .i64 k', .int .i64 y'])).run Try.prog w = .ok (k == k' && y == y') w := by
  have hs : Try.prog.stoodInHeld 28 = false := by kernel_rfl
  unfold Op.equalIn
  simp only [Sem.run_bind, run_underlying Try.underlying28, Result.andThen_ok]
  simp [go_sem, hs, eqi]
  by_cases h1 : k = k' <;> by_cases h2 : y = y' <;> simp [*]
theorem eq_op (k y k' y' : Int) (w : World) : (Op.equalIn 10000 28 (.agg #[.int .i64 k, .int .i64 y]) (.agg #[.int .i64 k', .int .i64 y'])).run Try.prog w = .ok (k == k' && y == y') w :=
  eq_op_at 9998 k y k' y' w
theorem eq_span_at (d : Nat) (k y k' y' : Int) (w : World) : (Op.equalIn (d + 1 + 1) 50 (.agg #[.int .i64 k, .int .i64 y]) (.agg #[.int .i64 k', .int .i64 y'])).run Try.prog w = .ok (k == k' && y == y') w := by
  have hs : Try.prog.stoodInHeld 50 = false := by kernel_rfl
  unfold Op.equalIn
  simp only [Sem.run_bind, run_underlying Try.underlying50, Result.andThen_ok]
  simp [go_sem, hs, eqi]
  by_cases h1 : k = k' <;> by_cases h2 : y = y' <;> simp [*]
theorem eq_span (k y k' y' : Int) (w : World) : (Op.equalIn 10000 50 (.agg #[.int .i64 k, .int .i64 y]) (.agg #[.int .i64 k', .int .i64 y'])).run Try.prog w = .ok (k == k' && y == y') w :=
  eq_span_at 9998 k y k' y' w
theorem eq_res_at (d : Nat) (c c' : Int) (b b' : Bool) (v v' : Int) (w : World) : (Op.equalIn (d + 1 + 1) 31 (.agg #[.int .i64 c, .bool b, .int .i64 v]) (.agg #[.int .i64 c', .bool b', .int .i64 v'])).run Try.prog w = .ok (c == c' && (b == b' && v == v')) w := by
  have hs : Try.prog.stoodInHeld 31 = false := by kernel_rfl
  unfold Op.equalIn
  simp only [Sem.run_bind, run_underlying Try.underlying31, Result.andThen_ok]
  simp [go_sem, hs, eqi, eqe, eqb]
  by_cases h1 : c = c' <;> by_cases h2 : b = b' <;> by_cases h3 : v = v' <;> simp [*]
/-- As the walk asks it. -/
theorem eq_res (c c' : Int) (b b' : Bool) (v v' : Int) (w : World) : (Op.equalIn 10000 31 (.agg #[.int .i64 c, .bool b, .int .i64 v]) (.agg #[.int .i64 c', .bool b', .int .i64 v'])).run Try.prog w = .ok (c == c' && (b == b' && v == v')) w :=
  eq_res_at 9998 c c' b b' v v' w

attribute [local go_sem] eq_op eq_res eq_span
end Go.Proofs.Ytmpilokgbblonaa.hist
