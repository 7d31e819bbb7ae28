/- Orders of a history's calls, by a shape's meaning: as the document looks them up, and as a meaning tells them; histories in which no two calls overlap; operations done one by one. By lists alone. -/
import Derived.Test.YtmpilokgbblonaaGreatKa03
import Derived.Test.YtmpilokgbblonaaGreatKa05
import Derived.Test.YtmpilokgbblonaaGreatKa06
import Derived.Test.YtmpilokgbblonaaGreatRows
import Derived.WalkKit
import Derived.Deep.RegionLaw
import Derived.Test.YtmpilokgbblonaaGreatKa02
namespace Go.Proofs.YtmpilokgbblonaaGreat.lin
open hist (ClV EvV befB)
open spec (OpV nextL okB valI okR valR stateL allRight stateL_snoc told_agree)
open task (rightB)

/-- May a call stand in an order of a shape? Must it? -/
def mayC (s : Int) (c : ClV) : Bool := rightB s c.K c.Y && (decide (c.D < 0) || decide (c.C = 0))
def mustC (c : ClV) : Bool := decide (0 ≤ c.D) && decide (c.C = 0)
/-- Was it told what the meaning tells? (Of a pending one: whatever.) -/
def toldC (M : List Int) (c : ClV) : Bool := decide (c.D < 0) || (decide (c.C = 0) && (c.O == okB M c.K c.Y) && decide (c.V = valI M c.K))
/-- A history's calls, for a shape. -/
def sysOf (s : Int) (L : List ClV) : Sys (List Int) where
  n := L.length
  may i := match L[i]? with | some c => mayC s c | none => false
  must i := match L[i]? with | some c => mustC c | none => false
  bef i j := match L[i]?, L[j]? with | some c, some d => befB c.D d.B | _, _ => false
  first := []
  step M i := match L[i]? with | some c => nextL s M c.K c.Y | none => M
  tells M i := match L[i]? with | some c => toldC M c | none => false
section
variable {s : Int} {L : List ClV}
theorem sys_n : (sysOf s L).n = L.length := rfl
theorem sys_may {i : Nat} (hi : i < L.length) : (sysOf s L).may i = mayC s L[i] := by
  show (match L[i]? with | some c => mayC s c | none => false) = _
  rw [List.getElem?_eq_getElem hi]
theorem sys_must {i : Nat} (hi : i < L.length) : (sysOf s L).must i = mustC L[i] := by
  show (match L[i]? with | some c => mustC c | none => false) = _
  rw [List.getElem?_eq_getElem hi]
theorem sys_bef {i j : Nat} (hi : i < L.length) (hj : j < L.length) : (sysOf s L).bef i j = befB L[i].D L[j].B := by
  show (match L[i]?, L[j]? with | some c, some d => befB c.D d.B | _, _ => false) = _
  rw [List.getElem?_eq_getElem hi, List.getElem?_eq_getElem hj]
theorem sys_step {M : List Int} {i : Nat} (hi : i < L.length) : (sysOf s L).step M i = nextL s M L[i].K L[i].Y := by
  show (match L[i]? with | some c => nextL s M c.K c.Y | none => M) = _
  rw [List.getElem?_eq_getElem hi]
theorem sys_tells {M : List Int} {i : Nat} (hi : i < L.length) : (sysOf s L).tells M i = toldC M L[i] := by
  show (match L[i]? with | some c => toldC M c | none => false) = _
  rw [List.getElem?_eq_getElem hi]
/-- The operations of calls, in an order of their numbers. -/
def opsL (L : List ClV) (o : List Nat) : List OpV := o.map fun i => match L[i]? with | some c => ⟨c.K, c.Y⟩ | none => ⟨0, 0⟩
theorem ops_snoc {o : List Nat} {i : Nat} (hi : i < L.length) : opsL L (o ++ [i]) = opsL L o ++ [⟨L[i].K, L[i].Y⟩] := by
  unfold opsL
  rw [List.map_append, List.map_cons, List.map_nil, List.getElem?_eq_getElem hi]
theorem ops_len (o : List Nat) : (opsL L o).length = o.length := by simp [opsL]
theorem run_state (o : List Nat) (h : ∀ i ∈ o, i < L.length) : (sysOf s L).run o = stateL s (opsL L o) := by
  induction o using hist.snocInd with
  | nil => rfl
  | append_singleton o i ih =>
    have hi := h i (List.mem_append_right _ (List.mem_singleton.2 rfl))
    rw [run_snoc, ops_snoc hi, stateL_snoc, sys_step hi, ih fun j hj => h j (List.mem_append_left _ hj)]
theorem ok_right {o : List Nat} (h : (sysOf s L).Ok o) : allRight s (opsL L o) := by
  intro x hx
  obtain ⟨i, hi, rfl⟩ := List.mem_map.1 hx
  obtain ⟨h1, h2⟩ := ok_lt h i hi
  rw [sys_may h1] at h2
  rw [List.getElem?_eq_getElem h1]
  unfold mayC at h2
  rw [Bool.and_eq_true] at h2
  exact h2.1
theorem ok_run {o : List Nat} (h : (sysOf s L).Ok o) : (sysOf s L).run o = stateL s (opsL L o) := run_state o fun i hi => (ok_lt h i hi).1
/-- As the document looks a result up: among the operations ahead of it. -/
def toldR (s : Int) (did : List OpV) (c : ClV) : Bool := decide (c.D < 0) || (decide (c.C = 0) && (c.O == okR s did c.K c.Y) && decide (c.V = valR s did c.K))
theorem told_same {did : List OpV} {c : ClV} (h : allRight s did) (hr : rightB s c.K c.Y = true) : toldC (stateL s did) c = toldR s did c := by
  obtain ⟨h1, h2⟩ := told_agree h hr
  unfold toldC toldR
  rw [h1, h2]
/-- May a call stand behind an order that stands rightly? The document's way to ask. -/
theorem fit_doc {o : List Nat} (h : (sysOf s L).Ok o) {i : Nat} (hi : i < L.length) : (sysOf s L).fit o i = (!decide (i ∈ o) && mayC s L[i] && o.all (fun j => match L[j]? with | some d => !befB L[i].D d.B | none => true) && toldR s (opsL L o) L[i]) := by
  rw [Bool.eq_iff_iff, fit_iff]
  simp only [Bool.and_eq_true, Bool.not_eq_true', decide_eq_false_iff_not, List.all_eq_true]
  rw [sys_may hi, sys_tells hi, ok_run h]
  constructor
  · rintro ⟨_, h2, h3, h4, h5⟩
    have hr : rightB s L[i].K L[i].Y = true := by
      unfold mayC at h3
      rw [Bool.and_eq_true] at h3
      exact h3.1
    refine ⟨⟨⟨h2, h3⟩, fun j hj => ?_⟩, (told_same (ok_right h) hr).symm.trans h5⟩
    have hjl := (ok_lt h j hj).1
    have hb := h4 j hj
    rw [sys_bef hi hjl] at hb
    rw [List.getElem?_eq_getElem hjl]
    simp only [hb]
    rfl
  · rintro ⟨⟨⟨h2, h3⟩, h4⟩, h5⟩
    have hr : rightB s L[i].K L[i].Y = true := by
      unfold mayC at h3
      rw [Bool.and_eq_true] at h3
      exact h3.1
    refine ⟨hi, h2, h3, fun j hj => ?_, (told_same (ok_right h) hr).trans h5⟩
    have hjl := (ok_lt h j hj).1
    have hb := h4 j hj
    rw [List.getElem?_eq_getElem hjl] at hb
    rw [sys_bef hi hjl]
    simpa using hb
theorem must_iff {c : ClV} : mustC c = true ↔ 0 ≤ c.D ∧ c.C = 0 := by simp [mustC]

/-! No two calls overlap. -/
/-- Those that were told OK, of the first k. -/
def idsOK (L : List ClV) (k : Nat) : List Nat := (List.range k).filter fun i => match L[i]? with | some c => decide (c.C = 0) | none => false
theorem idsOK_succ {k : Nat} (hk : k < L.length) : idsOK L (k + 1) = idsOK L k ++ if L[k].C = 0 then [k] else [] := by
  unfold idsOK
  rw [List.range_succ, List.filter_append, List.filter_cons, List.getElem?_eq_getElem hk]
  by_cases h : L[k].C = 0
  · simp [h]
  · simp [h]
theorem idsOK_mem {k i : Nat} (hk : k ≤ L.length) : i ∈ idsOK L k ↔ ∃ h : i < L.length, i < k ∧ L[i].C = 0 := by
  unfold idsOK
  rw [List.mem_filter, List.mem_range]
  constructor
  · rintro ⟨h1, h2⟩
    have hi : i < L.length := by omega
    rw [List.getElem?_eq_getElem hi] at h2
    exact ⟨hi, h1, by simpa using h2⟩
  · rintro ⟨h1, h2, h3⟩
    refine ⟨h2, ?_⟩
    rw [List.getElem?_eq_getElem h1]
    simpa using h3
/-- One behind the other, all ended, all right. -/
structure Line (s : Int) (L : List ClV) : Prop where
  ended : ∀ i (h : i < L.length), 0 ≤ L[i].D
  right : ∀ i (h : i < L.length), rightB s L[i].K L[i].Y = true
  bef : ∀ i j (hi : i < L.length) (hj : j < L.length), befB L[i].D L[j].B = decide (i < j)
/-- Told as the meaning has it, of the first k. -/
def toldTo (s : Int) (L : List ClV) (k : Nat) : Prop := ∀ i (h : i < L.length), i < k → L[i].C = 0 → toldC (stateL s (opsL L (idsOK L i))) L[i] = true
theorem line_ok (h : Line s L) : ∀ k, k ≤ L.length → ((sysOf s L).Ok (idsOK L k) ↔ toldTo s L k)
  | 0, _ => ⟨fun _ i _ hi => absurd hi (by omega), fun _ => ok_nil⟩
  | k + 1, hk => by
    have hkl : k < L.length := by omega
    have ih := line_ok h k (by omega)
    have key : toldTo s L (k + 1) ↔ toldTo s L k ∧ (L[k].C = 0 → toldC (stateL s (opsL L (idsOK L k))) L[k] = true) := by
      constructor
      · exact fun ht => ⟨fun i hi hik hc => ht i hi (by omega) hc, fun hc => ht k hkl (by omega) hc⟩
      · rintro ⟨h1, h2⟩ i hi hik hc
        by_cases e : i = k
        · subst e
          exact h2 hc
        · exact h1 i hi (by omega) hc
    rw [key, idsOK_succ hkl]
    by_cases hc : L[k].C = 0
    · rw [if_pos hc, ok_snoc, ih, fit_iff]
      constructor
      · rintro ⟨h1, _, _, _, _, h2⟩
        refine ⟨h1, fun _ => ?_⟩
        rwa [sys_tells hkl, run_state _ fun i hi => ((idsOK_mem (by omega)).1 hi).1] at h2
      · rintro ⟨h1, h2⟩
        refine ⟨h1, hkl, fun hm => ?_, ?_, fun j hj => ?_, ?_⟩
        · obtain ⟨_, h3, _⟩ := (idsOK_mem (by omega)).1 hm
          omega
        · rw [sys_may hkl]
          unfold mayC
          rw [h.right k hkl]
          simp [hc]
        · obtain ⟨h3, h4, _⟩ := (idsOK_mem (by omega)).1 hj
          rw [sys_bef hkl h3, h.bef k j hkl h3]
          exact decide_eq_false (by omega)
        · rw [sys_tells hkl, run_state _ fun i hi => ((idsOK_mem (by omega)).1 hi).1]
          exact h2 hc
    · rw [if_neg hc, List.append_nil, ih]
      exact ⟨fun h1 => ⟨h1, fun h2 => absurd h2 hc⟩, fun h1 => h1.1⟩
/-- Rising numbers with the same members are the same list. -/
theorem rise_same : ∀ A B : List Nat, A.Pairwise (· < ·) → B.Pairwise (· < ·) → (∀ x, x ∈ A ↔ x ∈ B) → A = B
  | [], [], _, _, _ => rfl
  | [], b :: B, _, _, h => by have := (h b).2 (List.mem_cons_self ..); simp at this
  | a :: A, [], _, _, h => by have := (h a).1 (List.mem_cons_self ..); simp at this
  | a :: A, b :: B, hA, hB, h => by
    rw [List.pairwise_cons] at hA hB
    have e : a = b := by
      rcases List.mem_cons.1 ((h a).1 (List.mem_cons_self ..)) with h1 | h1
      · exact h1
      · rcases List.mem_cons.1 ((h b).2 (List.mem_cons_self ..)) with h2 | h2
        · exact h2.symm
        · have := hA.1 b h2
          have := hB.1 a h1
          omega
    subst e
    rw [rise_same A B hA.2 hB.2 fun x => ?_]
    constructor
    · intro hx
      rcases List.mem_cons.1 ((h x).1 (List.mem_cons_of_mem _ hx)) with h1 | h1
      · have := hA.1 x hx
        omega
      · exact h1
    · intro hx
      rcases List.mem_cons.1 ((h x).2 (List.mem_cons_of_mem _ hx)) with h1 | h1
      · have := hB.1 x hx
        omega
      · exact h1
theorem ids_rise (L : List ClV) (k : Nat) : (idsOK L k).Pairwise (· < ·) := List.Pairwise.filter _ List.pairwise_lt_range
/-- Ids that stand rightly rise. -/
theorem ok_rise (h : Line s L) {o : List Nat} : (sysOf s L).Ok o → o.Pairwise (· < ·) := by
  induction o using hist.snocInd with
  | nil => intro _; exact List.Pairwise.nil
  | append_singleton o i ih =>
    intro ho
    obtain ⟨h1, h2⟩ := ok_snoc.1 ho
    obtain ⟨hi, hm, _, hb, _⟩ := fit_iff.1 h2
    rw [List.pairwise_append]
    refine ⟨ih h1, List.pairwise_singleton _ _, fun j hj k hk => ?_⟩
    rw [List.mem_singleton.1 hk]
    have hjl := (ok_lt h1 j hj).1
    have h3 := hb j hj
    rw [sys_bef hi hjl, h.bef i j hi hjl] at h3
    have h4 := of_decide_eq_false h3
    have h5 : j ≠ i := fun e => hm (e ▸ hj)
    omega
/-- There is but one order that can be legal. -/
theorem line_one (h : Line s L) {r : List Nat} (hr : (sysOf s L).Legal r) : r = idsOK L L.length := by
  refine rise_same _ _ (ok_rise h hr.1) (ids_rise _ _) fun x => ?_
  rw [idsOK_mem (Nat.le_refl _)]
  constructor
  · intro hx
    obtain ⟨h1, h2⟩ := ok_lt hr.1 x hx
    rw [sys_may h1] at h2
    unfold mayC at h2
    have := h.ended x h1
    refine ⟨h1, h1, ?_⟩
    simp only [Bool.and_eq_true, Bool.or_eq_true, decide_eq_true_eq] at h2
    omega
  · rintro ⟨h1, _, h2⟩
    exact whole_iff.1 hr.2 x h1 (by rw [sys_must h1]; exact must_iff.2 ⟨h.ended x h1, h2⟩)
theorem line_legal (h : Line s L) : (sysOf s L).Legal (idsOK L L.length) ↔ toldTo s L L.length := by
  constructor
  · exact fun hl => (line_ok h _ (Nat.le_refl _)).1 hl.1
  · refine fun ht => ⟨(line_ok h _ (Nat.le_refl _)).2 ht, whole_iff.2 fun i hi hm => ?_⟩
    rw [sys_must hi] at hm
    exact (idsOK_mem (Nat.le_refl _)).2 ⟨hi, hi, (must_iff.1 hm).2⟩
/-- Is there a legal order, where no two overlap? -/
theorem line_some (h : Line s L) : (∃ r, (sysOf s L).Legal r) ↔ toldTo s L L.length := by
  rw [← line_legal h]
  constructor
  · rintro ⟨r, hr⟩
    rwa [← line_one h hr]
  · exact fun hl => ⟨_, hl⟩
end
end Go.Proofs.YtmpilokgbblonaaGreat.lin
/- Two steps of a region that draws its order: an append whose run is known; a call by its contract. -/
namespace Go.Proofs.YtmpilokgbblonaaGreat.quiet
open Go.RowKit

section
variable {P : Program} {ops : Array Oper} {o : Oper} {a : Act} {w : World} {K : Act → World → Prop} {Q : Exit → Act → World → Prop} {E : Prop}
/-- An append of which it is known how it runs. -/
theorem step_known (hg : o.guard = none) (s x : Operand) (t : TypeId) (hop : o.op = Op.call { callee := Callee.builtin Builtin.append, args := #[s, x], argTypes := #[t, t] }) (v u v' : Value) (w' : World) (hs : a.eval s = v) (hx : a.eval x = u)
    (hrun : (Builtin.append_ #[t, t] o.type #[v, u]).run P w = .ok v' w') (hK : K (a.put o.dst v') w') : if Region.wanted o (yielded ops a.tmps) = true then Oper.wp P o a w K Q else E := by
  rw [if_pos (by simp [Region.wanted, hg])]
  unfold Oper.wp
  simp [execOp, hop, resolve, invoke, builtin, hs, hx, hrun, Result.andThen]
  exact hK
/-- A call of two arguments, by its contract. -/
theorem step_call2 (hg : o.guard = none) (f : FuncId) (s x : Operand) (t u : TypeId) (hop : o.op = Op.call { callee := Callee.value (Operand.func f), args := #[s, x], argTypes := #[t, u] }) (v y : Value) (hs : a.eval s = v) (hx : a.eval x = y) (hcf : (callFunc f #[v, y]).run P w = .ok (.enter f #[v, y]) w)
    {R : Value → World → Prop} (hc : Calls P f #[v, y] w fun e w' => ∃ r, e = .returned r ∧ R r w') (hK : ∀ r w', R r w' → K (a.put o.dst r) w') : if Region.wanted o (yielded ops a.tmps) = true then Oper.wp P o a w K Q else E := by
  rw [if_pos (by simp [Region.wanted, hg])]
  unfold Oper.wp
  simp only [go_sem] at hs hx
  simp [execOp, hop, go_sem]
  simp only [Array.getD_eq_getD_getElem?] at hs hx
  rw [hs, hx, hcf]
  show Calls P f #[v, y] w _
  refine Calls.mono hc (fun e w' he => ?_)
  obtain ⟨r, rfl, hr⟩ := he
  exact hK _ _ hr
end
end Go.Proofs.YtmpilokgbblonaaGreat.quiet
/- What a history's methods do, and tell. -/
namespace Go.Proofs.YtmpilokgbblonaaGreat.hist
open Go.RowKit

set_option maxHeartbeats 1000000 in
theorem pending_any (w : World) (X : Nat) (v : Value) (o : Nat → Nat) (l : List EvV) (h : Hat w X v o l) (t : Int) :
    Calls Tryz.prog 43 #[.pointer (some ⟨X, 0, none⟩), .int .i64 t] w fun e w' => e = .returned (.bool (decide (0 ≤ t ∧ t ≤ 7) && pendE l t)) ∧ w = w' := by
  by_cases ht : 0 ≤ t ∧ t ≤ 7
  · obtain ⟨k, rfl⟩ : ∃ k : Nat, t = k := ⟨t.toNat, by omega⟩
    have hk : k ≤ 7 := by omega
    have co := h.co hk
    rw [decide_eq_true ht, Bool.true_and, ← opens_pend h.opens hk]
    clear h ht
    have hk1 : (k : Int) < 8 := by omega
    have hk2 : (0 : Int) ≤ k := by omega
    have d1 : decide ((0 : Int) ≤ k) = true := decide_eq_true hk2
    have d2 : decide ((k : Int) < 8) = true := decide_eq_true hk1
    generalize o k = n at *
    go_enter Tryz.func43, Tryz.ntmps43
    go_wp2
    go_returns
    exact ⟨rfl, rfl⟩
  · rw [decide_eq_false ht, Bool.false_and]
    clear h
    go_enter Tryz.func43, Tryz.ntmps43
    go_wp2
    all_goals
      go_returns
      exact ⟨rfl, rfl⟩
/-- An append to a row of the call's own. -/
theorem append_row {α : Type} {f : Nat → α → List Value} {k : Nat} (hf : ∀ i a, (f i a).length = k) (w : World) (t ty e : TypeId) (i : TypeInfo) (z : Value) (bytes : Nat) (ht : Tryz.prog.underlying t = some (.slice e)) (hi : Tryz.prog.info? e = some i) (hz : i.zero = some z) (hs : i.size = k) (hb : i.bytes = bytes) (hzs : z.cells.size = k) (hk : 0 < k)
    (v : Value) (L : List α) (a : α) (h : Own f k e w v L) (p : Nat) (hp : ∀ j u, (f L.length a)[j]? = some u → w.cell? ((⟨p, 0, none⟩ : Addr).add j) = some u) (h1 : ∀ u ∈ f L.length a, u.oneCell' = true) (hm : L.length + 1 ≤ maxLen) (hby : (L.length + 1) * bytes ≤ 140737488355328) :
    ∃ v' w', (Builtin.append_ #[t, t] ty #[v, .slice (some ⟨p, 0, none⟩) 1 1]).run Tryz.prog w = .ok v' w' ∧ Own f k e w' v' (L ++ [a]) ∧ w.grownBy w' v.ownBlock ∧ (v'.ownBlock = v.ownBlock ∨ v'.ownBlock = some w.heap.size) ∧ (∃ A c, v' = .slice (some A) (L.length + 1) c) := by
  obtain ⟨v', w', h1, h2, h3, h4, h5⟩ := run_append_own_at (P := Tryz.prog) w 0 t ty e i z k bytes ht hi hz hs hb hzs hk v L.length (rowCells f L 0) h ⟨p, 0, none⟩ 1 1 (f L.length a) (by rw [hf]; omega) hp h1 hm hby (Nat.zero_le _)
  refine ⟨v', w', h1, ?_, h3, h5, ?_⟩
  · unfold Own
    rw [row_snoc, Nat.zero_add, List.length_append]
    exact h2
  · obtain ⟨_, ⟨hv, h0⟩ | ⟨g, cap, cur, hv, _⟩⟩ := h2
    · omega
    · exact ⟨_, _, hv⟩
theorem one9 (i : Nat) (c : ClV) : ∀ u ∈ cells9 i c, u.oneCell' = true := by
  intro u hu
  simp [cells9] at hu
  rcases hu with rfl | rfl | rfl | rfl | rfl | rfl | rfl | rfl | rfl <;> rfl
theorem one8 (i : Nat) (c : ClV) : ∀ u ∈ cells8 i c, u.oneCell' = true := by
  intro u hu
  simp [cells8] at hu
  rcases hu with rfl | rfl | rfl | rfl | rfl | rfl | rfl | rfl <;> rfl
theorem one7 (i : Nat) (c : EvV) : ∀ u ∈ cells7 i c, u.oneCell' = true := by
  intro u hu
  simp [cells7] at hu
  rcases hu with rfl | rfl | rfl | rfl | rfl | rfl | rfl <;> rfl
/-- What a new block has. -/
theorem new_cells (w : World) (cs : List Value) (T : TypeId) : ∀ j u, cs[j]? = some u → (w.alloc (.cells cs.toArray T)).cell? ((⟨w.heap.size, 0, none⟩ : Addr).add j) = some u := by
  intro j u hu
  rw [Addr.add_lit, Joins.cell_of_block (new_block w cs.toArray T)]
  simpa using hu
theorem Tryzinfo_call : (Tryz.prog.info? 85).map (fun i => (i.zero, i.size, i.bytes)) = some (some (.agg #[.int .i64 0, .int .i64 0, .int .i64 0, .int .i64 0, .int .i64 0, .int .i64 0, .int .i64 0, .bool false, .int .i64 0]), 9, 72) := by kernel_rfl

/-- Behind a beginning: the row has one call more, three cells are written. -/
theorem hat_begin {w w5 w6 : World} {X : Nat} {v v' : Value} {o : Nat → Nat} {l : List EvV} {n M : Nat} {k y : Int} {cur : Array Value} (h : Hat w X v o l) (hM : (callsE l).length = M) (hn : n ≤ 7) (he : errE l ⟨n, false, k, y, 0, false, 0⟩ = 0)
    (hc : w.heap[X]? = some (.cells cur 99 (0, 0))) (h6 : w6.heap[X]? = some (.cells (((cur.setIfInBounds 1 (.int .i64 ((l.length : Int) + 1))).setIfInBounds 0 v').setIfInBounds (2 + n) (.int .i64 ((M : Int) + 1))) 99 (0, 0)))
    (hr : Own cells9 9 85 w5 v' (callsE l ++ [⟨n, (l.length : Nat), -1, k, y, 0, false, 0⟩])) (hv : ∀ g, v'.ownBlock = some g → w6.heap[g]? = w5.heap[g]?) :
    Hat w6 X v' (fun s => if s = n then (callsE l).length + 1 else o s) (l ++ [⟨n, false, k, y, 0, false, 0⟩]) := by
  obtain ⟨cur', h1, h2, h3, h4, h5⟩ := h.box
  obtain rfl : cur' = cur := by
    rw [hc] at h1
    simpa using h1.symm
  refine ⟨valid_snoc.2 ⟨h.valid, he⟩, opens_begin h.opens rfl he rfl, ⟨_, h6, by simpa using h2, ?_, ?_, ?_⟩, by rw [calls_begin he rfl]; exact hr.moved hv⟩
  · rw [Array.getElem?_setIfInBounds, if_neg (by omega), Array.getElem?_setIfInBounds, if_pos rfl, if_pos (by simp; omega)]
  · rw [Array.getElem?_setIfInBounds, if_neg (by omega), Array.getElem?_setIfInBounds, if_neg (by omega), Array.getElem?_setIfInBounds, if_pos rfl, if_pos (by omega)]
    simp
  · intro s hs
    by_cases hsn : s = n
    · subst hsn
      rw [Array.getElem?_setIfInBounds, if_pos rfl, if_pos (by simp; omega), if_pos rfl, hM]
      simp
    · rw [Array.getElem?_setIfInBounds, if_neg (by omega), Array.getElem?_setIfInBounds, if_neg (by omega), Array.getElem?_setIfInBounds, if_neg (by omega), if_neg hsn]
      exact h5 s hs

end Go.Proofs.YtmpilokgbblonaaGreat.hist
/- The document's functions over events in a slice: who has one pending, what is wrong with an event; an event without what doesn't count. -/
namespace Go.Proofs.YtmpilokgbblonaaGreat.hist
open Go.RowKit

section
variable {w : World} {a : Option Addr}
/-- An event's cells, as a walk spells them. -/
theorem At.ev {L : List EvV} (h : At cells7 7 w a L) (i : Nat) (hi : i < L.length) : ∃ b, a = some b ∧ w.cell? (b.add (i * 7)) = some (.int .i64 L[i].T) ∧ w.cell? ⟨(b.add (i * 7)).block, (b.add (i * 7)).off + 1, none⟩ = some (.bool L[i].E)
    ∧ w.cell? ⟨(b.add (i * 7)).block, (b.add (i * 7)).off + 2, none⟩ = some (.int .i64 L[i].K) ∧ w.cell? ⟨(b.add (i * 7)).block, (b.add (i * 7)).off + 3, none⟩ = some (.int .i64 L[i].Y) ∧ w.cell? ⟨(b.add (i * 7)).block, (b.add (i * 7)).off + 4, none⟩ = some (.int .i64 L[i].C)
    ∧ w.cell? ⟨(b.add (i * 7)).block, (b.add (i * 7)).off + 5, none⟩ = some (.bool L[i].O) ∧ w.cell? ⟨(b.add (i * 7)).block, (b.add (i * 7)).off + 6, none⟩ = some (.int .i64 L[i].V) := by
  obtain ⟨b, hb, hc⟩ := h i hi
  exact ⟨b, hb, hc 0 _ rfl, hc 1 _ rfl, hc 2 _ rfl, hc 3 _ rfl, hc 4 _ rfl, hc 5 _ rfl, hc 6 _ rfl⟩
theorem At.cl {L : List ClV} (h : At cells8 8 w a L) (i : Nat) (hi : i < L.length) : ∃ b, a = some b ∧ w.cell? (b.add (i * 8)) = some (.int .i64 L[i].T) ∧ w.cell? ⟨(b.add (i * 8)).block, (b.add (i * 8)).off + 1, none⟩ = some (.int .i64 L[i].B)
    ∧ w.cell? ⟨(b.add (i * 8)).block, (b.add (i * 8)).off + 2, none⟩ = some (.int .i64 L[i].D) ∧ w.cell? ⟨(b.add (i * 8)).block, (b.add (i * 8)).off + 3, none⟩ = some (.int .i64 L[i].K) ∧ w.cell? ⟨(b.add (i * 8)).block, (b.add (i * 8)).off + 4, none⟩ = some (.int .i64 L[i].Y)
    ∧ w.cell? ⟨(b.add (i * 8)).block, (b.add (i * 8)).off + 5, none⟩ = some (.int .i64 L[i].C) ∧ w.cell? ⟨(b.add (i * 8)).block, (b.add (i * 8)).off + 6, none⟩ = some (.bool L[i].O) ∧ w.cell? ⟨(b.add (i * 8)).block, (b.add (i * 8)).off + 7, none⟩ = some (.int .i64 L[i].V) := by
  obtain ⟨b, hb, hc⟩ := h i hi
  exact ⟨b, hb, hc 0 _ rfl, hc 1 _ rfl, hc 2 _ rfl, hc 3 _ rfl, hc 4 _ rfl, hc 5 _ rfl, hc 6 _ rfl, hc 7 _ rfl⟩
theorem At.ca {L : List ClV} (h : At cells9 9 w a L) (i : Nat) (hi : i < L.length) : ∃ b, a = some b ∧ w.cell? (b.add (i * 9)) = some (.int .i64 L[i].B) ∧ w.cell? ⟨(b.add (i * 9)).block, (b.add (i * 9)).off + 1, none⟩ = some (.int .i64 L[i].D)
    ∧ w.cell? ⟨(b.add (i * 9)).block, (b.add (i * 9)).off + 2, none⟩ = some (.int .i64 (i : Int)) ∧ w.cell? ⟨(b.add (i * 9)).block, (b.add (i * 9)).off + 3, none⟩ = some (.int .i64 L[i].T) ∧ w.cell? ⟨(b.add (i * 9)).block, (b.add (i * 9)).off + 4, none⟩ = some (.int .i64 L[i].K)
    ∧ w.cell? ⟨(b.add (i * 9)).block, (b.add (i * 9)).off + 5, none⟩ = some (.int .i64 L[i].Y) ∧ w.cell? ⟨(b.add (i * 9)).block, (b.add (i * 9)).off + 6, none⟩ = some (.int .i64 L[i].C) ∧ w.cell? ⟨(b.add (i * 9)).block, (b.add (i * 9)).off + 7, none⟩ = some (.bool L[i].O) ∧ w.cell? ⟨(b.add (i * 9)).block, (b.add (i * 9)).off + 8, none⟩ = some (.int .i64 L[i].V) := by
  obtain ⟨b, hb, hc⟩ := h i hi
  exact ⟨b, hb, hc 0 _ rfl, hc 1 _ rfl, hc 2 _ rfl, hc 3 _ rfl, hc 4 _ rfl, hc 5 _ rfl, hc 6 _ rfl, hc 7 _ rfl, hc 8 _ rfl⟩
end

theorem pend_take {l : List EvV} {k : Nat} (hk : k < l.length) (t : Int) : pendE (l.take (k + 1)) t = if l[k].T = t then !l[k].E else pendE (l.take k) t := by
  rw [List.take_succ_eq_append_getElem hk, pend_snoc]

set_option maxHeartbeats 1000000 in
theorem pend_any (w : World) (a : Option Addr) (l : List EvV) (N cap : Nat) (hN : l.length = N) (hl : N ≤ 1000) (hx : At cells7 7 w a l) (t : Int) :
    Calls Tryz.prog 46 #[.slice a N cap, .int .i64 t] w fun e w' => e = .returned (.bool (pendE l t)) ∧ w = w' := by
  have HX := Lib.hid hx
  have HN := Lib.hid hN
  have hl0 : (N : Int) ≤ 1000 := by omega
  clear hx hN
  go_enter Tryz.func46, Tryz.ntmps46
  go_wp2
  go_loop [5] (fun i => ∃ k : Nat, k ≤ N ∧ i = .int .i64 ((k : Int) - 1) ∧ pendE l t = pendE (l.take k) t) (fun i => (intOf i + 1).toNat)
  case atStart => exact ⟨N, Nat.le_refl _, rfl, by rw [← HN.out, List.take_length]⟩
  case round =>
    obtain ⟨k, hk, rfl, hp⟩ := hrel
    have HP := Lib.hid hp
    clear hp
    by_cases h0 : 0 < k
    · obtain ⟨m, rfl⟩ : ∃ m, k = m + 1 := ⟨k - 1, by omega⟩
      have e : ((m + 1 : Nat) : Int) - 1 = (m : Int) := by omega
      rw [e]
      have hml : m < l.length := by rw [HN.out]; omega
      obtain ⟨b, rfl, c0, c1, -⟩ := HX.out.ev m hml
      have HS := Lib.hid (pend_take hml t)
      generalize l[m] = o at *
      obtain ⟨T, E, K, Y, C, O, V⟩ := o
      simp only at c0 c1
      have hm0 : (0 : Int) ≤ m := by omega
      have hm1 : (m : Int) < (N : Int) := by omega
      clear e hml
      by_cases ht : T = t
      · subst ht
        go_wp2
        go_returns
        exact ⟨by rw [HP.out, HS.out]; simp, rfl⟩
      · have hb : (T == t) = false := beq_eq_false_iff_ne.2 ht
        have HH : Hid (pendE l t = pendE (l.take m) t) := by show _ = _; rw [HP.out, HS.out]; simp [ht]
        clear ht
        go_wp2
        go_round
        case rel => exact ⟨m, by omega, by go_num, HH.out⟩
        case measure => simp [intOf]
    · obtain rfl : k = 0 := by omega
      go_wp2
      go_returns
      exact ⟨by rw [HP.out]; rfl, rfl⟩

/-- An event as an argument. -/
def evV (v : EvV) : Value := .agg #[.int .i64 v.T, .bool v.E, .int .i64 v.K, .int .i64 v.Y, .int .i64 v.C, .bool v.O, .int .i64 v.V]
set_option maxHeartbeats 1000000 in
theorem error_any (w : World) (a : Option Addr) (l : List EvV) (N cap : Nat) (hN : l.length = N) (hl : N ≤ 1000) (hx : At cells7 7 w a l) (v : EvV) :
    Calls Tryz.prog 25 #[.slice a N cap, evV v] w fun e w' => e = .returned (.int .i64 (errE l v)) ∧ Below w.heap.size w w' := by
  have HX := Lib.hid hx
  have HE : Hid (∀ E, E = v.E → errE l v = if v.T < 0 ∨ 7 < v.T then 2 else if (!E && pendE l v.T) = true then 1 else if (E && !pendE l v.T) = true then 5 else 0) := by
    intro E hE
    subst hE
    rfl
  clear hx
  generalize errE l v = x at *
  obtain ⟨T, E, K, Y, C, O, V⟩ := v
  unfold evV
  simp only at HE ⊢
  by_cases ht : T < 0 ∨ 7 < T
  · have hx := HE.out E rfl
    rw [if_pos ht] at hx
    subst hx
    clear HE
    by_cases h0 : T < 0
    · go_enter Tryz.func25, Tryz.ntmps25
      go_wp2
      go_returns
      exact ⟨rfl, by go_grown⟩
    · have h7 : (7 : Int) < T := by omega
      clear ht
      go_enter Tryz.func25, Tryz.ntmps25
      go_wp2
      go_returns
      exact ⟨rfl, by go_grown⟩
  · have hx := HE.out E rfl
    rw [if_neg ht] at hx
    have h0 : ¬ T < 0 := by omega
    have h7 : ¬ 7 < T := by omega
    have d0 : decide (T < 0) = false := decide_eq_false h0
    have d7 : decide (7 < T) = false := decide_eq_false h7
    clear HE ht
    cases hp : pendE l T <;> cases E <;> (rw [hp] at hx; simp at hx; subst hx; have HP := Lib.hid hp; clear hp; go_enter Tryz.func25, Tryz.ntmps25; go_wp2_with (go_at_call 46; go_loud (refine (pend_any _ a l N cap hN hl (HX.out.later ((Below.refl _ _).alloc (Nat.le_refl _) _)) T).mono ?_; rintro e w1 ⟨rfl, hw⟩; subst hw; rw [HP.out])); go_returns; exact ⟨rfl, by go_grown⟩)
end Go.Proofs.YtmpilokgbblonaaGreat.hist
