/- Orders of a history's calls, by a shape's meaning: as the document looks them up, and as a meaning tells them; histories in which no two calls overlap; operations done one by one. By lists alone. -/
import Derived.Test.YtmpilokgbblonaaKl01
import Derived.Test.YtmpilokgbblonaaKl03
import Derived.Test.YtmpilokgbblonaaKl04
namespace Go.Proofs.Ytmpilokgbblonaa.lin
open hist (ClV EvV befB)
open spec (OpV nextL okB valI okR valR stateL allRight stateL_snoc told_agree)
open task (rightB)

/-- May a call stand in an order of a shape? Must it? -/
def mayC (s : Int) (c : ClV) : Bool := rightB s c.K c.Y && (decide (c.D < 0) || decide (c.C = 0))
def mustC (c : ClV) : Bool := decide (0 ≤ c.D) && decide (c.C = 0)
/-- Was it told what the meaning tells? (Of a pending one: whatever.) -/
def toldC (M : List Int) (c : ClV) : Bool := decide (c.D < 0) || (decide (c.C = 0) && (c.O == okB M c.K c.Y) && decide (c.V = valI M c.K))
/-- A history's calls, for a shape. -/
def sysOf (s : Int) (L : List ClV) : Sys (List Int) where
  n := L.length
  may i := match L[i]? with | some c => mayC s c | none => false
  must i := match L[i]? with | some c => mustC c | none => false
  bef i j := match L[i]?, L[j]? with | some c, some d => befB c.D d.B | _, _ => false
  first := []
  step M i := match L[i]? with | some c => nextL s M c.K c.Y | none => M
  tells M i := match L[i]? with | some c => toldC M c | none => false
section
variable {s : Int} {L : List ClV}
theorem sys_n : (sysOf s L).n = L.length := rfl
theorem sys_may {i : Nat} (hi : i < L.length) : (sysOf s L).may i = mayC s L[i] := by
  show (match L[i]? with | some c => mayC s c | none => false) = _
  rw [List.getElem?_eq_getElem hi]
theorem sys_must {i : Nat} (hi : i < L.length) : (sysOf s L).must i = mustC L[i] := by
  show (match L[i]? with | some c => mustC c | none => false) = _
  rw [List.getElem?_eq_getElem hi]
theorem sys_bef {i j : Nat} (hi : i < L.length) (hj : j < L.length) : (sysOf s L).bef i j = befB L[i].D L[j].B := by
  show (match L[i]?, L[j]? with | some c, some d => befB c.D d.B | _, _ => false) = _
  rw [List.getElem?_eq_getElem hi, List.getElem?_eq_getElem hj]
theorem sys_step {M : List Int} {i : Nat} (hi : i < L.length) : (sysOf s L).step M i = nextL s M L[i].K L[i].Y := by
  show (match L[i]? with | some c => nextL s M c.K c.Y | none => M) = _
  rw [List.getElem?_eq_getElem hi]
theorem sys_tells {M : List Int} {i : Nat} (hi : i < L.length) : (sysOf s L).tells M i = toldC M L[i] := by
  show (match L[i]? with | some c => toldC M c | none => false) = _
  rw [List.getElem?_eq_getElem hi]
/-- The operations of calls, in an order of their numbers. -/
def opsL (L : List ClV) (o : List Nat) : List OpV := o.map fun i => match L[i]? with | some c => ⟨c.K, c.Y⟩ | none => ⟨0, 0⟩
theorem ops_snoc {o : List Nat} {i : Nat} (hi : i < L.length) : opsL L (o ++ [i]) = opsL L o ++ [⟨L[i].K, L[i].Y⟩] := by
  unfold opsL
  rw [List.map_append, List.map_cons, List.map_nil, List.getElem?_eq_getElem hi]
theorem ops_len (o : List Nat) : (opsL L o).length = o.length := by simp [opsL]
theorem run_state (o : List Nat) (h : ∀ i ∈ o, i < L.length) : (sysOf s L).run o = stateL s (opsL L o) := by
  induction o using hist.snocInd with
  | nil => rfl
  | append_singleton o i ih =>
    have hi := h i (List.mem_append_right _ (List.mem_singleton.2 rfl))
    rw [run_snoc, ops_snoc hi, stateL_snoc, sys_step hi, ih fun j hj => h j (List.mem_append_left _ hj)]
theorem ok_right {o : List Nat} (h : (sysOf s L).Ok o) : allRight s (opsL L o) := by
  intro x hx
  obtain ⟨i, hi, rfl⟩ := List.mem_map.1 hx
  obtain ⟨h1, h2⟩ := ok_lt h i hi
  rw [sys_may h1] at h2
  rw [List.getElem?_eq_getElem h1]
  unfold mayC at h2
  rw [Bool.and_eq_true] at h2
  exact h2.1
theorem ok_run {o : List Nat} (h : (sysOf s L).Ok o) : (sysOf s L).run o = stateL s (opsL L o) := run_state o fun i hi => (ok_lt h i hi).1
/-- As the document looks a result up: among the operations ahead of it. -/
def toldR (s : Int) (did : List OpV) (c : ClV) : Bool := decide (c.D < 0) || (decide (c.C = 0) && (c.O == okR s did c.K c.Y) && decide (c.V = valR s did c.K))
theorem told_same {did : List OpV} {c : ClV} (h : allRight s did) (hr : rightB s c.K c.Y = true) : toldC (stateL s did) c = toldR s did c := by
  obtain ⟨h1, h2⟩ := told_agree h hr
  unfold toldC toldR
  rw [h1, h2]
/-- May a call stand behind an order that stands rightly? The document's way to ask. -/
theorem fit_doc {o : List Nat} (h : (sysOf s L).Ok o) {i : Nat} (hi : i < L.length) : (sysOf s L).fit o i = (!decide (i ∈ o) && mayC s L[i] && o.all (fun j => match L[j]? with | some d => !befB L[i].D d.B | none => true) && toldR s (opsL L o) L[i]) := by
  rw [Bool.eq_iff_iff, fit_iff]
  simp only [Bool.and_eq_true, Bool.not_eq_true', decide_eq_false_iff_not, List.all_eq_true]
  rw [sys_may hi, sys_tells hi, ok_run h]
  constructor
  · rintro ⟨_, h2, h3, h4, h5⟩
    have hr : rightB s L[i].K L[i].Y = true := by
      unfold mayC at h3
      rw [Bool.and_eq_true] at h3
      exact h3.1
    refine ⟨⟨⟨h2, h3⟩, fun j hj => ?_⟩, (told_same (ok_right h) hr).symm.trans h5⟩
    have hjl := (ok_lt h j hj).1
    have hb := h4 j hj
    rw [sys_bef hi hjl] at hb
    rw [List.getElem?_eq_getElem hjl]
    simp only [hb]
    rfl
  · rintro ⟨⟨⟨h2, h3⟩, h4⟩, h5⟩
    have hr : rightB s L[i].K L[i].Y = true := by
      unfold mayC at h3
      rw [Bool.and_eq_true] at h3
      exact h3.1
    refine ⟨hi, h2, h3, fun j hj => ?_, (told_same (ok_right h) hr).trans h5⟩
    have hjl := (ok_lt h j hj).1
    have hb := h4 j hj
    rw [List.getElem?_eq_getElem hjl] at hb
    rw [sys_bef hi hjl]
    simpa using hb
theorem must_iff {c : ClV} : mustC c = true ↔ 0 ≤ c.D ∧ c.C = 0 := by simp [mustC]

/-! No two calls overlap. -/
/-- Those that were told OK, of the first k. -/
def idsOK (L : List ClV) (k : Nat) : List Nat := (List.range k).filter fun i => match L[i]? with | some c => decide (c.C = 0) | none => false
theorem idsOK_succ {k : Nat} (hk : k < L.length) : idsOK L (k + 1) = idsOK L k ++ if L[k].C = 0 then [k] else [] := by
  unfold idsOK
  rw [List.range_succ, List.filter_append, List.filter_cons, List.getElem?_eq_getElem hk]
  by_cases h : L[k].C = 0
  · simp [h]
  · simp [h]
theorem idsOK_mem {k i : Nat} (hk : k ≤ L.length) : i ∈ idsOK L k ↔ ∃ h : i < L.length, i < k ∧ L[i].C = 0 := by
  unfold idsOK
  rw [List.mem_filter, List.mem_range]
  constructor
  · rintro ⟨h1, h2⟩
    have hi : i < L.length := by omega
    rw [List.getElem?_eq_getElem hi] at h2
    exact ⟨hi, h1, by simpa using h2⟩
  · rintro ⟨h1, h2, h3⟩
    refine ⟨h2, ?_⟩
    rw [List.getElem?_eq_getElem h1]
    simpa using h3
/-- One behind the other, all ended, all right. -/
structure Line (s : Int) (L : List ClV) : Prop where
  ended : ∀ i (h : i < L.length), 0 ≤ L[i].D
  right : ∀ i (h : i < L.length), rightB s L[i].K L[i].Y = true
  bef : ∀ i j (hi : i < L.length) (hj : j < L.length), befB L[i].D L[j].B = decide (i < j)
/-- Told as the meaning has it, of the first k. -/
def toldTo (s : Int) (L : List ClV) (k : Nat) : Prop := ∀ i (h : i < L.length), i < k → L[i].C = 0 → toldC (stateL s (opsL L (idsOK L i))) L[i] = true
theorem line_ok (h : Line s L) : ∀ k, k ≤ L.length → ((sysOf s L).Ok (idsOK L k) ↔ toldTo s L k)
  | 0, _ => ⟨fun _ i _ hi => absurd hi (by omega), fun _ => ok_nil⟩
  | k + 1, hk => by
    have hkl : k < L.length := by omega
    have ih := line_ok h k (by omega)
    have key : toldTo s L (k + 1) ↔ toldTo s L k ∧ (L[k].C = 0 → toldC (stateL s (opsL L (idsOK L k))) L[k] = true) := by
      constructor
      · exact fun ht => ⟨fun i hi hik hc => ht i hi (by omega) hc, fun hc => ht k hkl (by omega) hc⟩
      · rintro ⟨h1, h2⟩ i hi hik hc
        by_cases e : i = k
        · subst e
          exact h2 hc
        · exact h1 i hi (by omega) hc
    rw [key, idsOK_succ hkl]
    by_cases hc : L[k].C = 0
    · rw [if_pos hc, ok_snoc, ih, fit_iff]
      constructor
      · rintro ⟨h1, _, _, _, _, h2⟩
        refine ⟨h1, fun _ => ?_⟩
        rwa [sys_tells hkl, run_state _ fun i hi => ((idsOK_mem (by omega)).1 hi).1] at h2
      · rintro ⟨h1, h2⟩
        refine ⟨h1, hkl, fun hm => ?_, ?_, fun j hj => ?_, ?_⟩
        · obtain ⟨_, h3, _⟩ := (idsOK_mem (by omega)).1 hm
          omega
        · rw [sys_may hkl]
          unfold mayC
          rw [h.right k hkl]
          simp [hc]
        · obtain ⟨h3, h4, _⟩ := (idsOK_mem (by omega)).1 hj
          rw [sys_bef hkl h3, h.bef k j hkl h3]
          exact decide_eq_false (by omega)
        · rw [sys_tells hkl, run_state _ fun i hi => ((idsOK_mem (by omega)).1 hi).1]
          exact h2 hc
    · rw [if_neg hc, List.append_nil, ih]
      exact ⟨fun h1 => ⟨h1, fun h2 => absurd h2 hc⟩, fun h1 => h1.1⟩
/-- Rising numbers with the same members are the same list. -/
theorem rise_same : ∀ A B : List Nat, A.Pairwise (· < ·) → B.Pairwise (· < ·) → (∀ x, x ∈ A ↔ x ∈ B) → A = B
  | [], [], _, _, _ => rfl
  | [], b :: B, _, _, h => by have := (h b).2 (List.mem_cons_self ..); simp at this
  | a :: A, [], _, _, h => by have := (h a).1 (List.mem_cons_self ..); simp at this
  | a :: A, b :: B, hA, hB, h => by
    rw [List.pairwise_cons] at hA hB
    have e : a = b := by
      rcases List.mem_cons.1 ((h a).1 (List.mem_cons_self ..)) with h1 | h1
      · exact h1
      · rcases List.mem_cons.1 ((h b).2 (List.mem_cons_self ..)) with h2 | h2
        · exact h2.symm
        · have := hA.1 b h2
          have := hB.1 a h1
          omega
    subst e
    rw [rise_same A B hA.2 hB.2 fun x => ?_]
    constructor
    · intro hx
      rcases List.mem_cons.1 ((h x).1 (List.mem_cons_of_mem _ hx)) with h1 | h1
      · have := hA.1 x hx
        omega
      · exact h1
    · intro hx
      rcases List.mem_cons.1 ((h x).2 (List.mem_cons_of_mem _ hx)) with h1 | h1
      · have := hB.1 x hx
        omega
      · exact h1
theorem ids_rise (L : List ClV) (k : Nat) : (idsOK L k).Pairwise (· < ·) := List.Pairwise.filter _ List.pairwise_lt_range
/-- Ids that stand rightly rise. -/
theorem ok_rise (h : Line s L) {o : List Nat} : (sysOf s L).Ok o → o.Pairwise (· < ·) := by
  induction o using hist.snocInd with
  | nil => intro _; exact List.Pairwise.nil
  | append_singleton o i ih =>
    intro ho
    obtain ⟨h1, h2⟩ := ok_snoc.1 ho
    obtain ⟨hi, hm, _, hb, _⟩ := fit_iff.1 h2
    rw [List.pairwise_append]
    refine ⟨ih h1, List.pairwise_singleton _ _, fun j hj k hk => ?_⟩
    rw [List.mem_singleton.1 hk]
    have hjl := (ok_lt h1 j hj).1
    have h3 := hb j hj
    rw [sys_bef hi hjl, h.bef i j hi hjl] at h3
    have h4 := of_decide_eq_false h3
    have h5 : j ≠ i := fun e => hm (e ▸ hj)
    omega
/-- There is but one order that can be legal. -/
theorem line_one (h : Line s L) {r : List Nat} (hr : (sysOf s L).Legal r) : r = idsOK L L.length := by
  refine rise_same _ _ (ok_rise h hr.1) (ids_rise _ _) fun x => ?_
  rw [idsOK_mem (Nat.le_refl _)]
  constructor
  · intro hx
    obtain ⟨h1, h2⟩ := ok_lt hr.1 x hx
    rw [sys_may h1] at h2
    unfold mayC at h2
    have := h.ended x h1
    refine ⟨h1, h1, ?_⟩
    simp only [Bool.and_eq_true, Bool.or_eq_true, decide_eq_true_eq] at h2
    omega
  · rintro ⟨h1, _, h2⟩
    exact whole_iff.1 hr.2 x h1 (by rw [sys_must h1]; exact must_iff.2 ⟨h.ended x h1, h2⟩)
theorem line_legal (h : Line s L) : (sysOf s L).Legal (idsOK L L.length) ↔ toldTo s L L.length := by
  constructor
  · exact fun hl => (line_ok h _ (Nat.le_refl _)).1 hl.1
  · refine fun ht => ⟨(line_ok h _ (Nat.le_refl _)).2 ht, whole_iff.2 fun i hi hm => ?_⟩
    rw [sys_must hi] at hm
    exact (idsOK_mem (Nat.le_refl _)).2 ⟨hi, hi, (must_iff.1 hm).2⟩
/-- Is there a legal order, where no two overlap? -/
theorem line_some (h : Line s L) : (∃ r, (sysOf s L).Legal r) ↔ toldTo s L L.length := by
  rw [← line_legal h]
  constructor
  · rintro ⟨r, hr⟩
    rwa [← line_one h hr]
  · exact fun hl => ⟨_, hl⟩
end
end Go.Proofs.Ytmpilokgbblonaa.lin
