/- Events and calls by lists alone: who has one pending, what is wrong with an event, which calls there are; what an event more does to them. -/
import Derived.Test.YtmpilokgbblonaaRows
import Derived.WalkKit
import Derived.WalkSpells
import Derived.WalkLawsBesides
import Derived.Handy
import Derived.Lib.Hide
import Derived.Outline
import Derived.Below
namespace Go.Proofs.Ytmpilokgbblonaa.hist

theorem snocInd {α : Type} {motive : List α → Prop} (nil : motive []) (append_singleton : ∀ l a, motive l → motive (l ++ [a])) (l : List α) : motive l := by
  rw [← List.reverse_reverse l]
  induction l.reverse with
  | nil => exact nil
  | cons a l ih => rw [List.reverse_cons]; exact append_singleton _ _ ih

/-- An event: its thread; does it end something? The operation; the result. -/
structure EvV where
  T : Int
  E : Bool
  K : Int
  Y : Int
  C : Int
  O : Bool
  V : Int
/-- Without what doesn't count. -/
def bareE (v : EvV) : EvV := if v.E = true then ⟨v.T, v.E, 0, 0, v.C, v.O, v.V⟩ else ⟨v.T, v.E, v.K, v.Y, 0, false, 0⟩
theorem bare_T (v : EvV) : (bareE v).T = v.T := by unfold bareE; split <;> rfl
theorem bare_E (v : EvV) : (bareE v).E = v.E := by unfold bareE; split <;> rfl
/-- Has a thread one pending? -/
def pendE (l : List EvV) (t : Int) : Bool := l.foldl (fun b v => if v.T = t then !v.E else b) false
theorem pend_snoc (l : List EvV) (v : EvV) (t : Int) : pendE (l ++ [v]) t = if v.T = t then !v.E else pendE l t := by
  unfold pendE
  rw [List.foldl_append]
  rfl
/-- What is wrong with an event, as a number. -/
def errE (l : List EvV) (v : EvV) : Int := if v.T < 0 ∨ 7 < v.T then 2 else if (!v.E && pendE l v.T) = true then 1 else if (v.E && !pendE l v.T) = true then 5 else 0
theorem err_bare (l : List EvV) (v : EvV) : errE l (bareE v) = errE l v := by
  unfold errE
  rw [bare_T, bare_E]
theorem err_zero {l : List EvV} {v : EvV} (h : errE l v = 0) : (0 ≤ v.T ∧ v.T ≤ 7) ∧ pendE l v.T = v.E := by
  unfold errE at h
  split at h
  · omega
  · rename_i h1
    refine ⟨by omega, ?_⟩
    cases he : v.E <;> cases hp : pendE l v.T <;> simp [he, hp] at h <;> rfl
/-- Those that are taken. -/
def tookE (l : List EvV) : List EvV := l.foldl (fun t v => if errE t v = 0 then t ++ [bareE v] else t) []
theorem took_snoc (l : List EvV) (v : EvV) : tookE (l ++ [v]) = if errE (tookE l) v = 0 then tookE l ++ [bareE v] else tookE l := by
  unfold tookE
  rw [List.foldl_append]
  rfl
theorem took_len (l : List EvV) : (tookE l).length ≤ l.length := by
  induction l using snocInd with
  | nil => exact Nat.le_refl _
  | append_singleton l v ih =>
    rw [took_snoc]
    split <;> simp <;> omega
/-- Each could be taken behind those ahead of it. -/
def ValidE (l : List EvV) : Prop := ∀ (k : Nat) (v : EvV), l[k]? = some v → errE (l.take k) v = 0
theorem valid_nil : ValidE [] := fun k v h => by simp at h
theorem valid_snoc {l : List EvV} {v : EvV} : ValidE (l ++ [v]) ↔ ValidE l ∧ errE l v = 0 := by
  constructor
  · intro h
    refine ⟨fun k u hu => ?_, ?_⟩
    · have hk := (List.getElem?_eq_some_iff.1 hu).1
      have := h k u (by rw [List.getElem?_append_left hk]; exact hu)
      rwa [List.take_append_of_le_length (by omega)] at this
    · have := h l.length v (by simp)
      rwa [List.take_left] at this
  · rintro ⟨h1, h2⟩ k u hu
    by_cases hk : k < l.length
    · rw [List.getElem?_append_left hk] at hu
      rw [List.take_append_of_le_length (by omega)]
      exact h1 k u hu
    · have hl := (List.getElem?_eq_some_iff.1 hu).1
      have : k = l.length := by simp at hl; omega
      subst this
      simp at hu
      subst hu
      rw [List.take_left]
      exact h2
theorem took_valid (l : List EvV) : ValidE (tookE l) := by
  induction l using snocInd with
  | nil => exact valid_nil
  | append_singleton l v ih =>
    rw [took_snoc]
    split
    · rename_i h
      exact valid_snoc.2 ⟨ih, by rw [err_bare]; exact h⟩
    · exact ih

/-- A call: its thread; the numbers of its events (-1: it hasn't ended); the operation; the result. -/
structure ClV where
  T : Int
  B : Int
  D : Int
  K : Int
  Y : Int
  C : Int
  O : Bool
  V : Int
/-- The first event of a thread, of those from number j on. -/
def findE (t : Int) : List EvV → Nat → Option (Nat × EvV)
  | [], _ => none
  | v :: l, j => if v.T = t then some (j, v) else findE t l (j + 1)
def callOf (v : EvV) (i : Nat) : Option (Nat × EvV) → ClV
  | none => ⟨v.T, i, -1, v.K, v.Y, 0, false, 0⟩
  | some (j, u) => ⟨v.T, i, j, v.K, v.Y, u.C, u.O, u.V⟩
def callsGo : List EvV → Nat → List ClV
  | [], _ => []
  | v :: l, i => (if v.E = true then [] else [callOf v i (findE v.T l (i + 1))]) ++ callsGo l (i + 1)
/-- The calls, by definition. -/
def callsE (l : List EvV) : List ClV := callsGo l 0
/-- What an event does to a call that is pending. -/
def closeC (v : EvV) (n : Nat) (c : ClV) : ClV := if c.D < 0 ∧ c.T = v.T then ⟨c.T, c.B, n, c.K, c.Y, v.C, v.O, v.V⟩ else c
theorem close_yes {v : EvV} {n : Nat} {c : ClV} (h : c.D < 0 ∧ c.T = v.T) : closeC v n c = ⟨c.T, c.B, n, c.K, c.Y, v.C, v.O, v.V⟩ := if_pos h
theorem close_no {v : EvV} {n : Nat} {c : ClV} (h : ¬ (c.D < 0 ∧ c.T = v.T)) : closeC v n c = c := if_neg h
theorem find_snoc (t : Int) (v : EvV) : ∀ (l : List EvV) (j : Nat), findE t (l ++ [v]) j = match findE t l j with | some x => some x | none => if v.T = t then some (j + l.length, v) else none
  | [], j => by simp [findE]
  | u :: l, j => by
    rw [List.cons_append, findE, findE]
    split
    · rfl
    · rw [find_snoc t v l (j + 1), List.length_cons, show j + 1 + l.length = j + (l.length + 1) by omega]
theorem calls_go (v : EvV) : ∀ (l : List EvV) (i : Nat), callsGo (l ++ [v]) i = (callsGo l i).map (closeC v (i + l.length)) ++ if v.E = true then [] else [⟨v.T, (i + l.length : Nat), -1, v.K, v.Y, 0, false, 0⟩]
  | [], i => by
    simp [callsGo, findE, callOf]
  | u :: l, i => by
    rw [List.cons_append, callsGo, callsGo, calls_go v l (i + 1), List.map_append, List.length_cons, show i + 1 + l.length = i + (l.length + 1) by omega, List.append_assoc]
    congr 1
    by_cases hu : u.E = true
    · rw [if_pos hu, if_pos hu]
      rfl
    · rw [if_neg hu, if_neg hu, find_snoc, List.map_cons, List.map_nil]
      congr 1
      cases hf : findE u.T l (i + 1) with
      | some x =>
        obtain ⟨j, x⟩ := x
        exact (close_no (fun h => by have h1 : (j : Int) < 0 := h.1; omega)).symm
      | none =>
        by_cases ht : v.T = u.T
        · rw [close_yes (c := callOf u i none) ⟨by show (-1 : Int) < 0; omega, ht.symm⟩]
          simp only [if_pos ht]
          rw [show i + 1 + l.length = i + (l.length + 1) by omega]
          rfl
        · rw [close_no (c := callOf u i none) (fun h => ht h.2.symm)]
          simp only [if_neg ht]
/-- An event more. -/
theorem calls_snoc (l : List EvV) (v : EvV) : callsE (l ++ [v]) = (callsE l).map (closeC v l.length) ++ if v.E = true then [] else [⟨v.T, (l.length : Nat), -1, v.K, v.Y, 0, false, 0⟩] := by
  have := calls_go v l 0
  rw [Nat.zero_add] at this
  exact this
theorem close_T (v : EvV) (n : Nat) (c : ClV) : (closeC v n c).T = c.T ∧ (closeC v n c).B = c.B := by
  unfold closeC
  split <;> exact ⟨rfl, rfl⟩
theorem pend_calls (l : List EvV) : ∀ t, pendE l t = true ↔ ∃ c ∈ callsE l, c.D < 0 ∧ c.T = t := by
  induction l using snocInd with
  | nil => intro t; simp [pendE, callsE, callsGo]
  | append_singleton l v ih =>
    intro t
    rw [pend_snoc, calls_snoc]
    by_cases ht : v.T = t
    · rw [if_pos ht]
      constructor
      · intro h
        have he : ¬ v.E = true := by cases hv : v.E <;> simp [hv] at h ⊢
        rw [if_neg he]
        exact ⟨_, List.mem_append_right _ (List.mem_singleton.2 rfl), by show (-1 : Int) < 0; omega, ht⟩
      · rintro ⟨c, hc, hd, hct⟩
        rcases List.mem_append.1 hc with hc | hc
        · obtain ⟨c', hc', rfl⟩ := List.mem_map.1 hc
          rw [(close_T v l.length c').1] at hct
          unfold closeC at hd
          split at hd
          · simp at hd; omega
          · rename_i hn
            exact absurd ⟨hd, hct.trans ht.symm⟩ hn
        · split at hc
          · simp at hc
          · rename_i he
            cases hv : v.E
            · rfl
            · exact absurd hv he
    · rw [if_neg ht, ih t]
      constructor
      · rintro ⟨c, hc, hd, hct⟩
        refine ⟨closeC v l.length c, List.mem_append_left _ (List.mem_map.2 ⟨c, hc, rfl⟩), ?_, ?_⟩
        · unfold closeC
          rw [if_neg (fun h => ht (h.2.symm.trans hct))]
          exact hd
        · rw [(close_T v l.length c).1]
          exact hct
      · rintro ⟨c, hc, hd, hct⟩
        rcases List.mem_append.1 hc with hc | hc
        · obtain ⟨c', hc', rfl⟩ := List.mem_map.1 hc
          rw [(close_T v l.length c').1] at hct
          unfold closeC at hd
          split at hd
          · simp at hd; omega
          · exact ⟨c', hc', hd, hct⟩
        · split at hc
          · simp at hc
          · rw [List.mem_singleton.1 hc] at hct
            exact absurd hct ht
/-- Behind a right beginning the others are as they were. -/
theorem calls_begin {l : List EvV} {v : EvV} (h : errE l v = 0) (he : v.E = false) : callsE (l ++ [v]) = callsE l ++ [⟨v.T, (l.length : Nat), -1, v.K, v.Y, 0, false, 0⟩] := by
  rw [calls_snoc, he, if_neg (by decide)]
  congr 1
  have hp := (err_zero h).2
  rw [he] at hp
  have : ∀ c ∈ callsE l, closeC v l.length c = c := fun c hc => by
    unfold closeC
    rw [if_neg]
    intro hh
    have := (pend_calls l v.T).2 ⟨c, hc, hh⟩
    rw [hp] at this
    exact absurd this (by decide)
  exact (List.map_congr_left this).trans (List.map_id' _)
theorem calls_end {l : List EvV} {v : EvV} (he : v.E = true) : callsE (l ++ [v]) = (callsE l).map (closeC v l.length) := by
  rw [calls_snoc, if_pos he, List.append_nil]
/-- What stands behind right events. -/
structure Hold (l : List EvV) : Prop where
  order : (callsE l).Pairwise fun c d => c.T = d.T → 0 ≤ c.D ∧ c.D < d.B
  nums : ∀ c ∈ callsE l, 0 ≤ c.B ∧ c.B < l.length ∧ c.D < l.length ∧ (0 ≤ c.T ∧ c.T ≤ 7) ∧ (c.D = -1 ∨ c.B < c.D)
theorem hold_of (l : List EvV) : ValidE l → Hold l := by
  induction l using snocInd with
  | nil => intro _; exact ⟨List.Pairwise.nil, fun c hc => by simp [callsE, callsGo] at hc⟩
  | append_singleton l v ih =>
    intro h
    obtain ⟨h1, h2⟩ := valid_snoc.1 h
    obtain ⟨ho, hn⟩ := ih h1
    obtain ⟨ht, hp⟩ := err_zero h2
    have hlen : ((l ++ [v]).length : Int) = (l.length : Int) + 1 := by simp
    cases he : v.E
    · rw [he] at hp
      refine ⟨?_, ?_⟩
      · rw [calls_begin h2 he, List.pairwise_append]
        refine ⟨ho, List.pairwise_singleton _ _, fun c hc d hd hcd => ?_⟩
        rw [List.mem_singleton.1 hd] at hcd ⊢
        have := hn c hc
        refine ⟨?_, by show c.D < (l.length : Int); omega⟩
        rcases Int.lt_or_le c.D 0 with hlt | hle
        · have hq := (pend_calls l v.T).2 ⟨c, hc, hlt, hcd⟩
          rw [hp] at hq
          exact absurd hq (by decide)
        · exact hle
      · rw [calls_begin h2 he, hlen]
        intro c hc
        rcases List.mem_append.1 hc with hc | hc
        · have := hn c hc
          omega
        · rw [List.mem_singleton.1 hc]
          exact ⟨Int.natCast_nonneg _, by show (l.length : Int) < _; omega, by show (-1 : Int) < _; omega, ht, Or.inl rfl⟩
    · refine ⟨?_, ?_⟩
      · rw [calls_end he, List.pairwise_map]
        refine ho.imp fun {c d} hcd hT => ?_
        rw [(close_T v l.length c).1, (close_T v l.length d).1] at hT
        have := hcd hT
        rw [(close_T v l.length d).2]
        unfold closeC
        rw [if_neg (by omega)]
        exact this
      · rw [calls_end he, hlen]
        intro c hc
        obtain ⟨c', hc', rfl⟩ := List.mem_map.1 hc
        have := hn c' hc'
        unfold closeC
        split
        · simp only
          omega
        · omega
/-- How many are pending. -/
def pendN (L : List ClV) : Nat := (L.filter fun c => decide (c.D < 0)).length
theorem close_none (v : EvV) (n : Nat) : ∀ L : List ClV, (∀ c ∈ L, ¬ (c.D < 0 ∧ c.T = v.T)) → L.map (closeC v n) = L
  | [], _ => rfl
  | c :: L, h => by
    rw [List.map_cons, close_none v n L fun d hd => h d (List.mem_cons_of_mem _ hd)]
    congr 1
    unfold closeC
    rw [if_neg (h c (List.mem_cons_self ..))]
theorem pend_close (v : EvV) (n : Nat) : ∀ L : List ClV, (L.Pairwise fun c d => c.T = d.T → 0 ≤ c.D ∧ c.D < d.B) → (∃ c ∈ L, c.D < 0 ∧ c.T = v.T) → pendN (L.map (closeC v n)) + 1 = pendN L
  | [], _, ⟨c, hc, _⟩ => by simp at hc
  | c :: L, hp, h => by
    rw [List.pairwise_cons] at hp
    by_cases hc : c.D < 0 ∧ c.T = v.T
    · have hno : ∀ d ∈ L, ¬ (d.D < 0 ∧ d.T = v.T) := fun d hd hh => by
        have := hp.1 d hd (hc.2.trans hh.2.symm)
        omega
      rw [List.map_cons, close_none v n L hno]
      have e : closeC v n c = ⟨c.T, c.B, n, c.K, c.Y, v.C, v.O, v.V⟩ := by unfold closeC; rw [if_pos hc]
      rw [e]
      unfold pendN
      rw [List.filter_cons, List.filter_cons, if_neg (by simp), if_pos (by simpa using hc.1)]
      simp
    · have ih := pend_close v n L hp.2 (by
        obtain ⟨d, hd, hh⟩ := h
        rcases List.mem_cons.1 hd with rfl | hd
        · exact absurd hh hc
        · exact ⟨d, hd, hh⟩)
      have e : closeC v n c = c := by unfold closeC; rw [if_neg hc]
      rw [List.map_cons, e]
      unfold pendN at ih ⊢
      rw [List.filter_cons, List.filter_cons]
      split
      · simp only [List.length_cons]
        omega
      · exact ih
/-- Each call has one event, or two. -/
theorem calls_count (l : List EvV) : ValidE l → l.length + pendN (callsE l) = 2 * (callsE l).length := by
  induction l using snocInd with
  | nil => intro _; rfl
  | append_singleton l v ih =>
    intro h
    obtain ⟨h1, h2⟩ := valid_snoc.1 h
    have ih := ih h1
    obtain ⟨ht, hp⟩ := err_zero h2
    cases he : v.E
    · rw [calls_begin h2 he]
      have e : pendN (callsE l ++ [⟨v.T, (l.length : Nat), -1, v.K, v.Y, 0, false, 0⟩]) = pendN (callsE l) + 1 := by
        unfold pendN
        rw [List.filter_append, List.length_append]
        rfl
      rw [e]
      simp
      omega
    · rw [calls_end he]
      rw [he] at hp
      have := pend_close v l.length _ (hold_of l h1).order ((pend_calls l v.T).1 hp)
      simp
      omega
theorem pendN_le (L : List ClV) : pendN L ≤ L.length := List.length_filter_le _ _
theorem calls_le {l : List EvV} (h : ValidE l) : (callsE l).length ≤ l.length := by
  have h1 := calls_count l h
  have h2 := pendN_le (callsE l)
  omega
/-- What an event that is taken does. -/
def stepE (l : List EvV) (v : EvV) : List EvV := if errE l v = 0 then l ++ [bareE v] else l
theorem took_step (l : List EvV) (v : EvV) : tookE (l ++ [v]) = stepE (tookE l) v := took_snoc l v
theorem step_valid {l : List EvV} (h : ValidE l) (v : EvV) : ValidE (stepE l v) := by
  unfold stepE
  split
  · rename_i he
    exact valid_snoc.2 ⟨h, by rw [err_bare]; exact he⟩
  · exact h
theorem step_len (l : List EvV) (v : EvV) : (stepE l v).length ≤ l.length + 1 := by
  unfold stepE
  split <;> simp
theorem pend_out {l : List EvV} (h : ValidE l) {t : Int} (ht : ¬ (0 ≤ t ∧ t ≤ 7)) : pendE l t = false := by
  cases hp : pendE l t
  · rfl
  · obtain ⟨c, hc, _, hct⟩ := (pend_calls l t).1 hp
    have := ((hold_of l h).nums c hc).2.2.2.1
    omega
end Go.Proofs.Ytmpilokgbblonaa.hist
/- Each event is a call's beginning or its end; one call ahead of another one. By lists alone. -/
namespace Go.Proofs.Ytmpilokgbblonaa.hist

/-- Events without what doesn't count. -/
def BareE (l : List EvV) : Prop := ∀ v ∈ l, bareE v = v
theorem bare_bare (v : EvV) : bareE (bareE v) = bareE v := by
  obtain ⟨T, E, K, Y, C, O, V⟩ := v
  cases E <;> rfl
theorem bareL_nil : BareE [] := fun v hv => by simp at hv
theorem bareL_snoc {l : List EvV} (h : BareE l) (v : EvV) : BareE (l ++ [bareE v]) := by
  intro u hu
  rcases List.mem_append.1 hu with hu | hu
  · exact h u hu
  · rw [List.mem_singleton.1 hu]
    exact bare_bare v
theorem step_bare {l : List EvV} (h : BareE l) (v : EvV) : BareE (stepE l v) := by
  unfold stepE
  split
  · exact bareL_snoc h v
  · exact h
theorem bare_begin {v : EvV} (hb : bareE v = v) (hE : v.E = false) : v = ⟨v.T, false, v.K, v.Y, 0, false, 0⟩ := by
  obtain ⟨T, E, K, Y, C, O, V⟩ := v
  simp only at hE
  subst hE
  exact hb.symm
theorem bare_end {v : EvV} (hb : bareE v = v) (hE : v.E = true) : v = ⟨v.T, true, 0, 0, v.C, v.O, v.V⟩ := by
  obtain ⟨T, E, K, Y, C, O, V⟩ := v
  simp only at hE
  subst hE
  exact hb.symm
/-- A call's events are those that it says. -/
structure Sound (l : List EvV) (c : ClV) : Prop where
  b : ∃ p : Nat, c.B = p ∧ l[p]? = some ⟨c.T, false, c.K, c.Y, 0, false, 0⟩
  d : c.D = -1 ∨ ∃ q : Nat, c.D = q ∧ l[q]? = some ⟨c.T, true, 0, 0, c.C, c.O, c.V⟩
theorem Sound.snoc {l : List EvV} {c : ClV} (h : Sound l c) (v : EvV) : Sound (l ++ [v]) c := by
  obtain ⟨⟨p, hp, hb⟩, hd⟩ := h
  refine ⟨⟨p, hp, by rw [List.getElem?_append_left (List.getElem?_eq_some_iff.1 hb).1]; exact hb⟩, hd.imp id ?_⟩
  rintro ⟨q, hq, hb⟩
  exact ⟨q, hq, by rw [List.getElem?_append_left (List.getElem?_eq_some_iff.1 hb).1]; exact hb⟩
theorem bare_init {l : List EvV} {v : EvV} (h : BareE (l ++ [v])) : BareE l ∧ bareE v = v := ⟨fun u hu => h u (List.mem_append_left _ hu), h v (List.mem_append_right _ (List.mem_singleton.2 rfl))⟩
theorem sound_of (l : List EvV) : ValidE l → BareE l → ∀ c ∈ callsE l, Sound l c := by
  induction l using snocInd with
  | nil => intro _ _ c hc; simp [callsE, callsGo] at hc
  | append_singleton l v ih =>
    intro hV hB c hc
    obtain ⟨h1, h2⟩ := valid_snoc.1 hV
    obtain ⟨b1, b2⟩ := bare_init hB
    have ih := ih h1 b1
    cases he : v.E
    · rw [calls_begin h2 he] at hc
      rcases List.mem_append.1 hc with hc | hc
      · exact (ih c hc).snoc v
      · rw [List.mem_singleton.1 hc]
        refine ⟨⟨l.length, rfl, ?_⟩, Or.inl rfl⟩
        have hb := bare_begin b2 he
        rw [List.getElem?_append_right (Nat.le_refl _), Nat.sub_self]
        exact congrArg some hb
    · rw [calls_end he] at hc
      obtain ⟨c', hc', rfl⟩ := List.mem_map.1 hc
      by_cases hh : c'.D < 0 ∧ c'.T = v.T
      · rw [close_yes hh]
        refine ⟨((ih c' hc').snoc v).b, Or.inr ⟨l.length, rfl, ?_⟩⟩
        have hb := bare_end b2 he
        rw [List.getElem?_append_right (Nat.le_refl _), Nat.sub_self]
        show some v = some _
        rw [hh.2]
        exact congrArg some hb
      · rw [close_no hh]
        exact (ih c' hc').snoc v
/-- Each event is some call's. -/
theorem cover_of (l : List EvV) : ValidE l → ∀ (e : Nat) (v : EvV), l[e]? = some v → ∃ c ∈ callsE l, (v.E = false ∧ c.B = e) ∨ (v.E = true ∧ c.D = e) := by
  induction l using snocInd with
  | nil => intro _ e v h; simp at h
  | append_singleton l u ih =>
    intro hV e v h
    obtain ⟨h1, h2⟩ := valid_snoc.1 hV
    have ih := ih h1
    have hel := (List.getElem?_eq_some_iff.1 h).1
    rw [List.length_append] at hel
    simp only [List.length_cons, List.length_nil] at hel
    by_cases hl : e < l.length
    · rw [List.getElem?_append_left hl] at h
      obtain ⟨c, hc, hor⟩ := ih e v h
      cases he : u.E
      · exact ⟨c, by rw [calls_begin h2 he]; exact List.mem_append_left _ hc, hor⟩
      · refine ⟨closeC u l.length c, by rw [calls_end he]; exact List.mem_map.2 ⟨c, hc, rfl⟩, ?_⟩
        rcases hor with ⟨h3, h4⟩ | ⟨h3, h4⟩
        · exact Or.inl ⟨h3, by rw [(close_T u l.length c).2]; exact h4⟩
        · exact Or.inr ⟨h3, by rw [close_no (fun hh => by omega)]; exact h4⟩
    · obtain rfl : e = l.length := by omega
      rw [List.getElem?_append_right (Nat.le_refl _), Nat.sub_self] at h
      obtain rfl : u = v := by simpa using h
      cases he : u.E
      · exact ⟨_, by rw [calls_begin h2 he]; exact List.mem_append_right _ (List.mem_singleton.2 rfl), Or.inl ⟨rfl, rfl⟩⟩
      · have hp := (err_zero h2).2
        rw [he] at hp
        obtain ⟨c, hc, hh⟩ := (pend_calls l u.T).1 hp
        exact ⟨closeC u l.length c, by rw [calls_end he]; exact List.mem_map.2 ⟨c, hc, rfl⟩, Or.inr ⟨rfl, by rw [close_yes hh]⟩⟩
/-- A list that has each call's events at their places is all of them. -/
theorem all_events {l M : List EvV} (hV : ValidE l) (hl : M.length = l.length) (h : ∀ c ∈ callsE l, (∀ p : Nat, c.B = p → M[p]? = l[p]?) ∧ ∀ q : Nat, c.D = q → M[q]? = l[q]?) : M = l := by
  apply List.ext_getElem?
  intro e
  cases hv : l[e]? with
  | none => rw [List.getElem?_eq_none_iff] at hv ⊢; omega
  | some v =>
    obtain ⟨c, hc, hor⟩ := cover_of l hV e v hv
    rw [← hv]
    rcases hor with ⟨_, h1⟩ | ⟨_, h1⟩
    · exact (h c hc).1 e h1
    · exact (h c hc).2 e h1
/-- Before. -/
def befB (D B : Int) : Bool := decide (0 ≤ D ∧ D < B)
end Go.Proofs.Ytmpilokgbblonaa.hist
/- The task package's small functions, and the document's: what each call returns; nothing that was there has changed. -/
namespace Go.Proofs.Ytmpilokgbblonaa.task
open Go.RowKit

theorem bcell {W w1 : World} (hb : Below W.heap.size W w1) : (∀ b o, b < W.heap.size → w1.cell? ⟨b, o, none⟩ = W.cell? ⟨b, o, none⟩) ∧ (∀ b o, b < W.heap.size → w1.frozen? ⟨b, o, none⟩ = W.frozen? ⟨b, o, none⟩) :=
  ⟨fun b o h => hb.cell (p := ⟨b, o, none⟩) h, fun b o h => hb.frozen (p := ⟨b, o, none⟩) h⟩

theorem below_drewN {B : Nat} {a w : World} (h : Below B a w) (n : Nat) : Below B a (w.drewN n) := ⟨h.os, h.tape, h.output, h.size, h.block⟩
/-- What nothing but a call's own blocks can have changed: a world behind one, its result's block and its task's. -/
theorem past {W w w' : World} (h : Below W.heap.size W w) (hb : Below w.heap.size w w') : Below W.heap.size W w' := h.trans (hb.mono h.size)

/-- A number that an int holds. -/
def Fits (x : Int) : Prop := -9223372036854775808 ≤ x ∧ x ≤ 9223372036854775807

/-- Is a number a key? -/
def keyB (y : Int) : Bool := decide (0 ≤ y) && decide (y ≤ 999)
/-- Is an operation one of a set, and of a queue or stack? -/
def setB (k y : Int) : Bool := decide (1 ≤ k) && decide (k ≤ 3) && keyB y
def rowB (k y : Int) : Bool := (k == 4) && keyB y || (k == 5) && (y == 0)
/-- Is an operation one of a shape? -/
def rightB (s k y : Int) : Bool := if s = 1 ∨ s = 2 then setB k y else if s = 3 ∨ s = 4 then rowB k y else false

theorem right_iff (s k y : Int) : (rightB s k y = true) ↔ ((s = 1 ∨ s = 2) ∧ 1 ≤ k ∧ k ≤ 3 ∧ 0 ≤ y ∧ y ≤ 999) ∨ ((s = 3 ∨ s = 4) ∧ (k = 4 ∧ 0 ≤ y ∧ y ≤ 999 ∨ k = 5 ∧ y = 0)) := by
  unfold rightB setB rowB keyB
  split
  · simp; omega
  · split
    · simp; omega
    · simp; omega
theorem ret_bool {a b : Bool} (h : (a = true) ↔ (b = true)) : Ending.returned (.bool a) = Ending.returned (.bool b) := by rw [Bool.eq_iff_iff.2 h]

set_option maxHeartbeats 400000 in
theorem isKey_any (w : World) (y : Int) :
    Calls Try.prog 48 #[.int .i64 y] w fun e w' => e = .returned (.bool (keyB y)) ∧ Below w.heap.size w w' := by
  go_enter Try.func48, Try.ntmps48
  go_wp2
  all_goals
    go_returns
    refine ⟨?_, by go_grown⟩
    first | (simp [keyB, *]; done) | (simp [keyB, *]; omega)

set_option maxRecDepth 100000 in
set_option maxHeartbeats 1000000 in
theorem right_any (w : World) (s k y : Int) :
    Calls Try.prog 40 #[.int .i64 s, .agg #[.int .i64 k, .int .i64 y]] w fun e w' => e = .returned (.bool (rightB s k y)) ∧ Below w.heap.size w w' := by
  go_enter Try.func40, Try.ntmps40
  go_wp2_with (first | (go_at_call 48; refine (isKey_any _ _).mono ?_; rintro e w1 ⟨rfl, hb1⟩; have ho1 : Below w.heap.size w w1 := ((Below.refl _ _).alloc (Nat.le_refl _) _).trans (hb1.mono (by simp)); obtain ⟨hc1, hf1⟩ := bcell hb1; have hz1 : w.heap.size < w1.heap.size := (by have := hb1.size; simp at this; omega)))
  all_goals
    go_returns
    refine ⟨?_, by first | exact ho1 | go_grown⟩
    refine ret_bool ?_
    rw [right_iff]
    try simp only [keyB, Bool.and_eq_true, decide_eq_true_eq, beq_iff_eq, beq_eq_false_iff_ne, ne_eq, Bool.false_eq_true, true_iff, false_iff] at *
    omega

end Go.Proofs.Ytmpilokgbblonaa.task
