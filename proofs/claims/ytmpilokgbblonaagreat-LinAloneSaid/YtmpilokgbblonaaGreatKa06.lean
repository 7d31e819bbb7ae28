/- What operations leave and tell, by lists alone; the document's answer, by lists alone; that the two agree. -/
import Derived.Test.YtmpilokgbblonaaGreatKa05
namespace Go.Proofs.YtmpilokgbblonaaGreat.spec
open Go.RowKit task

theorem snocInd {α : Type} {motive : List α → Prop} (nil : motive []) (append_singleton : ∀ l a, motive l → motive (l ++ [a])) (l : List α) : motive l := by
  rw [← List.reverse_reverse l]
  induction l.reverse with
  | nil => exact nil
  | cons a l ih => rw [List.reverse_cons]; exact append_singleton _ _ ih

/-- An operation. -/
structure OpV where
  K : Int
  Y : Int

/-- The items behind an operation. -/
def nextL (s : Int) (L : List Int) (k y : Int) : List Int :=
  if k = 1 then (if y ∈ L then L else L.filter (fun x => decide (x < y)) ++ y :: L.filter (fun x => decide (y ≤ x)))
  else if k = 2 then L.filter (fun x => decide (x ≠ y))
  else if k = 4 then (if s = 4 then y :: L else L ++ [y])
  else if k = 5 then L.tail
  else L
/-- Whether it tells Ok, and which item. -/
def okB (L : List Int) (k y : Int) : Bool := if k = 1 then !decide (y ∈ L) else if k = 4 then true else if k = 5 then !L.isEmpty else decide (y ∈ L)
def valI (L : List Int) (k : Int) : Int := if k = 5 then L.headD 0 else 0
/-- Behind some operations, all of them right ones. -/
def stateL (s : Int) (l : List OpV) : List Int := l.foldl (fun L o => nextL s L o.K o.Y) []
def allRight (s : Int) (l : List OpV) : Prop := ∀ o ∈ l, rightB s o.K o.Y = true

/-- Is a shape a set's? -/
def SetS (s : Int) : Prop := s = 1 ∨ s = 2
/-- Items as they must be. -/
structure Good (s : Int) (L : List Int) : Prop where
  rise : SetS s → L.Pairwise (· < ·)
  keys : ∀ x ∈ L, 0 ≤ x ∧ x ≤ 999
theorem Good.nil (s : Int) : Good s [] := ⟨fun _ => List.Pairwise.nil, fun _ h => by simp at h⟩

theorem right_key {s k y : Int} (h : rightB s k y = true) : 0 ≤ y ∧ y ≤ 999 := by
  rw [right_iff] at h
  omega
theorem right_set {s k y : Int} (h : rightB s k y = true) (hs : SetS s) : 1 ≤ k ∧ k ≤ 3 := by
  rw [right_iff] at h
  rcases hs with rfl | rfl <;> omega
theorem right_row {s k y : Int} (h : rightB s k y = true) (hs : ¬ SetS s) : (s = 3 ∨ s = 4) ∧ (k = 4 ∨ k = 5) := by
  rw [right_iff] at h
  unfold SetS at hs
  omega

theorem mem_ins {L : List Int} {y x : Int} : x ∈ L.filter (fun x => decide (x < y)) ++ y :: L.filter (fun x => decide (y ≤ x)) ↔ x = y ∨ x ∈ L := by
  simp only [List.mem_append, List.mem_cons, List.mem_filter, decide_eq_true_eq]
  constructor
  · rintro (⟨h, _⟩ | rfl | ⟨h, _⟩)
    · exact Or.inr h
    · exact Or.inl rfl
    · exact Or.inr h
  · rintro (rfl | h)
    · exact Or.inr (Or.inl rfl)
    · by_cases hx : x < y
      · exact Or.inl ⟨h, hx⟩
      · exact Or.inr (Or.inr ⟨h, by omega⟩)
theorem mem_tail {L : List Int} {x : Int} (h : x ∈ L.tail) : x ∈ L := by
  cases L with
  | nil => exact h
  | cons a L => exact List.mem_cons_of_mem _ h

theorem Good.next {s k y : Int} {L : List Int} (h : Good s L) (hr : rightB s k y = true) : Good s (nextL s L k y) := by
  have hk := right_key hr
  constructor
  · intro hs
    have h13 := right_set hr hs
    have hp := h.rise hs
    unfold nextL
    split
    · split
      · exact hp
      · rename_i hn
        rw [List.pairwise_append]
        refine ⟨hp.filter _, ?_, ?_⟩
        · rw [List.pairwise_cons]
          refine ⟨fun a ha => ?_, hp.filter _⟩
          simp only [List.mem_filter, decide_eq_true_eq] at ha
          rcases Int.lt_or_eq_of_le ha.2 with h2 | h2
          · exact h2
          · subst h2; exact absurd ha.1 hn
        · intro a ha b hb
          simp only [List.mem_filter, decide_eq_true_eq] at ha
          simp only [List.mem_cons, List.mem_filter, decide_eq_true_eq] at hb
          rcases hb with rfl | hb
          · exact ha.2
          · omega
    · split
      · exact hp.filter _
      · rw [if_neg (by omega), if_neg (by omega)]
        exact hp
  · intro x hx
    unfold nextL at hx
    split at hx
    · split at hx
      · exact h.keys x hx
      · rcases mem_ins.1 hx with rfl | hx
        · exact hk
        · exact h.keys x hx
    · split at hx
      · exact h.keys x (List.mem_filter.1 hx).1
      · split at hx
        · split at hx
          · rcases List.mem_cons.1 hx with rfl | hx
            · exact hk
            · exact h.keys x hx
          · rcases List.mem_append.1 hx with hx | hx
            · exact h.keys x hx
            · rw [List.mem_singleton.1 hx]; exact hk
        · split at hx
          · exact h.keys x (mem_tail hx)
          · exact h.keys x hx

theorem stateL_snoc (s : Int) (l : List OpV) (o : OpV) : stateL s (l ++ [o]) = nextL s (stateL s l) o.K o.Y := by
  unfold stateL
  rw [List.foldl_append]
  rfl
theorem good_state (s : Int) : ∀ l : List OpV, allRight s l → Good s (stateL s l) := by
  intro l
  induction l using snocInd with
  | nil => intro _; exact Good.nil s
  | append_singleton l o ih =>
    intro h
    rw [stateL_snoc]
    exact (ih fun o' ho => h o' (List.mem_append_left _ ho)).next (h o (by simp))

/-! ## The document's answer. -/
def inStep (x : Int) (b : Bool) (o : OpV) : Bool := if o.Y = x ∧ o.K = 1 then true else if o.Y = x ∧ o.K = 2 then false else b
def inB (l : List OpV) (x : Int) : Bool := l.foldl (inStep x) false
theorem inB_snoc (l : List OpV) (o : OpV) (x : Int) : inB (l ++ [o]) x = inStep x (inB l x) o := by
  unfold inB
  rw [List.foldl_append]
  rfl
def manyStep (n : Nat) (o : OpV) : Nat := if o.K = 4 then n + 1 else n - 1
def many (l : List OpV) : Nat := l.foldl manyStep 0
theorem many_snoc (l : List OpV) (o : OpV) : many (l ++ [o]) = manyStep (many l) o := by
  unfold many
  rw [List.foldl_append]
  rfl
theorem many_le (l : List OpV) : many l ≤ l.length := by
  induction l using snocInd with
  | nil => exact Nat.le_refl _
  | append_singleton l o ih =>
    rw [many_snoc, List.length_append]
    unfold manyStep
    split <;> simp <;> omega
def putsL (l : List OpV) : List Int := (l.filter fun o => decide (o.K = 4)).map OpV.Y
theorem putsL_snoc (l : List OpV) (o : OpV) : putsL (l ++ [o]) = putsL l ++ if o.K = 4 then [o.Y] else [] := by
  unfold putsL
  rw [List.filter_append, List.map_append]
  by_cases h : o.K = 4 <;> simp [h]
theorem many_puts (l : List OpV) : many l ≤ (putsL l).length := by
  induction l using snocInd with
  | nil => exact Nat.le_refl _
  | append_singleton l o ih =>
    rw [many_snoc, putsL_snoc, List.length_append]
    unfold manyStep
    split <;> simp <;> omega
def lineL (l : List OpV) : List Int := (putsL l).drop ((putsL l).length - many l)
theorem lineL_len (l : List OpV) : (lineL l).length = many l := by
  unfold lineL
  rw [List.length_drop]
  have := many_puts l
  omega
theorem lineL_snoc (l : List OpV) (o : OpV) : lineL (l ++ [o]) = if o.K = 4 then lineL l ++ [o.Y] else (lineL l).tail := by
  have h := many_puts l
  have hl := lineL_len l
  unfold lineL at *
  rw [many_snoc, putsL_snoc]
  unfold manyStep
  by_cases hk : o.K = 4
  · rw [if_pos hk, if_pos hk, if_pos hk, List.length_append, List.length_singleton, show (putsL l).length + 1 - (many l + 1) = (putsL l).length - many l by omega, List.drop_append_of_le_length (by omega)]
  · rw [if_neg hk, if_neg hk, if_neg hk, List.append_nil]
    by_cases h0 : many l = 0
    · rw [h0] at hl ⊢
      have e1 := List.eq_nil_of_length_eq_zero hl
      simp only [Nat.zero_sub]
      rw [e1]
      rfl
    · rw [List.tail_drop, show (putsL l).length - (many l - 1) = (putsL l).length - many l + 1 by omega]
/-- A stack's items: from the last of the first i operations back, n of them wanted. -/
def pileGo (l : List OpV) : Nat → Nat → List Int
  | 0, _ => []
  | i + 1, n => if n = 0 then [] else
    match l[i]? with
    | none => []
    | some o => if o.K = 4 ∧ many (l.take i) = n - 1 then o.Y :: pileGo l i (n - 1) else pileGo l i n
def pileL (l : List OpV) : List Int := pileGo l l.length (many l)
theorem pileGo_zero (l : List OpV) (i : Nat) : pileGo l i 0 = [] := by
  cases i <;> simp [pileGo]
theorem pileGo_more (l : List OpV) (o : OpV) : ∀ i n, i ≤ l.length → pileGo (l ++ [o]) i n = pileGo l i n
  | 0, n, _ => rfl
  | i + 1, n, h => by
    unfold pileGo
    rw [List.getElem?_append_left (by omega), List.take_append_of_le_length (by omega), pileGo_more l o i _ (by omega), pileGo_more l o i _ (by omega)]
/-- What a stack has behind right operations: the bottom of it. -/
theorem pile_bottom (l : List OpV) : allRight 4 l → (stateL 4 l).length = many l ∧ ∀ n, n ≤ many l → pileGo l l.length n = (stateL 4 l).drop (many l - n) := by
  induction l using snocInd with
  | nil => intro _; exact ⟨rfl, fun n hn => by
    have h0 : n = 0 := Nat.le_zero.1 hn
    subst h0
    rfl⟩
  | append_singleton l o ih =>
    intro h
    obtain ⟨hl, hb⟩ := ih fun o' ho => h o' (List.mem_append_left _ ho)
    have hr := (right_row (h o (by simp)) (by unfold SetS; omega)).2
    have hlen : (l ++ [o]).length = l.length + 1 := by simp
    have hget : (l ++ [o])[l.length]? = some o := by simp
    have htk : (l ++ [o]).take l.length = l := by simp
    rw [stateL_snoc, many_snoc, hlen]
    unfold manyStep nextL
    by_cases hk : o.K = 4
    · rw [if_neg (show ¬ o.K = 1 by omega), if_neg (show ¬ o.K = 2 by omega), if_pos hk, if_pos rfl, if_pos hk]
      refine ⟨by simp [hl], fun n hn => ?_⟩
      unfold pileGo
      rw [hget, htk]
      by_cases h0 : n = 0
      · subst h0
        rw [if_pos rfl, List.drop_eq_nil_of_le (by simp; omega)]
      · rw [if_neg h0]
        simp only [hk, true_and]
        by_cases he : many l = n - 1
        · rw [if_pos he, pileGo_more l o _ _ (Nat.le_refl _), hb _ (by omega), show many l + 1 - n = 0 by omega, show many l - (n - 1) = 0 by omega]
          rfl
        · rw [if_neg he, pileGo_more l o _ _ (Nat.le_refl _), hb _ (by omega), show many l + 1 - n = (many l - n) + 1 by omega]
          rfl
    · have h5 : o.K = 5 := by omega
      rw [if_neg (show ¬ o.K = 1 by omega), if_neg (show ¬ o.K = 2 by omega), if_neg hk, if_pos h5, if_neg hk]
      refine ⟨by simp [hl], fun n hn => ?_⟩
      unfold pileGo
      rw [hget]
      by_cases h0 : n = 0
      · subst h0
        rw [if_pos rfl, List.drop_eq_nil_of_le (by simp; omega)]
      · rw [if_neg h0]
        simp only [hk, false_and, if_false]
        rw [pileGo_more l o _ _ (Nat.le_refl _), hb _ (by omega), List.drop_tail, show many l - 1 - n + 1 = many l - n by omega]

/-- A set's items. -/
def keysTo (l : List OpV) (n : Nat) : List Int := ((List.range n).map Int.ofNat).filter fun x => inB l x
def keysL (l : List OpV) : List Int := keysTo l 1000
theorem keysTo_succ (l : List OpV) (n : Nat) : keysTo l (n + 1) = keysTo l n ++ if inB l (n : Int) = true then [(n : Int)] else [] := by
  unfold keysTo
  rw [List.range_succ, List.map_append, List.filter_append]
  by_cases h : inB l (n : Int) = true
  · rw [if_pos h]
    simp [h]
  · rw [if_neg h]
    simp [h]
theorem keysTo_len (l : List OpV) (n : Nat) : (keysTo l n).length ≤ n := by
  unfold keysTo
  exact Nat.le_trans (List.length_filter_le _ _) (by simp)
theorem keysTo_rise (l : List OpV) : ∀ n, (keysTo l n).Pairwise (· < ·) ∧ ∀ x ∈ keysTo l n, x < n
  | 0 => ⟨List.Pairwise.nil, fun x h => by simp [keysTo] at h⟩
  | n + 1 => by
    obtain ⟨h1, h2⟩ := keysTo_rise l n
    rw [keysTo_succ]
    constructor
    · rw [List.pairwise_append]
      refine ⟨h1, by split <;> simp, fun a ha b hb => ?_⟩
      split at hb
      · rw [List.mem_singleton.1 hb]; exact h2 a ha
      · simp at hb
    · intro x hx
      rcases List.mem_append.1 hx with hx | hx
      · have := h2 x hx
        omega
      · split at hx
        · rw [List.mem_singleton.1 hx]; omega
        · simp at hx
theorem keysL_mem (l : List OpV) (x : Int) : x ∈ keysL l ↔ (0 ≤ x ∧ x ≤ 999) ∧ inB l x = true := by
  unfold keysL keysTo
  simp only [List.mem_filter, List.mem_map, List.mem_range]
  constructor
  · rintro ⟨⟨a, ha, rfl⟩, h⟩
    exact ⟨⟨Int.natCast_nonneg a, by show (a : Int) ≤ 999; omega⟩, h⟩
  · rintro ⟨⟨h0, h1⟩, h⟩
    exact ⟨⟨x.toNat, by omega, by show (x.toNat : Int) = x; omega⟩, h⟩
theorem rise_ext : ∀ A B : List Int, A.Pairwise (· < ·) → B.Pairwise (· < ·) → (∀ x, x ∈ A ↔ x ∈ B) → A = B
  | [], [], _, _, _ => rfl
  | [], b :: B, _, _, h => by have := (h b).2 (by simp); simp at this
  | a :: A, [], _, _, h => by have := (h a).1 (by simp); simp at this
  | a :: A, b :: B, hA, hB, h => by
    rw [List.pairwise_cons] at hA hB
    have e : a = b := by
      rcases List.mem_cons.1 ((h a).1 (by simp)) with e | e
      · exact e
      · rcases List.mem_cons.1 ((h b).2 (by simp)) with e' | e'
        · exact e'.symm
        · have := hA.1 b e'
          have := hB.1 a e
          omega
    subst e
    rw [rise_ext A B hA.2 hB.2 fun x => ?_]
    constructor
    · intro hx
      rcases List.mem_cons.1 ((h x).1 (List.mem_cons_of_mem _ hx)) with e | e
      · subst e; have := hA.1 x hx; omega
      · exact e
    · intro hx
      rcases List.mem_cons.1 ((h x).2 (List.mem_cons_of_mem _ hx)) with e | e
      · subst e; have := hB.1 x hx; omega
      · exact e
theorem set_mem {s : Int} (hs : SetS s) (l : List OpV) : allRight s l → ∀ x, x ∈ stateL s l ↔ inB l x = true := by
  induction l using snocInd with
  | nil => intro _ x; simp [stateL, inB]
  | append_singleton l o ih =>
    intro h x
    have ih := ih (fun o' ho => h o' (List.mem_append_left _ ho)) x
    have hk := right_set (h o (by simp)) hs
    rw [stateL_snoc, inB_snoc]
    unfold nextL inStep
    by_cases h1 : o.K = 1
    · have hi : x ∈ (if o.Y ∈ stateL s l then stateL s l else (stateL s l).filter (fun x => decide (x < o.Y)) ++ o.Y :: (stateL s l).filter (fun x => decide (o.Y ≤ x))) ↔ x = o.Y ∨ x ∈ stateL s l := by
        by_cases hm : o.Y ∈ stateL s l
        · rw [if_pos hm]
          exact ⟨Or.inr, fun h => h.elim (fun e => e ▸ hm) id⟩
        · rw [if_neg hm]
          exact mem_ins
      rw [if_pos h1, hi]
      by_cases hy : o.Y = x
      · rw [if_pos ⟨hy, h1⟩]
        exact ⟨fun _ => rfl, fun _ => Or.inl hy.symm⟩
      · rw [if_neg (fun (e : o.Y = x ∧ o.K = 1) => hy e.1), if_neg (fun (e : o.Y = x ∧ o.K = 2) => hy e.1), ← ih]
        exact ⟨fun e => e.elim (fun e => absurd e.symm hy) id, Or.inr⟩
    · rw [if_neg h1, if_neg (fun (e : o.Y = x ∧ o.K = 1) => h1 e.2)]
      by_cases h2 : o.K = 2
      · rw [if_pos h2, List.mem_filter, ih]
        by_cases hy : o.Y = x
        · rw [if_pos ⟨hy, h2⟩]
          simp [hy]
        · rw [if_neg (fun (e : o.Y = x ∧ o.K = 2) => hy e.1)]
          simp
          intro _ e
          exact hy e.symm
      · rw [if_neg h2, if_neg (show ¬ o.K = 4 by omega), if_neg (show ¬ o.K = 5 by omega), if_neg (fun (e : o.Y = x ∧ o.K = 2) => h2 e.2)]
        exact ih
/-- The document's items, its Ok, its value. -/
def itemsR (s : Int) (l : List OpV) : List Int := if s = 3 then lineL l else if s = 4 then pileL l else keysL l
def okR (s : Int) (l : List OpV) (k y : Int) : Bool := if k = 1 then !inB l y else if k = 2 ∨ k = 3 then inB l y else if k = 4 then true else !(itemsR s l).isEmpty
def valR (s : Int) (l : List OpV) (k : Int) : Int := if k = 5 then (itemsR s l).headD 0 else 0

theorem items_agree {s : Int} {l : List OpV} (hs : 1 ≤ s ∧ s ≤ 4) (h : allRight s l) : stateL s l = itemsR s l := by
  unfold itemsR
  by_cases h3 : s = 3
  · rw [if_pos h3]
    subst h3
    induction l using snocInd with
    | nil => rfl
    | append_singleton l o ih =>
      have hr := (right_row (h o (by simp)) (by unfold SetS; omega)).2
      rw [stateL_snoc, ih (fun o' ho => h o' (List.mem_append_left _ ho)), lineL_snoc]
      unfold nextL
      by_cases hk : o.K = 4
      · rw [if_neg (by omega), if_neg (by omega), if_pos hk, if_neg (by decide), if_pos hk]
      · rw [if_neg (by omega), if_neg (by omega), if_neg hk, if_pos (by omega), if_neg hk]
  · rw [if_neg h3]
    by_cases h4 : s = 4
    · rw [if_pos h4]
      subst h4
      obtain ⟨hl, hb⟩ := pile_bottom l h
      unfold pileL
      rw [hb _ (Nat.le_refl _), Nat.sub_self]
      rfl
    · rw [if_neg h4]
      have hset : SetS s := by unfold SetS; omega
      have hg := good_state s l h
      refine rise_ext _ _ (hg.rise hset) (keysTo_rise l 1000).1 fun x => ?_
      rw [keysL_mem, ← set_mem hset l h]
      exact ⟨fun hx => ⟨hg.keys x hx, hx⟩, fun hx => hx.2⟩
theorem told_agree {s k y : Int} {l : List OpV} (h : allRight s l) (hr : rightB s k y = true) : okB (stateL s l) k y = okR s l k y ∧ valI (stateL s l) k = valR s l k := by
  have hs : 1 ≤ s ∧ s ≤ 4 := by rw [right_iff] at hr; omega
  have he := items_agree hs h
  unfold okB okR valI valR
  rw [← he]
  refine ⟨?_, rfl⟩
  by_cases hset : SetS s
  · have hk := right_set hr hset
    have hm : decide (y ∈ stateL s l) = inB l y := by
      rw [Bool.eq_iff_iff, decide_eq_true_eq]
      exact set_mem hset l h y
    by_cases h1 : k = 1
    · rw [if_pos h1, if_pos h1, hm]
    · rw [if_neg h1, if_neg h1, if_neg (by omega), if_neg (by omega), if_pos (by omega), hm]
  · have hk := (right_row hr hset).2
    by_cases h4 : k = 4
    · rw [if_neg (by omega), if_pos h4, if_neg (by omega), if_neg (by omega), if_pos h4]
    · rw [if_neg (by omega), if_neg h4, if_pos (by omega), if_neg (by omega), if_neg (by omega), if_neg h4]
/-- How many items there are more, or fewer. -/
theorem next_len {s k y : Int} {L : List Int} (hg : Good s L) (hr : rightB s k y = true) :
    ((nextL s L k y).length : Int) = L.length + if okB L k y = true then (if k = 1 ∨ k = 4 then 1 else if k = 2 ∨ k = 5 then -1 else 0) else 0 := by
  have part : ∀ M : List Int, (M.filter (fun x => decide (x < y))).length + (M.filter (fun x => decide (y ≤ x))).length = M.length := by
    intro M
    induction M with
    | nil => rfl
    | cons a M ih =>
      by_cases h : a < y
      · have h2 : ¬ y ≤ a := by omega
        simp [h, h2]
        omega
      · have h2 : y ≤ a := by omega
        simp [h, h2]
        omega
  have one : ∀ M : List Int, M.Pairwise (· < ·) → (M.filter (fun x => decide (x ≠ y))).length + (if y ∈ M then 1 else 0) = M.length := by
    intro M
    induction M with
    | nil => intro _; rfl
    | cons a M ih =>
      intro hp
      rw [List.pairwise_cons] at hp
      have ih := ih hp.2
      by_cases h : a = y
      · subst h
        have hn : a ∉ M := fun hm => by have := hp.1 a hm; omega
        rw [if_neg hn] at ih
        simp at ih ⊢
        exact ih
      · have h3 : (y ∈ a :: M) ↔ y ∈ M := by
          simp
          intro e
          exact absurd e.symm h
        simp only [h3]
        simp [h] at ih ⊢
        omega
  unfold nextL okB
  by_cases h1 : k = 1
  · rw [if_pos h1, if_pos h1]
    by_cases hm : y ∈ L
    · simp [hm]
    · have := part L
      simp [hm, h1]
      omega
  · rw [if_neg h1, if_neg h1]
    by_cases h2 : k = 2
    · have hset : SetS s := Classical.byContradiction fun h => by have := (right_row hr h).2; omega
      have := one L (hg.rise hset)
      rw [if_pos h2, if_neg (show ¬ k = 4 by omega), if_neg (show ¬ k = 5 by omega)]
      by_cases hm : y ∈ L
      · rw [if_pos hm] at this
        rw [if_pos (show decide (y ∈ L) = true by simpa using hm), if_neg (show ¬ (k = 1 ∨ k = 4) by omega), if_pos (Or.inl h2)]
        omega
      · rw [if_neg hm] at this
        rw [if_neg (show ¬ decide (y ∈ L) = true by simpa using hm)]
        omega
    · rw [if_neg h2]
      by_cases h4 : k = 4
      · rw [if_pos h4, if_pos h4, if_pos rfl, if_pos (Or.inr h4)]
        split <;> simp
      · rw [if_neg h4, if_neg h4]
        by_cases h5 : k = 5
        · rw [if_pos h5, if_pos h5]
          cases L with
          | nil => simp
          | cons a L =>
            rw [if_pos (show (!(a :: L).isEmpty) = true by rfl), if_neg (show ¬ (k = 1 ∨ k = 4) by omega), if_pos (Or.inr h5)]
            simp
            omega
        · rw [if_neg h5, if_neg h5, if_neg (show ¬ (k = 1 ∨ k = 4) by omega), if_neg (show ¬ (k = 2 ∨ k = 5) by omega)]
          split <;> simp
theorem next_le (s k y : Int) (L : List Int) : (nextL s L k y).length ≤ L.length + 1 := by
  have hf : ∀ p : Int → Bool, (L.filter p).length ≤ L.length := fun p => List.length_filter_le _ _
  have part : ∀ M : List Int, (M.filter (fun x => decide (x < y))).length + (M.filter (fun x => decide (y ≤ x))).length = M.length := by
    intro M
    induction M with
    | nil => rfl
    | cons a M ih =>
      by_cases h : a < y
      · have h2 : ¬ y ≤ a := by omega
        simp [h, h2]
        omega
      · have h2 : y ≤ a := by omega
        simp [h, h2]
        omega
  unfold nextL
  split
  · split
    · omega
    · have := part L
      simp
      omega
  · split
    · have := hf (fun x => decide (x ≠ y))
      omega
    · split
      · split <;> simp
      · split
        · simp; omega
        · omega
end Go.Proofs.YtmpilokgbblonaaGreat.spec
