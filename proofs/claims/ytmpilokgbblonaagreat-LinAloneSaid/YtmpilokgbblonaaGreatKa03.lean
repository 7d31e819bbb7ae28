/- Orders of calls by lists alone: which are legal, which is the least, what a search by any right pruning finds; what is left to do hangs on which calls are placed, and on the state, alone. -/
import Derived.Test.YtmpilokgbblonaaGreatRows
namespace Go.Proofs.YtmpilokgbblonaaGreat.lin

/-- Calls 0 to n - 1: which may stand in an order, which must, which is before which; a state, what a call does to it, and whether it tells what the call was told. -/
structure Sys (σ : Type) where
  n : Nat
  may : Nat → Bool
  must : Nat → Bool
  bef : Nat → Nat → Bool
  first : σ
  step : σ → Nat → σ
  tells : σ → Nat → Bool
section
variable {σ : Type} (S : Sys σ)
/-- The state behind an order. -/
def Sys.run (o : List Nat) : σ := o.foldl S.step S.first
/-- May a call stand behind an order? -/
def Sys.fit (o : List Nat) (i : Nat) : Bool := decide (i < S.n) && !decide (i ∈ o) && S.may i && o.all (fun j => !S.bef i j) && S.tells (S.run o) i
/-- Are all in it that must be? -/
def Sys.whole (o : List Nat) : Bool := (List.range S.n).all fun i => !S.must i || decide (i ∈ o)
/-- Each stands rightly behind those ahead of it. -/
def Sys.Ok (o : List Nat) : Prop := ∀ k i, o[k]? = some i → S.fit (o.take k) i = true
def Sys.Legal (o : List Nat) : Prop := S.Ok o ∧ S.whole o = true
variable {S}
theorem run_snoc (o : List Nat) (i : Nat) : S.run (o ++ [i]) = S.step (S.run o) i := by
  unfold Sys.run
  rw [List.foldl_append]
  rfl
theorem fit_iff {o : List Nat} {i : Nat} : S.fit o i = true ↔ i < S.n ∧ i ∉ o ∧ S.may i = true ∧ (∀ j ∈ o, S.bef i j = false) ∧ S.tells (S.run o) i = true := by
  unfold Sys.fit
  simp only [Bool.and_eq_true, decide_eq_true_eq, Bool.not_eq_true', decide_eq_false_iff_not, List.all_eq_true]
  constructor
  · rintro ⟨⟨⟨⟨h1, h2⟩, h3⟩, h4⟩, h5⟩
    exact ⟨h1, h2, h3, h4, h5⟩
  · rintro ⟨h1, h2, h3, h4, h5⟩
    exact ⟨⟨⟨⟨h1, h2⟩, h3⟩, h4⟩, h5⟩
theorem whole_iff {o : List Nat} : S.whole o = true ↔ ∀ i, i < S.n → S.must i = true → i ∈ o := by
  unfold Sys.whole
  simp only [List.all_eq_true, List.mem_range, Bool.or_eq_true, Bool.not_eq_true', decide_eq_true_eq]
  constructor
  · intro h i hi hm
    rcases h i hi with h | h
    · rw [hm] at h
      exact absurd h (by decide)
    · exact h
  · intro h i hi
    cases hm : S.must i
    · exact Or.inl rfl
    · exact Or.inr (h i hi hm)
theorem ok_nil : S.Ok [] := fun k i h => by simp at h
theorem ok_snoc {o : List Nat} {i : Nat} : S.Ok (o ++ [i]) ↔ S.Ok o ∧ S.fit o i = true := by
  constructor
  · intro h
    refine ⟨fun k j hj => ?_, ?_⟩
    · have hk := (List.getElem?_eq_some_iff.1 hj).1
      have := h k j (by rw [List.getElem?_append_left hk]; exact hj)
      rwa [List.take_append_of_le_length (by omega)] at this
    · have := h o.length i (by simp)
      rwa [List.take_left] at this
  · rintro ⟨h1, h2⟩ k j hj
    by_cases hk : k < o.length
    · rw [List.getElem?_append_left hk] at hj
      rw [List.take_append_of_le_length (by omega)]
      exact h1 k j hj
    · have hl := (List.getElem?_eq_some_iff.1 hj).1
      simp at hl
      obtain rfl : k = o.length := by omega
      obtain rfl : i = j := by simpa using hj
      rw [List.take_left]
      exact h2
theorem ok_take {o : List Nat} (h : S.Ok o) (n : Nat) : S.Ok (o.take n) := by
  intro k i hi
  have hk := (List.getElem?_eq_some_iff.1 hi).1
  rw [List.length_take] at hk
  rw [List.getElem?_take, if_pos (by omega)] at hi
  rw [List.take_take, Nat.min_eq_left (by omega)]
  exact h k i hi
theorem ok_pre {o e : List Nat} (h : S.Ok (o ++ e)) : S.Ok o := by
  have := ok_take h o.length
  rwa [List.take_left] at this
theorem ok_lt {o : List Nat} (h : S.Ok o) : ∀ i ∈ o, i < S.n ∧ S.may i = true := by
  intro i hi
  obtain ⟨k, hk⟩ := List.getElem?_of_mem hi
  obtain ⟨h1, _, h3, _⟩ := fit_iff.1 (h k i hk)
  exact ⟨h1, h3⟩
theorem ok_nodup {o : List Nat} : S.Ok o → o.Nodup := by
  induction h : o.length generalizing o with
  | zero => intro _; rw [List.eq_nil_of_length_eq_zero h]; exact List.nodup_nil
  | succ n ih =>
    intro hO
    obtain ⟨p, i, rfl⟩ : ∃ p i, o = p ++ [i] := by
      have hne : o ≠ [] := by rintro rfl; simp at h
      exact ⟨o.dropLast, o.getLast hne, (List.dropLast_concat_getLast hne).symm⟩
    obtain ⟨h1, h2⟩ := ok_snoc.1 hO
    have hp := ih (by simpa using h) h1
    rw [List.nodup_append]
    refine ⟨hp, by simp, fun a ha b hb => ?_⟩
    rw [List.mem_singleton.1 hb]
    rintro rfl
    exact (fit_iff.1 h2).2.1 ha
/-- Numbers below n, none twice: at most n. -/
theorem nodup_le : ∀ (n : Nat) (o : List Nat), o.Nodup → (∀ i ∈ o, i < n) → o.length ≤ n
  | 0, [], _, _ => Nat.le_refl _
  | 0, a :: o, _, h => absurd (h a (List.mem_cons_self ..)) (by omega)
  | n + 1, o, hd, h => by
    by_cases hn : n ∈ o
    · have h1 := nodup_le n (o.erase n) (hd.erase n) fun i hi => by
        have h2 := h i (List.mem_of_mem_erase hi)
        have h3 : i ≠ n := fun e => by subst e; exact (List.Nodup.not_mem_erase hd) hi
        omega
      rw [List.length_erase_of_mem hn] at h1
      omega
    · have := nodup_le n o hd fun i hi => by
        have h2 := h i hi
        have h3 : i ≠ n := fun e => hn (e ▸ hi)
        omega
      omega
theorem ok_len {o : List Nat} (h : S.Ok o) : o.length ≤ S.n := nodup_le S.n o (ok_nodup h) fun i hi => (ok_lt h i hi).1

/-- One order is no greater than another one. -/
def lexLe : List Nat → List Nat → Prop
  | [], _ => True
  | _ :: _, [] => False
  | a :: x, b :: y => a < b ∨ (a = b ∧ lexLe x y)
theorem lexLe_refl : ∀ o, lexLe o o
  | [] => trivial
  | _ :: o => Or.inr ⟨rfl, lexLe_refl o⟩
theorem lexLe_anti : ∀ a b, lexLe a b → lexLe b a → a = b
  | [], [], _, _ => rfl
  | [], _ :: _, _, h => h.elim
  | _ :: _, [], h, _ => h.elim
  | a :: x, b :: y, h, k => by
    rcases h with h | ⟨rfl, h⟩
    · rcases k with k | ⟨k, _⟩ <;> omega
    · rcases k with k | ⟨_, k⟩
      · omega
      · rw [lexLe_anti x y h k]
theorem lexLe_app (o : List Nat) : ∀ {a b}, lexLe a b → lexLe (o ++ a) (o ++ b) := by
  induction o with
  | nil => intro a b h; exact h
  | cons i o ih => intro a b h; exact Or.inr ⟨rfl, ih h⟩
/-- The least legal order that goes on from o. -/
structure Best (S : Sys σ) (o r : List Nat) : Prop where
  legal : S.Legal r
  from_ : o <+: r
  least : ∀ r', S.Legal r' → o <+: r' → lexLe r r'
theorem best_one {o r r' : List Nat} (h : Best S o r) (h' : Best S o r') : r = r' := lexLe_anti _ _ (h.least _ h'.legal h'.from_) (h'.least _ h.legal h.from_)
/-- What is found, or nothing. -/
def Found (S : Sys σ) (o : List Nat) : Option (List Nat) → Prop
  | some r => Best S o r
  | none => ∀ r, S.Legal r → ¬ o <+: r
theorem found_one {o : List Nat} : ∀ {x y : Option (List Nat)}, Found S o x → Found S o y → x = y
  | none, none, _, _ => rfl
  | none, some r, h, k => absurd k.from_ (h r k.legal)
  | some r, none, h, k => absurd h.from_ (k r h.legal)
  | some r, some r', h, k => by rw [best_one h k]

/-- The first answer of those from number i on. -/
def tryFrom (g : Nat → Bool) (f : Nat → Option (List Nat)) : Nat → Nat → Option (List Nat)
  | 0, _ => none
  | m + 1, i => if g i = true then (match f i with | some r => some r | none => tryFrom g f m (i + 1)) else tryFrom g f m (i + 1)
theorem try_none {g : Nat → Bool} {f : Nat → Option (List Nat)} : ∀ m i, tryFrom g f m i = none → ∀ j, i ≤ j → j < i + m → g j = true → f j = none
  | 0, i, _, j, h1, h2, _ => by omega
  | m + 1, i, h, j, h1, h2, hg => by
    unfold tryFrom at h
    by_cases hj : j = i
    · subst hj
      rw [if_pos hg] at h
      cases hf : f j with
      | none => rfl
      | some r => rw [hf] at h; simp at h
    · have h3 : tryFrom g f m (i + 1) = none := by
        split at h
        · cases hf : f i with
          | none => rw [hf] at h; exact h
          | some r => rw [hf] at h; simp at h
        · exact h
      exact try_none m (i + 1) h3 j (by omega) (by omega) hg
theorem try_some {g : Nat → Bool} {f : Nat → Option (List Nat)} {r : List Nat} : ∀ m i, tryFrom g f m i = some r → ∃ j, i ≤ j ∧ j < i + m ∧ g j = true ∧ f j = some r ∧ ∀ k, i ≤ k → k < j → g k = true → f k = none
  | 0, i, h => by simp [tryFrom] at h
  | m + 1, i, h => by
    unfold tryFrom at h
    split at h
    · rename_i hg
      cases hf : f i with
      | some r' =>
        rw [hf] at h
        exact ⟨i, Nat.le_refl _, by omega, hg, by rw [hf]; exact h, fun k h1 h2 => by omega⟩
      | none =>
        rw [hf] at h
        obtain ⟨j, h1, h2, h3, h4, h5⟩ := try_some m (i + 1) h
        refine ⟨j, by omega, by omega, h3, h4, fun k hk hkj hgk => ?_⟩
        by_cases hki : k = i
        · rw [hki]; exact hf
        · exact h5 k (by omega) hkj hgk
    · rename_i hg
      obtain ⟨j, h1, h2, h3, h4, h5⟩ := try_some m (i + 1) h
      refine ⟨j, by omega, by omega, h3, h4, fun k hk hkj hgk => ?_⟩
      by_cases hki : k = i
      · rw [hki] at hgk; exact absurd hgk hg
      · exact h5 k (by omega) hkj hgk
/-- A search, number by number, that goes on where g says. -/
def dfs (S : Sys σ) (g : List Nat → Nat → Bool) : Nat → List Nat → Option (List Nat)
  | 0, o => if S.whole o = true then some o else none
  | m + 1, o => if S.whole o = true then some o else tryFrom (g o) (fun i => dfs S g m (o ++ [i])) S.n 0
/-- The document's own. -/
def Sys.least (S : Sys σ) : Nat → List Nat → Option (List Nat) := dfs S S.fit
theorem prefix_next {o r : List Nat} (h : o <+: r) (hne : o ≠ r) : ∃ i e, r = o ++ i :: e := by
  obtain ⟨e, rfl⟩ := h
  cases e with
  | nil => exact absurd (List.append_nil o).symm hne
  | cons i e => exact ⟨i, e, rfl⟩
/-- A search by any pruning that lets all legal orders by, and keeps what stands rightly, finds the least one. -/
theorem dfs_found {g : List Nat → Nat → Bool} (hs : ∀ o i, S.Ok o → i < S.n → g o i = true → S.fit o i = true) (hc : ∀ o i e, S.Legal (o ++ i :: e) → g o i = true) : ∀ m o, S.Ok o → S.n ≤ o.length + m → Found S o (dfs S g m o) := by
  have done : ∀ o, S.Ok o → S.whole o = true → Best S o o := fun o h1 h2 => ⟨⟨h1, h2⟩, List.prefix_refl o, fun r' _ hp => by
    obtain ⟨e, rfl⟩ := hp
    have := lexLe_app o (show lexLe [] e from trivial)
    rwa [List.append_nil] at this⟩
  have more : ∀ o r, S.Legal r → o <+: r → S.whole o ≠ true → ∃ i e, r = o ++ i :: e ∧ i < S.n ∧ S.Ok (o ++ [i]) := fun o r hr hp hw => by
    have hne : o ≠ r := fun e => hw (e ▸ hr.2)
    obtain ⟨i, e, rfl⟩ := prefix_next hp hne
    have hok : S.Ok (o ++ [i]) := ok_pre (e := e) (by rw [List.append_assoc]; exact hr.1)
    exact ⟨i, e, rfl, (fit_iff.1 (ok_snoc.1 hok).2).1, hok⟩
  intro m
  induction m with
  | zero =>
    intro o ho hn
    unfold dfs
    split
    · rename_i hw
      exact done o ho hw
    · rename_i hw
      intro r hr hp
      obtain ⟨i, e, rfl, _, hok⟩ := more o r hr hp hw
      have := ok_len hok
      rw [List.length_append] at this
      simp at this
      omega
  | succ m ih =>
    intro o ho hn
    unfold dfs
    split
    · rename_i hw
      exact done o ho hw
    · rename_i hw
      have next : ∀ i, i < S.n → g o i = true → Found S (o ++ [i]) (dfs S g m (o ++ [i])) := fun i hi hg =>
        ih (o ++ [i]) (ok_snoc.2 ⟨ho, hs o i ho hi hg⟩) (by rw [List.length_append]; simp; omega)
      cases ht : tryFrom (g o) (fun i => dfs S g m (o ++ [i])) S.n 0 with
      | none =>
        intro r hr hp
        obtain ⟨i, e, rfl, hi, _⟩ := more o r hr hp hw
        have hg := hc o i e hr
        have h1 := try_none _ _ ht i (Nat.zero_le _) (by omega) hg
        have h2 := next i hi hg
        rw [h1] at h2
        exact h2 _ hr ⟨e, by rw [List.append_assoc]; rfl⟩
      | some r =>
        obtain ⟨j, _, hj, hg, hf, hb⟩ := try_some _ _ ht
        have hj' : j < S.n := by omega
        have h2 := next j hj' hg
        rw [hf] at h2
        refine ⟨h2.legal, ?_, fun r' hr' hp' => ?_⟩
        · obtain ⟨e, he⟩ := h2.from_
          exact ⟨j :: e, by rw [← he, List.append_assoc]; rfl⟩
        · obtain ⟨i, e, rfl, hi, _⟩ := more o r' hr' hp' hw
          have hgi := hc o i e hr'
          obtain ⟨e2, he2⟩ := h2.from_
          rcases Nat.lt_trichotomy i j with h3 | h3 | h3
          · have h4 := hb i (Nat.zero_le _) h3 hgi
            have h5 := next i hi hgi
            rw [h4] at h5
            exact absurd ⟨e, by rw [List.append_assoc]; rfl⟩ (h5 _ hr')
          · subst h3
            exact h2.least _ hr' ⟨e, by rw [List.append_assoc]; rfl⟩
          · rw [← he2, List.append_assoc]
            exact lexLe_app o (Or.inl h3)
/-- The document's own search finds the least one. -/
theorem least_found (m : Nat) (o : List Nat) (ho : S.Ok o) (hn : S.n ≤ o.length + m) : Found S o (S.least m o) :=
  dfs_found (fun _ _ _ _ h => h) (fun o i e h => by
    have hok : S.Ok (o ++ [i]) := ok_pre (e := e) (by rw [List.append_assoc]; exact h.1)
    exact (ok_snoc.1 hok).2) m o ho hn
/-- Any such search tells what the document's does. -/
theorem dfs_least {g : List Nat → Nat → Bool} (hs : ∀ o i, S.Ok o → i < S.n → g o i = true → S.fit o i = true) (hc : ∀ o i e, S.Legal (o ++ i :: e) → g o i = true) (m k : Nat) (o : List Nat) (ho : S.Ok o) (hn : S.n ≤ o.length + m) (hk : S.n ≤ o.length + k) : dfs S g m o = S.least k o :=
  found_one (dfs_found hs hc m o ho hn) (least_found k o ho hk)
/-- Is there a legal order? -/
theorem least_some {m : Nat} (hn : S.n ≤ m) : (S.least m []).isSome = true ↔ ∃ r, S.Legal r := by
  have h := least_found (S := S) m [] ok_nil (by simpa using hn)
  cases hr : S.least m [] with
  | none =>
    rw [hr] at h
    simp only [Option.isSome_none, Bool.false_eq_true, false_iff]
    rintro ⟨r, hl⟩
    exact h r hl (List.nil_prefix ..)
  | some r =>
    rw [hr] at h
    exact ⟨fun _ => ⟨r, h.legal⟩, fun _ => rfl⟩

/-- Two orders of the same calls that leave one state. -/
structure Like (S : Sys σ) (o p : List Nat) : Prop where
  mem : ∀ i, i ∈ o ↔ i ∈ p
  run : S.run o = S.run p
theorem Like.snoc {o p : List Nat} (h : Like S o p) (i : Nat) : Like S (o ++ [i]) (p ++ [i]) :=
  ⟨fun j => by rw [List.mem_append, List.mem_append, h.mem j], by rw [run_snoc, run_snoc, h.run]⟩
theorem Like.fit {o p : List Nat} (h : Like S o p) (i : Nat) : S.fit o i = S.fit p i := by
  rw [Bool.eq_iff_iff, fit_iff, fit_iff, h.mem i, h.run]
  constructor
  · rintro ⟨h1, h2, h3, h4, h5⟩
    exact ⟨h1, h2, h3, fun j hj => h4 j ((h.mem j).2 hj), h5⟩
  · rintro ⟨h1, h2, h3, h4, h5⟩
    exact ⟨h1, h2, h3, fun j hj => h4 j ((h.mem j).1 hj), h5⟩
theorem Like.whole {o p : List Nat} (h : Like S o p) : S.whole o = S.whole p := by
  rw [Bool.eq_iff_iff, whole_iff, whole_iff]
  exact ⟨fun k i hi hm => (h.mem i).1 (k i hi hm), fun k i hi hm => (h.mem i).2 (k i hi hm)⟩
/-- What goes on from the one goes on from the other one. -/
theorem Like.legal {o p : List Nat} (h : Like S o p) (ho : S.Ok o) (hp : S.Ok p) : ∀ e, S.Legal (o ++ e) → S.Legal (p ++ e) := by
  intro e
  induction e generalizing o p with
  | nil =>
    rw [List.append_nil, List.append_nil]
    rintro ⟨_, hw⟩
    exact ⟨hp, by rw [← h.whole]; exact hw⟩
  | cons i e ih =>
    intro hl
    have hok : S.Ok (o ++ [i]) := ok_pre (e := e) (by rw [List.append_assoc]; exact hl.1)
    have hf := (ok_snoc.1 hok).2
    have := ih (h.snoc i) hok (ok_snoc.2 ⟨hp, by rw [← h.fit]; exact hf⟩) (by rw [List.append_assoc]; exact hl)
    rwa [List.append_assoc] at this
/-- Where the one leads nowhere, the other one does, too. -/
theorem Like.vain {o p : List Nat} (h : Like S o p) (ho : S.Ok o) (hp : S.Ok p) (hv : ∀ r, S.Legal r → ¬ o <+: r) : ∀ r, S.Legal r → ¬ p <+: r := by
  rintro r hr ⟨e, rfl⟩
  exact hv _ (Like.legal ⟨fun i => (h.mem i).symm, h.run.symm⟩ hp ho e hr) ⟨e, rfl⟩
end
end Go.Proofs.YtmpilokgbblonaaGreat.lin
