/- Orders by which calls stand in them: what can be next, what goes on from there; a queue's search, take by take. By lists alone. -/
import Derived.Test.YtmpilokgbblonaaGreatKa03
import Derived.WalkKit
import Derived.WalkSpells
import Derived.WalkLawsBesides
import Derived.Handy
import Derived.Lib.Hide
import Derived.Outline
import Derived.Below
import Derived.Laws.BitsAllLaws
namespace Go.Proofs.YtmpilokgbblonaaGreat.lin

/-- A group of calls, and one more. -/
def withG (g i : Nat) : Nat := g ||| 2 ^ i
theorem bit_with (g i j : Nat) : (withG g i).testBit j = (g.testBit j || decide (i = j)) := by
  unfold withG
  rw [Nat.testBit_or, Nat.testBit_two_pow]
theorem bit_same (g i : Nat) : (withG g i).testBit i = true := by rw [bit_with]; simp
theorem bit_more {g i j : Nat} (h : g.testBit j = true) : (withG g i).testBit j = true := by rw [bit_with, h]; rfl
theorem bit_other {g i j : Nat} (h : i ≠ j) : (withG g i).testBit j = g.testBit j := by rw [bit_with]; simp [h]
theorem with_comm (g i j : Nat) : withG (withG g i) j = withG (withG g j) i := by
  unfold withG
  rw [Nat.or_assoc, Nat.or_comm (2 ^ i), ← Nat.or_assoc]
/-- The group of an order's calls. -/
def maskL (o : List Nat) : Nat := o.foldl withG 0
theorem mask_snoc (o : List Nat) (i : Nat) : maskL (o ++ [i]) = withG (maskL o) i := by
  unfold maskL
  rw [List.foldl_append]
  rfl
theorem snocInd' {motive : List Nat → Prop} (nil : motive []) (snoc : ∀ o i, motive o → motive (o ++ [i])) : ∀ o, motive o := by
  intro o
  generalize h : o.length = n
  induction n generalizing o with
  | zero => rw [List.eq_nil_of_length_eq_zero h]; exact nil
  | succ n ih =>
    have hne : o ≠ [] := by rintro rfl; simp at h
    rw [← List.dropLast_concat_getLast hne]
    exact snoc _ _ (ih _ (by simp [h]))
theorem mask_bit (o : List Nat) (i : Nat) : (maskL o).testBit i = true ↔ i ∈ o := by
  induction o using snocInd' with
  | nil => simp [maskL]
  | snoc o j ih => rw [mask_snoc, bit_with, Bool.or_eq_true, ih, List.mem_append, List.mem_singleton, decide_eq_true_eq, eq_comm (a := j)]
section
variable {σ : Type} (S : Sys σ)
/-- With each call all stand that have to stand ahead of it. -/
def Closed (g : Nat) : Prop := ∀ j k, g.testBit j = true → k < S.n → S.must k = true → S.bef k j = true → g.testBit k = true
/-- Can a call be next, whatever it is told? -/
structure Free (g i : Nat) : Prop where
  lt : i < S.n
  new : g.testBit i = false
  may : S.may i = true
  ahead : ∀ k, k < S.n → S.must k = true → S.bef k i = true → g.testBit k = true
/-- Calls that can come, one behind the other, till all stand that must. -/
def Goes : Nat → σ → List Nat → Prop
  | g, _, [] => ∀ i, i < S.n → S.must i = true → g.testBit i = true
  | g, M, i :: cs => Free S g i ∧ S.tells M i = true ∧ Goes (withG g i) (S.step M i) cs
variable {S}
theorem closed_nil : Closed S 0 := fun j k h => by simp at h
theorem Closed.next {g i : Nat} (h : Closed S g) (hf : Free S g i) : Closed S (withG g i) := by
  intro j k hj hk hm hb
  by_cases e : i = j
  · subst e
    exact bit_more (hf.ahead k hk hm hb)
  · rw [bit_other e] at hj
    exact bit_more (h j k hj hk hm hb)
theorem goes_new : ∀ {cs : List Nat} {g : Nat} {M : σ}, Goes S g M cs → ∀ k ∈ cs, g.testBit k = false
  | i :: cs, g, M, h, k, hk => by
    rcases List.mem_cons.1 hk with rfl | hk
    · exact h.1.new
    · have := goes_new h.2.2 k hk
      by_cases e : i = k
      · subst e; rw [bit_same] at this; exact absurd this (by decide)
      · rwa [bit_other e] at this
theorem goes_must : ∀ {cs : List Nat} {g : Nat} {M : σ}, Goes S g M cs → ∀ k, k < S.n → S.must k = true → g.testBit k = true ∨ k ∈ cs
  | [], g, M, h, k, hk, hm => Or.inl (h k hk hm)
  | i :: cs, g, M, h, k, hk, hm => by
    rcases goes_must h.2.2 k hk hm with h1 | h1
    · by_cases e : i = k
      · exact Or.inr (e ▸ List.mem_cons_self ..)
      · rw [bit_other e] at h1
        exact Or.inl h1
    · exact Or.inr (List.mem_cons_of_mem _ h1)
theorem goes_lt : ∀ {cs : List Nat} {g : Nat} {M : σ}, Goes S g M cs → ∀ k ∈ cs, k < S.n ∧ S.may k = true
  | i :: cs, g, M, h, k, hk => by
    rcases List.mem_cons.1 hk with rfl | hk
    · exact ⟨h.1.lt, h.1.may⟩
    · exact goes_lt h.2.2 k hk
/-- What needn't stand can be left out. -/
theorem goes_less {c : Nat} (hc : S.must c = false) : ∀ {cs : List Nat} {g : Nat} {M : σ}, Goes S (withG g c) M cs → Goes S g M cs
  | [], g, M, h => fun i hi hm => by
    have e : c ≠ i := fun e => by rw [e, hm] at hc; exact absurd hc (by decide)
    have := h i hi hm
    rwa [bit_other e] at this
  | i :: cs, g, M, h => by
    obtain ⟨⟨h1, h2, h3, h4⟩, h5, h6⟩ := h
    refine ⟨⟨h1, ?_, h3, fun k hk hm hb => ?_⟩, h5, ?_⟩
    · rw [bit_with] at h2
      cases hg : g.testBit i
      · rfl
      · rw [hg] at h2; simp at h2
    · have e : c ≠ k := fun e => by rw [e, hm] at hc; exact absurd hc (by decide)
      have := h4 k hk hm hb
      rwa [bit_other e] at this
    · rw [with_comm] at h6
      exact goes_less hc h6
/-- Who has ended, and may stand, must; none is before itself. -/
structure Sound (S : Sys σ) : Prop where
  ended : ∀ i j, S.may i = true → S.bef i j = true → S.must i = true
  irr : ∀ i, S.bef i i = false
theorem free_fit (hE : Sound S) {o : List Nat} {i : Nat} (hc : Closed S (maskL o)) (hf : Free S (maskL o) i) (ht : S.tells (S.run o) i = true) : S.fit o i = true := by
  refine fit_iff.2 ⟨hf.lt, fun hm => ?_, hf.may, fun j hj => ?_, ht⟩
  · have := (mask_bit o i).2 hm
    rw [hf.new] at this
    exact absurd this (by decide)
  · cases hb : S.bef i j
    · rfl
    · have := hc j i ((mask_bit o j).2 hj) hf.lt (hE.ended i j hf.may hb) hb
      rw [hf.new] at this
      exact absurd this (by decide)
theorem legal_closed {o e : List Nat} (h : S.Legal (o ++ e)) : Closed S (maskL o) := by
  intro j k hj hk hm hb
  rw [mask_bit] at hj ⊢
  have hkr := whole_iff.1 h.2 k hk hm
  rcases List.mem_append.1 hkr with h1 | h1
  · exact h1
  · obtain ⟨p, hp⟩ := List.getElem?_of_mem h1
    have := h.1 (o.length + p) k (by rw [List.getElem?_append_right (by omega)]; rw [Nat.add_sub_cancel_left]; exact hp)
    obtain ⟨_, _, _, h4, _⟩ := fit_iff.1 this
    have := h4 j (by rw [List.take_append]; exact List.mem_append_left _ (by rw [List.take_of_length_le (by omega)]; exact hj))
    rw [hb] at this
    exact absurd this (by decide)
theorem fit_free (hE : Sound S) {o e : List Nat} {i : Nat} (h : S.Legal (o ++ i :: e)) : Free S (maskL o) i ∧ S.tells (S.run o) i = true := by
  have hok : S.Ok (o ++ [i]) := ok_pre (e := e) (by rw [List.append_assoc]; exact h.1)
  obtain ⟨h1, h2, h3, h4, h5⟩ := fit_iff.1 (ok_snoc.1 hok).2
  refine ⟨⟨h1, ?_, h3, fun k hk hm hb => ?_⟩, h5⟩
  · cases hb : (maskL o).testBit i
    · rfl
    · exact absurd ((mask_bit o i).1 hb) h2
  · have hc : Closed S (maskL (o ++ [i])) := legal_closed (e := e) (by rw [List.append_assoc]; exact h)
    have := hc i k (by rw [mask_snoc]; exact bit_same _ _) hk hm hb
    rw [mask_snoc] at this
    have ek : i ≠ k := fun ek => by
      rw [ek, hE.irr] at hb
      exact absurd hb (by decide)
    rwa [bit_other ek] at this
/-- What goes on from an order that stands rightly. -/
theorem legal_goes (hE : Sound S) : ∀ {e o : List Nat}, S.Legal (o ++ e) → Goes S (maskL o) (S.run o) e
  | [], o, h => fun i hi hm => by
    rw [List.append_nil] at h
    exact (mask_bit o i).2 (whole_iff.1 h.2 i hi hm)
  | i :: e, o, h => by
    obtain ⟨h1, h2⟩ := fit_free hE h
    have := legal_goes hE (e := e) (o := o ++ [i]) (by rw [List.append_assoc]; exact h)
    rw [mask_snoc, run_snoc] at this
    exact ⟨h1, h2, this⟩
theorem goes_legal (hE : Sound S) : ∀ {e o : List Nat}, S.Ok o → Closed S (maskL o) → Goes S (maskL o) (S.run o) e → S.Legal (o ++ e)
  | [], o, ho, _, h => by
    rw [List.append_nil]
    exact ⟨ho, whole_iff.2 fun i hi hm => (mask_bit o i).1 (h i hi hm)⟩
  | i :: e, o, ho, hc, ⟨h1, h2, h3⟩ => by
    have := goes_legal hE (e := e) (o := o ++ [i]) (ok_snoc.2 ⟨ho, free_fit hE hc h1 h2⟩) (by rw [mask_snoc]; exact hc.next h1) (by rw [mask_snoc, run_snoc]; exact h3)
    rwa [List.append_assoc] at this
/-- Nothing goes on from here. -/
def Vain (S : Sys σ) (g : Nat) (M : σ) : Prop := ∀ cs, ¬ Goes S g M cs
theorem vain_found (hE : Sound S) {o : List Nat} (h : Vain S (maskL o) (S.run o)) : Found S o none := by
  rintro r hr ⟨e, rfl⟩
  exact h e (legal_goes hE hr)
theorem found_vain (hE : Sound S) {o : List Nat} (ho : S.Ok o) (hc : Closed S (maskL o)) (h : Found S o none) : Vain S (maskL o) (S.run o) :=
  fun e hg => h _ (goes_legal hE ho hc hg) ⟨e, rfl⟩
theorem found_whole {o : List Nat} (ho : S.Ok o) (hw : ∀ i, i < S.n → S.must i = true → (maskL o).testBit i = true) : Best S o o :=
  ⟨⟨ho, whole_iff.2 fun i hi hm => (mask_bit o i).1 (hw i hi hm)⟩, List.prefix_refl o, fun r' _ hp => by
    obtain ⟨e, rfl⟩ := hp
    have := lexLe_app o (show lexLe [] e from trivial)
    rwa [List.append_nil] at this⟩
/-- Of the next ones below k none leads anywhere. -/
def NoneTo (S : Sys σ) (o : List Nat) (k : Nat) : Prop := ∀ j, j < k → Found S (o ++ [j]) none
theorem none_succ {o : List Nat} {k : Nat} (h : NoneTo S o k) (hk : Found S (o ++ [k]) none) : NoneTo S o (k + 1) := fun j hj => by
  by_cases e : j = k
  · subst e; exact hk
  · exact h j (by omega)
theorem not_free (hE : Sound S) {o : List Nat} {k : Nat} (h : ¬ (Free S (maskL o) k ∧ S.tells (S.run o) k = true)) : Found S (o ++ [k]) none := by
  rintro r hr ⟨e, rfl⟩
  rw [List.append_assoc] at hr
  exact h (fit_free hE hr)
theorem none_all {o : List Nat} (h : NoneTo S o S.n) (hw : ¬ ∀ i, i < S.n → S.must i = true → (maskL o).testBit i = true) : Found S o none := by
  rintro r hr hp
  have hne : o ≠ r := fun e => hw fun i hi hm => (mask_bit o i).2 (e ▸ whole_iff.1 hr.2 i hi hm)
  obtain ⟨i, e, rfl⟩ := prefix_next hp hne
  have hok : S.Ok (o ++ [i]) := ok_pre (e := e) (by rw [List.append_assoc]; exact hr.1)
  exact h i (fit_iff.1 (ok_snoc.1 hok).2).1 _ hr ⟨e, by rw [List.append_assoc]; rfl⟩
theorem best_next {o r : List Nat} {k : Nat} (h : NoneTo S o k) (hw : ¬ ∀ i, i < S.n → S.must i = true → (maskL o).testBit i = true) (hb : Best S (o ++ [k]) r) : Best S o r := by
  refine ⟨hb.legal, (List.prefix_append o [k]).trans hb.from_, fun r' hr' hp' => ?_⟩
  have hne : o ≠ r' := fun e => hw fun i hi hm => (mask_bit o i).2 (e ▸ whole_iff.1 hr'.2 i hi hm)
  obtain ⟨i, e, rfl⟩ := prefix_next hp' hne
  obtain ⟨e2, he2⟩ := hb.from_
  rcases Nat.lt_trichotomy i k with h3 | h3 | h3
  · exact absurd ⟨e, by rw [List.append_assoc]; rfl⟩ (h i h3 _ hr')
  · subst h3
    exact hb.least _ hr' ⟨e, by rw [List.append_assoc]; rfl⟩
  · rw [← he2, List.append_assoc]
    exact lexLe_app o (Or.inl h3)
end

/-! A queue: Puts and Takes, by lists of keys. -/
/-- What Puts and Takes do; a queue, if at is the end. -/
structure Bags (S : Sys (List Int)) (take : Nat → Bool) (key : Nat → Int) (suits : Int → Nat → Bool) (miss : Nat → Bool) : Prop where
  putT : ∀ i M, S.may i = true → take i = false → ∀ M', S.tells M i = S.tells M' i
  takeS : ∀ i m M, take i = true → S.step (m :: M) i = M
  noneS : ∀ i, take i = true → S.step [] i = []
  takeT : ∀ i m M, take i = true → S.tells (m :: M) i = suits m i
  noneT : ∀ i, take i = true → S.tells [] i = true → S.must i = true → miss i = true
section
variable {S : Sys (List Int)} {take : Nat → Bool} {key : Nat → Int} {suits : Int → Nat → Bool} {miss : Nat → Bool}
/-- No miss comes ahead of what should stand ahead of those that stand. -/
def Calm (S : Sys (List Int)) (take : Nat → Bool) (g : Nat) (M : List Int) (cs : List Nat) : Prop :=
  ∀ ps t qs, cs = ps ++ t :: qs → take t = true → ps.foldl S.step M = [] → ∀ k ∈ qs, S.must k = true → ∀ x, g.testBit x = true → S.bef k x = false
/-- What goes on from here, a queue's Takes being moved ahead. -/
def GoodQ (S : Sys (List Int)) (take : Nat → Bool) (g : Nat) (M : List Int) : Prop := ∃ cs, Goes S g M cs ∧ Calm S take g M cs
theorem goes_goodQ {g : Nat} {M : List Int} (hc : Closed S g) (h : ¬ Vain S g M) : GoodQ S take g M := by
  obtain ⟨cs, hg⟩ := Classical.not_forall.1 h
  have hg := Classical.not_not.1 hg
  refine ⟨cs, hg, fun ps t qs e _ _ k hk hm x hx => ?_⟩
  cases hb : S.bef k x
  · rfl
  · have hkc : k ∈ cs := by rw [e]; exact List.mem_append_right _ (List.mem_cons_of_mem _ hk)
    have := hc x k hx (goes_lt hg k hkc).1 hm hb
    rw [goes_new hg k hkc] at this
    exact absurd this (by decide)
theorem goodQ_goes {g : Nat} {M : List Int} (h : GoodQ S take g M) : ¬ Vain S g M := fun hv => by
  obtain ⟨cs, hg, _⟩ := h
  exact hv cs hg
/-- The next Take, by what there is. -/
inductive NextQ (S : Sys (List Int)) (take : Nat → Bool) (key : Nat → Int) (suits : Int → Nat → Bool) (miss : Nat → Bool) (g : Nat) : List Int → Nat → Prop
  | hit (m : Int) (M : List Int) (t : Nat) : suits m t = true → GoodQ S take (withG g t) M → NextQ S take key suits miss g (m :: M) t
  | none (t : Nat) : miss t = true → Closed S (withG g t) → GoodQ S take (withG g t) [] → NextQ S take key suits miss g [] t
  | put (t p : Nat) : take p = false → Free S g p → p ≠ t → suits (key p) t = true → GoodQ S take (withG (withG g t) p) [] → NextQ S take key suits miss g [] t
/-- A Take is moved ahead of Puts. -/
theorem goes_move (hB : Bags S take key suits miss) (hq : ∀ i M, S.may i = true → take i = false → S.step M i = M ++ [key i]) {t : Nat} {qs : List Nat} (ht : take t = true) : ∀ {ps : List Nat} {g : Nat} {m : Int} {M : List Int},
    (∀ p ∈ ps, take p = false) → Goes S g (m :: M) (ps ++ t :: qs) → Goes S (withG g t) M (ps ++ qs) ∧ suits m t = true
  | [], g, m, M, _, h => by
    obtain ⟨h1, h2, h3⟩ := h
    rw [hB.takeS t m M ht] at h3
    rw [hB.takeT t m M ht] at h2
    exact ⟨h3, h2⟩
  | p :: ps, g, m, M, hp, h => by
    obtain ⟨h1, h2, h3⟩ := h
    have hpp := hp p (List.mem_cons_self ..)
    rw [hq p _ h1.may hpp, List.cons_append] at h3
    have hpt : t ≠ p := fun e => by rw [e, hpp] at ht; exact absurd ht (by decide)
    obtain ⟨h4, h5⟩ := goes_move hB hq ht (fun p' hp' => hp p' (List.mem_cons_of_mem _ hp')) h3
    refine ⟨⟨⟨h1.lt, ?_, h1.may, fun k hk hm hb => bit_more (h1.ahead k hk hm hb)⟩, ?_, ?_⟩, h5⟩
    · rw [bit_other hpt]; exact h1.new
    · rw [hB.putT p M h1.may hpp (m :: M)]; exact h2
    · rw [hq p M h1.may hpp, with_comm]; exact h4
theorem fold_puts (hq : ∀ i M, S.may i = true → take i = false → S.step M i = M ++ [key i]) : ∀ {ps : List Nat} (M : List Int), (∀ p ∈ ps, S.may p = true ∧ take p = false) → ps.foldl S.step M = M ++ ps.map key
  | [], M, _ => by simp
  | p :: ps, M, h => by
    obtain ⟨h1, h2⟩ := h p (List.mem_cons_self ..)
    rw [List.foldl_cons, hq p M h1 h2, fold_puts hq _ fun p' hp' => h p' (List.mem_cons_of_mem _ hp'), List.append_assoc]
    rfl
/-- The first of those that fit. -/
theorem first_take (take : Nat → Bool) : ∀ cs : List Nat, (∀ i ∈ cs, take i = false) ∨ ∃ ps t qs, cs = ps ++ t :: qs ∧ take t = true ∧ ∀ p ∈ ps, take p = false
  | [] => Or.inl fun _ h => by simp at h
  | c :: cs => by
    cases hc : take c
    · rcases first_take take cs with h | ⟨ps, t, qs, rfl, h1, h2⟩
      · refine Or.inl fun i hi => ?_
        rcases List.mem_cons.1 hi with rfl | hi
        · exact hc
        · exact h i hi
      · refine Or.inr ⟨c :: ps, t, qs, rfl, h1, fun p hp => ?_⟩
        rcases List.mem_cons.1 hp with rfl | hp
        · exact hc
        · exact h2 p hp
    · exact Or.inr ⟨[], c, cs, rfl, hc, fun _ h => by simp at h⟩
/-- Where a Take has to come yet, one comes next. -/
theorem goodQ_next (hB : Bags S take key suits miss) (hq : ∀ i M, S.may i = true → take i = false → S.step M i = M ++ [key i]) {g : Nat} {M : List Int} (h : GoodQ S take g M) (hm : ∃ i, i < S.n ∧ S.must i = true ∧ take i = true ∧ g.testBit i = false) :
    ∃ t, t < S.n ∧ S.may t = true ∧ take t = true ∧ g.testBit t = false ∧ (∀ k, k < S.n → S.must k = true → S.bef k t = true → take k = true → g.testBit k = true) ∧ NextQ S take key suits miss g M t := by
  obtain ⟨cs, hg, hca⟩ := h
  generalize hn : cs.length = n
  induction n generalizing cs with
  | zero =>
    obtain ⟨i, hi, hmi, _, hgi⟩ := hm
    rw [List.eq_nil_of_length_eq_zero hn] at hg
    have := hg i hi hmi
    rw [hgi] at this
    exact absurd this (by decide)
  | succ n ih =>
    rcases first_take take cs with hno | ⟨ps, t, qs, rfl, ht, hps⟩
    · obtain ⟨i, hi, hmi, hti, hgi⟩ := hm
      rcases goes_must hg i hi hmi with h1 | h1
      · rw [hgi] at h1; exact absurd h1 (by decide)
      · rw [hno i h1] at hti; exact absurd hti (by decide)
    · have htl := goes_lt hg t (List.mem_append_right _ (List.mem_cons_self ..))
      have htn := goes_new hg t (List.mem_append_right _ (List.mem_cons_self ..))
      have hpm : ∀ p ∈ ps, S.may p = true ∧ take p = false := fun p hp => ⟨(goes_lt hg p (List.mem_append_left _ hp)).2, hps p hp⟩
      have key2 : ∀ {ps : List Nat} {g : Nat} {M : List Int}, Goes S g M (ps ++ t :: qs) → (∀ p ∈ ps, take p = false) → ∀ k, k < S.n → S.must k = true → S.bef k t = true → (g.testBit k = true ∨ k ∈ ps) := by
        intro ps
        induction ps with
        | nil => intro g M h _ k hk hmk hb; exact Or.inl (h.1.ahead k hk hmk hb)
        | cons p ps ihp =>
          intro g M h hps k hk hmk hb
          rcases ihp h.2.2 (fun p' hp' => hps p' (List.mem_cons_of_mem _ hp')) k hk hmk hb with h1 | h1
          · by_cases e : p = k
            · exact Or.inr (e ▸ List.mem_cons_self ..)
            · rw [bit_other e] at h1; exact Or.inl h1
          · exact Or.inr (List.mem_cons_of_mem _ h1)
      have hah := key2 hg hps
      have hah2 : ∀ k, k < S.n → S.must k = true → S.bef k t = true → take k = true → g.testBit k = true := fun k hk hmk hb htk => by
        rcases hah k hk hmk hb with h1 | h1
        · exact h1
        · rw [hps k h1] at htk; exact absurd htk (by decide)
      have late : ∀ k ∈ qs, S.must k = true → S.bef k t = false := fun k hk hmk => by
        cases hb : S.bef k t
        · rfl
        · have hkc : k ∈ ps ++ t :: qs := List.mem_append_right _ (List.mem_cons_of_mem _ hk)
          rcases hah k (goes_lt hg k hkc).1 hmk hb with h1 | h1
          · rw [goes_new hg k hkc] at h1; exact absurd h1 (by decide)
          · exfalso
            have hnd : ∀ {cs : List Nat} {g : Nat} {M : List Int}, Goes S g M cs → cs.Nodup := by
              intro cs
              induction cs with
              | nil => intros; exact List.nodup_nil
              | cons c cs ihc =>
                intro g M h
                refine List.nodup_cons.2 ⟨fun hc => ?_, ihc h.2.2⟩
                have := goes_new h.2.2 c hc
                rw [bit_same] at this
                exact absurd this (by decide)
            have := hnd hg
            rw [List.nodup_append] at this
            exact this.2.2 k h1 k (List.mem_cons_of_mem _ hk) rfl
      cases M with
      | cons m M =>
        obtain ⟨h1, h2⟩ := goes_move hB hq ht hps hg
        refine ⟨t, htl.1, htl.2, ht, htn, hah2, .hit m M t h2 ⟨ps ++ qs, h1, fun ps1 t1 qs1 e ht1 hs k hk hmk x hx => ?_⟩⟩
        obtain ⟨qs0, rfl, rfl⟩ : ∃ qs0, ps1 = ps ++ qs0 ∧ qs = qs0 ++ t1 :: qs1 := by
          rcases List.append_eq_append_iff.1 e with ⟨a, h3, h4⟩ | ⟨a, h3, h4⟩
          · exact ⟨a, h3, h4⟩
          · cases a with
            | nil => exact ⟨[], by simpa using h3.symm, by simpa using h4.symm⟩
            | cons b a =>
              rw [List.cons_append, List.cons.injEq] at h4
              rw [← h4.1] at h3
              have := hps t1 (by rw [h3]; exact List.mem_append_right _ (List.mem_cons_self ..))
              rw [ht1] at this
              exact absurd this (by decide)
        by_cases ex : t = x
        · subst ex
          exact late k (List.mem_append_right _ (List.mem_cons_of_mem _ hk)) hmk
        · rw [bit_other ex] at hx
          refine hca (ps ++ t :: qs0) t1 qs1 (by simp) ht1 ?_ k hk hmk x hx
          rw [List.foldl_append, List.foldl_cons, fold_puts hq _ hpm, List.cons_append, hB.takeS t m _ ht]
          rw [List.foldl_append, fold_puts hq _ hpm] at hs
          exact hs
      | nil =>
        cases ps with
        | nil =>
          cases hmt : S.must t
          · have hg2 : Goes S g [] qs := by
              have := hg.2.2
              rw [hB.noneS t ht] at this
              exact goes_less hmt this
            refine ih qs hg2 (fun ps1 t1 qs1 e ht1 hs => ?_) (by simpa using hn)
            exact hca (t :: ps1) t1 qs1 (by rw [e]; rfl) ht1 (by rw [List.foldl_cons, hB.noneS t ht]; exact hs)
          · have hg2 := hg.2.2
            rw [hB.noneS t ht] at hg2
            refine ⟨t, htl.1, htl.2, ht, htn, hah2, .none t (hB.noneT t ht hg.2.1 hmt) (fun x k hx hk hmk hb => ?_) ⟨qs, hg2, fun ps1 t1 qs1 e ht1 hs k hk hmk x hx => ?_⟩⟩
            · by_cases ex : t = x
              · subst ex
                exact bit_more (hg.1.ahead k hk hmk hb)
              · rw [bit_other ex] at hx
                rcases goes_must hg k hk hmk with h1 | h1
                · exact bit_more h1
                · rcases List.mem_cons.1 h1 with rfl | h1
                  · exact bit_same _ _
                  · have := hca [] t qs rfl ht rfl k h1 hmk x hx
                    rw [hb] at this
                    exact absurd this (by decide)
            · by_cases ex : t = x
              · subst ex
                refine late k ?_ hmk
                rw [e]
                exact List.mem_append_right _ (List.mem_cons_of_mem _ hk)
              · rw [bit_other ex] at hx
                exact hca (t :: ps1) t1 qs1 (by rw [e]; rfl) ht1 (by rw [List.foldl_cons, hB.noneS t ht]; exact hs) k hk hmk x hx
        | cons p ps =>
          have hpp := hps p (List.mem_cons_self ..)
          have hf := hg.1
          have hg2 := hg.2.2
          have hpm2 : ∀ p' ∈ ps, S.may p' = true ∧ take p' = false := fun p' hp' => hpm p' (List.mem_cons_of_mem _ hp')
          rw [hq p [] hf.may hpp, List.nil_append] at hg2
          obtain ⟨h1, h2⟩ := goes_move hB hq ht (fun p' hp' => hps p' (List.mem_cons_of_mem _ hp')) hg2
          have hpt : p ≠ t := fun e => by rw [← e, hpp] at ht; exact absurd ht (by decide)
          refine ⟨t, htl.1, htl.2, ht, htn, hah2, .put t p hpp hf hpt h2 ⟨ps ++ qs, by rw [with_comm]; exact h1, fun ps1 t1 qs1 e ht1 hs k hk hmk x hx => ?_⟩⟩
          obtain ⟨qs0, rfl, rfl⟩ : ∃ qs0, ps1 = ps ++ qs0 ∧ qs = qs0 ++ t1 :: qs1 := by
            rcases List.append_eq_append_iff.1 e with ⟨a, h3, h4⟩ | ⟨a, h3, h4⟩
            · exact ⟨a, h3, h4⟩
            · cases a with
              | nil => exact ⟨[], by simpa using h3.symm, by simpa using h4.symm⟩
              | cons b a =>
                rw [List.cons_append, List.cons.injEq] at h4
                rw [← h4.1] at h3
                have := hpm2 t1 (by rw [h3]; exact List.mem_append_right _ (List.mem_cons_self ..))
                rw [ht1] at this
                exact absurd this.2 (by decide)
          have hkq : k ∈ qs0 ++ t1 :: qs1 := List.mem_append_right _ (List.mem_cons_of_mem _ hk)
          by_cases ep : p = x
          · subst ep
            cases hb : S.bef k p
            · rfl
            · have hkc : k ∈ p :: ps ++ t :: (qs0 ++ t1 :: qs1) := List.mem_append_right _ (List.mem_cons_of_mem _ hkq)
              have := hf.ahead k (goes_lt hg k hkc).1 hmk hb
              rw [goes_new hg k hkc] at this
              exact absurd this (by decide)
          · rw [bit_other ep] at hx
            by_cases ex : t = x
            · subst ex
              exact late k hkq hmk
            · rw [bit_other ex] at hx
              refine hca (p :: ps ++ t :: qs0) t1 qs1 (by simp) ht1 ?_ k hk hmk x hx
              rw [List.foldl_append, List.foldl_cons, List.foldl_cons, hq p [] hf.may hpp, fold_puts hq _ hpm2, List.nil_append, List.singleton_append, hB.takeS t _ _ ht]
              rw [List.foldl_append, fold_puts hq _ hpm2, List.nil_append] at hs
              exact hs
end
end Go.Proofs.YtmpilokgbblonaaGreat.lin
/- Groups of calls as the bits of a number: has, with, covers. -/
namespace Go.Proofs.YtmpilokgbblonaaGreat.lin
open Go.RowKit

theorem mask_sub {i : Nat} : ∀ (n g : Nat), g < 2 ^ n → (2 ^ n - 1 - g).testBit i = (decide (i < n) && !g.testBit i) := by
  intro n g h
  rw [show 2 ^ n - 1 - g = 2 ^ n - (g + 1) by omega, Nat.testBit_two_pow_sub_succ h]
/-- Are all of x in g? -/
theorem covers_nat {x g : Nat} (hx : x < 4294967296) (hg : g < 4294967296) : (x &&& (4294967295 - g) = 0) ↔ ∀ i, x.testBit i = true → g.testBit i = true := by
  have key : ∀ i, (x &&& (4294967295 - g)).testBit i = (x.testBit i && (decide (i < 32) && !g.testBit i)) := fun i => by
    rw [Nat.testBit_and]
    have := mask_sub (i := i) 32 g (by omega)
    rw [show (2 : Nat) ^ 32 - 1 - g = 4294967295 - g by omega] at this
    rw [this]
  constructor
  · intro h i hi
    have h2 := key i
    rw [h, Nat.zero_testBit, hi] at h2
    have hi32 : i < 32 := by
      rcases Nat.lt_or_ge i 32 with h3 | h3
      · exact h3
      · have : x < 2 ^ i := Nat.lt_of_lt_of_le hx (Nat.pow_le_pow_right (n := 2) (by omega) h3)
        rw [Nat.testBit_lt_two_pow this] at hi
        exact absurd hi (by decide)
    cases hgi : g.testBit i
    · rw [hgi, decide_eq_true hi32] at h2
      exact absurd h2 (by decide)
    · rfl
  · intro h
    apply Nat.eq_of_testBit_eq
    intro i
    rw [key, Nat.zero_testBit]
    cases hx2 : x.testBit i
    · rfl
    · rw [h i hx2]
      simp
theorem with_lt {g i : Nat} (hg : g < 4294967296) (hi : i < 32) : withG g i < 4294967296 := by
  unfold withG
  have h1 : (2 : Nat) ^ i < 2 ^ 32 := Nat.pow_lt_pow_right (by omega) hi
  exact Nat.or_lt_two_pow (n := 32) hg (by omega)
theorem has_nat {g i : Nat} : (g / 2 ^ i % 2 = 1) ↔ g.testBit i = true := by
  rw [Nat.testBit_eq_decide_div_mod_eq]
  simp

/-- Are all of x in g? -/
def coversB (g x : Nat) : Bool := decide (x &&& (4294967295 - g) = 0)
theorem coversB_iff {g x : Nat} (hx : x < 4294967296) (hg : g < 4294967296) : coversB g x = true ↔ ∀ i, x.testBit i = true → g.testBit i = true := by
  unfold coversB
  rw [decide_eq_true_eq, covers_nat hx hg]
theorem has_any (w : World) (g i : Nat) (hg : g < 4294967296) (hi : i < 32) :
    Calls Tryz.prog 67 #[.int .u32 (g : Int), .int .i64 (i : Int)] w fun e w' => e = .returned (.bool (g.testBit i)) ∧ w = w' := by
  have h0 : (0 : Int) ≤ (i : Int) := by omega
  have key : (bits .and .u32 ((g : Int) / 2 ^ i) 1 == 1) = g.testBit i := by
    have e : ((g : Int) / 2 ^ i) = ((g / 2 ^ i : Nat) : Int) := by push_cast; rfl
    have hlt : g / 2 ^ i < 4294967296 := Nat.lt_of_le_of_lt (Nat.div_le_self _ _) hg
    rw [e, show (1 : Int) = ((1 : Nat) : Int) from rfl, u32_and_nat _ _ hlt (by omega), nat_mask1, Bool.eq_iff_iff, beq_iff_eq, ← has_nat]
    omega
  have HK := Lib.hid key
  clear key
  go_enter Tryz.func67, Tryz.ntmps67
  go_wp2
  go_returns
  refine ⟨?_, rfl⟩
  show Ending.returned (Value.bool _) = _
  rw [HK.out]
theorem with_any (w : World) (g i : Nat) (hg : g < 4294967296) (hi : i < 32) :
    Calls Tryz.prog 56 #[.int .u32 (g : Int), .int .i64 (i : Int)] w fun e w' => e = .returned (.int .u32 (withG g i : Nat)) ∧ w = w' := by
  have h0 : (0 : Int) ≤ (i : Int) := by omega
  have key : bits .or .u32 (g : Int) (2 ^ i % 4294967296) = (withG g i : Nat) := by
    have h1 : (2 : Nat) ^ i < 4294967296 := by
      have : (2 : Nat) ^ i < 2 ^ 32 := Nat.pow_lt_pow_right (by omega) hi
      omega
    have e : ((2 : Int) ^ i % 4294967296) = ((2 ^ i : Nat) : Int) := by
      have : ((2 ^ i : Nat) : Int) = (2 : Int) ^ i := by push_cast; rfl
      rw [← this]
      have := Int.natCast_nonneg (2 ^ i)
      omega
    rw [e, u32_or_nat _ _ hg h1]
    rfl
  have HK := Lib.hid key
  clear key
  go_enter Tryz.func56, Tryz.ntmps56
  go_wp2
  go_returns
  refine ⟨?_, rfl⟩
  show Ending.returned (Value.int .u32 _) = _
  rw [HK.out]
theorem covers_any (w : World) (g x : Nat) (hg : g < 4294967296) (hx : x < 4294967296) :
    Calls Tryz.prog 51 #[.int .u32 (g : Int), .int .u32 (x : Int)] w fun e w' => e = .returned (.bool (coversB g x)) ∧ w = w' := by
  have key : (bits .andNot .u32 (x : Int) (g : Int) == 0) = coversB g x := by
    unfold coversB
    rw [u32_andNot_nat _ _ hx hg, Bool.eq_iff_iff, beq_iff_eq, decide_eq_true_eq]
    omega
  have HK := Lib.hid key
  clear key
  go_enter Tryz.func51, Tryz.ntmps51
  go_wp2
  go_returns
  refine ⟨?_, rfl⟩
  show Ending.returned (Value.bool _) = _
  rw [HK.out]
end Go.Proofs.YtmpilokgbblonaaGreat.lin
