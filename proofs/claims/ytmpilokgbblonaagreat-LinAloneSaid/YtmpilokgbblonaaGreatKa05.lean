/- Each event is a call's beginning or its end; one call ahead of another one. By lists alone. -/
import Derived.Test.YtmpilokgbblonaaGreatKa01
import Derived.Test.YtmpilokgbblonaaGreatRows
import Derived.WalkKit
import Derived.WalkSpells
import Derived.WalkLawsBesides
import Derived.Handy
import Derived.Lib.Hide
import Derived.Outline
import Derived.Below
namespace Go.Proofs.YtmpilokgbblonaaGreat.hist

/-- Events without what doesn't count. -/
def BareE (l : List EvV) : Prop := ∀ v ∈ l, bareE v = v
theorem bare_bare (v : EvV) : bareE (bareE v) = bareE v := by
  obtain ⟨T, E, K, Y, C, O, V⟩ := v
  cases E <;> rfl
theorem bareL_nil : BareE [] := fun v hv => by simp at hv
theorem bareL_snoc {l : List EvV} (h : BareE l) (v : EvV) : BareE (l ++ [bareE v]) := by
  intro u hu
  rcases List.mem_append.1 hu with hu | hu
  · exact h u hu
  · rw [List.mem_singleton.1 hu]
    exact bare_bare v
theorem step_bare {l : List EvV} (h : BareE l) (v : EvV) : BareE (stepE l v) := by
  unfold stepE
  split
  · exact bareL_snoc h v
  · exact h
theorem bare_begin {v : EvV} (hb : bareE v = v) (hE : v.E = false) : v = ⟨v.T, false, v.K, v.Y, 0, false, 0⟩ := by
  obtain ⟨T, E, K, Y, C, O, V⟩ := v
  simp only at hE
  subst hE
  exact hb.symm
theorem bare_end {v : EvV} (hb : bareE v = v) (hE : v.E = true) : v = ⟨v.T, true, 0, 0, v.C, v.O, v.V⟩ := by
  obtain ⟨T, E, K, Y, C, O, V⟩ := v
  simp only at hE
  subst hE
  exact hb.symm
/-- A call's events are those that it says. -/
structure Sound (l : List EvV) (c : ClV) : Prop where
  b : ∃ p : Nat, c.B = p ∧ l[p]? = some ⟨c.T, false, c.K, c.Y, 0, false, 0⟩
  d : c.D = -1 ∨ ∃ q : Nat, c.D = q ∧ l[q]? = some ⟨c.T, true, 0, 0, c.C, c.O, c.V⟩
theorem Sound.snoc {l : List EvV} {c : ClV} (h : Sound l c) (v : EvV) : Sound (l ++ [v]) c := by
  obtain ⟨⟨p, hp, hb⟩, hd⟩ := h
  refine ⟨⟨p, hp, by rw [List.getElem?_append_left (List.getElem?_eq_some_iff.1 hb).1]; exact hb⟩, hd.imp id ?_⟩
  rintro ⟨q, hq, hb⟩
  exact ⟨q, hq, by rw [List.getElem?_append_left (List.getElem?_eq_some_iff.1 hb).1]; exact hb⟩
theorem bare_init {l : List EvV} {v : EvV} (h : BareE (l ++ [v])) : BareE l ∧ bareE v = v := ⟨fun u hu => h u (List.mem_append_left _ hu), h v (List.mem_append_right _ (List.mem_singleton.2 rfl))⟩
theorem sound_of (l : List EvV) : ValidE l → BareE l → ∀ c ∈ callsE l, Sound l c := by
  induction l using snocInd with
  | nil => intro _ _ c hc; simp [callsE, callsGo] at hc
  | append_singleton l v ih =>
    intro hV hB c hc
    obtain ⟨h1, h2⟩ := valid_snoc.1 hV
    obtain ⟨b1, b2⟩ := bare_init hB
    have ih := ih h1 b1
    cases he : v.E
    · rw [calls_begin h2 he] at hc
      rcases List.mem_append.1 hc with hc | hc
      · exact (ih c hc).snoc v
      · rw [List.mem_singleton.1 hc]
        refine ⟨⟨l.length, rfl, ?_⟩, Or.inl rfl⟩
        have hb := bare_begin b2 he
        rw [List.getElem?_append_right (Nat.le_refl _), Nat.sub_self]
        exact congrArg some hb
    · rw [calls_end he] at hc
      obtain ⟨c', hc', rfl⟩ := List.mem_map.1 hc
      by_cases hh : c'.D < 0 ∧ c'.T = v.T
      · rw [close_yes hh]
        refine ⟨((ih c' hc').snoc v).b, Or.inr ⟨l.length, rfl, ?_⟩⟩
        have hb := bare_end b2 he
        rw [List.getElem?_append_right (Nat.le_refl _), Nat.sub_self]
        show some v = some _
        rw [hh.2]
        exact congrArg some hb
      · rw [close_no hh]
        exact (ih c' hc').snoc v
/-- Each event is some call's. -/
theorem cover_of (l : List EvV) : ValidE l → ∀ (e : Nat) (v : EvV), l[e]? = some v → ∃ c ∈ callsE l, (v.E = false ∧ c.B = e) ∨ (v.E = true ∧ c.D = e) := by
  induction l using snocInd with
  | nil => intro _ e v h; simp at h
  | append_singleton l u ih =>
    intro hV e v h
    obtain ⟨h1, h2⟩ := valid_snoc.1 hV
    have ih := ih h1
    have hel := (List.getElem?_eq_some_iff.1 h).1
    rw [List.length_append] at hel
    simp only [List.length_cons, List.length_nil] at hel
    by_cases hl : e < l.length
    · rw [List.getElem?_append_left hl] at h
      obtain ⟨c, hc, hor⟩ := ih e v h
      cases he : u.E
      · exact ⟨c, by rw [calls_begin h2 he]; exact List.mem_append_left _ hc, hor⟩
      · refine ⟨closeC u l.length c, by rw [calls_end he]; exact List.mem_map.2 ⟨c, hc, rfl⟩, ?_⟩
        rcases hor with ⟨h3, h4⟩ | ⟨h3, h4⟩
        · exact Or.inl ⟨h3, by rw [(close_T u l.length c).2]; exact h4⟩
        · exact Or.inr ⟨h3, by rw [close_no (fun hh => by omega)]; exact h4⟩
    · obtain rfl : e = l.length := by omega
      rw [List.getElem?_append_right (Nat.le_refl _), Nat.sub_self] at h
      obtain rfl : u = v := by simpa using h
      cases he : u.E
      · exact ⟨_, by rw [calls_begin h2 he]; exact List.mem_append_right _ (List.mem_singleton.2 rfl), Or.inl ⟨rfl, rfl⟩⟩
      · have hp := (err_zero h2).2
        rw [he] at hp
        obtain ⟨c, hc, hh⟩ := (pend_calls l u.T).1 hp
        exact ⟨closeC u l.length c, by rw [calls_end he]; exact List.mem_map.2 ⟨c, hc, rfl⟩, Or.inr ⟨rfl, by rw [close_yes hh]⟩⟩
/-- A list that has each call's events at their places is all of them. -/
theorem all_events {l M : List EvV} (hV : ValidE l) (hl : M.length = l.length) (h : ∀ c ∈ callsE l, (∀ p : Nat, c.B = p → M[p]? = l[p]?) ∧ ∀ q : Nat, c.D = q → M[q]? = l[q]?) : M = l := by
  apply List.ext_getElem?
  intro e
  cases hv : l[e]? with
  | none => rw [List.getElem?_eq_none_iff] at hv ⊢; omega
  | some v =>
    obtain ⟨c, hc, hor⟩ := cover_of l hV e v hv
    rw [← hv]
    rcases hor with ⟨_, h1⟩ | ⟨_, h1⟩
    · exact (h c hc).1 e h1
    · exact (h c hc).2 e h1
/-- Before. -/
def befB (D B : Int) : Bool := decide (0 ≤ D ∧ D < B)
end Go.Proofs.YtmpilokgbblonaaGreat.hist
/- The task package's small functions, and the document's: what each call returns; nothing that was there has changed. -/
namespace Go.Proofs.YtmpilokgbblonaaGreat.task
open Go.RowKit

theorem bcell {W w1 : World} (hb : Below W.heap.size W w1) : (∀ b o, b < W.heap.size → w1.cell? ⟨b, o, none⟩ = W.cell? ⟨b, o, none⟩) ∧ (∀ b o, b < W.heap.size → w1.frozen? ⟨b, o, none⟩ = W.frozen? ⟨b, o, none⟩) :=
  ⟨fun b o h => hb.cell (p := ⟨b, o, none⟩) h, fun b o h => hb.frozen (p := ⟨b, o, none⟩) h⟩

theorem below_drewN {B : Nat} {a w : World} (h : Below B a w) (n : Nat) : Below B a (w.drewN n) := ⟨h.os, h.tape, h.output, h.size, h.block⟩
/-- What nothing but a call's own blocks can have changed: a world behind one, its result's block and its task's. -/
theorem past {W w w' : World} (h : Below W.heap.size W w) (hb : Below w.heap.size w w') : Below W.heap.size W w' := h.trans (hb.mono h.size)

/-- A number that an int holds. -/
def Fits (x : Int) : Prop := -9223372036854775808 ≤ x ∧ x ≤ 9223372036854775807

/-- Is a number a key? -/
def keyB (y : Int) : Bool := decide (0 ≤ y) && decide (y ≤ 999)
/-- Is an operation one of a set, and of a queue or stack? -/
def setB (k y : Int) : Bool := decide (1 ≤ k) && decide (k ≤ 3) && keyB y
def rowB (k y : Int) : Bool := (k == 4) && keyB y || (k == 5) && (y == 0)
/-- Is an operation one of a shape? -/
def rightB (s k y : Int) : Bool := if s = 1 ∨ s = 2 then setB k y else if s = 3 ∨ s = 4 then rowB k y else false

theorem right_iff (s k y : Int) : (rightB s k y = true) ↔ ((s = 1 ∨ s = 2) ∧ 1 ≤ k ∧ k ≤ 3 ∧ 0 ≤ y ∧ y ≤ 999) ∨ ((s = 3 ∨ s = 4) ∧ (k = 4 ∧ 0 ≤ y ∧ y ≤ 999 ∨ k = 5 ∧ y = 0)) := by
  unfold rightB setB rowB keyB
  split
  · simp; omega
  · split
    · simp; omega
    · simp; omega
theorem ret_bool {a b : Bool} (h : (a = true) ↔ (b = true)) : Ending.returned (.bool a) = Ending.returned (.bool b) := by rw [Bool.eq_iff_iff.2 h]

set_option maxHeartbeats 400000 in
theorem isKey_any (w : World) (y : Int) :
    Calls Tryz.prog 69 #[.int .i64 y] w fun e w' => e = .returned (.bool (keyB y)) ∧ Below w.heap.size w w' := by
  go_enter Tryz.func69, Tryz.ntmps69
  go_wp2
  all_goals
    go_returns
    refine ⟨?_, by go_grown⟩
    first | (simp [keyB, *]; done) | (simp [keyB, *]; omega)

set_option maxRecDepth 100000 in
set_option maxHeartbeats 1000000 in
theorem right_any (w : World) (s k y : Int) :
    Calls Tryz.prog 60 #[.int .i64 s, .agg #[.int .i64 k, .int .i64 y]] w fun e w' => e = .returned (.bool (rightB s k y)) ∧ Below w.heap.size w w' := by
  go_enter Tryz.func60, Tryz.ntmps60
  go_wp2_with (first | (go_at_call 69; refine (isKey_any _ _).mono ?_; rintro e w1 ⟨rfl, hb1⟩; have ho1 : Below w.heap.size w w1 := ((Below.refl _ _).alloc (Nat.le_refl _) _).trans (hb1.mono (by simp)); obtain ⟨hc1, hf1⟩ := bcell hb1; have hz1 : w.heap.size < w1.heap.size := (by have := hb1.size; simp at this; omega)))
  all_goals
    go_returns
    refine ⟨?_, by first | exact ho1 | go_grown⟩
    refine ret_bool ?_
    rw [right_iff]
    try simp only [keyB, Bool.and_eq_true, decide_eq_true_eq, beq_iff_eq, beq_eq_false_iff_ne, ne_eq, Bool.false_eq_true, true_iff, false_iff] at *
    omega

end Go.Proofs.YtmpilokgbblonaaGreat.task
