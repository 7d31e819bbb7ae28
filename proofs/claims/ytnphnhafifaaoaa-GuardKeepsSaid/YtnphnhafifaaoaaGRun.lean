/- A scan, run alone: so many steps; what was kept, what was given back. -/
import Derived.Test.YtnphnhafifaaoaaGStepG
import Derived.Test.YtnphnhafifaaoaaG3
namespace Go.Proofs.Ytnphnhafifaaoaa.guard
open Go.RowKit mem life

section
variable {W : World} {X Y C : Nat} {t n : Int} {zs L : List Int}
/-- What all slots have. -/
def slotsAll (t n : Int) (zs : List Int) : List Int := slotsTo n zs (2 * t).toNat
theorem slotsAll_length (t n : Int) (zs : List Int) : (slotsAll t n zs).length = (2 * t).toNat := slotsTo_length _ _ _
/-- Those that no slot has. -/
def freeOf (t n : Int) (zs L : List Int) : List Int := untold (slotsAll t n zs) L
/-- How far the scan has come. -/
def Phase (W : World) (X Y C : Nat) (t n : Int) (zs L : List Int) (j : Nat) (w : World) : Prop :=
  if j < (2 * t).toNat ∨ (j = (2 * t).toNat ∧ 0 < (freeOf t n zs L).length) then Looking W X Y C t n zs L (slotsTo n zs j) w
  else if j < (2 * t).toNat + (freeOf t n zs L).length then ∃ D, Giving W X Y C t n (giveTo n zs (freeOf t n zs L) (j - (2 * t).toNat)) L (slotsAll t n zs) (j - (2 * t).toNat) D w
  else Over W X Y C t n (giveTo n zs (freeOf t n zs L) (freeOf t n zs L).length) L (slotsAll t n zs) w
theorem full_look {w : World} {ws : List Int} (h : Looking W X Y C t n zs L ws w) (hw : (ws.length : Int) = 2 * t) : Full W w X Y C t n zs := by
  obtain ⟨nv, tv, hi, hsc, hn, ht⟩ := h
  rw [hw] at hsc
  exact ⟨_, _, _, _, _, hsc⟩
theorem full_give {w : World} {ws : List Int} {j D : Nat} (h : Giving W X Y C t n zs L ws j D w) : Full W w X Y C t n zs := by
  obtain ⟨nv, r, g, c, hi, hsc, _⟩ := h
  exact ⟨_, _, _, _, _, hsc⟩
theorem Phase.look {j : Nat} {w : World} (hc : j < (2 * t).toNat ∨ (j = (2 * t).toNat ∧ 0 < (freeOf t n zs L).length)) (h : Looking W X Y C t n zs L (slotsTo n zs j) w) : Phase W X Y C t n zs L j w := by
  unfold Phase
  rw [if_pos hc]
  exact h
theorem Phase.give {j i D : Nat} {w : World} (hi : j = (2 * t).toNat + i) (i0 : 0 < i) (i1 : i < (freeOf t n zs L).length) (h : Giving W X Y C t n (giveTo n zs (freeOf t n zs L) i) L (slotsAll t n zs) i D w) : Phase W X Y C t n zs L j w := by
  unfold Phase
  rw [if_neg (by omega), if_pos (by omega), show j - (2 * t).toNat = i by omega]
  exact ⟨D, h⟩
theorem Phase.over {j : Nat} {w : World} (hj : j = (2 * t).toNat + (freeOf t n zs L).length) (h : Over W X Y C t n (giveTo n zs (freeOf t n zs L) (freeOf t n zs L).length) L (slotsAll t n zs) w) : Phase W X Y C t n zs L j w := by
  unfold Phase
  rw [if_neg (by omega), if_neg (by omega)]
  exact h
theorem phase_step (hs : Sound t n zs) (hl : L.length ≤ 1000) (hL : ∀ x ∈ L, 1 ≤ x ∧ x ≤ n) (j : Nat) (w : World) (hj : j < (2 * t).toNat + (freeOf t n zs L).length) (h : Phase W X Y C t n zs L j w) :
    Calls Try.prog 22 #[.pointer (some ⟨C, 0, none⟩), .pointer (some ⟨X, 0, none⟩)] w fun e w' => e = .returned (.bool (decide (j + 1 = (2 * t).toNat + (freeOf t n zs L).length))) ∧ Phase W X Y C t n zs L (j + 1) w' := by
  have t0 := hs.t0
  have n1 := hs.n1
  have hL2 : ∀ x ∈ L, 0 ≤ x ∧ x ≤ 1000 := fun x hx => by have := hL x hx; omega
  have hST : (((2 * t).toNat : Nat) : Int) = 2 * t := by omega
  have hlen : ((slotsTo n zs j).length : Int) = j := by rw [slotsTo_length]
  by_cases hjS : j < (2 * t).toNat
  · unfold Phase at h
    rw [if_pos (Or.inl hjS)] at h
    by_cases hj1 : j + 1 < (2 * t).toNat
    · refine (step_look hs h (by rw [hlen]; omega)).mono ?_
      rintro e w' ⟨rfl, hp⟩
      rw [slotsTo_length] at hp
      exact ⟨ret_bool (decide_eq_false (by omega)).symm, Phase.look (Or.inl hj1) hp⟩
    · have hjS1 : j + 1 = (2 * t).toNat := by omega
      have e1 : slotsTo n zs j ++ [slotW n zs (slotsTo n zs j).length] = slotsTo n zs (j + 1) := by rw [slotsTo_length, slotsTo]
      have e2 : slotsTo n zs (j + 1) = slotsAll t n zs := by rw [hjS1]; rfl
      by_cases hU : 0 < (freeOf t n zs L).length
      · refine (step_last hs hl hL2 h (by rw [hlen]; omega) (by rw [e1, e2]; exact hU)).mono ?_
        rintro e w' ⟨rfl, hp⟩
        rw [e1] at hp
        exact ⟨ret_bool (decide_eq_false (by omega)).symm, Phase.look (Or.inr ⟨hjS1, hU⟩) hp⟩
      · have hUz : (freeOf t n zs L).length = 0 := by omega
        refine (step_end hs hl hL2 h (by rw [hlen]; omega) (by rw [e1, e2]; exact hUz)).mono ?_
        rintro e w' ⟨rfl, hp⟩
        rw [e1, e2] at hp
        exact ⟨ret_bool (decide_eq_true (by omega)).symm, Phase.over (by omega) (by rw [hUz]; exact hp)⟩
  · have hUp : 0 < (freeOf t n zs L).length := by omega
    obtain ⟨i, hi⟩ : ∃ i, j = (2 * t).toNat + i := ⟨j - (2 * t).toNat, by omega⟩
    -- who gives back, at whichever node
    have key : Full W w X Y C t n (giveTo n zs (freeOf t n zs L) i) ∧ ∀ w1, Below w.heap.size w w1 → Gets W X Y C t n (giveTo n zs (freeOf t n zs L) i) L (slotsAll t n zs) i w1 := by
      unfold Phase at h
      by_cases hi0 : i = 0
      · subst hi0
        rw [if_pos (Or.inr ⟨by omega, hUp⟩), hi] at h
        rw [hi] at hlen
        exact ⟨full_look h (by rw [slotsTo_length]; omega), fun w1 hb => gets_new t0 hl hL2 (h.next hb) (by rw [slotsAll_length]; omega) hUp⟩
      · rw [if_neg (by omega), if_pos hj, show j - (2 * t).toNat = i by omega] at h
        obtain ⟨D, h⟩ := h
        exact ⟨full_give h, fun w1 hb => gets_old (h.next hb)⟩
    obtain ⟨hf, hg⟩ := key
    have hs2 := giveTo_sound hs (freeOf t n zs L) i
    by_cases hlast : i + 1 < (freeOf t n zs L).length
    · refine (step_give hs2 hl hL hf hg hlast).mono ?_
      rintro e w' ⟨rfl, D, hp⟩
      exact ⟨ret_bool (decide_eq_false (by omega)).symm, Phase.give (i := i + 1) (by omega) (by omega) hlast hp⟩
    · have hie : i + 1 = (freeOf t n zs L).length := by omega
      refine (step_over hs2 hl hL hf hg hie).mono ?_
      rintro e w' ⟨rfl, hp⟩
      exact ⟨ret_bool (decide_eq_true (by omega)).symm, Phase.over (by omega) (by rw [← hie]; exact hp)⟩
/-- A scan, run alone. -/
theorem scan_run (w : World) (hs : Sound t n zs) (hl : L.length ≤ 1000) (hL : ∀ x ∈ L, 1 ≤ x ∧ x ≤ n) (h : Looking W X Y C t n zs L [] w) (most : Int) (m0 : 2 * t + ((freeOf t n zs L).length : Int) ≤ most) (m1 : most ≤ 100000) (g : Nat) (hc : w.cell? ⟨g, 0, none⟩ = some (.iface 40 (.pointer (some ⟨C, 0, none⟩)))) :
    Calls Try.prog 17 #[.pointer (some ⟨X, 0, none⟩), .int .i64 most, .slice (some ⟨g, 0, none⟩) 1 1] w fun e w' => e = .returned (.tuple #[.int .i64 (2 * t + ((freeOf t n zs L).length : Int)), .bool true]) ∧ Over W X Y C t n (giveTo n zs (freeOf t n zs L) (freeOf t n zs L).length) L (slotsAll t n zs) w' := by
  have t0 := hs.t0
  have t1 := hs.t1
  have h0 : Phase W X Y C t n zs L 0 w := by
    unfold Phase
    rw [if_pos (Or.inl (by omega))]
    exact h
  refine (run_scan w X C most ((2 * t).toNat + (freeOf t n zs L).length) _ (by omega) (by omega) m1 h0 g hc (fun j wr hj hp => phase_step hs hl hL j wr hj hp)).mono ?_
  rintro e w' ⟨rfl, hp⟩
  have e : (((2 * t).toNat + (freeOf t n zs L).length : Nat) : Int) = 2 * t + ((freeOf t n zs L).length : Int) := by omega
  refine ⟨by rw [e], ?_⟩
  unfold Phase at hp
  rw [if_neg (by omega), if_neg (by omega)] at hp
  exact hp
end
end Go.Proofs.Ytnphnhafifaaoaa.guard
