/- What was given back in two scans is what is given back at once: word by word. -/
import Derived.Test.YtnphnhafifaaoaaG4
namespace Go.Proofs.Ytnphnhafifaaoaa.guard
open Go.RowKit mem life

theorem words_ext {zs ys : List Int} (hl : zs.length = ys.length) (h : ∀ a, wordAt zs a = wordAt ys a) : zs = ys := by
  apply List.ext_getElem hl
  intro i h1 h2
  have := h i
  rw [wordAt_nat h1, wordAt_nat h2, List.getD_eq_getElem?_getD, List.getD_eq_getElem?_getD, List.getElem?_eq_getElem h1, List.getElem?_eq_getElem h2] at this
  exact this
theorem giveTo_length (n : Int) (zs U : List Int) : ∀ j, (giveTo n zs U j).length = zs.length
  | 0 => rfl
  | j + 1 => by
    rw [giveTo]
    unfold putLife
    rw [setAt_length, giveTo_length n zs U j]
/-- The words, the slots of the first k threads being 0. -/
def dropTo (n : Int) (zs : List Int) : Nat → List Int
  | 0 => zs
  | k + 1 => dropped n (dropTo n zs k) k
theorem dropTo_length (n : Int) (zs : List Int) : ∀ k, (dropTo n zs k).length = zs.length
  | 0 => rfl
  | k + 1 => by
    rw [dropTo]
    unfold dropped
    rw [setAt_length, setAt_length, dropTo_length n zs k]
theorem dropTo_sound {t n : Int} {zs : List Int} (hs : Sound t n zs) : ∀ k, Sound t n (dropTo n zs k)
  | 0 => hs
  | k + 1 => sound_set (sound_set (dropTo_sound hs k) (by omega) (by omega)) (by omega) (by omega)
section
variable {t n : Int} {zs : List Int}
theorem wordAt_drop (hs : Sound t n zs) (a : Int) : ∀ k : Nat, (k : Int) ≤ t → wordAt (dropTo n zs k) a = if slotA n 0 ≤ a ∧ a < slotA n (2 * k) then 0 else wordAt zs a
  | 0, _ => by
    rw [if_neg (by unfold slotA; omega)]
    rfl
  | k + 1, hk => by
    have ih := wordAt_drop hs a k (by omega)
    have hd := dropTo_sound hs k
    have h0 := inSlot hd (k := 2 * (k : Int)) (by omega) (by omega)
    have h1 : inB (setAt (dropTo n zs k) (slotA n (2 * (k : Int))) 0) (slotA n (2 * (k : Int) + 1)) = true := by rw [inB_setAt]; exact inSlot hd (by omega) (by omega)
    rw [dropTo]
    unfold dropped
    by_cases e1 : slotA n (2 * (k : Int) + 1) = a
    · subst e1
      rw [wordAt_setAt_same _ _ _ h1, if_pos (by unfold slotA; omega)]
    · rw [wordAt_setAt_other _ _ _ _ e1]
      by_cases e0 : slotA n (2 * (k : Int)) = a
      · subst e0
        rw [wordAt_setAt_same _ _ _ h0, if_pos (by unfold slotA; omega)]
      · rw [wordAt_setAt_other _ _ _ _ e0, ih]
        unfold slotA at *
        by_cases hc : 2 * n + 5 + 0 ≤ a ∧ a < 2 * n + 5 + 2 * (k : Int)
        · rw [if_pos hc, if_pos (by omega)]
        · rw [if_neg hc, if_neg (by omega)]
theorem wordAt_give (hs : Sound t n zs) (U : List Int) (hU : ∀ x ∈ U, 1 ≤ x ∧ x ≤ n) (hn : U.Nodup) (a : Int) : ∀ j, j ≤ U.length → wordAt (giveTo n zs U j) a = if a - (n + 4) ∈ U.take j then IntKind.u64.wrap (wordAt zs a + 1) else wordAt zs a
  | 0, _ => by simp [giveTo]
  | j + 1, hj => by
    have ih := wordAt_give hs U hU hn a j (by omega)
    have hlt : j < U.length := by omega
    have hg : U.getD j 0 = U[j] := by rw [List.getD_eq_getElem?_getD, List.getElem?_eq_getElem hlt]; rfl
    have hin := hU U[j] (List.getElem_mem _)
    rw [giveTo, hg, List.take_succ_eq_append_getElem hlt]
    by_cases hx : a - (n + 4) = U[j]
    · have hnot : U[j] ∉ U.take j := by
        intro hm
        obtain ⟨i, hi, he⟩ := List.getElem_of_mem hm
        rw [List.getElem_take] at he
        have hi2 : i < j := by simp at hi; omega
        exact (List.pairwise_iff_getElem.1 hn) i j (by omega) hlt hi2 he
      have ha : n + 4 + U[j] = a := by omega
      rw [hx, if_neg hnot] at ih
      have h1 := lifeIn_put_same (giveTo_sound hs U j) hin.1 hin.2 (x := IntKind.u64.wrap (lifeIn n (giveTo n zs U j) U[j] + 1))
      unfold lifeIn at h1
      rw [ha] at h1
      rw [hx, if_pos (List.mem_append.2 (Or.inr (List.mem_singleton.2 rfl)))]
      unfold lifeIn
      rw [ha, h1, ih]
    · have e : a - (n + 4) ∈ U.take j ++ [U[j]] ↔ a - (n + 4) ∈ U.take j := by rw [List.mem_append, List.mem_singleton]; exact ⟨fun h => h.resolve_right hx, Or.inl⟩
      unfold putLife
      rw [wordAt_setAt_other _ _ _ _ (by omega), ih]
      by_cases hm : a - (n + 4) ∈ U.take j
      · rw [if_pos hm, if_pos (e.2 hm)]
      · rw [if_neg hm, if_neg (fun h => hm (e.1 h))]
theorem wordAt_all (hs : Sound t n zs) (U : List Int) (hU : ∀ x ∈ U, 1 ≤ x ∧ x ≤ n) (hn : U.Nodup) (a : Int) : wordAt (giveTo n zs U U.length) a = if a - (n + 4) ∈ U then IntKind.u64.wrap (wordAt zs a + 1) else wordAt zs a := by
  rw [wordAt_give hs U hU hn a _ (Nat.le_refl _), List.take_length]
/-- BOTH SCANS TOGETHER. -/
theorem both (hs : Sound t n zs) (ws A : List Int) (hA : ∀ x ∈ A, 1 ≤ x ∧ x ≤ n) (hn : A.Nodup) (k : Nat) (hk : (k : Int) = t) :
    giveTo n (dropTo n (giveTo n zs (untold ws A) (untold ws A).length) k) (told ws A) (told ws A).length = giveTo n (dropTo n zs k) A A.length := by
  have hFi : ∀ x ∈ untold ws A, 1 ≤ x ∧ x ≤ n := fun x hx => hA x (List.mem_filter.1 hx).1
  have hKi : ∀ x ∈ told ws A, 1 ≤ x ∧ x ≤ n := fun x hx => hA x (List.mem_filter.1 hx).1
  have hFn : (untold ws A).Nodup := hn.filter _
  have hKn : (told ws A).Nodup := hn.filter _
  have h1 := giveTo_sound hs (untold ws A) (untold ws A).length
  have h2 := dropTo_sound h1 k
  have h3 := dropTo_sound hs k
  apply words_ext
  · rw [giveTo_length, dropTo_length, giveTo_length, giveTo_length, dropTo_length]
  · intro a
    rw [wordAt_all h2 _ hKi hKn, wordAt_all h3 _ hA hn, wordAt_drop h1 a k (by omega), wordAt_drop hs a k (by omega), wordAt_all hs _ hFi hFn]
    by_cases hm : a - (n + 4) ∈ A
    · have hin := hA _ hm
      have hns : ¬ (slotA n 0 ≤ a ∧ a < slotA n (2 * (k : Int))) := by unfold slotA; omega
      rw [if_pos hm, if_neg hns, if_neg hns]
      by_cases hw : a - (n + 4) ∈ ws
      · have hK : a - (n + 4) ∈ told ws A := List.mem_filter.2 ⟨hm, decide_eq_true hw⟩
        have hF : a - (n + 4) ∉ untold ws A := fun h => (of_decide_eq_true (List.mem_filter.1 h).2) hw
        rw [if_pos hK, if_neg hF]
      · have hK : a - (n + 4) ∉ told ws A := fun h => hw (of_decide_eq_true (List.mem_filter.1 h).2)
        have hF : a - (n + 4) ∈ untold ws A := List.mem_filter.2 ⟨hm, decide_eq_true hw⟩
        rw [if_neg hK, if_pos hF]
    · have hK : a - (n + 4) ∉ told ws A := fun h => hm (List.mem_filter.1 h).1
      have hF : a - (n + 4) ∉ untold ws A := fun h => hm (List.mem_filter.1 h).1
      rw [if_neg hm, if_neg hK, if_neg hF]
/-- When all have dropped no slot has a node. -/
theorem no_slots (hs : Sound t n zs) (k : Nat) (hk : (k : Int) = t) (x : Int) (x0 : 1 ≤ x) : x ∉ slotsAll t n (dropTo n zs k) := by
  intro hm
  obtain ⟨i, hi, he⟩ := (mem_slotsAll (dropTo_sound hs k) x).1 hm
  unfold slotW at he
  rw [wordAt_drop hs _ k (by omega), if_pos (by unfold slotA; omega)] at he
  omega
theorem told_none (hs : Sound t n zs) (k : Nat) (hk : (k : Int) = t) (K : List Int) (hK : ∀ x ∈ K, 1 ≤ x ∧ x ≤ n) : told (slotsAll t n (dropTo n zs k)) K = [] := by
  unfold told
  rw [List.filter_eq_nil_iff]
  intro x hx h
  exact no_slots hs k hk x (hK x hx).1 (of_decide_eq_true h)
theorem free_all (hs : Sound t n zs) (k : Nat) (hk : (k : Int) = t) (K : List Int) (hK : ∀ x ∈ K, 1 ≤ x ∧ x ≤ n) : freeOf t n (dropTo n zs k) K = K := untold_all fun x hx => no_slots hs k hk x (hK x hx).1
end
end Go.Proofs.Ytnphnhafifaaoaa.guard
