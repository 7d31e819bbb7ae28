/- Which nodes are taken, behind some that were given back. -/
import Derived.Test.YtnphnhafifaaoaaLBack
import Derived.Test.YtnphnhafifaaoaaLCount
import Derived.Test.YtnphnhafifaaoaaL2
namespace Go.Proofs.Ytnphnhafifaaoaa.life
open Go.RowKit mem

/-- One more life: taken, if it was free; free, if it was taken. -/
theorem taken_up_same {t n : Int} {zs : List Int} (h : Sound t n zs) {i : Int} (i0 : 1 ≤ i) (i1 : i ≤ n) : takenB n (putLife n zs i (IntKind.u64.wrap (lifeIn n zs i + 1))) i = !takenB n zs i := by
  unfold takenB
  rw [lifeIn_put_same h i0 i1, IntKind.wrap_u64]
  by_cases hp : lifeIn n zs i % 2 = 1
  · rw [show (lifeIn n zs i % 2 == 1) = true by simpa using hp, show (((lifeIn n zs i + 1) % 18446744073709551616) % 2 == 1) = false by simp; omega]
    rfl
  · rw [show (lifeIn n zs i % 2 == 1) = false by simpa using hp, show (((lifeIn n zs i + 1) % 18446744073709551616) % 2 == 1) = true by simp; omega]
    rfl
/-- The nodes up to the k-th one of which f is true. -/
def allTo (f : Int → Bool) : Nat → List Int
  | 0 => []
  | k + 1 => allTo f k ++ (if f ((k + 1 : Nat) : Int) = true then [((k + 1 : Nat) : Int)] else [])
theorem allTo_length (f : Int → Bool) : ∀ k, (allTo f k).length ≤ k
  | 0 => by simp [allTo]
  | k + 1 => by
    have := allTo_length f k
    rw [allTo]
    split <;> simp <;> omega
theorem mem_allTo (f : Int → Bool) (x : Int) : ∀ k, x ∈ allTo f k ↔ 1 ≤ x ∧ x ≤ k ∧ f x = true
  | 0 => by simp [allTo]; omega
  | k + 1 => by
    have ih := mem_allTo f x k
    rw [allTo, List.mem_append, ih]
    by_cases hx : x = ((k + 1 : Nat) : Int)
    · subst hx
      by_cases ht : f ((k + 1 : Nat) : Int) = true
      · rw [if_pos ht]
        exact ⟨fun _ => ⟨by omega, Int.le_refl _, ht⟩, fun _ => Or.inr (List.mem_singleton.2 rfl)⟩
      · rw [if_neg ht]
        exact ⟨fun h => by rcases h with ⟨_, h, _⟩ | h; · omega
                           · simp at h, fun h => absurd h.2.2 ht⟩
    · have e : (x ∈ (if f ((k + 1 : Nat) : Int) = true then [((k + 1 : Nat) : Int)] else [])) ↔ False := by
        split
        · simp only [List.mem_singleton, iff_false]; exact hx
        · simp
      rw [e, or_false]
      constructor <;> rintro ⟨a, b, c⟩ <;> exact ⟨a, by omega, c⟩
theorem nodup_allTo (f : Int → Bool) : ∀ k, (allTo f k).Nodup
  | 0 => by simp [allTo]
  | k + 1 => by
    have ih := nodup_allTo f k
    rw [allTo, List.nodup_append]
    refine ⟨ih, by split <;> simp, fun x hx y hy he => ?_⟩
    subst he
    rw [mem_allTo] at hx
    split at hy
    · have := List.mem_singleton.1 hy; omega
    · simp at hy
/-- Taken and free ones are all. -/
theorem free_and_all (n : Int) (zs : List Int) (f : Int → Bool) : ∀ k : Nat, (∀ i : Nat, i < k → takenB n zs ((i + 1 : Nat) : Int) = f ((i + 1 : Nat) : Int)) → (freeTo n zs k).length + (allTo f k).length = k
  | 0, _ => rfl
  | k + 1, h => by
    have ih := free_and_all n zs f k (fun i hi => h i (by omega))
    rw [freeTo, allTo, h k (by omega), List.length_append, List.length_append]
    cases f ((k + 1 : Nat) : Int) <;> simp <;> omega
/-- What is taken behind some that were given back. -/
theorem taken_giveTo {t n : Int} {zs : List Int} (hs : Sound t n zs) (L : List Int) (hL : ∀ x ∈ L, 1 ≤ x ∧ x ≤ n) (hn : L.Nodup) (x : Int) : ∀ j, j ≤ L.length → takenB n (giveTo n zs L j) x = if x ∈ L.take j then !takenB n zs x else takenB n zs x
  | 0, _ => by simp [giveTo]
  | j + 1, hj => by
    have ih := taken_giveTo hs L hL hn x j (by omega)
    have hlt : j < L.length := by omega
    have hg : L.getD j 0 = L[j] := by rw [List.getD_eq_getElem?_getD, List.getElem?_eq_getElem hlt]; rfl
    have hin := hL L[j] (List.getElem_mem _)
    rw [giveTo, hg, List.take_succ_eq_append_getElem hlt]
    by_cases hx : x = L[j]
    · have hnot : L[j] ∉ L.take j := by
        intro hm
        obtain ⟨i, hi, he⟩ := List.getElem_of_mem hm
        rw [List.getElem_take] at he
        have hi2 : i < j := by simp at hi; omega
        exact (List.pairwise_iff_getElem.1 hn) i j (by omega) hlt hi2 he
      rw [hx] at ih ⊢
      rw [taken_up_same (giveTo_sound hs L j) hin.1 hin.2, ih, if_neg hnot, if_pos (List.mem_append.2 (Or.inr (List.mem_singleton.2 rfl)))]
    · rw [taken_put_other (Ne.symm hx), ih]
      have e : x ∈ L.take j ++ [L[j]] ↔ x ∈ L.take j := by rw [List.mem_append, List.mem_singleton]; exact ⟨fun h => h.resolve_right hx, Or.inl⟩
      by_cases hm : x ∈ L.take j
      · rw [if_pos hm, if_pos (e.2 hm)]
      · rw [if_neg hm, if_neg (fun h => hm (e.1 h))]
theorem freeTo_all (n : Int) (zs : List Int) (k : Nat) (h : ∀ i : Nat, i < k → takenB n zs ((i + 1 : Nat) : Int) = false) : (freeTo n zs k).length = k := by
  have := free_and_all n zs (fun _ => false) k h
  have e : allTo (fun _ => false) k = [] := by
    have : ∀ m, allTo (fun _ => false) m = [] := by
      intro m
      induction m with
      | zero => rfl
      | succ m ih => rw [allTo, ih]; rfl
    exact this k
  rw [e] at this
  simpa using this

end Go.Proofs.Ytnphnhafifaaoaa.life
