/- Slots and lives lie apart; what a law's walk carries through a scan. -/
import Derived.Test.YtnphnhafifaaoaaGNew
import Derived.Test.YtnphnhafifaaoaaGMemory
import Derived.Test.YtnphnhafifaaoaaG2
import Derived.Test.YtnphnhafifaaoaaLGiveP
namespace Go.Proofs.Ytnphnhafifaaoaa.guard
open Go.RowKit mem life

section
variable {t n : Int} {zs : List Int}
theorem inSlot (hs : Sound t n zs) {k : Int} (k0 : 0 ≤ k) (k1 : k < 2 * t) : inB zs (slotA n k) = true := by
  have hl := hs.len
  have n0 := hs.n0
  have t0 := hs.t0
  unfold inB slotA
  apply decide_eq_true
  omega
theorem slotW_set_same (hs : Sound t n zs) {k x : Int} (k0 : 0 ≤ k) (k1 : k < 2 * t) : slotW n (setAt zs (slotA n k) x) k = x := wordAt_setAt_same _ _ _ (inSlot hs k0 k1)
theorem slotW_set_other {k j x : Int} (h : k ≠ j) : slotW n (setAt zs (slotA n k) x) j = slotW n zs j := wordAt_setAt_other _ _ _ _ (by unfold slotA; omega)
theorem lifeIn_set {k x i : Int} (k0 : 0 ≤ k) (i1 : i ≤ n) : lifeIn n (setAt zs (slotA n k) x) i = lifeIn n zs i := wordAt_setAt_other _ _ _ _ (by unfold slotA; omega)
theorem taken_set {k x i : Int} (k0 : 0 ≤ k) (i1 : i ≤ n) : takenB n (setAt zs (slotA n k) x) i = takenB n zs i := by unfold takenB; rw [lifeIn_set k0 i1]
theorem slotW_put {i x k : Int} (i1 : i ≤ n) (k0 : 0 ≤ k) : slotW n (putLife n zs i x) k = slotW n zs k := wordAt_setAt_other _ _ _ _ (by unfold slotA; omega)
theorem slotW_give {U : List Int} (hU : ∀ x ∈ U, x ≤ n) {k : Int} (k0 : 0 ≤ k) : ∀ j, j ≤ U.length → slotW n (giveTo n zs U j) k = slotW n zs k
  | 0, _ => rfl
  | j + 1, hj => by
    have hin := hU (U.getD j 0) (by rw [List.getD_eq_getElem?_getD, List.getElem?_eq_getElem (by omega)]; exact List.getElem_mem _)
    rw [giveTo, slotW_put hin k0, slotW_give hU k0 j (by omega)]
theorem mem_slotsAll (hs : Sound t n zs) (x : Int) : x ∈ slotsAll t n zs ↔ ∃ i : Nat, (i : Int) < 2 * t ∧ slotW n zs i = x := by
  have t0 := hs.t0
  unfold slotsAll
  rw [mem_slotsTo]
  exact ⟨fun ⟨i, h, e⟩ => ⟨i, by omega, e⟩, fun ⟨i, h, e⟩ => ⟨i, by omega, e⟩⟩
end
/-- A slot's address, by its number. -/
theorem Slot_at (w : World) (t n k j A : Int) (n0 : 0 ≤ n) (n1 : n ≤ 300) (k0 : 0 ≤ k) (k1 : k ≤ 1000) (j0 : 0 ≤ j) (j1 : j ≤ 1000) (hA : slotA n (2 * k + j) = A) :
    Calls Try.prog 10 #[.agg #[.int .i64 t, .int .i64 n], .int .i64 k, .int .i64 j] w fun e w' => e = .returned (.int .i64 A) ∧ Below w.heap.size w w' := by
  subst hA
  refine (Slot_any w t n k j n0 n1 k0 k1 j0 j1).mono ?_
  rintro e w' ⟨rfl, hb⟩
  exact ⟨ret_int (by unfold slotA; omega), hb⟩
/-- A life's address. -/
def lifeA (n i : Int) : Int := n + 4 + i
theorem Life_at (w : World) (t n i : Int) (n0 : 0 ≤ n) (n1 : n ≤ 300) (i0 : 0 ≤ i) (i1 : i ≤ 1000) :
    Calls Try.prog 15 #[.agg #[.int .i64 t, .int .i64 n], .int .i64 i] w fun e w' => e = .returned (.int .i64 (lifeA n i)) ∧ Below w.heap.size w w' := Life_any w t n i n0 n1 i0 i1
/-- A layout's room, behind a machine's run. -/
theorem Room_moved {W w w1 : World} {b X Y C : Nat} {t n : Int} {zs ys : List Int} (h : Room W w b X Y t n zs) (hm : MemS w1 X Y t n ys) (ha : Apart3 X Y C w w1) (hc : W.heap.size ≤ C) (cb : C ≠ b) : Room W w1 b X Y t n ys :=
  ⟨ha.box h.lay h.bx h.by' (Ne.symm cb), hm, ha.below h.below h.below.size h.x0 h.y0 hc, h.b0, h.x0, h.y0, h.bx, h.by'⟩
/-- What was told, and what wasn't. -/
theorem told_eq {ws L K : List Int} (f : Int → Bool) (h : ∀ x ∈ L, decide (x ∈ ws) = f x) (hK : K = L.filter f) : told ws L = K := by
  rw [hK]
  unfold told
  exact List.filter_congr h
theorem untold_eq {ws L F : List Int} (f : Int → Bool) (h : ∀ x ∈ L, decide (x ∈ ws) = f x) (hF : F = L.filter (fun x => !f x)) : untold ws L = F := by
  rw [hF]
  unfold untold
  apply List.filter_congr
  intro x hx
  rw [← h x hx]
  by_cases hm : x ∈ ws
  · simp [hm]
  · simp [hm]
end Go.Proofs.Ytnphnhafifaaoaa.guard
