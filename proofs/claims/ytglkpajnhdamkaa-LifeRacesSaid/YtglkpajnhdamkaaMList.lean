/- What a word is at whatever address, and what the words are behind a store there. -/
import Derived.Test.YtglkpajnhdamkaaMBase
namespace Go.Proofs.Ytglkpajnhdamkaa.mem
open Go.RowKit

/-- Is there such an address? -/
def inB (zs : List Int) (a : Int) : Bool := decide (0 ≤ a ∧ a < zs.length)
/-- The word there; 0, if there is none. -/
def wordAt (zs : List Int) (a : Int) : Int := if 0 ≤ a ∧ a < zs.length then zs.getD a.toNat 0 else 0
/-- The words, that one being another one now. -/
def setAt (zs : List Int) (a v : Int) : List Int := if 0 ≤ a ∧ a < zs.length then zs.set a.toNat v else zs
/-- A number that is there where there is an address, else 0. -/
def only (b : Bool) (v : Int) : Int := if b = true then v else 0
theorem inB_nat {zs : List Int} {a : Nat} (h : a < zs.length) : inB zs a = true := by unfold inB; simp; omega
theorem inB_not {zs : List Int} {a : Int} (h : ¬ (0 ≤ a ∧ a < zs.length)) : inB zs a = false := by unfold inB; simp; omega
theorem wordAt_nat {zs : List Int} {a : Nat} (h : a < zs.length) : wordAt zs a = zs.getD a 0 := by unfold wordAt; rw [if_pos (by omega)]; rfl
theorem wordAt_not {zs : List Int} {a : Int} (h : ¬ (0 ≤ a ∧ a < zs.length)) : wordAt zs a = 0 := by unfold wordAt; rw [if_neg h]
theorem setAt_nat {zs : List Int} {a : Nat} (v : Int) (h : a < zs.length) : setAt zs a v = zs.set a v := by unfold setAt; rw [if_pos (by omega)]; rfl
theorem setAt_not {zs : List Int} {a : Int} (v : Int) (h : ¬ (0 ≤ a ∧ a < zs.length)) : setAt zs a v = zs := by unfold setAt; rw [if_neg h]
theorem setAt_length (zs : List Int) (a v : Int) : (setAt zs a v).length = zs.length := by unfold setAt; split <;> simp
theorem set_same (zs : List Int) (a : Nat) : zs.set a (zs.getD a 0) = zs := by
  by_cases h : a < zs.length
  · rw [List.getD_eq_getElem?_getD, List.getElem?_eq_getElem h]
    exact List.set_getElem_self h
  · rw [List.set_eq_of_length_le (by omega)]
theorem setAt_same (zs : List Int) (a : Int) : setAt zs a (wordAt zs a) = zs := by
  unfold setAt wordAt
  split
  · exact set_same zs _
  · rfl
theorem inB_setAt (zs : List Int) (a v b : Int) : inB (setAt zs a v) b = inB zs b := by unfold inB; rw [setAt_length]
theorem wordAt_setAt_same (zs : List Int) (a v : Int) (h : inB zs a = true) : wordAt (setAt zs a v) a = v := by
  have h : 0 ≤ a ∧ a < zs.length := by unfold inB at h; simpa using h
  unfold wordAt
  rw [setAt_length, if_pos h]
  unfold setAt
  have hl : a.toNat < (zs.set a.toNat v).length := by simp; omega
  rw [if_pos h, List.getD_eq_getElem?_getD, List.getElem?_eq_getElem hl]
  simp
theorem wordAt_setAt_other (zs : List Int) (a v b : Int) (h : a ≠ b) : wordAt (setAt zs a v) b = wordAt zs b := by
  unfold wordAt
  rw [setAt_length]
  split
  · rename_i hb
    unfold setAt
    split
    · rename_i ha
      rw [List.getD_eq_getElem?_getD, List.getD_eq_getElem?_getD, List.getElem?_set_ne (by omega)]
    · rfl
  · rfl
theorem setAt_comm (zs : List Int) (a b v u : Int) (h : a ≠ b) : setAt (setAt zs a v) b u = setAt (setAt zs b u) a v := by
  unfold setAt
  by_cases ha : 0 ≤ a ∧ a < zs.length <;> by_cases hb : 0 ≤ b ∧ b < zs.length <;> simp [ha, hb]
  exact List.set_comm _ _ (by omega)
end Go.Proofs.Ytglkpajnhdamkaa.mem
