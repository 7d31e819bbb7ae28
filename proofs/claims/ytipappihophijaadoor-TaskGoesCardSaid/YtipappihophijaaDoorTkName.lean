/- task.Name: a kind's name, by the table of names. -/
import Derived.Test.YtipappihophijaaDoorTkBase
namespace Go.Proofs.YtipappihophijaaDoor.task
open Go.RowKit

def nm0 : ByteArray := ⟨#[]⟩
def nm1 : ByteArray := ⟨#[105, 110, 115, 101, 114, 116]⟩
def nm2 : ByteArray := ⟨#[100, 101, 108, 101, 116, 101]⟩
def nm3 : ByteArray := ⟨#[104, 97, 115]⟩
def nm4 : ByteArray := ⟨#[112, 117, 116]⟩
def nm5 : ByteArray := ⟨#[116, 97, 107, 101]⟩
/-- A kind's name. -/
def nameOf (k : Int) : ByteArray := if k = 1 then nm1 else if k = 2 then nm2 else if k = 3 then nm3 else if k = 4 then nm4 else if k = 5 then nm5 else nm0

theorem name1 {n : Int} (h : (n == 1) = true) : Value.string nm1 = Value.string (nameOf n) := by
  obtain rfl : n = 1 := by simpa using h
  rfl
theorem name2 {n : Int} (h : (n == 2) = true) : Value.string nm2 = Value.string (nameOf n) := by
  obtain rfl : n = 2 := by simpa using h
  rfl
theorem name3 {n : Int} (h : (n == 3) = true) : Value.string nm3 = Value.string (nameOf n) := by
  obtain rfl : n = 3 := by simpa using h
  rfl
theorem name4 {n : Int} (h : (n == 4) = true) : Value.string nm4 = Value.string (nameOf n) := by
  obtain rfl : n = 4 := by simpa using h
  rfl
theorem name5 {n : Int} (h : (n == 5) = true) : Value.string nm5 = Value.string (nameOf n) := by
  obtain rfl : n = 5 := by simpa using h
  rfl
theorem name0 {n : Int} (h1 : (n == 1) = false) (h2 : (n == 2) = false) (h3 : (n == 3) = false) (h4 : (n == 4) = false) (h5 : (n == 5) = false) : Value.string nm0 = Value.string (nameOf n) := by
  simp only [beq_eq_false_iff_ne, ne_eq] at h1 h2 h3 h4 h5
  unfold nameOf
  rw [if_neg h1, if_neg h2, if_neg h3, if_neg h4, if_neg h5]
/-- The table of names, as the program lays it. -/
structure Names (w : World) : Prop where
  c0 : w.cell? ⟨0, 0, none⟩ = some (.string nm0)
  c1 : w.cell? ⟨0, 1, none⟩ = some (.string nm1)
  c2 : w.cell? ⟨0, 2, none⟩ = some (.string nm2)
  c3 : w.cell? ⟨0, 3, none⟩ = some (.string nm3)
  c4 : w.cell? ⟨0, 4, none⟩ = some (.string nm4)
  c5 : w.cell? ⟨0, 5, none⟩ = some (.string nm5)
  size : 0 < w.heap.size
theorem Names.below {w w' : World} (h : Names w) (hb : Below w.heap.size w w') : Names w' :=
  ⟨(hb.cell h.size).trans h.c0, (hb.cell h.size).trans h.c1, (hb.cell h.size).trans h.c2, (hb.cell h.size).trans h.c3, (hb.cell h.size).trans h.c4, (hb.cell h.size).trans h.c5, Nat.lt_of_lt_of_le h.size hb.size⟩

set_option maxRecDepth 100000 in
set_option maxHeartbeats 1000000 in
theorem name_any (w : World) (k : Int) (ht : Names w) :
    Calls Tryd.prog 5 #[.int .i64 k] w fun e w' => e = .returned (.string (nameOf k)) ∧ Below w.heap.size w w' := by
  obtain ⟨t0, t1, t2, t3, t4, t5, hz⟩ := ht
  by_cases hin : 0 ≤ k ∧ k ≤ 5
  · have hk : k = 0 ∨ k = 1 ∨ k = 2 ∨ k = 3 ∨ k = 4 ∨ k = 5 := by omega
    rcases hk with rfl | rfl | rfl | rfl | rfl | rfl
    all_goals
      go_enter Tryd.func5, Tryd.ntmps5
      go_wp2
      go_returns
      exact ⟨rfl, by go_grown⟩
  · have hn : nameOf k = nm0 := by
      unfold nameOf
      rw [if_neg (by omega), if_neg (by omega), if_neg (by omega), if_neg (by omega), if_neg (by omega)]
    rw [hn]
    have hd : k < 0 ∨ 6 ≤ k := by omega
    clear hin hn
    rcases hd with h | h
    all_goals
      go_enter Tryd.func5, Tryd.ntmps5
      go_wp2
      all_goals first
        | (exact absurd h (by omega))
        | (go_returns; exact ⟨rfl, by go_grown⟩)
end Go.Proofs.YtipappihophijaaDoor.task
