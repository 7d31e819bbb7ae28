/- A world for the witness; the arguments, opened: a slice of words, an operation, a layout by value. -/
import Derived.Test.YtnphnhafifaaoaaLaw
import Derived.Test.YtnphnhafifaaoaaMNew
namespace Go.Proofs.Ytnphnhafifaaoaa.law
open Go.ChangeShapes Go.WideShapes Go.ChangeAt Go.RowKit

theorem own : ownKnob Try.prog.godebug = none := by kernel_rfl
theorem cellsWord : Try.prog.cellsOf 25 = 1 := by kernel_rfl
theorem cellsByte : Try.prog.cellsOf 5 = 1 := by kernel_rfl
theorem laidOut : laidOutB Try.prog = true := by kernel_rfl
/-- The settled world. -/
noncomputable def laidWorld (os : Os) : World := World.holding Try.prog os ⟨#[], #[], []⟩

/-- A number that an int holds. -/
def Fits (x : Int) : Prop := -9223372036854775808 ≤ x ∧ x ≤ 9223372036854775807
/-- A number that a word holds. -/
def Word (x : Int) : Prop := 0 ≤ x ∧ x < 18446744073709551616

/-- A slice of words as it came in. -/
theorem open_words {H : Type} {enc : TypeId × Value → H} {W : World} {b0 base : Nat} {spare : Nat → Bool} {held : Bool} {r : Reach} {v : Value} {d : DataW H} {p : List MemPlace}
    (hv : Value.okWide Try.prog W r b0 24 v) (h : DataW.Trod enc Try.prog W base spare held 24 v d p) :
    ∃ (a : Option Addr) (ws : List Int) (N cap : Nat), v = .slice a N cap ∧ ws.length = N ∧ mem.Words W a ws ∧ ∀ x ∈ ws, Word x := by
  obtain ⟨a1, len, cap, rfl⟩ := okWide_slice Try.underlying24 hv
  obtain ⟨fuel, hf⟩ := h
  rcases open_ints Try.underlying24 Try.underlying25 cellsWord hf with ⟨hcs, _⟩ | ⟨b, len', cap', zs, hcs, _, hl, _, hz, _, hcell, hwz⟩
  · simp [Value.cells] at hcs
    obtain ⟨rfl, rfl, rfl⟩ := hcs
    exact ⟨none, [], 0, 0, rfl, rfl, mem.Words.none W, by simp⟩
  · simp [Value.cells] at hcs
    obtain ⟨rfl, rfl, rfl⟩ := hcs
    have hle : len ≤ zs.length := by rw [hz]; split <;> omega
    refine ⟨some b, zs.take len, len, cap, rfl, by simp; omega, ?_, ?_⟩
    · intro i hi
      have hi2 : i < len := by simp at hi; omega
      refine ⟨b, rfl, ?_⟩
      rw [hcell i (by omega), List.getD_eq_getElem?_getD, List.getD_eq_getElem?_getD, List.getElem?_take, if_pos hi2]
    · intro x hx
      exact u64_wf (hwz x (List.mem_of_mem_take hx))

theorem array_four {α : Type} {cs : Array α} (h : cs.size = 4) : ∃ c0 c1 c2 c3, cs = #[c0, c1, c2, c3] := by
  obtain ⟨l⟩ := cs
  match l, h with
  | [a, b, c, d], _ => exact ⟨a, b, c, d, rfl⟩
/-- A layout by value: its two cells. -/
theorem open_lay {H : Type} {enc : TypeId × Value → H} {W : World} {b0 base : Nat} {spare : Nat → Bool} {held : Bool} {r : Reach} {v : Value} {d : DataW H} {p : List MemPlace}
    (hv : Value.okWide Try.prog W r b0 28 v) (h : DataW.Trod enc Try.prog W base spare held 28 v d p) :
    ∃ (t n : Int), v = .agg #[.int .i64 t, .int .i64 n] ∧ Fits t ∧ Fits n := by
  obtain ⟨cs, rfl, hsz, hc⟩ := open_flat Try.underlying28 (by kernel_rfl) (by kernel_rfl) hv h
  obtain ⟨a, b, rfl⟩ := array_two hsz
  obtain ⟨n0, y0, h0⟩ := hc 0 _ a rfl rfl
  obtain ⟨n1, y1, h1⟩ := hc 1 _ b rfl rfl
  obtain ⟨t, rfl, wt⟩ := cell_int Try.underlying3 h0
  obtain ⟨n, rfl, wn⟩ := cell_int Try.underlying3 h1
  exact ⟨t, n, rfl, i64_wf wt, i64_wf wn⟩
end Go.Proofs.Ytnphnhafifaaoaa.law
