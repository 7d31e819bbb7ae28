/- What the rows' list gives: the table of the fields' widths stands; a world for the witness. -/
import Derived.Test.YtcblbbenaeiecaaDoorCards
import Derived.Test.YtcblbbenaeiecaaDoorTie
import Derived.Test.YtcblbbenaeiecaaDoorLaw
import Derived.Test.YtcblbbenaeiecaaDoorRight
namespace Go.Proofs.YtcblbbenaeiecaaDoor.law
open Go.ChangeShapes Go.WideShapes Go.ChangeAt Go.RowKit

theorem own : ownKnob Tryd.prog.godebug = none := by kernel_rfl
theorem gTab : Tryd.prog.globalNamed "sherpa/word.fieldWidths" = some 0 := by kernel_rfl
theorem gTabType : (Tryd.prog.globals[0]?).map (·.type) = some 30 := by kernel_rfl
theorem cellsTab : Tryd.prog.cellsOf 30 = 5 := by kernel_rfl
theorem cellsInt : Tryd.prog.cellsOf 3 = 1 := by kernel_rfl
theorem cellsWord : Tryd.prog.cellsOf 23 = 5 := by kernel_rfl
theorem laidOut : laidOutB Tryd.prog = true := by kernel_rfl

theorem table {W : World} (h : laidMetH Tryd.prog [("sherpa/word.fieldWidths", Rows.laid_sherpa_word_fieldWidths)] W) : word.Table W := by
  have T : Lib.TabIs Tryd.prog W "sherpa/word.fieldWidths" .i64 [10, 9, 1, 5, 18] := Lib.tabIs_of_head (rest := []) gTab gTabType Tryd.underlying30 Tryd.underlying3 cellsInt cellsTab h
  have c0 : W.cell? ⟨0, 0, none⟩ = some (.int .i64 10) := T.cell gTab 0 (by decide)
  exact ⟨c0, T.cell gTab 1 (by decide), T.cell gTab 2 (by decide), T.cell gTab 3 (by decide), T.cell gTab 4 (by decide), World.block_lt_of_cell? W _ c0⟩

/-- The settled world, the table (block 0) holding what its initialiser lays. -/
noncomputable def laidWorld (os : Os) : World :=
  { World.holding Tryd.prog os ⟨#[], #[], []⟩ with heap := (World.holding Tryd.prog os ⟨#[], #[], []⟩).heap.modify 0 fun
      | .cells _ t frozen => .cells #[.int .i64 10, .int .i64 9, .int .i64 1, .int .i64 5, .int .i64 18] t frozen
      | o => o }

/-- A word by value: its five cells. -/
theorem open_word {H : Type} {enc : TypeId × Value → H} {W : World} {b0 base : Nat} {spare : Nat → Bool} {held : Bool} {r : Reach} {v : Value} {d : DataW H} {p : List MemPlace}
    (hv : Value.okWide Tryd.prog W r b0 23 v) (h : DataW.Trod enc Tryd.prog W base spare held 23 v d p) :
    ∃ (k n : Int) (m : Bool) (c w : Int), v = .agg #[.int .i64 k, .int .i64 n, .bool m, .int .i64 c, .int .i64 w] ∧ (-9223372036854775808 ≤ k ∧ k ≤ 9223372036854775807) ∧ (-9223372036854775808 ≤ n ∧ n ≤ 9223372036854775807) ∧ (-9223372036854775808 ≤ c ∧ c ≤ 9223372036854775807) ∧ (-9223372036854775808 ≤ w ∧ w ≤ 9223372036854775807) := by
  obtain ⟨cs, rfl, hsz, hc⟩ := open_flat Tryd.underlying23 (by kernel_rfl) (by kernel_rfl) hv h
  obtain ⟨a, b, c, d, e, rfl⟩ := array_five hsz
  obtain ⟨n0, y0, h0⟩ := hc 0 _ a rfl rfl
  obtain ⟨n1, y1, h1⟩ := hc 1 _ b rfl rfl
  obtain ⟨n2, y2, h2⟩ := hc 2 _ c rfl rfl
  obtain ⟨n3, y3, h3⟩ := hc 3 _ d rfl rfl
  obtain ⟨n4, y4, h4⟩ := hc 4 _ e rfl rfl
  obtain ⟨k, rfl, wk⟩ := cell_int Tryd.underlying3 h0
  obtain ⟨n, rfl, wn⟩ := cell_int Tryd.underlying3 h1
  obtain ⟨m, rfl⟩ := cell_bool Tryd.underlying4 h2
  obtain ⟨cl, rfl, wc⟩ := cell_int Tryd.underlying3 h3
  obtain ⟨v, rfl, wv⟩ := cell_int Tryd.underlying3 h4
  exact ⟨k, n, m, cl, v, rfl, i64_wf wk, i64_wf wn, i64_wf wc, i64_wf wv⟩
end Go.Proofs.YtcblbbenaeiecaaDoor.law
