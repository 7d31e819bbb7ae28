/- What the rows' list gives: the table of the fields' widths stands; a world for the witness; a descriptor and an answer by value, opened. -/
import Derived.Test.YtckplpojlhdmhaaDoorCards
import Derived.Test.YtckplpojlhdmhaaDoorTie
import Derived.Test.YtckplpojlhdmhaaDoorLaw
import Derived.Test.YtckplpojlhdmhaaDoorDRows
namespace Go.Proofs.YtckplpojlhdmhaaDoor.law
open Go.ChangeShapes Go.WideShapes Go.ChangeAt Go.RowKit

theorem own : ownKnob Tryd.prog.godebug = none := by kernel_rfl
theorem gTab : Tryd.prog.globalNamed "sherpa/desc.fieldWidths" = some 0 := by kernel_rfl
theorem gTabType : (Tryd.prog.globals[0]?).map (·.type) = some 46 := by kernel_rfl
theorem cellsTab : Tryd.prog.cellsOf 46 = 7 := by kernel_rfl
theorem cellsInt : Tryd.prog.cellsOf 3 = 1 := by kernel_rfl
theorem laidOut : laidOutB Tryd.prog = true := by kernel_rfl

theorem table {W : World} (h : laidMetH Tryd.prog [("sherpa/desc.fieldWidths", Rows.laid_sherpa_desc_fieldWidths)] W) : desc.Table W := by
  have T : Lib.TabIs Tryd.prog W "sherpa/desc.fieldWidths" .i64 [12, 9, 18, 9, 1, 3, 10] := Lib.tabIs_of_head (rest := []) gTab gTabType Tryd.underlying46 Tryd.underlying3 cellsInt cellsTab h
  have c0 : W.cell? ⟨0, 0, none⟩ = some (.int .i64 12) := T.cell gTab 0 (by decide)
  exact ⟨c0, T.cell gTab 1 (by decide), T.cell gTab 2 (by decide), T.cell gTab 3 (by decide), T.cell gTab 4 (by decide), T.cell gTab 5 (by decide), T.cell gTab 6 (by decide), World.block_lt_of_cell? W _ c0⟩

/-- The settled world, the table (block 0) holding what its initialiser lays. -/
noncomputable def laidWorld (os : Os) : World :=
  { World.holding Tryd.prog os ⟨#[], #[], []⟩ with heap := (World.holding Tryd.prog os ⟨#[], #[], []⟩).heap.modify 0 fun
      | .cells _ t frozen => .cells #[.int .i64 12, .int .i64 9, .int .i64 18, .int .i64 9, .int .i64 1, .int .i64 3, .int .i64 10] t frozen
      | o => o }

theorem array_seven {α : Type} {cs : Array α} (h : cs.size = 7) : ∃ c0 c1 c2 c3 c4 c5 c6, cs = #[c0, c1, c2, c3, c4, c5, c6] := by
  obtain ⟨l⟩ := cs
  match l, h with
  | [a, b, c, d, e, f, g], _ => exact ⟨a, b, c, d, e, f, g, rfl⟩
theorem array_three {α : Type} {cs : Array α} (h : cs.size = 3) : ∃ c0 c1 c2, cs = #[c0, c1, c2] := by
  obtain ⟨l⟩ := cs
  match l, h with
  | [a, b, c], _ => exact ⟨a, b, c, rfl⟩

theorem u16_wf {n : Int} (h : (Lit.int .u16 n).wf = true) : 0 ≤ n ∧ n < 65536 := by
  have : 0 ≤ n ∧ n ≤ 65535 := by simpa [Lit.wf, IntKind.min, IntKind.max, IntKind.signed, IntKind.bits] using h
  omega

/-- A number that an int holds. -/
def Fits (x : Int) : Prop := -9223372036854775808 ≤ x ∧ x ≤ 9223372036854775807

/-- A descriptor by value: its seven cells. -/
theorem open_desc {H : Type} {enc : TypeId × Value → H} {W : World} {b0 base : Nat} {spare : Nat → Bool} {held : Bool} {r : Reach} {v : Value} {d : DataW H} {p : List MemPlace}
    (hv : Value.okWide Tryd.prog W r b0 23 v) (h : DataW.Trod enc Tryd.prog W base spare held 23 v d p) :
    ∃ (t a u n : Int) (m : Bool) (s x : Int), v = .agg #[.int .i64 t, .int .i64 a, .int .i64 u, .int .i64 n, .bool m, .int .i64 s, .int .i64 x] ∧ Fits t ∧ Fits a ∧ Fits u ∧ Fits n ∧ Fits s ∧ Fits x := by
  obtain ⟨cs, rfl, hsz, hc⟩ := open_flat Tryd.underlying23 (by kernel_rfl) (by kernel_rfl) hv h
  obtain ⟨a, b, c, d, e, f, g, rfl⟩ := array_seven hsz
  obtain ⟨n0, y0, h0⟩ := hc 0 _ a rfl rfl
  obtain ⟨n1, y1, h1⟩ := hc 1 _ b rfl rfl
  obtain ⟨n2, y2, h2⟩ := hc 2 _ c rfl rfl
  obtain ⟨n3, y3, h3⟩ := hc 3 _ d rfl rfl
  obtain ⟨n4, y4, h4⟩ := hc 4 _ e rfl rfl
  obtain ⟨n5, y5, h5⟩ := hc 5 _ f rfl rfl
  obtain ⟨n6, y6, h6⟩ := hc 6 _ g rfl rfl
  obtain ⟨t, rfl, wt⟩ := cell_int Tryd.underlying3 h0
  obtain ⟨a, rfl, wa⟩ := cell_int Tryd.underlying3 h1
  obtain ⟨u, rfl, wu⟩ := cell_int Tryd.underlying3 h2
  obtain ⟨n, rfl, wn⟩ := cell_int Tryd.underlying3 h3
  obtain ⟨m, rfl⟩ := cell_bool Tryd.underlying4 h4
  obtain ⟨s, rfl, ws⟩ := cell_int Tryd.underlying3 h5
  obtain ⟨x, rfl, wx⟩ := cell_int Tryd.underlying3 h6
  exact ⟨t, a, u, n, m, s, x, rfl, i64_wf wt, i64_wf wa, i64_wf wu, i64_wf wn, i64_wf ws, i64_wf wx⟩
/-- An answer by value: its three cells. -/
theorem open_res {H : Type} {enc : TypeId × Value → H} {W : World} {b0 base : Nat} {spare : Nat → Bool} {held : Bool} {r : Reach} {v : Value} {d : DataW H} {p : List MemPlace}
    (hv : Value.okWide Tryd.prog W r b0 34 v) (h : DataW.Trod enc Tryd.prog W base spare held 34 v d p) :
    ∃ (c : Int) (k : Bool) (z : Int), v = .agg #[.int .i64 c, .bool k, .int .i64 z] ∧ Fits c ∧ Fits z := by
  obtain ⟨cs, rfl, hsz, hc⟩ := open_flat Tryd.underlying34 (by kernel_rfl) (by kernel_rfl) hv h
  obtain ⟨a, b, c, rfl⟩ := array_three hsz
  obtain ⟨n0, y0, h0⟩ := hc 0 _ a rfl rfl
  obtain ⟨n1, y1, h1⟩ := hc 1 _ b rfl rfl
  obtain ⟨n2, y2, h2⟩ := hc 2 _ c rfl rfl
  obtain ⟨c, rfl, wc⟩ := cell_int Tryd.underlying26 h0
  obtain ⟨k, rfl⟩ := cell_bool Tryd.underlying4 h1
  obtain ⟨z, rfl, wz⟩ := cell_int Tryd.underlying3 h2
  exact ⟨c, k, z, rfl, i64_wf wc, i64_wf wz⟩
end Go.Proofs.YtckplpojlhdmhaaDoor.law
