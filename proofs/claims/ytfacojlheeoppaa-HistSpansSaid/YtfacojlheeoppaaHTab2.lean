/- Two numbers by value, as they came in. -/
import Derived.Test.YtfacojlheeoppaaHTab
namespace Go.Proofs.Ytfacojlheeoppaa.law
open Go.ChangeShapes Go.WideShapes Go.ChangeAt Go.RowKit Go.Deep Go.Joins
theorem open_two {H : Type} {enc : TypeId × Value → H} {W : World} {b0 base : Nat} {spare : Nat → Bool} {held : Bool} {r : Reach} {v : Value} {d : DataW H} {p : List MemPlace}
    (hv : Value.okWide Try.prog W r b0 53 v) (h : DataW.Trod enc Try.prog W base spare held 53 v d p) : ∃ s : Int × Int, v = .agg #[.int .i64 s.1, .int .i64 s.2] := by
  obtain ⟨cs, rfl, hs, hc⟩ := open_row Try.underlying53 (by kernel_rfl) (by kernel_rfl) hv h
  obtain ⟨c0, c1, rfl⟩ := array_two hs
  obtain ⟨_, _, k0⟩ := hc 0 c0 rfl
  obtain ⟨_, _, k1⟩ := hc 1 c1 rfl
  obtain ⟨x, rfl, _⟩ := cell_int Try.underlying3 k0
  obtain ⟨y, rfl, _⟩ := cell_int Try.underlying3 k1
  exact ⟨(x, y), rfl⟩
end Go.Proofs.Ytfacojlheeoppaa.law
