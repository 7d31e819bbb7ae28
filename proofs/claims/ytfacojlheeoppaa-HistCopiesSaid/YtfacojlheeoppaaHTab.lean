/- A world for the witness, where nothing is laid; a slice of events as it came in. -/
import Derived.Test.YtfacojlheeoppaaLaw
import Derived.Test.YtfacojlheeoppaaHBase
import Derived.Deep.Slices
import Derived.Deep.Strs
import Derived.Lib.SmallJoins
import Derived.ChangeSame
namespace Go.Proofs.Ytfacojlheeoppaa.law
open Go.ChangeShapes Go.WideShapes Go.ChangeAt Go.RowKit Go.Deep Go.Joins

theorem laidOut : laidOutB Try.prog = true := by kernel_rfl
theorem own : ownKnob Try.prog.godebug = none := by kernel_rfl
/-- The settled world. -/
noncomputable def laidWorld (os : Os) : World := World.holding Try.prog os ⟨#[], #[], []⟩
section
variable {H : Type} {enc : TypeId × Value → H} {w : World} {base : Nat} {spare : Nat → Bool} {held : Bool}
/-- An event's seven cells, read. -/
theorem event_cells {fuel : Nat} {cs : List Value} {x : DataW H × List MemPlace} (hl : cs.length = 7) (h : DataW.trod enc Try.prog w base spare held fuel 32 cs = some x) : ∃ v : hist.EvV, cs = hist.cells7 0 v := by
  obtain ⟨c0, c1, c2, c3, c4, c5, c6, rfl⟩ : ∃ c0 c1 c2 c3 c4 c5 c6, cs = [c0, c1, c2, c3, c4, c5, c6] := by
    match cs, hl with
    | [a, b, c, d, e, f, g], _ => exact ⟨a, b, c, d, e, f, g, rfl⟩
  obtain ⟨y0, y1, y2, y3, n, _, _, r0, r1, r2, r3⟩ := trod_struct4 Try.underlying32 h
  rw [show Try.prog.cellsOf 3 = 1 by kernel_rfl] at r0
  rw [show Try.prog.cellsOf 4 = 1 by kernel_rfl] at r1
  rw [show Try.prog.cellsOf 27 = 2 by kernel_rfl] at r2
  rw [show Try.prog.cellsOf 30 = 3 by kernel_rfl] at r3
  simp only [List.drop_zero, List.drop_succ_cons, List.take_succ_cons, List.take_zero] at r0 r1 r2 r3
  obtain ⟨T, rfl, _⟩ := cell_int Try.underlying3 r0
  obtain ⟨E, rfl⟩ := cell_bool Try.underlying4 r1
  obtain ⟨z0, z1, m, _, _, s0, s1⟩ := trod_struct2 Try.underlying27 r2
  obtain ⟨u0, u1, u2, m', _, _, t0, t1, t2⟩ := trod_struct3 Try.underlying30 r3
  rw [show Try.prog.cellsOf 3 = 1 by kernel_rfl] at s0 s1 t2
  rw [show Try.prog.cellsOf 28 = 1 by kernel_rfl] at t0
  rw [show Try.prog.cellsOf 4 = 1 by kernel_rfl] at t1
  simp only [List.drop_zero, List.drop_succ_cons, List.take_succ_cons, List.take_zero] at s0 s1 t0 t1 t2
  obtain ⟨K, rfl, _⟩ := cell_int Try.underlying3 s0
  obtain ⟨Y, rfl, _⟩ := cell_int Try.underlying3 s1
  obtain ⟨C, rfl, _⟩ := cell_int Try.underlying28 t0
  obtain ⟨O, rfl⟩ := cell_bool Try.underlying4 t1
  obtain ⟨V, rfl, _⟩ := cell_int Try.underlying3 t2
  exact ⟨⟨T, E, K, Y, C, O, V⟩, rfl⟩
end

theorem open_evs {H : Type} {enc : TypeId × Value → H} {W : World} {b0 base : Nat} {spare : Nat → Bool} {held : Bool} {r : Reach} {v : Value} {d : DataW H} {p : List MemPlace}
    (hv : Value.okWide Try.prog W r b0 22 v) (h : DataW.Trod enc Try.prog W base spare held 22 v d p) :
    ∃ (a : Option Addr) (l : List hist.EvV) (M cap : Nat), v = .slice a M cap ∧ l.length = M ∧ hist.At hist.cells7 7 W a l := by
  obtain ⟨a1, len, cap, rfl⟩ := okWide_slice Try.underlying22 hv
  obtain ⟨fuel, hf⟩ := h
  rcases open_slice Try.underlying22 hf with ⟨hcs, _⟩ | ⟨b, len', cap', m, n, D, Pl, hcs, _, hle, _, hm, _, element⟩
  · simp [Value.cells] at hcs
    obtain ⟨rfl, rfl, rfl⟩ := hcs
    exact ⟨none, [], 0, 0, rfl, rfl, fun i hi => absurd hi (by simp)⟩
  · simp [Value.cells] at hcs
    obtain ⟨rfl, rfl, rfl⟩ := hcs
    have hlm : len ≤ m := by rw [hm]; split <;> omega
    have h7 : Try.prog.cellsOf 32 = 7 := by kernel_rfl
    have each : ∀ i, i < len → ∃ o : hist.EvV, ∀ j u, (hist.cells7 0 o)[j]? = some u → W.cell? (hist.spell b (i * 7) j) = some u := by
      intro i hi
      obtain ⟨cs, hc, hr⟩ := element i (by omega)
      rw [h7] at hc
      obtain ⟨_, hl, cell⟩ := World.cells?_some hc
      obtain ⟨o, rfl⟩ := event_cells hl hr
      refine ⟨o, fun j u hu => ?_⟩
      have hj := (List.getElem?_eq_some_iff.1 hu).1
      have := cell j hj
      rw [Go.Deep.add_add, hist.add_spelled] at this
      rw [this]
      exact hu
    have : Inhabited hist.EvV := ⟨⟨0, false, 0, 0, 0, false, 0⟩⟩
    obtain ⟨f, hf⟩ := choose_lt each
    refine ⟨some b, (List.range len).map f, len, cap, rfl, by simp, ?_⟩
    intro i hi
    have hi2 : i < len := by simpa using hi
    refine ⟨b, rfl, ?_⟩
    simp only [List.getElem_map, List.getElem_range]
    exact hf i hi2
end Go.Proofs.Ytfacojlheeoppaa.law
