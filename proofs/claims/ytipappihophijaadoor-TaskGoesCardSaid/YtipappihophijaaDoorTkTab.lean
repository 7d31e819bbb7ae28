/- A world for the witness; the arguments, opened: a task by value (an operation lies in it), a slice of operations. -/
import Derived.Test.YtipappihophijaaDoorLaw
import Derived.Test.YtipappihophijaaDoorTkBase
import Derived.ChangeSame
namespace Go.Proofs.YtipappihophijaaDoor.law
open Go.ChangeShapes Go.WideShapes Go.ChangeAt Go.RowKit Go.Deep

theorem laidOut : laidOutB Tryd.prog = true := by kernel_rfl

/-- A task by value: its three cells. -/
theorem open_task {H : Type} {enc : TypeId × Value → H} {W : World} {b0 base : Nat} {spare : Nat → Bool} {held : Bool} {r : Reach} {v : Value} {d : DataW H} {p : List MemPlace}
    (hv : Value.okWide Tryd.prog W r b0 25 v) (h : DataW.Trod enc Tryd.prog W base spare held 25 v d p) :
    ∃ (s k y : Int), v = .agg #[.int .i64 s, .int .i64 k, .int .i64 y] ∧ task.Fits s ∧ task.Fits k ∧ task.Fits y := by
  obtain ⟨cs, rfl, hsz⟩ := okWide_struct Tryd.underlying25 hv
  have hC : Tryd.prog.cellsOf 25 = 3 := by kernel_rfl
  rw [hC] at hsz
  obtain ⟨l⟩ := cs
  match l, hsz with
  | [a, b, c], _ =>
    obtain ⟨fuel, hf⟩ := h
    obtain ⟨y0, y1, n, _, _, r0, r1⟩ := trod_struct2 Tryd.underlying25 hf
    have r0 : DataW.trod enc Tryd.prog W base spare held n 3 [a] = some y0 := r0
    have r1 : DataW.trod enc Tryd.prog W base spare held n 23 [b, c] = some y1 := r1
    obtain ⟨z0, z1, m, _, _, q0, q1⟩ := trod_struct2 Tryd.underlying23 r1
    have q0 : DataW.trod enc Tryd.prog W base spare held m 3 [b] = some z0 := q0
    have q1 : DataW.trod enc Tryd.prog W base spare held m 3 [c] = some z1 := q1
    obtain ⟨s, rfl, ws⟩ := cell_int Tryd.underlying3 r0
    obtain ⟨k, rfl, wk⟩ := cell_int Tryd.underlying3 q0
    obtain ⟨y, rfl, wy⟩ := cell_int Tryd.underlying3 q1
    exact ⟨s, k, y, rfl, i64_wf ws, i64_wf wk, i64_wf wy⟩
end Go.Proofs.YtipappihophijaaDoor.law
