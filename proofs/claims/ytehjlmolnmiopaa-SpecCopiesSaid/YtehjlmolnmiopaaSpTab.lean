/- A world for the witness, where nothing is laid; a slice of operations as it came in. -/
import Derived.Test.YtehjlmolnmiopaaLaw
import Derived.Test.YtehjlmolnmiopaaSpRef
import Derived.Deep.Slices
import Derived.Lib.SmallJoins
import Derived.ChangeSame
namespace Go.Proofs.Ytehjlmolnmiopaa.law
open Go.ChangeShapes Go.WideShapes Go.ChangeAt Go.RowKit Go.Deep

theorem laidOut : laidOutB Try.prog = true := by kernel_rfl
theorem own : ownKnob Try.prog.godebug = none := by kernel_rfl
/-- The settled world. -/
noncomputable def laidWorld (os : Os) : World := World.holding Try.prog os ⟨#[], #[], []⟩
section
variable {H : Type} {enc : TypeId × Value → H} {P : Program} {w : World} {base : Nat} {spare : Nat → Bool} {held : Bool}
/-- One element of two fields, a cell each: what its cells hold, and that each reads. -/
theorem element2 {e : TypeId} {f0 f1 : Field} {fuel : Nat} {a : Addr} {cs : List Value} {x : DataW H × List MemPlace} (he : P.underlying e = some (.struct #[f0, f1]))
    (k0 : f0.offset = 0 ∧ P.cellsOf f0.type = 1) (k1 : f1.offset = 1 ∧ P.cellsOf f1.type = 1)
    (hc : w.cells? base a 2 = some cs) (h : DataW.trod enc P w base spare held fuel e cs = some x) :
    ∃ (v0 v1 : Value) (n : Nat) (y0 y1 : DataW H × List MemPlace), (w.cell? (a.add 0) = some v0 ∧ w.cell? (a.add 1) = some v1) ∧
      DataW.trod enc P w base spare held n f0.type [v0] = some y0 ∧ DataW.trod enc P w base spare held n f1.type [v1] = some y1 := by
  obtain ⟨_, hl, cell⟩ := World.cells?_some hc
  match cs, hl with
  | [v0, v1], _ =>
    obtain ⟨y0, y1, n, _, _, r0, r1⟩ := trod_struct2 he h
    rw [k0.1, k0.2] at r0
    rw [k1.1, k1.2] at r1
    exact ⟨v0, v1, n, y0, y1, ⟨cell 0 (by omega), cell 1 (by omega)⟩, r0, r1⟩
end

theorem add_spelled (a : Addr) (m j : Nat) (hj : j ≠ 0) : a.add (m + j) = ⟨(a.add m).block, (a.add m).off + j, none⟩ := by
  unfold Addr.add
  rw [if_neg (by omega)]
  by_cases hm : m = 0
  · subst hm
    simp
  · rw [if_neg hm]
    simp
    omega

theorem open_ops {H : Type} {enc : TypeId × Value → H} {W : World} {b0 base : Nat} {spare : Nat → Bool} {held : Bool} {r : Reach} {v : Value} {d : DataW H} {p : List MemPlace}
    (hv : Value.okWide Try.prog W r b0 22 v) (h : DataW.Trod enc Try.prog W base spare held 22 v d p) :
    ∃ (a : Option Addr) (os : List spec.OpV) (M cap : Nat), v = .slice a M cap ∧ os.length = M ∧ M ≤ cap ∧ spec.OpsAt W a os := by
  obtain ⟨a1, len, cap, rfl⟩ := okWide_slice Try.underlying22 hv
  obtain ⟨fuel, hf⟩ := h
  rcases open_slice Try.underlying22 hf with ⟨hcs, _⟩ | ⟨b, len', cap', m, n, D, Pl, hcs, _, hle, _, hm, _, element⟩
  · simp [Value.cells] at hcs
    obtain ⟨rfl, rfl, rfl⟩ := hcs
    exact ⟨none, [], 0, 0, rfl, rfl, Nat.le_refl _, fun i hi => absurd hi (by simp)⟩
  · simp [Value.cells] at hcs
    obtain ⟨rfl, rfl, rfl⟩ := hcs
    have hlm : len ≤ m := by rw [hm]; split <;> omega
    have h2 : Try.prog.cellsOf 35 = 2 := by kernel_rfl
    have each : ∀ i, i < len → ∃ o : spec.OpV, W.cell? (b.add (i * 2)) = some (.int .i64 o.K) ∧ W.cell? ⟨(b.add (i * 2)).block, (b.add (i * 2)).off + 1, none⟩ = some (.int .i64 o.Y) := by
      intro i hi
      obtain ⟨cs, hc, hr⟩ := element i (by omega)
      rw [h2] at hc
      obtain ⟨v0, v1, n', y0, y1, ⟨c0, c1⟩, r0, r1⟩ := element2 Try.underlying35 ⟨by kernel_rfl, by kernel_rfl⟩ ⟨by kernel_rfl, by kernel_rfl⟩ hc hr
      rw [Go.Deep.add_add] at c0 c1
      obtain ⟨k, rfl, _⟩ := cell_int Try.underlying3 r0
      obtain ⟨y, rfl, _⟩ := cell_int Try.underlying3 r1
      refine ⟨⟨k, y⟩, c0, ?_⟩
      rw [← add_spelled b (i * 2) 1 (by omega)]; exact c1
    have : Inhabited spec.OpV := ⟨⟨0, 0⟩⟩
    obtain ⟨f, hf⟩ := choose_lt each
    refine ⟨some b, (List.range len).map f, len, cap, rfl, by simp, hle, ?_⟩
    intro i hi
    have hi2 : i < len := by simpa using hi
    obtain ⟨e0, e1⟩ := hf i hi2
    refine ⟨b, rfl, ?_⟩
    simp only [List.getElem_map, List.getElem_range]
    exact ⟨e0, e1⟩
theorem u16_wf {n : Int} (h : (Lit.int .u16 n).wf = true) : 0 ≤ n ∧ n < 65536 := by
  have : 0 ≤ n ∧ n ≤ 65535 := by simpa [Lit.wf, IntKind.min, IntKind.max, IntKind.signed, IntKind.bits] using h
  omega
end Go.Proofs.Ytehjlmolnmiopaa.law
