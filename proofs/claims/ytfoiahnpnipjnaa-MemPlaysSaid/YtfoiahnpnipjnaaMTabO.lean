/- A slice of operations as it came in; the law MemPlays at whatever came in. -/
import Derived.Test.YtfoiahnpnipjnaaMTab
import Derived.Test.YtfoiahnpnipjnaaMPlaysAll
import Derived.Deep.Slices
import Derived.Lib.SmallJoins
import Derived.ChangeSame
namespace Go.Proofs.Ytfoiahnpnipjnaa.law
open Go.ChangeShapes Go.WideShapes Go.ChangeAt Go.RowKit Go.Deep

section
variable {H : Type} {enc : TypeId × Value → H} {P : Program} {w : World} {base : Nat} {spare : Nat → Bool} {held : Bool}
/-- One element of four fields, a cell each: what its cells hold, and that each reads. -/
theorem element4 {e : TypeId} {f0 f1 f2 f3 : Field} {fuel : Nat} {a : Addr} {cs : List Value} {x : DataW H × List MemPlace} (he : P.underlying e = some (.struct #[f0, f1, f2, f3]))
    (k0 : f0.offset = 0 ∧ P.cellsOf f0.type = 1) (k1 : f1.offset = 1 ∧ P.cellsOf f1.type = 1) (k2 : f2.offset = 2 ∧ P.cellsOf f2.type = 1) (k3 : f3.offset = 3 ∧ P.cellsOf f3.type = 1)
    (hc : w.cells? base a 4 = some cs) (h : DataW.trod enc P w base spare held fuel e cs = some x) :
    ∃ (v0 v1 v2 v3 : Value) (n : Nat) (y0 y1 y2 y3 : DataW H × List MemPlace), (w.cell? (a.add 0) = some v0 ∧ w.cell? (a.add 1) = some v1 ∧ w.cell? (a.add 2) = some v2 ∧ w.cell? (a.add 3) = some v3) ∧
      DataW.trod enc P w base spare held n f0.type [v0] = some y0 ∧ DataW.trod enc P w base spare held n f1.type [v1] = some y1 ∧
      DataW.trod enc P w base spare held n f2.type [v2] = some y2 ∧ DataW.trod enc P w base spare held n f3.type [v3] = some y3 := by
  obtain ⟨_, hl, cell⟩ := World.cells?_some hc
  match cs, hl with
  | [v0, v1, v2, v3], _ =>
    obtain ⟨y0, y1, y2, y3, n, _, _, r0, r1, r2, r3⟩ := Go.Joins.trod_struct4 he h
    rw [k0.1, k0.2] at r0
    rw [k1.1, k1.2] at r1
    rw [k2.1, k2.2] at r2
    rw [k3.1, k3.2] at r3
    exact ⟨v0, v1, v2, v3, n, y0, y1, y2, y3, ⟨cell 0 (by omega), cell 1 (by omega), cell 2 (by omega), cell 3 (by omega)⟩, r0, r1, r2, r3⟩
end

theorem add_spelled (a : Addr) (m j : Nat) (hj : j ≠ 0) : a.add (m + j) = ⟨(a.add m).block, (a.add m).off + j, none⟩ := by
  unfold Addr.add
  rw [if_neg (by omega)]
  by_cases hm : m = 0
  · subst hm
    simp
  · rw [if_neg hm]
    simp
    omega

theorem open_ops {H : Type} {enc : TypeId × Value → H} {W : World} {b0 base : Nat} {spare : Nat → Bool} {held : Bool} {r : Reach} {v : Value} {d : DataW H} {p : List MemPlace}
    (hv : Value.okWide Try.prog W r b0 25 v) (h : DataW.Trod enc Try.prog W base spare held 25 v d p) :
    ∃ (a : Option Addr) (os : List mem.OpV) (M cap : Nat), v = .slice a M cap ∧ os.length = M ∧ mem.OpsAt W a os := by
  obtain ⟨a1, len, cap, rfl⟩ := okWide_slice Try.underlying25 hv
  obtain ⟨fuel, hf⟩ := h
  rcases open_slice Try.underlying25 hf with ⟨hcs, _⟩ | ⟨b, len', cap', m, n, D, Pl, hcs, _, hle, _, hm, _, element⟩
  · simp [Value.cells] at hcs
    obtain ⟨rfl, rfl, rfl⟩ := hcs
    exact ⟨none, [], 0, 0, rfl, rfl, fun i hi => absurd hi (by simp)⟩
  · simp [Value.cells] at hcs
    obtain ⟨rfl, rfl, rfl⟩ := hcs
    have hlm : len ≤ m := by rw [hm]; split <;> omega
    have h4 : Try.prog.cellsOf 34 = 4 := by kernel_rfl
    have each : ∀ i, i < len → ∃ o : mem.OpV, W.cell? (b.add (i * 4)) = some (.int .i64 o.K) ∧ W.cell? ⟨(b.add (i * 4)).block, (b.add (i * 4)).off + 1, none⟩ = some (.int .i64 o.A) ∧ W.cell? ⟨(b.add (i * 4)).block, (b.add (i * 4)).off + 2, none⟩ = some (.int .u64 o.Old) ∧ W.cell? ⟨(b.add (i * 4)).block, (b.add (i * 4)).off + 3, none⟩ = some (.int .u64 o.X) := by
      intro i hi
      obtain ⟨cs, hc, hr⟩ := element i (by omega)
      rw [h4] at hc
      obtain ⟨v0, v1, v2, v3, n', y0, y1, y2, y3, ⟨c0, c1, c2, c3⟩, r0, r1, r2, r3⟩ := element4 Try.underlying34 ⟨by kernel_rfl, by kernel_rfl⟩ ⟨by kernel_rfl, by kernel_rfl⟩ ⟨by kernel_rfl, by kernel_rfl⟩ ⟨by kernel_rfl, by kernel_rfl⟩ hc hr
      rw [Go.Deep.add_add] at c0 c1 c2 c3
      obtain ⟨k, rfl, _⟩ := cell_int Try.underlying3 r0
      obtain ⟨a, rfl, _⟩ := cell_int Try.underlying3 r1
      obtain ⟨o, rfl, _⟩ := cell_int Try.underlying32 r2
      obtain ⟨x, rfl, _⟩ := cell_int Try.underlying32 r3
      refine ⟨⟨k, a, o, x⟩, c0, ?_, ?_, ?_⟩
      · rw [← add_spelled b (i * 4) 1 (by omega)]; exact c1
      · rw [← add_spelled b (i * 4) 2 (by omega)]; exact c2
      · rw [← add_spelled b (i * 4) 3 (by omega)]; exact c3
    have : Inhabited mem.OpV := ⟨⟨0, 0, 0, 0⟩⟩
    obtain ⟨f, hf⟩ := choose_lt each
    refine ⟨some b, (List.range len).map f, len, cap, rfl, by simp, ?_⟩
    intro i hi
    have hi2 : i < len := by simpa using hi
    obtain ⟨e0, e1, e2, e3⟩ := hf i hi2
    refine ⟨b, rfl, ?_⟩
    simp only [List.getElem_map, List.getElem_range]
    exact ⟨e0, e1, e2, e3⟩
end Go.Proofs.Ytfoiahnpnipjnaa.law
