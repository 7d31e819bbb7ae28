/- A slice of operations as it came in; the law MemPlays at whatever came in. -/
import Derived.Test.YtfoiahnpnipjnaaMTab
import Derived.Test.YtfoiahnpnipjnaaMPlaysAll
import Derived.Deep.Slices
import Derived.Deep.Fields
import Derived.ChangeSame
namespace Go.Proofs.Ytfoiahnpnipjnaa.law
open Go.ChangeShapes Go.WideShapes Go.ChangeAt Go.RowKit Go.Deep

section
variable {H : Type} {enc : TypeId × Value → H} {P : Program} {w : World} {base : Nat} {spare : Nat → Bool} {held : Bool}
/-- The cells of a slice of structs whose fields have one cell each. -/
theorem open_struct_cells {t e : TypeId} {fs : Array Field} {fuel : Nat} {cs : List Value} {x : DataW H × List MemPlace} (ht : P.underlying t = some (.slice e)) (he : P.underlying e = some (.struct fs))
    (hone : oneCellFields P fs = true) (hC : P.cellsOf e = fs.size) (h : DataW.trod enc P w base spare held fuel t cs = some x) :
    cs = [.slice none 0 0] ∨
    ∃ (a : Addr) (len cap : Nat), cs = [.slice (some a) len cap] ∧ ∀ i, i < len → ∀ (j : Nat) (f : Field), fs[j]? = some f → ∃ (n : Nat) (v : Value) (y : DataW H × List MemPlace), w.cell? (a.add (i * fs.size + j)) = some v ∧ DataW.trod enc P w base spare held n f.type [v] = some y := by
  rcases open_slice ht h with ⟨h0, _⟩ | ⟨a, len, cap, m, n, D, Pl, hcs, hb, hl, hm, hmm, hx, hi⟩
  · exact .inl h0
  · refine .inr ⟨a, len, cap, hcs, fun i him j f hj => ?_⟩
    obtain ⟨cs', hc, ht'⟩ := hi i (by rw [hmm]; split <;> omega)
    rw [hC] at hc
    obtain ⟨ys, n', hn', hy, hlen, hyl, hf⟩ := DataW.trod_struct he ht'
    obtain ⟨_, hcl, hat⟩ := World.cells?_some hc
    obtain ⟨ho, hk⟩ := hone_of hone j f hj
    have hjl : j < fs.size := (Array.getElem?_eq_some_iff.1 hj).1
    have hcell := hat j hjl
    have hv : cs'[j]? = some (cs'[j]'(by omega)) := List.getElem?_eq_getElem (by omega)
    have h1 := hf j f hj
    rw [ho, hk] at h1
    have hone' : (cs'.drop j).take 1 = [cs'[j]'(by omega)] := by
      rw [List.drop_eq_getElem_cons (by omega)]
      rfl
    rw [hone'] at h1
    have hys : ys[j]? = some (ys[j]'(by omega)) := List.getElem?_eq_getElem (by omega)
    refine ⟨_, _, _, ?_, h1.trans hys⟩
    rw [← Go.Deep.add_add, hcell, hv]
end

theorem add_spelled (a : Addr) (m j : Nat) (hj : j ≠ 0) : a.add (m + j) = ⟨(a.add m).block, (a.add m).off + j, none⟩ := by
  unfold Addr.add
  rw [if_neg (by omega)]
  by_cases hm : m = 0
  · subst hm
    simp
  · rw [if_neg hm]
    simp
    omega

theorem open_ops {H : Type} {enc : TypeId × Value → H} {W : World} {b0 base : Nat} {spare : Nat → Bool} {held : Bool} {r : Reach} {v : Value} {d : DataW H} {p : List MemPlace}
    (hv : Value.okWide Try.prog W r b0 25 v) (h : DataW.Trod enc Try.prog W base spare held 25 v d p) :
    ∃ (a : Option Addr) (os : List mem.OpV) (M cap : Nat), v = .slice a M cap ∧ os.length = M ∧ mem.OpsAt W a os := by
  obtain ⟨a1, len, cap, rfl⟩ := okWide_slice Try.underlying25 hv
  obtain ⟨fuel, hf⟩ := h
  rcases open_struct_cells Try.underlying25 Try.underlying34 (by kernel_rfl) (by kernel_rfl) hf with hcs | ⟨b, len', cap', hcs, hcell⟩
  · simp [Value.cells] at hcs
    obtain ⟨rfl, rfl, rfl⟩ := hcs
    exact ⟨none, [], 0, 0, rfl, rfl, fun i hi => absurd hi (by simp)⟩
  · simp [Value.cells] at hcs
    obtain ⟨rfl, rfl, rfl⟩ := hcs
    have each : ∀ i, i < len → ∃ o : mem.OpV, W.cell? (b.add (i * 4)) = some (.int .i64 o.K) ∧ W.cell? ⟨(b.add (i * 4)).block, (b.add (i * 4)).off + 1, none⟩ = some (.int .i64 o.A) ∧ W.cell? ⟨(b.add (i * 4)).block, (b.add (i * 4)).off + 2, none⟩ = some (.int .u64 o.Old) ∧ W.cell? ⟨(b.add (i * 4)).block, (b.add (i * 4)).off + 3, none⟩ = some (.int .u64 o.X) := by
      intro i hi
      obtain ⟨n0, c0, y0, e0, h0⟩ := hcell i hi 0 _ rfl
      obtain ⟨n1, c1, y1, e1, h1⟩ := hcell i hi 1 _ rfl
      obtain ⟨n2, c2, y2, e2, h2⟩ := hcell i hi 2 _ rfl
      obtain ⟨n3, c3, y3, e3, h3⟩ := hcell i hi 3 _ rfl
      obtain ⟨k, rfl, _⟩ := cell_int Try.underlying3 h0
      obtain ⟨a, rfl, _⟩ := cell_int Try.underlying3 h1
      obtain ⟨o, rfl, _⟩ := cell_int Try.underlying32 h2
      obtain ⟨x, rfl, _⟩ := cell_int Try.underlying32 h3
      refine ⟨⟨k, a, o, x⟩, e0, ?_, ?_, ?_⟩
      · rw [← add_spelled b (i * 4) 1 (by omega)]; exact e1
      · rw [← add_spelled b (i * 4) 2 (by omega)]; exact e2
      · rw [← add_spelled b (i * 4) 3 (by omega)]; exact e3
    have : Inhabited mem.OpV := ⟨⟨0, 0, 0, 0⟩⟩
    obtain ⟨f, hf⟩ := choose_lt each
    refine ⟨some b, (List.range len).map f, len, cap, rfl, by simp, ?_⟩
    intro i hi
    have hi2 : i < len := by simpa using hi
    obtain ⟨e0, e1, e2, e3⟩ := hf i hi2
    refine ⟨b, rfl, ?_⟩
    simp only [List.getElem_map, List.getElem_range]
    exact ⟨e0, e1, e2, e3⟩
end Go.Proofs.Ytfoiahnpnipjnaa.law
