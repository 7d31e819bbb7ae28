/- What the row's list gives: the table of the kinds' names stands; a world for the witness. -/
import Derived.Test.YtipappihophijaaDoorCards
import Derived.Test.YtipappihophijaaDoorTie
import Derived.Test.YtipappihophijaaDoorTkTab
import Derived.Test.YtipappihophijaaDoorTkName
import Derived.Lib.LaidTab
import Derived.ChangeArms
namespace Go.Proofs.YtipappihophijaaDoor.law
open Go.ChangeShapes Go.WideShapes Go.ChangeAt Go.RowKit

theorem own : ownKnob Tryd.prog.godebug = none := by kernel_rfl
theorem gTab : Tryd.prog.globalNamed "sherpa/task.names" = some 0 := by kernel_rfl
theorem gTabType : (Tryd.prog.globals[0]?).map (·.type) = some 37 := by kernel_rfl
theorem cellsTab : Tryd.prog.cellsOf 37 = 6 := by kernel_rfl
theorem cellsStr : Tryd.prog.cellsOf 9 = 1 := by kernel_rfl

/-- AN ARRAY OF STRINGS THAT READS AS THESE HOLDS THESE, CELL FOR CELL. -/
theorem cells_of_strs {H : Type} {enc : TypeId × Value → H} {P : Program} {w : World} {base : Nat} {sp : Nat → Bool} {held : Bool} {fuel : Nat} {t e : TypeId} {n : Nat} {cs : List Value} {zs : List (List UInt8)} {p : List MemPlace}
    (ht : P.underlying t = some (.array n e)) (he : P.underlying e = some .string) (hce : P.cellsOf e = 1) (hct : P.cellsOf t = n)
    (h : DataW.trod enc P w base sp held fuel t cs = some (.agg (zs.map fun z => .lit (.string z)), p)) : cs = zs.map fun z => Value.string ⟨z.toArray⟩ := by
  cases fuel with
  | zero => simp [DataW.trod] at h
  | succ fuel =>
    simp only [DataW.trod, ht, hce, hct, Nat.mul_one] at h
    split at h
    · rename_i hl
      obtain ⟨xs, hm, hx⟩ := Option.map_eq_some_iff.1 h
      have hxs : xs.map (·.1) = zs.map fun z => (DataW.lit (.string z) : DataW H) := by
        have := congrArg Prod.fst hx
        simpa using this
      have hxl : xs.length = n := by simpa using Lib.mapM_length hm
      have hzl : zs.length = n := by
        have := congrArg List.length hxs
        simp at this
        omega
      apply List.ext_getElem?
      intro i
      by_cases hi : i < n
      · obtain ⟨b, hb, hf⟩ := Lib.mapM_at hm i i (by simp [hi])
        obtain ⟨z, hc, rfl, _⟩ := DataW.trod_string he hf
        have h1 : cs[i]? = some (.string z) := by
          have := congrArg (·[0]?) hc
          simpa [List.getElem?_take, List.getElem?_drop] using this
        have h2 : (xs.map (·.1))[i]? = some (DataW.lit (.string z.data.toList) : DataW H) := by simp [hb]
        rw [hxs] at h2
        simp only [List.getElem?_map, Option.map_eq_some_iff, DataW.lit.injEq, Lit.string.injEq] at h2
        obtain ⟨z', hz', he'⟩ := h2
        subst he'
        simp [h1, hz']
      · rw [List.getElem?_eq_none (by omega), List.getElem?_eq_none (by simp; omega)]
    · cases h

theorem table {W : World} (h : laidMetH Tryd.prog [("sherpa/task.names", Rows.laid_sherpa_task_names)] W) : task.Names W := by
  obtain ⟨ps, ⟨g', t', cs, fuel, p, q, hg', ht', hvar, hd, _, _⟩, _⟩ := h
  obtain rfl := Option.some.inj (gTab.symm.trans hg')
  obtain rfl := Option.some.inj (gTabType.symm.trans ht')
  have hcs := cells_of_strs (zs := [[], [105, 110, 115, 101, 114, 116], [100, 101, 108, 101, 116, 101], [104, 97, 115], [112, 117, 116], [116, 97, 107, 101]]) Tryd.underlying37 Tryd.underlying9 cellsStr cellsTab hd
  have cell : ∀ i v, cs.toList[i]? = some v → W.cell? ⟨0, i, none⟩ = some v := by
    intro i v hv
    rw [World.var?_cell gTab hvar i]
    simpa using hv
  have c0 := cell 0 (.string task.nm0) (by rw [hcs]; rfl)
  exact ⟨c0, cell 1 _ (by rw [hcs]; rfl), cell 2 _ (by rw [hcs]; rfl), cell 3 _ (by rw [hcs]; rfl), cell 4 _ (by rw [hcs]; rfl), cell 5 _ (by rw [hcs]; rfl), World.block_lt_of_cell? W _ c0⟩

/-- The settled world, the table (block 0) holding what its initialiser lays. -/
noncomputable def laidWorld (os : Os) : World :=
  { World.holding Tryd.prog os ⟨#[], #[], []⟩ with heap := (World.holding Tryd.prog os ⟨#[], #[], []⟩).heap.modify 0 fun
      | .cells _ t frozen => .cells #[.string task.nm0, .string task.nm1, .string task.nm2, .string task.nm3, .string task.nm4, .string task.nm5] t frozen
      | o => o }
end Go.Proofs.YtipappihophijaaDoor.law
