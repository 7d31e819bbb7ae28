/- The law WordGoes, its list as it came in. -/
import Derived.Test.YtcblbbenaeiecaaDoorTab
import Derived.Test.YtcblbbenaeiecaaDoorGoes
namespace Go.Proofs.YtcblbbenaeiecaaDoor.word
open Go.RowKit Go.WideShapes Go.ChangeShapes Go.ChangeAt

theorem cellsByte : Tryd.prog.cellsOf 5 = 1 := by kernel_rfl
theorem goes_of {H : Type} {enc : TypeId × Value → H} {W : World} {base : Nat} {v1 : Value} {d1 : DataW H} {p1 : List MemPlace} (k n c v : Int) (m : Bool) (kr : -9223372036854775808 ≤ k ∧ k ≤ 9223372036854775807) (nr : -9223372036854775808 ≤ n ∧ n ≤ 9223372036854775807) (cr : -9223372036854775808 ≤ c ∧ c ≤ 9223372036854775807) (vr : -9223372036854775808 ≤ v ∧ v ≤ 9223372036854775807)
    (hv : Value.okWide Tryd.prog W .any base 45 v1) (h : DataW.Trod enc Tryd.prog W 0 (fun _ => true) true 45 v1 d1 p1) (ht : Table W) :
    Calls Tryd.prog 7 #[.agg #[.int .i64 k, .int .i64 n, .bool m, .int .i64 c, .int .i64 v], v1] W fun e w' => e = .returned (.bool true) ∧ Below W.heap.size W w' := by
  obtain ⟨a1, len, cap, rfl⟩ := okWide_slice Tryd.underlying45 hv
  obtain ⟨fuel, hf⟩ := h
  rcases open_ints Tryd.underlying45 Tryd.underlying5 cellsByte hf with ⟨hcs, _⟩ | ⟨a, len', cap', zs, hcs, _, hl, _, hz, _, hcell, hwz⟩
  · simp [Value.cells] at hcs
    obtain ⟨rfl, rfl, rfl⟩ := hcs
    exact goes_nil W k n c v m kr nr cr vr ht
  · simp [Value.cells] at hcs
    obtain ⟨rfl, rfl, rfl⟩ := hcs
    simp only [if_true] at hz
    refine goes_any W k n c v m a len cap (fun i => zs.getD i 0) kr nr cr vr (fun i hi => ?_) ht
    have hlt : i < zs.length := by omega
    have hmem : zs.getD i 0 ∈ zs := by
      rw [List.getD_eq_getElem?_getD, List.getElem?_eq_getElem hlt]
      exact List.getElem_mem hlt
    exact ⟨hcell i hlt, law.u8_wf (hwz _ hmem)⟩
end Go.Proofs.YtcblbbenaeiecaaDoor.word
