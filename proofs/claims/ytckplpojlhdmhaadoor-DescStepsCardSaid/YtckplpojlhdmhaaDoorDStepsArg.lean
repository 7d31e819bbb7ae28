/- The law DescSteps, its list as it came in. -/
import Derived.Test.YtckplpojlhdmhaaDoorDTab
import Derived.Test.YtckplpojlhdmhaaDoorDStepsAll
namespace Go.Proofs.YtckplpojlhdmhaaDoor.desc
open Go.RowKit Go.WideShapes Go.ChangeShapes Go.ChangeAt

theorem steps_of {H : Type} {enc : TypeId × Value → H} {W : World} {base : Nat} {v2 : Value} {d2 : DataW H} {p2 : List MemPlace} (t a v n : Int) (m : Bool) (s x : Int) (c : Int) (k : Bool) (z : Int)
    (hv : Value.okWide Tryd.prog W .any base 35 v2) (h : DataW.Trod enc Tryd.prog W 0 (fun _ => true) true 35 v2 d2 p2) (ht : Table W) :
    Calls Tryd.prog 5 #[.agg #[.int .i64 t, .int .i64 a, .int .i64 v, .int .i64 n, .bool m, .int .i64 s, .int .i64 x], .agg #[.int .i64 c, .bool k, .int .i64 z], v2] W fun e w' => e = .returned (.bool true) ∧ Below W.heap.size W w' := by
  obtain ⟨a1, len, cap, rfl⟩ := okWide_slice Tryd.underlying35 hv
  obtain ⟨fuel, hf⟩ := h
  rcases open_ints Tryd.underlying35 Tryd.underlying3 law.cellsInt hf with ⟨hcs, _⟩ | ⟨b, len', cap', zs, hcs, _, hl, _, hz, _, hcell, hwz⟩
  · simp [Value.cells] at hcs
    obtain ⟨rfl, rfl, rfl⟩ := hcs
    exact steps_any W t a v n m s x c k z none 0 0 (fun _ => 0) (fun i hi => absurd hi (by omega)) ht
  · simp [Value.cells] at hcs
    obtain ⟨rfl, rfl, rfl⟩ := hcs
    simp only [if_true] at hz
    exact steps_any W t a v n m s x c k z (some b) len cap (fun i => zs.getD i 0) (fun i hi => ⟨b, rfl, hcell i (by omega)⟩) ht
end Go.Proofs.YtckplpojlhdmhaaDoor.desc
