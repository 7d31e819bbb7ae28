/- The law WordChanges, its arguments as they came in. -/
import Derived.Test.YtcblbbenaeiecaaDoorTab
import Derived.Test.YtcblbbenaeiecaaDoorChg
namespace Go.Proofs.YtcblbbenaeiecaaDoor.word
open Go.RowKit Go.WideShapes Go.ChangeShapes Go.ChangeAt

theorem chg_of {H : Type} {enc : TypeId × Value → H} {W : World} {base : Nat} {v1 : Value} {d1 : DataW H} {p1 : List MemPlace} (k n c v : Int) (m mark : Bool) (kr : -9223372036854775808 ≤ k ∧ k ≤ 9223372036854775807) (nr : -9223372036854775808 ≤ n ∧ n ≤ 9223372036854775807) (cr : -9223372036854775808 ≤ c ∧ c ≤ 9223372036854775807) (vr : -9223372036854775808 ≤ v ∧ v ≤ 9223372036854775807)
    (hv : Value.okWide Tryd.prog W .any base 39 v1) (hd : DataW.Trod enc Tryd.prog W 0 (fun _ => true) true 39 v1 d1 p1) (ht : Table W) :
    Calls Tryd.prog 5 #[.agg #[.int .i64 k, .int .i64 n, .bool m, .int .i64 c, .int .i64 v], v1, .bool mark] W fun e w' => e = .returned (.bool true) ∧ Below W.heap.size W w' := by
  obtain ⟨cs, rfl, hsz, hc⟩ := law.open_row Tryd.underlying39 (by kernel_rfl) (by kernel_rfl) hv hd
  obtain ⟨a, b, rfl⟩ := law.array_two hsz
  obtain ⟨n0, y0, h0⟩ := hc 0 a rfl
  obtain ⟨n1, y1, h1⟩ := hc 1 b rfl
  obtain ⟨by8, rfl, wb⟩ := law.cell_int Tryd.underlying5 h0
  obtain ⟨nx, rfl, wn⟩ := law.cell_int Tryd.underlying5 h1
  obtain ⟨b0, b1⟩ := law.u8_wf wb
  obtain ⟨x0, x1⟩ := law.u8_wf wn
  by_cases h : 0 ≤ k ∧ k < 1024 ∧ 0 ≤ n ∧ n < 512 ∧ 0 ≤ c ∧ c < 32 ∧ 0 ≤ v ∧ v < 262144
  · obtain ⟨k0, k1, n0, n1, c0, c1, v0, v1⟩ := h
    exact chg_yes W k n c v by8 nx m mark k0 k1 n0 n1 c0 c1 v0 v1 b0 b1 x0 x1 ht
  · exact chg_no W k n c v by8 nx m mark kr nr cr vr h ht
end Go.Proofs.YtcblbbenaeiecaaDoor.word
