/- The law MemPlays, at any layout, words and operations. -/
import Derived.Test.YtfoiahnpnipjnaaMPlaysC
namespace Go.Proofs.Ytfoiahnpnipjnaa.mem
open Go.RowKit
theorem plays_any (w : World) (t n : Int) (a o : Option Addr) (ws : List Int) (os : List OpV) (N cap M capo : Nat) (hN : ws.length = N) (hM : os.length = M) (hw : Words w a ws) (ho : OpsAt w o os) :
    Calls Try.prog 3 #[.agg (layCells t n), .slice a N cap, .slice o M capo] w fun e w' => e = .returned (.bool true) ∧ Below w.heap.size w w' := by
  by_cases hl : (N : Int) ≤ 800
  · by_cases hm : (M : Int) ≤ 200
    · by_cases h : 1 ≤ t ∧ t ≤ 8 ∧ 1 ≤ n ∧ n ≤ 200
      · obtain ⟨t0, t1, n0, n1⟩ := h
        obtain ⟨z, hz⟩ := size_nat t0 n0
        have ez : n * 2 + 4 + t * 5 + 2 = (z : Int) := by omega
        by_cases hNz : (N : Int) ≤ (z : Int)
        · exact plays_run w t n a o ws os N cap M capo z hN hM ez hl hm t0 t1 n0 n1 hNz hw ho
        · exact plays_long w t n a o N cap M capo z ez hl hm t0 t1 n0 n1 (by omega)
      · exact plays_wrong w t n a o N cap M capo hl hm h
    · exact plays_ops w t n a o N cap M capo hl (by omega)
  · exact plays_words w t n a o N cap M capo (by omega)
end Go.Proofs.Ytfoiahnpnipjnaa.mem
