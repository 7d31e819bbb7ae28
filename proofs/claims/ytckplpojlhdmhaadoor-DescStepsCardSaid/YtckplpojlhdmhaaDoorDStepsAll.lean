/- The law DescSteps answers true at any descriptor, any answer and any list. -/
import Derived.Test.YtckplpojlhdmhaaDoorDSteps
import Derived.Test.YtckplpojlhdmhaaDoorDStepsFull
import Derived.Test.YtckplpojlhdmhaaDoorDStepsNot
namespace Go.Proofs.YtckplpojlhdmhaaDoor.desc
open Go.RowKit

theorem pend_low (s : Int) (h : s < 1) : pend s = false := by
  unfold pend
  simp
  omega
theorem pend_high (s : Int) (h : 4 < s) : pend s = false := by
  unfold pend
  simp
  omega
theorem pend_mid (s : Int) (h : 1 ≤ s) (h' : s ≤ 4) : pend s = true := by
  unfold pend
  simp
  omega

/-- WHAT THE LAW ANSWERS, at any descriptor, any answer and any list that came in. -/
theorem steps_any (w : World) (t a v n : Int) (m : Bool) (s x : Int) (c : Int) (k : Bool) (z : Int) (l : Option Addr) (len cap : Nat) (zs : Nat → Int) (hz : Lst w l len zs) (ht : Table w) :
    Calls Tryd.prog 5 #[.agg #[.int .i64 t, .int .i64 a, .int .i64 v, .int .i64 n, .bool m, .int .i64 s, .int .i64 x], .agg #[.int .i64 c, .bool k, .int .i64 z], .slice l len cap] w fun e w' => e = .returned (.bool true) ∧ Below w.heap.size w w' := by
  by_cases h : 0 ≤ t ∧ t < 4096 ∧ 0 ≤ a ∧ a < 512 ∧ 0 ≤ v ∧ v < 262144 ∧ 0 ≤ n ∧ n < 512 ∧ 0 ≤ s ∧ s < 8 ∧ 0 ≤ x ∧ x < 1024
  · obtain ⟨t0, t1, a0, a1, v0, v1, n0, n1, s0, s1, x0, x1⟩ := h
    by_cases hl : 60 < (len : Int)
    · exact steps_long w t a v n m s x c k z l len cap hl t0 t1 a0 a1 v0 v1 n0 n1 s0 s1 x0 x1 ht
    by_cases hc : c = 4
    · have c4 : (c == 4) = true := by simp [hc]
      have cf : full c = 1 := if_pos hc
      by_cases sl : s < 1
      · exact steps_low_full w t a v n m s x c k z l len cap zs (by omega) t0 t1 a0 a1 v0 v1 n0 n1 s0 s1 x0 x1 hz c4 cf (by simpa using sl) (pend_low s sl) ht
      by_cases su : 4 < s
      · exact steps_high_full w t a v n m s x c k z l len cap zs (by omega) t0 t1 a0 a1 v0 v1 n0 n1 s0 s1 x0 x1 hz c4 cf (by omega) (by simpa using su) (pend_high s su) ht
      · exact steps_mid_full w t a v n m s x c k z l len cap zs (by omega) t0 t1 a0 a1 v0 v1 n0 n1 s0 s1 x0 x1 hz c4 cf (by omega) (by omega) (pend_mid s (by omega) (by omega)) ht
    · have c4 : (c == 4) = false := by simpa using hc
      have cf : full c = 0 := if_neg hc
      by_cases sl : s < 1
      · exact steps_low_not w t a v n m s x c k z l len cap zs (by omega) t0 t1 a0 a1 v0 v1 n0 n1 s0 s1 x0 x1 hz c4 cf (by simpa using sl) (pend_low s sl) ht
      by_cases su : 4 < s
      · exact steps_high_not w t a v n m s x c k z l len cap zs (by omega) t0 t1 a0 a1 v0 v1 n0 n1 s0 s1 x0 x1 hz c4 cf (by omega) (by simpa using su) (pend_high s su) ht
      · exact steps_mid_not w t a v n m s x c k z l len cap zs (by omega) t0 t1 a0 a1 v0 v1 n0 n1 s0 s1 x0 x1 hz c4 cf (by omega) (by omega) (pend_mid s (by omega) (by omega)) ht
  · exact steps_unfit w t a v n m s x c k z l len cap h ht
end Go.Proofs.YtckplpojlhdmhaaDoor.desc
