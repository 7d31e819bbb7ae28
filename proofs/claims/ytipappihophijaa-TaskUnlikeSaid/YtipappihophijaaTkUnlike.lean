/- The law TaskUnlike answers true at any two tasks. -/
import Derived.Test.YtipappihophijaaTkAwake
namespace Go.Proofs.Ytipappihophijaa.task
open Go.RowKit
attribute [local go_sem] eq_task

set_option maxRecDepth 100000 in
set_option maxHeartbeats 2000000 in
theorem unlike_any (w : World) (s k y s' k' y' : Int) :
    Calls Try.prog 5 #[.agg #[.int .i64 s, .int .i64 k, .int .i64 y], .agg #[.int .i64 s', .int .i64 k', .int .i64 y']] w fun e w' => e = .returned (.bool true) ∧ Below w.heap.size w w' := by
  have A0 := Lib.hid ((One.new w s k y 25).next ((Below.refl _ _).alloc (Nat.le_refl _) (.cells #[.int .i64 s', .int .i64 k', .int .i64 y'] 25)))
  have B0 : Hid (One w ((w.alloc (.cells #[.int .i64 s, .int .i64 k, .int .i64 y] 25)).alloc (.cells #[.int .i64 s', .int .i64 k', .int .i64 y'] 25)) (w.heap.size + 1) s' k' y') := Lib.hid ⟨by go_simp, by go_simp, by go_simp, by simp, A0.out.below⟩
  cases ha : rightB s k y <;> cases hb : rightB s' k' y'
  all_goals
    have HA := Lib.hid ha
    have HB := Lib.hid hb
    clear ha hb
    go_enter Try.func5, Try.ntmps5
    go_wp2_with (first
      | (go_at_call 8; have _t := A2.out; (first | refine (put_right _ s' k' y' HB.out).mono ?_ | refine (put_wrong _ s' k' y' HB.out).mono ?_); rintro e w3 ⟨rfl, hb3⟩; have A3 := Lib.hid (A2.out.next hb3); have B3 := Lib.hid (B2.out.next hb3); clear hb3; obtain ⟨g0, g1, g2, -, -⟩ := id A3.out; obtain ⟨k0, k1, k2, -, -⟩ := id B3.out)
      | (go_at_call 8; have _t := A1.out; (first | refine (put_right _ s k y HA.out).mono ?_ | refine (put_wrong _ s k y HA.out).mono ?_); rintro e w2 ⟨rfl, hb2⟩; have A2 := Lib.hid (A1.out.next hb2); have B2 := Lib.hid (B1.out.next hb2); clear hb2; obtain ⟨c0, c1, c2, -, -⟩ := id A2.out; obtain ⟨d0, d1, d2, -, -⟩ := id B2.out)
      | (go_at_call 7; refine (awake_any _).mono ?_; rintro e w1 ⟨rfl, hb1⟩; have A1 := Lib.hid (A0.out.next hb1); have B1 := Lib.hid (B0.out.next hb1); clear hb1; obtain ⟨e0, e1, e2, -, -⟩ := id A1.out; obtain ⟨f0, f1, f2, -, -⟩ := id B1.out))
    all_goals
      go_returns
      refine ⟨?_, A3.out.below⟩
      first | rfl | (have ia := (right_iff s k y).1 HA.out; have ib := (right_iff s' k' y').1 HB.out; simp [num]; omega)
end Go.Proofs.Ytipappihophijaa.task
