/- The law DescSteps answers true at any descriptor, any answer and any list. -/
import Derived.Test.YtckplpojlhdmhaaDoorDTwo
import Derived.Deep.RegionHeld3
import Derived.Test.YtckplpojlhdmhaaDoorQuiet
import Derived.IntWalk
namespace Go.Proofs.YtckplpojlhdmhaaDoor.desc
open Go.RowKit
attribute [local go_sem] eq_desc eq_res

set_option maxRecDepth 100000 in
set_option maxHeartbeats 1000000 in
theorem steps_unfit (w : World) (t a v n : Int) (m : Bool) (s x : Int) (c : Int) (k : Bool) (z : Int) (l : Option Addr) (len cap : Nat) (h : ¬ (0 ≤ t ∧ t < 4096 ∧ 0 ≤ a ∧ a < 512 ∧ 0 ≤ v ∧ v < 262144 ∧ 0 ≤ n ∧ n < 512 ∧ 0 ≤ s ∧ s < 8 ∧ 0 ≤ x ∧ x < 1024)) (ht : Table w) :
    Calls Tryd.prog 5 #[.agg #[.int .i64 t, .int .i64 a, .int .i64 v, .int .i64 n, .bool m, .int .i64 s, .int .i64 x], .agg #[.int .i64 c, .bool k, .int .i64 z], .slice l len cap] w fun e w' => e = .returned (.bool true) ∧ Below w.heap.size w w' := by
  have H := Lib.hid h
  clear h
  have hk0 := Two.first ht t a v n m s x c k z
  go_enter Tryd.func5, Tryd.ntmps5
  go_wp2_with (first | (go_at_call 8; refine (awake_any _ hk0.old.table).mono ?_; rintro e w1 ⟨rfl, hb1⟩; have hk1 := hk0.next hb1; obtain ⟨d10, d11, d12, d13, d14, d15, d16, hz1⟩ := hk1.drow; obtain ⟨r10, r11, r12, ry1⟩ := hk1.rrow) | (go_at_call 10; refine (fit_no _ t a v n m s x H.out).mono ?_; rintro e w2 ⟨rfl, hb2⟩; have hk2 := hk1.next hb2))
  go_returns
  exact ⟨rfl, hk2.old.below⟩

set_option maxRecDepth 100000 in
set_option maxHeartbeats 1000000 in
theorem steps_long (w : World) (t a v n : Int) (m : Bool) (s x : Int) (c : Int) (k : Bool) (z : Int) (l : Option Addr) (len cap : Nat) (hl : 60 < (len : Int)) (t0 : 0 ≤ t) (t1 : t < 4096) (a0 : 0 ≤ a) (a1 : a < 512) (v0 : 0 ≤ v) (v1 : v < 262144) (n0 : 0 ≤ n) (n1 : n < 512) (s0 : 0 ≤ s) (s1 : s < 8) (x0 : 0 ≤ x) (x1 : x < 1024) (ht : Table w) :
    Calls Tryd.prog 5 #[.agg #[.int .i64 t, .int .i64 a, .int .i64 v, .int .i64 n, .bool m, .int .i64 s, .int .i64 x], .agg #[.int .i64 c, .bool k, .int .i64 z], .slice l len cap] w fun e w' => e = .returned (.bool true) ∧ Below w.heap.size w w' := by
  have hk0 := Two.first ht t a v n m s x c k z
  go_enter Tryd.func5, Tryd.ntmps5
  go_wp2_with (first | (go_at_call 8; refine (awake_any _ hk0.old.table).mono ?_; rintro e w1 ⟨rfl, hb1⟩; have hk1 := hk0.next hb1; obtain ⟨d10, d11, d12, d13, d14, d15, d16, hz1⟩ := hk1.drow; obtain ⟨r10, r11, r12, ry1⟩ := hk1.rrow) | (go_at_call 10; refine (fit_yes _ t a v n m s x t0 t1 a0 a1 v0 v1 n0 n1 s0 s1 x0 x1).mono ?_; rintro e w2 ⟨rfl, hb2⟩; have hk2 := hk1.next hb2))
  go_returns
  exact ⟨rfl, hk2.old.below⟩
end Go.Proofs.YtckplpojlhdmhaaDoor.desc
