/- The law TaskPuts answers true at any task and any bits. -/
import Derived.Test.YtipappihophijaaTkAwake
import Derived.Test.YtipappihophijaaTkGet
namespace Go.Proofs.Ytipappihophijaa.task
open Go.RowKit
attribute [local go_sem] eq_task

set_option maxRecDepth 100000 in
set_option maxHeartbeats 4000000 in
theorem puts_wrong_none (w : World) (s k y x : Int) (x0 : 0 ≤ x) (x1 : x < 18446744073709551616) (hr : rightB s k y = false) (ho : ownB x = false) :
    Calls Try.prog 3 #[.agg #[.int .i64 s, .int .i64 k, .int .i64 y], .int .u64 x] w fun e w' => e = .returned (.bool true) ∧ Below w.heap.size w w' := by
  have A0 := Lib.hid (One.new w s k y 25)
  have X := Lib.hid (And.intro x0 x1)
  have HO := Lib.hid ho
  have HR := Lib.hid hr
  clear ho hr x0 x1
  go_enter Try.func3, Try.ntmps3
  go_wp2_with (first
    | (go_at_call 11; have _t := A4.out; refine (get_none _ x X.out.1 X.out.2 HO.out).mono ?_; rintro e w6 ⟨rfl, hb6⟩; have A6 := Lib.hid (A4.out.next hb6); clear hb6; obtain ⟨i0, i1, i2, -, -⟩ := id A6.out)
    | (go_at_call 10; have _t := A3.out; refine (right_any _ s k y).mono ?_; rw [HR.out]; rintro e w4 ⟨rfl, hb4⟩; have A4 := Lib.hid (A3.out.next hb4); clear hb4; obtain ⟨g0, g1, g2, -, -⟩ := id A4.out)
    | (go_at_call 9; have _t := A2.out; refine (may_any _ s k y).mono ?_; rw [HR.out]; rintro e w3 ⟨rfl, hb3⟩; have A3 := Lib.hid (A2.out.next hb3); clear hb3; obtain ⟨f0, f1, f2, -, -⟩ := id A3.out)
    | (go_at_call 8; have _t := A1.out; refine (put_wrong _ s k y HR.out).mono ?_; rintro e w2 ⟨rfl, hb2⟩; have A2 := Lib.hid (A1.out.next hb2); clear hb2; obtain ⟨d0, d1, d2, -, -⟩ := id A2.out)
    | (go_at_call 7; refine (awake_any _).mono ?_; rintro e w1 ⟨rfl, hb1⟩; have A1 := Lib.hid (A0.out.next hb1); clear hb1; obtain ⟨c0, c1, c2, -, -⟩ := id A1.out))
  go_returns
  exact ⟨rfl, A6.out.below.alloc A6.out.below.size _⟩

set_option maxRecDepth 100000 in
set_option maxHeartbeats 4000000 in
theorem puts_wrong_own (w : World) (s k y x : Int) (x0 : 0 ≤ x) (x1 : x < 18446744073709551616) (hr : rightB s k y = false) (ho : ownB x = true) :
    Calls Try.prog 3 #[.agg #[.int .i64 s, .int .i64 k, .int .i64 y], .int .u64 x] w fun e w' => e = .returned (.bool true) ∧ Below w.heap.size w w' := by
  have A0 := Lib.hid (One.new w s k y 25)
  have X := Lib.hid (And.intro x0 x1)
  have HO := Lib.hid ho
  have HR := Lib.hid hr
  have NX : Hid (num (x % 8) (x / 8 % 8) (x / 64 % 1024) = x ∧ rightB (x % 8) (x / 8 % 8) (x / 64 % 1024) = true) := Lib.hid (by simp [ownB] at ho; exact ⟨ho.2, ho.1⟩)
  clear ho hr x0 x1
  go_enter Try.func3, Try.ntmps3
  go_wp2_with (first
    | (go_at_call 8; have _t := A6.out; refine (put_right _ _ _ _ NX.out.2).mono ?_; rw [NX.out.1]; rintro e w7 ⟨rfl, hb7⟩; have A7 := Lib.hid ((A6.out.alloc' _).next hb7); clear hb7)
    | (go_at_call 11; have _t := A4.out; refine (get_own _ x X.out.1 X.out.2 HO.out).mono ?_; rintro e w6 ⟨rfl, hb6⟩; have A6 := Lib.hid (A4.out.next hb6); clear hb6; obtain ⟨i0, i1, i2, -, -⟩ := id A6.out)
    | (go_at_call 10; have _t := A3.out; refine (right_any _ s k y).mono ?_; rw [HR.out]; rintro e w4 ⟨rfl, hb4⟩; have A4 := Lib.hid (A3.out.next hb4); clear hb4; obtain ⟨g0, g1, g2, -, -⟩ := id A4.out)
    | (go_at_call 9; have _t := A2.out; refine (may_any _ s k y).mono ?_; rw [HR.out]; rintro e w3 ⟨rfl, hb3⟩; have A3 := Lib.hid (A2.out.next hb3); clear hb3; obtain ⟨f0, f1, f2, -, -⟩ := id A3.out)
    | (go_at_call 8; have _t := A1.out; refine (put_wrong _ s k y HR.out).mono ?_; rintro e w2 ⟨rfl, hb2⟩; have A2 := Lib.hid (A1.out.next hb2); clear hb2; obtain ⟨d0, d1, d2, -, -⟩ := id A2.out)
    | (go_at_call 7; refine (awake_any _).mono ?_; rintro e w1 ⟨rfl, hb1⟩; have A1 := Lib.hid (A0.out.next hb1); clear hb1; obtain ⟨c0, c1, c2, -, -⟩ := id A1.out))
  go_returns
  exact ⟨rfl, A7.out.below⟩

set_option maxRecDepth 100000 in
set_option maxHeartbeats 4000000 in
theorem puts_right_none (w : World) (s k y x : Int) (x0 : 0 ≤ x) (x1 : x < 18446744073709551616) (hr : rightB s k y = true) (ho : ownB x = false) :
    Calls Try.prog 3 #[.agg #[.int .i64 s, .int .i64 k, .int .i64 y], .int .u64 x] w fun e w' => e = .returned (.bool true) ∧ Below w.heap.size w w' := by
  have A0 := Lib.hid (One.new w s k y 25)
  have X := Lib.hid (And.intro x0 x1)
  have HO := Lib.hid ho
  have HR := Lib.hid hr
  have hi := (right_iff s k y).1 hr
  have s0 : 1 ≤ s ∧ s ≤ 4 := by omega
  have k0 : 1 ≤ k ∧ k ≤ 5 := by omega
  have y0 : 0 ≤ y ∧ y ≤ 999 := by omega
  have hn : num s k y = s + 8 * k + 64 * y := by unfold num; omega
  have PR := fun u => put_right u s k y hr
  have GB := fun u => get_back u s k y hr
  rw [hn] at PR GB
  clear hi hn
  clear ho hr x0 x1
  go_enter Try.func3, Try.ntmps3
  go_wp2_with (first
    | (go_at_call 11; have _t := A5.out; refine (get_none _ x X.out.1 X.out.2 HO.out).mono ?_; rintro e w6 ⟨rfl, hb6⟩; have A6 := Lib.hid ((A5.out.alloc' _).next hb6); clear hb6; obtain ⟨i0, i1, i2, -, -⟩ := id A6.out)
    | (go_at_call 11; have _t := A4.out; refine (GB _).mono ?_; rintro e w5 ⟨rfl, hb5⟩; have A5 := Lib.hid (A4.out.next hb5); clear hb5; obtain ⟨h0, h1, h2, hl, -⟩ := id A5.out)
    | (go_at_call 10; have _t := A3.out; refine (right_any _ s k y).mono ?_; rw [HR.out]; rintro e w4 ⟨rfl, hb4⟩; have A4 := Lib.hid (A3.out.next hb4); clear hb4; obtain ⟨g0, g1, g2, -, -⟩ := id A4.out)
    | (go_at_call 9; have _t := A2.out; refine (may_any _ s k y).mono ?_; rw [HR.out]; rintro e w3 ⟨rfl, hb3⟩; have A3 := Lib.hid (A2.out.next hb3); clear hb3; obtain ⟨f0, f1, f2, -, -⟩ := id A3.out)
    | (go_at_call 8; have _t := A1.out; refine (PR _).mono ?_; rintro e w2 ⟨rfl, hb2⟩; have A2 := Lib.hid (A1.out.next hb2); clear hb2; obtain ⟨d0, d1, d2, -, -⟩ := id A2.out)
    | (go_at_call 7; refine (awake_any _).mono ?_; rintro e w1 ⟨rfl, hb1⟩; have A1 := Lib.hid (A0.out.next hb1); clear hb1; obtain ⟨c0, c1, c2, -, -⟩ := id A1.out))
  go_returns
  exact ⟨rfl, A6.out.below.alloc A6.out.below.size _⟩

set_option maxRecDepth 100000 in
set_option maxHeartbeats 4000000 in
theorem puts_right_own (w : World) (s k y x : Int) (x0 : 0 ≤ x) (x1 : x < 18446744073709551616) (hr : rightB s k y = true) (ho : ownB x = true) :
    Calls Try.prog 3 #[.agg #[.int .i64 s, .int .i64 k, .int .i64 y], .int .u64 x] w fun e w' => e = .returned (.bool true) ∧ Below w.heap.size w w' := by
  have A0 := Lib.hid (One.new w s k y 25)
  have X := Lib.hid (And.intro x0 x1)
  have HO := Lib.hid ho
  have HR := Lib.hid hr
  have NX : Hid (num (x % 8) (x / 8 % 8) (x / 64 % 1024) = x ∧ rightB (x % 8) (x / 8 % 8) (x / 64 % 1024) = true) := Lib.hid (by simp [ownB] at ho; exact ⟨ho.2, ho.1⟩)
  have hi := (right_iff s k y).1 hr
  have s0 : 1 ≤ s ∧ s ≤ 4 := by omega
  have k0 : 1 ≤ k ∧ k ≤ 5 := by omega
  have y0 : 0 ≤ y ∧ y ≤ 999 := by omega
  have hn : num s k y = s + 8 * k + 64 * y := by unfold num; omega
  have PR := fun u => put_right u s k y hr
  have GB := fun u => get_back u s k y hr
  rw [hn] at PR GB
  clear hi hn
  clear ho hr x0 x1
  go_enter Try.func3, Try.ntmps3
  go_wp2_with (first
    | (go_at_call 8; have _t := A6.out; refine (put_right _ _ _ _ NX.out.2).mono ?_; rw [NX.out.1]; rintro e w7 ⟨rfl, hb7⟩; have A7 := Lib.hid ((A6.out.alloc' _).next hb7); clear hb7)
    | (go_at_call 11; have _t := A5.out; refine (get_own _ x X.out.1 X.out.2 HO.out).mono ?_; rintro e w6 ⟨rfl, hb6⟩; have A6 := Lib.hid ((A5.out.alloc' _).next hb6); clear hb6; obtain ⟨i0, i1, i2, -, -⟩ := id A6.out)
    | (go_at_call 11; have _t := A4.out; refine (GB _).mono ?_; rintro e w5 ⟨rfl, hb5⟩; have A5 := Lib.hid (A4.out.next hb5); clear hb5; obtain ⟨h0, h1, h2, hl, -⟩ := id A5.out)
    | (go_at_call 10; have _t := A3.out; refine (right_any _ s k y).mono ?_; rw [HR.out]; rintro e w4 ⟨rfl, hb4⟩; have A4 := Lib.hid (A3.out.next hb4); clear hb4; obtain ⟨g0, g1, g2, -, -⟩ := id A4.out)
    | (go_at_call 9; have _t := A2.out; refine (may_any _ s k y).mono ?_; rw [HR.out]; rintro e w3 ⟨rfl, hb3⟩; have A3 := Lib.hid (A2.out.next hb3); clear hb3; obtain ⟨f0, f1, f2, -, -⟩ := id A3.out)
    | (go_at_call 8; have _t := A1.out; refine (PR _).mono ?_; rintro e w2 ⟨rfl, hb2⟩; have A2 := Lib.hid (A1.out.next hb2); clear hb2; obtain ⟨d0, d1, d2, -, -⟩ := id A2.out)
    | (go_at_call 7; refine (awake_any _).mono ?_; rintro e w1 ⟨rfl, hb1⟩; have A1 := Lib.hid (A0.out.next hb1); clear hb1; obtain ⟨c0, c1, c2, -, -⟩ := id A1.out))
  go_returns
  exact ⟨rfl, A7.out.below⟩

theorem puts_any (w : World) (s k y x : Int) (x0 : 0 ≤ x) (x1 : x < 18446744073709551616) :
    Calls Try.prog 3 #[.agg #[.int .i64 s, .int .i64 k, .int .i64 y], .int .u64 x] w fun e w' => e = .returned (.bool true) ∧ Below w.heap.size w w' := by
  cases ho : ownB x <;> cases hr : rightB s k y
  · exact puts_wrong_none w s k y x x0 x1 hr ho
  · exact puts_right_none w s k y x x0 x1 hr ho
  · exact puts_wrong_own w s k y x x0 x1 hr ho
  · exact puts_right_own w s k y x x0 x1 hr ho
end Go.Proofs.Ytipappihophijaa.task
