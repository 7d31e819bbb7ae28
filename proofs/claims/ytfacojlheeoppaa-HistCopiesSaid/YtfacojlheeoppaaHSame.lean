/- The law's helpers: a history's events are these, its calls are those of these events. -/
import Derived.Test.YtfacojlheeoppaaHEventsW
namespace Go.Proofs.Ytfacojlheeoppaa.hist
open Go.RowKit

theorem eqi (n : Nat) (x y : Int) (w : World) : (Op.equalIn (n + 1) 3 (.int .i64 x) (.int .i64 y)).run Try.prog w = .ok (x == y) w := by
  simp [Op.equalIn, run_underlying Try.underlying3]
theorem eqe (n : Nat) (x y : Int) (w : World) : (Op.equalIn (n + 1) 28 (.int .i64 x) (.int .i64 y)).run Try.prog w = .ok (x == y) w := by
  simp [Op.equalIn, run_underlying Try.underlying28]
theorem eqb (n : Nat) (x y : Bool) (w : World) : (Op.equalIn (n + 1) 4 (.bool x) (.bool y)).run Try.prog w = .ok (x == y) w := by
  simp [Op.equalIn, run_underlying Try.underlying4]
theorem eq_op_at (d : Nat) (k y k' y' : Int) (w : World) : (Op.equalIn (d + 1 + 1) 27 (.agg #[.int .i64 k, .int .i64 y]) (.agg #[.int .i64 k', .int .i64 y'])).run Try.prog w = .ok (k == k' && y == y') w := by
  have hs : Try.prog.stoodInHeld 27 = false := by kernel_rfl
  unfold Op.equalIn
  simp only [Sem.run_bind, run_underlying Try.underlying27, Result.andThen_ok]
  simp [go_sem, hs, eqi]
  by_cases h1 : k = k' <;> by_cases h2 : y = y' <;> simp [*]
theorem eq_op (k y k' y' : Int) (w : World) : (Op.equalIn 10000 27 (.agg #[.int .i64 k, .int .i64 y]) (.agg #[.int .i64 k', .int .i64 y'])).run Try.prog w = .ok (k == k' && y == y') w :=
  eq_op_at 9998 k y k' y' w
theorem eq_span_at (d : Nat) (k y k' y' : Int) (w : World) : (Op.equalIn (d + 1 + 1) 49 (.agg #[.int .i64 k, .int .i64 y]) (.agg #[.int .i64 k', .int .i64 y'])).run Try.prog w = .ok (k == k' && y == y') w := by
  have hs : Try.prog.stoodInHeld 49 = false := by kernel_rfl
  unfold Op.equalIn
  simp only [Sem.run_bind, run_underlying Try.underlying49, Result.andThen_ok]
  simp [go_sem, hs, eqi]
  by_cases h1 : k = k' <;> by_cases h2 : y = y' <;> simp [*]
theorem eq_span (k y k' y' : Int) (w : World) : (Op.equalIn 10000 49 (.agg #[.int .i64 k, .int .i64 y]) (.agg #[.int .i64 k', .int .i64 y'])).run Try.prog w = .ok (k == k' && y == y') w :=
  eq_span_at 9998 k y k' y' w
theorem eq_res_at (d : Nat) (c c' : Int) (b b' : Bool) (v v' : Int) (w : World) : (Op.equalIn (d + 1 + 1) 30 (.agg #[.int .i64 c, .bool b, .int .i64 v]) (.agg #[.int .i64 c', .bool b', .int .i64 v'])).run Try.prog w = .ok (c == c' && (b == b' && v == v')) w := by
  have hs : Try.prog.stoodInHeld 30 = false := by kernel_rfl
  unfold Op.equalIn
  simp only [Sem.run_bind, run_underlying Try.underlying30, Result.andThen_ok]
  simp [go_sem, hs, eqi, eqe, eqb]
  by_cases h1 : c = c' <;> by_cases h2 : b = b' <;> by_cases h3 : v = v' <;> simp [*]
/-- As the walk asks it. -/
theorem eq_res (c c' : Int) (b b' : Bool) (v v' : Int) (w : World) : (Op.equalIn 10000 30 (.agg #[.int .i64 c, .bool b, .int .i64 v]) (.agg #[.int .i64 c', .bool b', .int .i64 v'])).run Try.prog w = .ok (c == c' && (b == b' && v == v')) w :=
  eq_res_at 9998 c c' b b' v v' w

attribute [local go_sem] eq_op eq_res eq_span
set_option maxRecDepth 100000 in
set_option maxHeartbeats 4000000 in
theorem same_any (w : World) (X : Nat) (f : Nat → Prop) (l : List EvV) (h : Hst w X f l) (hB : BareE l) (a : Option Addr) (N cap : Nat) (hN : l.length = N) (hl : N ≤ 1000) (hx : At cells7 7 w a l) :
    Calls Try.prog 16 #[.pointer (some ⟨X, 0, none⟩), .slice a N cap] w fun e w' => e = .returned (.bool true) ∧ Below w.heap.size w w' := by
  have HX := Lib.hid hx
  have HN := Lib.hid hN
  have HH := Lib.hid h
  have HB := Lib.hid hB
  have hl0 : (N : Int) ≤ 1000 := by omega
  have HL : Hid (l.length ≤ 1000) := by show _ ≤ _; omega
  clear hx hN h hB
  go_enter Try.func16, Try.ntmps16
  go_wp2_with (first
    | (go_at_call 24; have _t := G1.out; go_loud (refine (len_any _ X f l (HH.out.below G1.out.below)).mono ?_; rintro e w2 ⟨rfl, hw⟩; subst hw; rw [HN.out]))
    | (go_at_call 20; go_loud (refine (events_any _ X f l HH.out HB.out HL.out).mono ?_; rintro e w1 ⟨v1, rfl, hg⟩; obtain ⟨A1, c1, rfl, -, -, ha⟩ := hg.told len7; have G1 := Lib.hid hg; have A7 := Lib.hid ha; rw [HN.out]; clear hg ha)))
  go_loopw [25] (fun i wr => ∃ k : Nat, k ≤ N ∧ i = .int .i64 (k : Int) ∧ Below w1.heap.size w1 wr) (fun i _ => N - (intOf i).toNat)
  case atStart => exact ⟨0, Nat.zero_le _, rfl, Below.refl _ _⟩
  case round =>
    obtain ⟨k, hk, rfl, hb⟩ := hrel
    have HW := Lib.hid hb
    clear hb
    by_cases hlt : k < N
    · have hkl : k < l.length := by rw [HN.out]; exact hlt
      have hki : (k : Int) < (N : Int) := by omega
      obtain ⟨b, rfl, p0, p1, p2, p3, p4, p5, p6⟩ := (HX.out.later (past G1.out.below HW.out)).ev k hkl
      obtain ⟨b', rfl, q0, q1, q2, q3, q4, q5, q6⟩ := (A7.out.later HW.out).ev k hkl
      have hbl := World.block_lt_of_cell? wr _ q0
      generalize l[k] = o at *
      obtain ⟨T, E, K, Y, C, O, V⟩ := o
      simp only at p0 p1 p2 p3 p4 p5 p6 q0 q1 q2 q3 q4 q5 q6
      go_wp2
      go_roundw
      case rel => exact ⟨k + 1, by omega, by go_num, past HW.out (by go_grown)⟩
      case measure => simp [intOf]; omega
    · obtain rfl : k = N := by omega
      go_wp2
      go_returns
      exact ⟨rfl, past G1.out.below HW.out⟩
end Go.Proofs.Ytfacojlheeoppaa.hist
