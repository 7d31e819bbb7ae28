/- The document's own answers: do a word's numbers fit; the number of numbers that fit; the numbers of a number. -/
import Derived.Test.YtcblbbenaeiecaaDoorBase
import Derived.Test.YtcblbbenaeiecaaDoorBits
import Derived.Deep.QuietTactic
import Derived.BigQuiet
namespace Go.Proofs.YtcblbbenaeiecaaDoor.word
open Go.RowKit

theorem below_drewN {B : Nat} {a w : World} (h : Below B a w) (n : Nat) : Below B a (w.drewN n) := ⟨h.os, h.tape, h.output, h.size, h.block⟩
theorem ret_i64 {a b : Int} (h : a = b) : Ending.returned (.int .i64 a) = Ending.returned (.int .i64 b) := by rw [h]

set_option maxRecDepth 100000 in
set_option maxHeartbeats 1000000 in
theorem fit_yes (w : World) (k n m c v : Int) (k0 : 0 ≤ k) (k1 : k < 1024) (n0 : 0 ≤ n) (n1 : n < 512) (m0 : 0 ≤ m) (m1 : m < 2) (c0 : 0 ≤ c) (c1 : c < 32) (v0 : 0 ≤ v) (v1 : v < 262144) :
    Calls Tryd.prog 10 #[.agg #[.int .i64 k, .int .i64 n, .int .i64 m, .int .i64 c, .int .i64 v]] w fun e w' => e = .returned (.bool true) ∧ Below w.heap.size w w' := by
  go_enter Tryd.func10, Tryd.ntmps10
  go_wp2
  refine wp_loop_rounds 6 ?_
  iterate 5 (rw [rounds_succ]; go_wp2; go_quiet (fail); go_wp2)
  rw [rounds_succ]
  go_wp2
  go_returns
  refine ⟨rfl, ?_⟩
  repeat (with_reducible refine below_drewN ?_ _)
  go_grown

set_option maxRecDepth 100000 in
set_option maxHeartbeats 1000000 in
theorem fit_no (w : World) (k n m c v : Int) (kr : -9223372036854775808 ≤ k ∧ k ≤ 9223372036854775807) (nr : -9223372036854775808 ≤ n ∧ n ≤ 9223372036854775807) (cr : -9223372036854775808 ≤ c ∧ c ≤ 9223372036854775807) (vr : -9223372036854775808 ≤ v ∧ v ≤ 9223372036854775807) (m0 : 0 ≤ m) (m1 : m < 2)
    (h : ¬ (0 ≤ k ∧ k < 1024 ∧ 0 ≤ n ∧ n < 512 ∧ 0 ≤ c ∧ c < 32 ∧ 0 ≤ v ∧ v < 262144)) :
    Calls Tryd.prog 10 #[.agg #[.int .i64 k, .int .i64 n, .int .i64 m, .int .i64 c, .int .i64 v]] w fun e w' => e = .returned (.bool false) ∧ Below w.heap.size w w' := by
  have H := Lib.hid h
  clear h
  go_enter Tryd.func10, Tryd.ntmps10
  go_wp2
  refine wp_loop_rounds 6 ?_
  iterate 5
    rw [rounds_succ]
    go_wp2
    refine wp_region_quiet_lit (by kernel_rfl) (by kernel_rfl) ?_
    repeat (any_goals (first | go_big_quiet_step (fail) | quiet_step (fail) | (refine wpQuiet_step (fun K hK => ?_); go_simp; split <;> (refine hK _ ?_; clear hK K))))
    all_goals (refine wpQuiet_nil ?_; intro _ hw'; obtain ⟨nq, hw''⟩ := hw'; subst hw'')
    all_goals go_wp2
    all_goals try (go_returns; refine ⟨rfl, ?_⟩; (repeat (with_reducible refine below_drewN ?_ _)); go_grown; done)
  rw [rounds_succ]
  go_wp2
  exact absurd (by omega) H.out

set_option maxRecDepth 100000 in
set_option maxHeartbeats 1000000 in
theorem number_any (w : World) (k n m c v : Int) (k0 : 0 ≤ k) (k1 : k < 1024) (n0 : 0 ≤ n) (n1 : n < 512) (m0 : 0 ≤ m) (m1 : m < 2) (c0 : 0 ≤ c) (c1 : c < 32) (v0 : 0 ≤ v) (v1 : v < 262144) :
    Calls Tryd.prog 12 #[.agg #[.int .i64 k, .int .i64 n, .int .i64 m, .int .i64 c, .int .i64 v]] w fun e w' => e = .returned (.int .i64 (num k n m c v)) ∧ Below w.heap.size w w' := by
  have HN : Hid ((((v * 32 + c) * 2 + m) * 512 + n) * 1024 + k = num k n m c v) := by unfold Hid num; omega
  go_enter Tryd.func12, Tryd.ntmps12
  go_wp2
  refine wp_loop_rounds 6 ?_
  iterate 5 (rw [rounds_succ]; go_wp2; go_quiet (fail); go_wp2)
  rw [rounds_succ]
  go_wp2
  go_returns
  refine ⟨ret_i64 HN.out, ?_⟩
  repeat (with_reducible refine below_drewN ?_ _)
  go_grown

set_option maxRecDepth 100000 in
set_option maxHeartbeats 1000000 in
theorem split_raw (w : World) (x : Int) (x0 : 0 ≤ x) (x1 : x < 8796093022208) :
    Calls Tryd.prog 15 #[.int .i64 x] w fun e w' => e = .returned (.tuple #[.agg #[.int .i64 (x % 1024), .int .i64 (x / 1024 % 512), .int .i64 (x / 1024 / 512 % 2), .int .i64 (x / 1024 / 512 / 2 % 32), .int .i64 (x / 1024 / 512 / 2 / 32 % 262144)], .int .i64 (x / 1024 / 512 / 2 / 32 / 262144)]) ∧ Below w.heap.size w w' := by
  go_enter Tryd.func15, Tryd.ntmps15
  go_wp2
  go_rounds 6
  go_returns
  exact ⟨rfl, by go_grown⟩

theorem split_any (w : World) (x : Int) (x0 : 0 ≤ x) (x1 : x < 8796093022208) :
    Calls Tryd.prog 15 #[.int .i64 x] w fun e w' => e = .returned (.tuple #[.agg #[.int .i64 (x % 1024), .int .i64 (x / 1024 % 512), .int .i64 (x / 1024 / 512 % 2), .int .i64 (x / 1024 / 512 / 2 % 32), .int .i64 (x / 1024 / 512 / 2 / 32 % 262144)], .int .i64 0]) ∧ Below w.heap.size w w' := by
  have h : x / 1024 / 512 / 2 / 32 / 262144 = 0 := by omega
  exact (split_raw w x x0 x1).mono fun e w' ⟨he, hb⟩ => ⟨by rw [he, h], hb⟩

end Go.Proofs.YtcblbbenaeiecaaDoor.word
