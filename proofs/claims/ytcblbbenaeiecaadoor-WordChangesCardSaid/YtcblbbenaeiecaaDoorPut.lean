/- word.Put: the bits of a word that fits, ErrRange (2) of one that doesn't. -/
import Derived.Test.YtcblbbenaeiecaaDoorBase
import Derived.Test.YtcblbbenaeiecaaDoorBits
namespace Go.Proofs.YtcblbbenaeiecaaDoor.word
open Go.RowKit

theorem at0 (a b c d e : Value) (w : World) : (Instr.index 47 (.agg #[a, b, c, d, e]) (.int .i64 0)).run Tryd.prog w = .ok a w := by kernel_rfl
theorem at1 (a b c d e : Value) (w : World) : (Instr.index 47 (.agg #[a, b, c, d, e]) (.int .i64 1)).run Tryd.prog w = .ok b w := by kernel_rfl
theorem at2 (a b c d e : Value) (w : World) : (Instr.index 47 (.agg #[a, b, c, d, e]) (.int .i64 2)).run Tryd.prog w = .ok c w := by kernel_rfl
theorem at3 (a b c d e : Value) (w : World) : (Instr.index 47 (.agg #[a, b, c, d, e]) (.int .i64 3)).run Tryd.prog w = .ok d w := by kernel_rfl
theorem at4 (a b c d e : Value) (w : World) : (Instr.index 47 (.agg #[a, b, c, d, e]) (.int .i64 4)).run Tryd.prog w = .ok e w := by kernel_rfl
attribute [local go_sem] at0 at1 at2 at3 at4

/-- The table of the fields' widths, as the program lays it. -/
structure Table (w : World) : Prop where
  c0 : w.cell? ⟨0, 0, none⟩ = some (.int .i64 10)
  c1 : w.cell? ⟨0, 1, none⟩ = some (.int .i64 9)
  c2 : w.cell? ⟨0, 2, none⟩ = some (.int .i64 1)
  c3 : w.cell? ⟨0, 3, none⟩ = some (.int .i64 5)
  c4 : w.cell? ⟨0, 4, none⟩ = some (.int .i64 18)
  size : 0 < w.heap.size

theorem tuple2 {a b c d : Value} (h : a = c) (h' : b = d) : Ending.returned (.tuple #[a, b]) = Ending.returned (.tuple #[c, d]) := by rw [h, h']
theorem u64_eq {a b : Int} (h : a = b) : Value.int .u64 a = Value.int .u64 b := by rw [h]

set_option maxRecDepth 100000 in
set_option maxHeartbeats 1000000 in
theorem put_fit (w : World) (k n c v : Int) (m : Bool) (k0 : 0 ≤ k) (k1 : k < 1024) (n0 : 0 ≤ n) (n1 : n < 512) (c0 : 0 ≤ c) (c1 : c < 32) (v0 : 0 ≤ v) (v1 : v < 262144) (ht : Table w) :
    Calls Tryd.prog 9 #[.agg #[.int .i64 k, .int .i64 n, .bool m, .int .i64 c, .int .i64 v]] w fun e w' => e = .returned (.tuple #[.int .u64 (num k n (mk m) c v), .int .i64 0]) ∧ Below w.heap.size w w' := by
  obtain ⟨t0, t1, t2, t3, t4, hz⟩ := ht
  have H0 := Lib.hid (put_num k n 0 c v 0 rfl k0 k1 n0 n1 (by omega) (by omega) c0 c1 v0 v1)
  have H1 := Lib.hid (put_num k n 1 c v 524288 rfl k0 k1 n0 n1 (by omega) (by omega) c0 c1 v0 v1)
  cases m
  · go_enter Tryd.func9, Tryd.ntmps9
    go_wp2
    go_rounds 6
    go_returns
    exact ⟨tuple2 (u64_eq H0.out) rfl, by go_grown⟩
  · go_enter Tryd.func9, Tryd.ntmps9
    go_wp2
    go_rounds 6
    go_returns
    exact ⟨tuple2 (u64_eq H1.out) rfl, by go_grown⟩

set_option maxRecDepth 100000 in
set_option maxHeartbeats 1000000 in
theorem put_unfit (w : World) (k n c v : Int) (m : Bool) (kr : -9223372036854775808 ≤ k ∧ k ≤ 9223372036854775807) (nr : -9223372036854775808 ≤ n ∧ n ≤ 9223372036854775807) (cr : -9223372036854775808 ≤ c ∧ c ≤ 9223372036854775807) (vr : -9223372036854775808 ≤ v ∧ v ≤ 9223372036854775807)
    (h : ¬ (0 ≤ k ∧ k < 1024 ∧ 0 ≤ n ∧ n < 512 ∧ 0 ≤ c ∧ c < 32 ∧ 0 ≤ v ∧ v < 262144)) (ht : Table w) :
    Calls Tryd.prog 9 #[.agg #[.int .i64 k, .int .i64 n, .bool m, .int .i64 c, .int .i64 v]] w fun e w' => e = .returned (.tuple #[.int .u64 0, .int .i64 2]) ∧ Below w.heap.size w w' := by
  obtain ⟨t0, t1, t2, t3, t4, hz⟩ := ht
  have H := Lib.hid h
  clear h
  cases m
  all_goals
    go_enter Tryd.func9, Tryd.ntmps9
    go_wp2
    go_rounds 6
    all_goals first | exact absurd (by omega) H.out | (go_returns; exact ⟨rfl, by go_grown⟩)
end Go.Proofs.YtcblbbenaeiecaaDoor.word
