/- desc.Put: the bits of a descriptor that fits, ErrRange (2) of one that does not. -/
import Derived.Test.YtckplpojlhdmhaaDoorDBits
import Derived.Deep.QuietTactic
import Derived.BigQuiet
namespace Go.Proofs.YtckplpojlhdmhaaDoor.desc
open Go.RowKit

theorem at0 (a b c d e f g : Value) (w : World) : (Instr.index 47 (.agg #[a, b, c, d, e, f, g]) (.int .i64 0)).run Tryd.prog w = .ok a w := by kernel_rfl
theorem at1 (a b c d e f g : Value) (w : World) : (Instr.index 47 (.agg #[a, b, c, d, e, f, g]) (.int .i64 1)).run Tryd.prog w = .ok b w := by kernel_rfl
theorem at2 (a b c d e f g : Value) (w : World) : (Instr.index 47 (.agg #[a, b, c, d, e, f, g]) (.int .i64 2)).run Tryd.prog w = .ok c w := by kernel_rfl
theorem at3 (a b c d e f g : Value) (w : World) : (Instr.index 47 (.agg #[a, b, c, d, e, f, g]) (.int .i64 3)).run Tryd.prog w = .ok d w := by kernel_rfl
theorem at4 (a b c d e f g : Value) (w : World) : (Instr.index 47 (.agg #[a, b, c, d, e, f, g]) (.int .i64 4)).run Tryd.prog w = .ok e w := by kernel_rfl
theorem at5 (a b c d e f g : Value) (w : World) : (Instr.index 47 (.agg #[a, b, c, d, e, f, g]) (.int .i64 5)).run Tryd.prog w = .ok f w := by kernel_rfl
theorem at6 (a b c d e f g : Value) (w : World) : (Instr.index 47 (.agg #[a, b, c, d, e, f, g]) (.int .i64 6)).run Tryd.prog w = .ok g w := by kernel_rfl
attribute [local go_sem] at0 at1 at2 at3 at4 at5 at6

theorem tuple2 {a b c d : Value} (h : a = c) (h' : b = d) : Ending.returned (.tuple #[a, b]) = Ending.returned (.tuple #[c, d]) := by rw [h, h']
theorem u64_eq {a b : Int} (h : a = b) : Value.int .u64 a = Value.int .u64 b := by rw [h]
theorem below_drewN {B : Nat} {a w : World} (h : Below B a w) (n : Nat) : Below B a (w.drewN n) := ⟨h.os, h.tape, h.output, h.size, h.block⟩
theorem Table.below {w w' : World} (h : Table w) (hb : Below w.heap.size w w') : Table w' :=
  ⟨(hb.cell h.size).trans h.c0, (hb.cell h.size).trans h.c1, (hb.cell h.size).trans h.c2, (hb.cell h.size).trans h.c3, (hb.cell h.size).trans h.c4, (hb.cell h.size).trans h.c5, (hb.cell h.size).trans h.c6, Nat.lt_of_lt_of_le h.size hb.size⟩
theorem Table.alloc {w : World} (h : Table w) (o : Obj) : Table (w.alloc o) := h.below ((Below.refl _ _).alloc (Nat.le_refl _) o)

set_option maxRecDepth 100000 in
set_option maxHeartbeats 2000000 in
theorem put_fit (w : World) (t a v n s x : Int) (m : Bool) (t0 : 0 ≤ t) (t1 : t < 4096) (a0 : 0 ≤ a) (a1 : a < 512) (v0 : 0 ≤ v) (v1 : v < 262144) (n0 : 0 ≤ n) (n1 : n < 512) (s0 : 0 ≤ s) (s1 : s < 8) (x0 : 0 ≤ x) (x1 : x < 1024) (ht : Table w) :
    Calls Tryd.prog 9 #[.agg #[.int .i64 t, .int .i64 a, .int .i64 v, .int .i64 n, .bool m, .int .i64 s, .int .i64 x]] w fun e w' => e = .returned (.tuple #[.int .u64 (num t a v n (mk m) s x), .int .i64 0]) ∧ Below w.heap.size w w' := by
  obtain ⟨m0, m1⟩ := mark_range m
  have H0 := Lib.hid (put_num t a v n (mk m) s x _ rfl t0 t1 a0 a1 v0 v1 n0 n1 m0 m1 s0 s1 x0 x1)
  have ht0 := ht.alloc (.cells #[.int .i64 t, .int .i64 a, .int .i64 v, .int .i64 n, .bool m, .int .i64 s, .int .i64 x] 23)
  go_enter Tryd.func9, Tryd.ntmps9
  go_wp2_with (first | (go_at_call 19; refine (begins_any _ ht0).mono ?_; rintro e w1 ⟨rfl, hg1, hb1⟩; obtain ⟨hc1, hf1⟩ := bcell hb1; have hz1 : w.heap.size < w1.heap.size := (by have := hb1.size; simp at this; omega)) | (go_at_call 20; refine (numbers_any _ t a v n m s x).mono ?_; rintro e w2 ⟨rfl, hb2⟩; have hg2 := hg1.below hb2))
  clear hc1 hf1
  have hg3 : Begs w2 (w.heap.size + 1 + 1) := by simpa using hg2
  have hb3 : Below w.heap.size w w2 := by
    refine (((Below.refl _ _).alloc (Nat.le_refl _) _).trans (hb1.mono (by simp))).trans (hb2.mono (by omega))
  obtain ⟨c0, c1, c2, c3, c4, c5, c6, c7, hz2⟩ := hg3
  clear hg1 hg2 hb1 hb2 ht0 hz1
  have z1 : decide (t < 0) = false := by simpa using t0
  have z2 : decide (a < 0) = false := by simpa using a0
  have z3 : decide (v < 0) = false := by simpa using v0
  have z4 : decide (n < 0) = false := by simpa using n0
  have z5 : decide (mk m < 0) = false := by simpa using m0
  have z6 : decide (s < 0) = false := by simpa using s0
  have z7 : decide (x < 0) = false := by simpa using x0
  refine wp_loop_rounds 8 ?_
  iterate 7 (rw [rounds_succ]; go_wp2; go_quiet (fail); go_wp2)
  rw [rounds_succ]
  go_wp2
  go_returns
  refine ⟨tuple2 (u64_eq H0.out) rfl, ?_⟩
  repeat (with_reducible refine below_drewN ?_ _)
  exact hb3

theorem sign_of (x : Int) : (decide (x < 0) = true ∧ x < 0) ∨ (decide (x < 0) = false ∧ 0 ≤ x) := by
  by_cases h : x < 0
  · exact Or.inl ⟨by simpa using h, h⟩
  · exact Or.inr ⟨by simpa using h, by omega⟩

set_option maxRecDepth 100000 in
set_option maxHeartbeats 4000000 in
theorem put_unfit (w : World) (t a v n s x : Int) (m : Bool) (tr : -9223372036854775808 ≤ t ∧ t ≤ 9223372036854775807) (ar : -9223372036854775808 ≤ a ∧ a ≤ 9223372036854775807) (vr : -9223372036854775808 ≤ v ∧ v ≤ 9223372036854775807) (nr : -9223372036854775808 ≤ n ∧ n ≤ 9223372036854775807) (sr : -9223372036854775808 ≤ s ∧ s ≤ 9223372036854775807) (xr : -9223372036854775808 ≤ x ∧ x ≤ 9223372036854775807)
    (h : ¬ (0 ≤ t ∧ t < 4096 ∧ 0 ≤ a ∧ a < 512 ∧ 0 ≤ v ∧ v < 262144 ∧ 0 ≤ n ∧ n < 512 ∧ 0 ≤ s ∧ s < 8 ∧ 0 ≤ x ∧ x < 1024)) (ht : Table w) :
    Calls Tryd.prog 9 #[.agg #[.int .i64 t, .int .i64 a, .int .i64 v, .int .i64 n, .bool m, .int .i64 s, .int .i64 x]] w fun e w' => e = .returned (.tuple #[.int .u64 0, .int .i64 2]) ∧ Below w.heap.size w w' := by
  obtain ⟨m0, m1⟩ := mark_range m
  have H := Lib.hid h
  clear h
  have ht0 := ht.alloc (.cells #[.int .i64 t, .int .i64 a, .int .i64 v, .int .i64 n, .bool m, .int .i64 s, .int .i64 x] 23)
  go_enter Tryd.func9, Tryd.ntmps9
  go_wp2_with (first | (go_at_call 19; refine (begins_any _ ht0).mono ?_; rintro e w1 ⟨rfl, hg1, hb1⟩; obtain ⟨hc1, hf1⟩ := bcell hb1; have hz1 : w.heap.size < w1.heap.size := (by have := hb1.size; simp at this; omega)) | (go_at_call 20; refine (numbers_any _ t a v n m s x).mono ?_; rintro e w2 ⟨rfl, hb2⟩; have hg2 := hg1.below hb2))
  clear hc1 hf1
  have hg3 : Begs w2 (w.heap.size + 1 + 1) := by simpa using hg2
  have hb3 : Below w.heap.size w w2 := by
    refine (((Below.refl _ _).alloc (Nat.le_refl _) _).trans (hb1.mono (by simp))).trans (hb2.mono (by omega))
  obtain ⟨c0, c1, c2, c3, c4, c5, c6, c7, hz2⟩ := hg3
  clear hg1 hg2 hb1 hb2 ht0 hz1
  have z5 : decide (mk m < 0) = false := by simpa using m0
  refine wp_loop_rounds 8 ?_
  rcases sign_of t with ⟨hd, hs⟩ | ⟨hd, hs⟩
  · rw [rounds_succ]
    go_wp2
    go_quiet (fail)
    go_wp2
    go_returns
    refine ⟨rfl, ?_⟩
    repeat (with_reducible refine below_drewN ?_ _)
    exact hb3
  by_cases hu : t < 4096
  rotate_left
  · have hu' : 4096 ≤ t := by omega
    clear hu
    rw [rounds_succ]
    go_wp2
    go_quiet (fail)
    go_wp2
    go_returns
    refine ⟨rfl, ?_⟩
    repeat (with_reducible refine below_drewN ?_ _)
    exact hb3
  rw [rounds_succ]
  go_wp2
  go_quiet (fail)
  go_wp2
  clear hd
  rcases sign_of a with ⟨hd, hs⟩ | ⟨hd, hs⟩
  · rw [rounds_succ]
    go_wp2
    go_quiet (fail)
    go_wp2
    go_returns
    refine ⟨rfl, ?_⟩
    repeat (with_reducible refine below_drewN ?_ _)
    exact hb3
  by_cases hu : a < 512
  rotate_left
  · have hu' : 512 ≤ a := by omega
    clear hu
    rw [rounds_succ]
    go_wp2
    go_quiet (fail)
    go_wp2
    go_returns
    refine ⟨rfl, ?_⟩
    repeat (with_reducible refine below_drewN ?_ _)
    exact hb3
  rw [rounds_succ]
  go_wp2
  go_quiet (fail)
  go_wp2
  clear hd
  rcases sign_of v with ⟨hd, hs⟩ | ⟨hd, hs⟩
  · rw [rounds_succ]
    go_wp2
    go_quiet (fail)
    go_wp2
    go_returns
    refine ⟨rfl, ?_⟩
    repeat (with_reducible refine below_drewN ?_ _)
    exact hb3
  by_cases hu : v < 262144
  rotate_left
  · have hu' : 262144 ≤ v := by omega
    clear hu
    rw [rounds_succ]
    go_wp2
    go_quiet (fail)
    go_wp2
    go_returns
    refine ⟨rfl, ?_⟩
    repeat (with_reducible refine below_drewN ?_ _)
    exact hb3
  rw [rounds_succ]
  go_wp2
  go_quiet (fail)
  go_wp2
  clear hd
  rcases sign_of n with ⟨hd, hs⟩ | ⟨hd, hs⟩
  · rw [rounds_succ]
    go_wp2
    go_quiet (fail)
    go_wp2
    go_returns
    refine ⟨rfl, ?_⟩
    repeat (with_reducible refine below_drewN ?_ _)
    exact hb3
  by_cases hu : n < 512
  rotate_left
  · have hu' : 512 ≤ n := by omega
    clear hu
    rw [rounds_succ]
    go_wp2
    go_quiet (fail)
    go_wp2
    go_returns
    refine ⟨rfl, ?_⟩
    repeat (with_reducible refine below_drewN ?_ _)
    exact hb3
  rw [rounds_succ]
  go_wp2
  go_quiet (fail)
  go_wp2
  clear hd
  rw [rounds_succ]
  go_wp2
  go_quiet (fail)
  go_wp2
  rcases sign_of s with ⟨hd, hs⟩ | ⟨hd, hs⟩
  · rw [rounds_succ]
    go_wp2
    go_quiet (fail)
    go_wp2
    go_returns
    refine ⟨rfl, ?_⟩
    repeat (with_reducible refine below_drewN ?_ _)
    exact hb3
  by_cases hu : s < 8
  rotate_left
  · have hu' : 8 ≤ s := by omega
    clear hu
    rw [rounds_succ]
    go_wp2
    go_quiet (fail)
    go_wp2
    go_returns
    refine ⟨rfl, ?_⟩
    repeat (with_reducible refine below_drewN ?_ _)
    exact hb3
  rw [rounds_succ]
  go_wp2
  go_quiet (fail)
  go_wp2
  clear hd
  rcases sign_of x with ⟨hd, hs⟩ | ⟨hd, hs⟩
  · rw [rounds_succ]
    go_wp2
    go_quiet (fail)
    go_wp2
    go_returns
    refine ⟨rfl, ?_⟩
    repeat (with_reducible refine below_drewN ?_ _)
    exact hb3
  by_cases hu : x < 1024
  rotate_left
  · have hu' : 1024 ≤ x := by omega
    clear hu
    rw [rounds_succ]
    go_wp2
    go_quiet (fail)
    go_wp2
    go_returns
    refine ⟨rfl, ?_⟩
    repeat (with_reducible refine below_drewN ?_ _)
    exact hb3
  rw [rounds_succ]
  go_wp2
  go_quiet (fail)
  go_wp2
  clear hd
  exact absurd (by omega) H.out
end Go.Proofs.YtckplpojlhdmhaaDoor.desc
