/- word.Right; what Get makes of a word's own bits; the law's example. -/
import Derived.Test.YtcblbbenaeiecaaDoorGet
import Derived.Test.YtcblbbenaeiecaaDoorFit
namespace Go.Proofs.YtcblbbenaeiecaaDoor.word
open Go.RowKit

theorem Table.below {w w' : World} (h : Table w) (hb : Below w.heap.size w w') : Table w' :=
  ⟨(hb.cell h.size).trans h.c0, (hb.cell h.size).trans h.c1, (hb.cell h.size).trans h.c2, (hb.cell h.size).trans h.c3, (hb.cell h.size).trans h.c4, Nat.lt_of_lt_of_le h.size hb.size⟩
theorem Table.alloc {w : World} (h : Table w) (o : Obj) : Table (w.alloc o) := h.below ((Below.refl _ _).alloc (Nat.le_refl _) o)
theorem Table.drewN {w : World} (h : Table w) (n : Nat) : Table (w.drewN n) := ⟨h.c0, h.c1, h.c2, h.c3, h.c4, h.size⟩

/-- What Get's fields joined again are: the bits without the foreign ones. -/
theorem num_get (x : Int) : num (x % 1024) (x / 1024 % 512) (mk (x / 1024 / 512 % 2 == 1)) (x / 1024 / 512 / 2 % 32) (x / 1024 / 512 / 2 / 32 % 262144) = x % 8796093022208 := by
  have e : mk (x / 1024 / 512 % 2 == 1) = x / 1024 / 512 % 2 := by
    unfold mk
    by_cases h : x / 1024 / 512 % 2 = 1
    · rw [if_pos (by simp [h]), h]
    · rw [if_neg (by simp [h])]; omega
  rw [e]
  unfold num
  omega

theorem get_of_num (k n c v : Int) (m : Bool) (k0 : 0 ≤ k) (k1 : k < 1024) (n0 : 0 ≤ n) (n1 : n < 512) (c0 : 0 ≤ c) (c1 : c < 32) (v0 : 0 ≤ v) (v1 : v < 262144) :
    num k n (mk m) c v % 1024 = k ∧ num k n (mk m) c v / 1024 % 512 = n ∧ (num k n (mk m) c v / 1024 / 512 % 2 == 1) = m ∧ num k n (mk m) c v / 1024 / 512 / 2 % 32 = c ∧ num k n (mk m) c v / 1024 / 512 / 2 / 32 % 262144 = v := by
  cases m
  · have e : num k n (mk false) c v = k + n * 1024 + 0 * 524288 + c * 1048576 + v * 33554432 := rfl
    rw [e]
    refine ⟨by omega, by omega, ?_, by omega, by omega⟩
    have h : (k + n * 1024 + 0 * 524288 + c * 1048576 + v * 33554432) / 1024 / 512 % 2 = 0 := by omega
    rw [h]; rfl
  · have e : num k n (mk true) c v = k + n * 1024 + 1 * 524288 + c * 1048576 + v * 33554432 := rfl
    rw [e]
    refine ⟨by omega, by omega, ?_, by omega, by omega⟩
    have h : (k + n * 1024 + 1 * 524288 + c * 1048576 + v * 33554432) / 1024 / 512 % 2 = 1 := by omega
    rw [h]; rfl

theorem mark_range (m : Bool) : 0 ≤ mk m ∧ mk m < 2 := by cases m <;> decide

/-- Get of a word's own bits is that word. -/
theorem get_num (w : World) (k n c v : Int) (m : Bool) (k0 : 0 ≤ k) (k1 : k < 1024) (n0 : 0 ≤ n) (n1 : n < 512) (c0 : 0 ≤ c) (c1 : c < 32) (v0 : 0 ≤ v) (v1 : v < 262144) (ht : Table w) :
    Calls Tryd.prog 13 #[.int .u64 (num k n (mk m) c v)] w fun e w' => e = .returned (.agg #[.int .i64 k, .int .i64 n, .bool m, .int .i64 c, .int .i64 v]) ∧ Below w.heap.size w w' := by
  obtain ⟨m0, m1⟩ := mark_range m
  obtain ⟨x0, x1⟩ := num_lt k n (mk m) c v k0 k1 n0 n1 m0 m1 c0 c1 v0 v1
  obtain ⟨e0, e1, e2, e3, e4⟩ := get_of_num k n c v m k0 k1 n0 n1 c0 c1 v0 v1
  exact (get_any w _ x0 (by omega) ht).mono fun e w' ⟨he, hb⟩ => ⟨by rw [he, e0, e1, e2, e3, e4], hb⟩

/-- Put of what Get makes of any bits. -/
theorem put_get (w : World) (x : Int) (ht : Table w) :
    Calls Tryd.prog 9 #[.agg #[.int .i64 (x % 1024), .int .i64 (x / 1024 % 512), .bool (x / 1024 / 512 % 2 == 1), .int .i64 (x / 1024 / 512 / 2 % 32), .int .i64 (x / 1024 / 512 / 2 / 32 % 262144)]] w fun e w' => e = .returned (.tuple #[.int .u64 (x % 8796093022208), .int .i64 0]) ∧ Below w.heap.size w w' := by
  have h := num_get x
  exact (put_fit w (x % 1024) (x / 1024 % 512) (x / 1024 / 512 / 2 % 32) (x / 1024 / 512 / 2 / 32 % 262144) (x / 1024 / 512 % 2 == 1) (by omega) (by omega) (by omega) (by omega) (by omega) (by omega) (by omega) (by omega) ht).mono fun e w' ⟨he, hb⟩ => ⟨by rw [he, h], hb⟩

set_option maxHeartbeats 400000 in
theorem right_any (w : World) (x : Int) (x0 : 0 ≤ x) (x1 : x < 18446744073709551616) (ht : Table w) :
    Calls Tryd.prog 14 #[.int .u64 x] w fun e w' => e = .returned (.bool (x % 8796093022208 == x)) ∧ Below w.heap.size w w' := by
  go_enter Tryd.func14, Tryd.ntmps14
  go_wp2_with (first | (go_at_call 13; refine (get_any _ x x0 x1 ht).mono ?_; rintro e w1 ⟨rfl, hb1⟩; have ht1 := ht.below hb1) | (go_at_call 9; refine (put_get _ x ht1).mono ?_; rintro e w2 ⟨rfl, hb2⟩))
  go_returns
  exact ⟨rfl, hb1.trans (hb2.mono hb1.size)⟩

theorem right_num (w : World) (k n c v : Int) (m : Bool) (k0 : 0 ≤ k) (k1 : k < 1024) (n0 : 0 ≤ n) (n1 : n < 512) (c0 : 0 ≤ c) (c1 : c < 32) (v0 : 0 ≤ v) (v1 : v < 262144) (ht : Table w) :
    Calls Tryd.prog 14 #[.int .u64 (num k n (mk m) c v)] w fun e w' => e = .returned (.bool true) ∧ Below w.heap.size w w' := by
  obtain ⟨m0, m1⟩ := mark_range m
  obtain ⟨x0, x1⟩ := num_lt k n (mk m) c v k0 k1 n0 n1 m0 m1 c0 c1 v0 v1
  have h : (num k n (mk m) c v % 8796093022208 == num k n (mk m) c v) = true := by
    have e : num k n (mk m) c v % 8796093022208 = num k n (mk m) c v := Int.emod_eq_of_lt x0 x1
    rw [e]; simp
  exact (right_any w _ x0 (by omega) ht).mono fun e w' ⟨he, hb⟩ => ⟨by rw [he, h], hb⟩

theorem put_awake (w : World) (ht : Table w) :
    Calls Tryd.prog 9 #[.agg #[.int .i64 5, .int .i64 1, .bool false, .int .i64 0, .int .i64 0]] w fun e w' => e = .returned (.tuple #[.int .u64 1029, .int .i64 0]) ∧ Below w.heap.size w w' :=
  (put_fit w 5 1 0 0 false (by omega) (by omega) (by omega) (by omega) (by omega) (by omega) (by omega) (by omega) ht).mono fun _ _ ⟨he, hb⟩ => ⟨he.trans (tuple2 (u64_eq (by decide)) rfl), hb⟩
theorem get_awake (w : World) (ht : Table w) :
    Calls Tryd.prog 13 #[.int .u64 1029] w fun e w' => e = .returned (.agg #[.int .i64 5, .int .i64 1, .bool false, .int .i64 0, .int .i64 0]) ∧ Below w.heap.size w w' := by
  have h := get_num w 5 1 0 0 false (by omega) (by omega) (by omega) (by omega) (by omega) (by omega) (by omega) (by omega) ht
  have e : num 5 1 (mk false) 0 0 = 1029 := by decide
  rw [e] at h
  exact h

theorem field0 (a b c d e : Value) (w : World) : (Instr.field 23 (.agg #[a, b, c, d, e]) 0).run Tryd.prog w = .ok a w := by kernel_rfl
attribute [local go_sem] field0

set_option maxHeartbeats 400000 in
theorem awake_any (w : World) (ht : Table w) :
    Calls Tryd.prog 8 #[] w fun e w' => e = .returned (.bool true) ∧ Below w.heap.size w w' := by
  go_enter Tryd.func8, Tryd.ntmps8
  go_wp2_with (first | (go_at_call 9; refine (put_awake _ ht).mono ?_; rintro e w1 ⟨rfl, hb1⟩; have ht1 := ht.below hb1) | (go_at_call 13; refine (get_awake _ ht1).mono ?_; rintro e w2 ⟨rfl, hb2⟩))
  go_returns
  exact ⟨rfl, hb1.trans (hb2.mono hb1.size)⟩
end Go.Proofs.YtcblbbenaeiecaaDoor.word
