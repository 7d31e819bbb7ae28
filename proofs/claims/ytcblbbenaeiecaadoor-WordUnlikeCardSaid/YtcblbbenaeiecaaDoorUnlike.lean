/- The law WordUnlike answers true at any two words. -/
import Derived.Test.YtcblbbenaeiecaaDoorEqw
namespace Go.Proofs.YtcblbbenaeiecaaDoor.word
open Go.RowKit
attribute [local go_sem] eq_word

theorem beq_of {p : Prop} {a : Bool} (h : a = true ↔ p) [Decidable p] : a = decide p := by
  by_cases hp : p
  · rw [decide_eq_true hp]; exact h.2 hp
  · rw [decide_eq_false hp]; cases a with
    | false => rfl
    | true => exact absurd (h.1 rfl) hp

/-- Two words that fit have the same bits just if they are one. -/
theorem num_same (k n c v k' n' c' v' : Int) (m m' : Bool) (k0 : 0 ≤ k) (k1 : k < 1024) (n0 : 0 ≤ n) (n1 : n < 512) (c0 : 0 ≤ c) (c1 : c < 32) (v0 : 0 ≤ v) (v1 : v < 262144) (k0' : 0 ≤ k') (k1' : k' < 1024) (n0' : 0 ≤ n') (n1' : n' < 512) (c0' : 0 ≤ c') (c1' : c' < 32) (v0' : 0 ≤ v') (v1' : v' < 262144) :
    (num k n (mk m) c v == num k' n' (mk m') c' v') = (k == k' && (n == n' && (m == m' && (c == c' && v == v')))) := by
  obtain ⟨e0, e1, e2, e3, e4⟩ := get_of_num k n c v m k0 k1 n0 n1 c0 c1 v0 v1
  obtain ⟨f0, f1, f2, f3, f4⟩ := get_of_num k' n' c' v' m' k0' k1' n0' n1' c0' c1' v0' v1'
  rw [Bool.eq_iff_iff]
  constructor
  · intro h
    have h : num k n (mk m) c v = num k' n' (mk m') c' v' := by simpa using h
    rw [h] at e0 e1 e2 e3 e4
    simp [← e0, ← e1, ← e2, ← e3, ← e4, f0, f1, f2, f3, f4]
  · intro h
    simp at h
    obtain ⟨rfl, rfl, rfl, rfl, rfl⟩ := h
    simp

set_option maxRecDepth 100000 in
set_option maxHeartbeats 1000000 in
theorem unlike_fit_fit (w : World) (k n c v k' n' c' v' : Int) (m m' : Bool) (k0 : 0 ≤ k) (k1 : k < 1024) (n0 : 0 ≤ n) (n1 : n < 512) (c0 : 0 ≤ c) (c1 : c < 32) (v0 : 0 ≤ v) (v1 : v < 262144) (k0' : 0 ≤ k') (k1' : k' < 1024) (n0' : 0 ≤ n') (n1' : n' < 512) (c0' : 0 ≤ c') (c1' : c' < 32) (v0' : 0 ≤ v') (v1' : v' < 262144) (ht : Table w) :
    Calls Tryd.prog 6 #[.agg #[.int .i64 k, .int .i64 n, .bool m, .int .i64 c, .int .i64 v], .agg #[.int .i64 k', .int .i64 n', .bool m', .int .i64 c', .int .i64 v']] w fun e w' => e = .returned (.bool true) ∧ Below w.heap.size w w' := by
  have hnum := num_same k n c v k' n' c' v' m m' k0 k1 n0 n1 c0 c1 v0 v1 k0' k1' n0' n1' c0' c1' v0' v1'
  have ho0 := ((Old.refl ht).alloc (.cells #[.int .i64 k, .int .i64 n, .bool m, .int .i64 c, .int .i64 v] 23)).alloc (.cells #[.int .i64 k', .int .i64 n', .bool m', .int .i64 c', .int .i64 v'] 23)
  go_enter Tryd.func6, Tryd.ntmps6
  go_wp2_with (first | (go_at_call 8; refine (awake_any _ ho0.table).mono ?_; rintro e w1 ⟨rfl, hb1⟩; have ho1 := ho0.next hb1; obtain ⟨hc1, hf1⟩ := bcell hb1; have hz1 : w.heap.size < w1.heap.size := (by have := hb1.size; simp at this; omega); have hy1 : w.heap.size + 1 < w1.heap.size := (by have := hb1.size; simp at this; omega)) | (go_at_call 9; refine (put_fit _ k' n' c' v' m' k0' k1' n0' n1' c0' c1' v0' v1' ho2.table).mono ?_; rintro e w3 ⟨rfl, hb3⟩; have ho3 := ho2.next hb3; obtain ⟨hc3, hf3⟩ := bcell hb3; have hz3 : w.heap.size < w3.heap.size := (by have := hb3.size; omega); have hy3 : w.heap.size + 1 < w3.heap.size := (by have := hb3.size; omega)) | (go_at_call 9; refine (put_fit _ k n c v m k0 k1 n0 n1 c0 c1 v0 v1 ho1.table).mono ?_; rintro e w2 ⟨rfl, hb2⟩; have ho2 := ho1.next hb2; obtain ⟨hc2, hf2⟩ := bcell hb2; have hz2 : w.heap.size < w2.heap.size := (by have := hb2.size; omega); have hy2 : w.heap.size + 1 < w2.heap.size := (by have := hb2.size; omega)))
  all_goals
    go_returns
    refine ⟨?_, ho3.below⟩
    first | rfl | (simp; done) | (simp; omega) | (simp; intros; contradiction) | (simp; intros; simp_all; done) | (simp; intros; omega)

set_option maxRecDepth 100000 in
set_option maxHeartbeats 1000000 in
theorem unlike_fit_no (w : World) (k n c v k' n' c' v' : Int) (m m' : Bool) (k0 : 0 ≤ k) (k1 : k < 1024) (n0 : 0 ≤ n) (n1 : n < 512) (c0 : 0 ≤ c) (c1 : c < 32) (v0 : 0 ≤ v) (v1 : v < 262144) (kr' : -9223372036854775808 ≤ k' ∧ k' ≤ 9223372036854775807) (nr' : -9223372036854775808 ≤ n' ∧ n' ≤ 9223372036854775807) (cr' : -9223372036854775808 ≤ c' ∧ c' ≤ 9223372036854775807) (vr' : -9223372036854775808 ≤ v' ∧ v' ≤ 9223372036854775807) (H' : Hid (¬ (0 ≤ k' ∧ k' < 1024 ∧ 0 ≤ n' ∧ n' < 512 ∧ 0 ≤ c' ∧ c' < 32 ∧ 0 ≤ v' ∧ v' < 262144))) (ht : Table w) :
    Calls Tryd.prog 6 #[.agg #[.int .i64 k, .int .i64 n, .bool m, .int .i64 c, .int .i64 v], .agg #[.int .i64 k', .int .i64 n', .bool m', .int .i64 c', .int .i64 v']] w fun e w' => e = .returned (.bool true) ∧ Below w.heap.size w w' := by
  have ho0 := ((Old.refl ht).alloc (.cells #[.int .i64 k, .int .i64 n, .bool m, .int .i64 c, .int .i64 v] 23)).alloc (.cells #[.int .i64 k', .int .i64 n', .bool m', .int .i64 c', .int .i64 v'] 23)
  go_enter Tryd.func6, Tryd.ntmps6
  go_wp2_with (first | (go_at_call 8; refine (awake_any _ ho0.table).mono ?_; rintro e w1 ⟨rfl, hb1⟩; have ho1 := ho0.next hb1; obtain ⟨hc1, hf1⟩ := bcell hb1; have hz1 : w.heap.size < w1.heap.size := (by have := hb1.size; simp at this; omega); have hy1 : w.heap.size + 1 < w1.heap.size := (by have := hb1.size; simp at this; omega)) | (go_at_call 9; refine (put_unfit _ k' n' c' v' m' kr' nr' cr' vr' H'.out ho2.table).mono ?_; rintro e w3 ⟨rfl, hb3⟩; have ho3 := ho2.next hb3; obtain ⟨hc3, hf3⟩ := bcell hb3; have hz3 : w.heap.size < w3.heap.size := (by have := hb3.size; omega); have hy3 : w.heap.size + 1 < w3.heap.size := (by have := hb3.size; omega)) | (go_at_call 9; refine (put_fit _ k n c v m k0 k1 n0 n1 c0 c1 v0 v1 ho1.table).mono ?_; rintro e w2 ⟨rfl, hb2⟩; have ho2 := ho1.next hb2; obtain ⟨hc2, hf2⟩ := bcell hb2; have hz2 : w.heap.size < w2.heap.size := (by have := hb2.size; omega); have hy2 : w.heap.size + 1 < w2.heap.size := (by have := hb2.size; omega)))
  all_goals
    go_returns
    refine ⟨?_, ho3.below⟩
    first | rfl | (simp; done) | (simp; omega) | (simp; intros; contradiction) | (simp; intros; simp_all; done) | (simp; intros; omega)

set_option maxRecDepth 100000 in
set_option maxHeartbeats 1000000 in
theorem unlike_no_fit (w : World) (k n c v k' n' c' v' : Int) (m m' : Bool) (kr : -9223372036854775808 ≤ k ∧ k ≤ 9223372036854775807) (nr : -9223372036854775808 ≤ n ∧ n ≤ 9223372036854775807) (cr : -9223372036854775808 ≤ c ∧ c ≤ 9223372036854775807) (vr : -9223372036854775808 ≤ v ∧ v ≤ 9223372036854775807) (H : Hid (¬ (0 ≤ k ∧ k < 1024 ∧ 0 ≤ n ∧ n < 512 ∧ 0 ≤ c ∧ c < 32 ∧ 0 ≤ v ∧ v < 262144))) (k0' : 0 ≤ k') (k1' : k' < 1024) (n0' : 0 ≤ n') (n1' : n' < 512) (c0' : 0 ≤ c') (c1' : c' < 32) (v0' : 0 ≤ v') (v1' : v' < 262144) (ht : Table w) :
    Calls Tryd.prog 6 #[.agg #[.int .i64 k, .int .i64 n, .bool m, .int .i64 c, .int .i64 v], .agg #[.int .i64 k', .int .i64 n', .bool m', .int .i64 c', .int .i64 v']] w fun e w' => e = .returned (.bool true) ∧ Below w.heap.size w w' := by
  have ho0 := ((Old.refl ht).alloc (.cells #[.int .i64 k, .int .i64 n, .bool m, .int .i64 c, .int .i64 v] 23)).alloc (.cells #[.int .i64 k', .int .i64 n', .bool m', .int .i64 c', .int .i64 v'] 23)
  go_enter Tryd.func6, Tryd.ntmps6
  go_wp2_with (first | (go_at_call 8; refine (awake_any _ ho0.table).mono ?_; rintro e w1 ⟨rfl, hb1⟩; have ho1 := ho0.next hb1; obtain ⟨hc1, hf1⟩ := bcell hb1; have hz1 : w.heap.size < w1.heap.size := (by have := hb1.size; simp at this; omega); have hy1 : w.heap.size + 1 < w1.heap.size := (by have := hb1.size; simp at this; omega)) | (go_at_call 9; refine (put_fit _ k' n' c' v' m' k0' k1' n0' n1' c0' c1' v0' v1' ho2.table).mono ?_; rintro e w3 ⟨rfl, hb3⟩; have ho3 := ho2.next hb3; obtain ⟨hc3, hf3⟩ := bcell hb3; have hz3 : w.heap.size < w3.heap.size := (by have := hb3.size; omega); have hy3 : w.heap.size + 1 < w3.heap.size := (by have := hb3.size; omega)) | (go_at_call 9; refine (put_unfit _ k n c v m kr nr cr vr H.out ho1.table).mono ?_; rintro e w2 ⟨rfl, hb2⟩; have ho2 := ho1.next hb2; obtain ⟨hc2, hf2⟩ := bcell hb2; have hz2 : w.heap.size < w2.heap.size := (by have := hb2.size; omega); have hy2 : w.heap.size + 1 < w2.heap.size := (by have := hb2.size; omega)))
  all_goals
    go_returns
    refine ⟨?_, ho3.below⟩
    first | rfl | (simp; done) | (simp; omega) | (simp; intros; contradiction) | (simp; intros; simp_all; done) | (simp; intros; omega)

set_option maxRecDepth 100000 in
set_option maxHeartbeats 1000000 in
theorem unlike_no_no (w : World) (k n c v k' n' c' v' : Int) (m m' : Bool) (kr : -9223372036854775808 ≤ k ∧ k ≤ 9223372036854775807) (nr : -9223372036854775808 ≤ n ∧ n ≤ 9223372036854775807) (cr : -9223372036854775808 ≤ c ∧ c ≤ 9223372036854775807) (vr : -9223372036854775808 ≤ v ∧ v ≤ 9223372036854775807) (H : Hid (¬ (0 ≤ k ∧ k < 1024 ∧ 0 ≤ n ∧ n < 512 ∧ 0 ≤ c ∧ c < 32 ∧ 0 ≤ v ∧ v < 262144))) (kr' : -9223372036854775808 ≤ k' ∧ k' ≤ 9223372036854775807) (nr' : -9223372036854775808 ≤ n' ∧ n' ≤ 9223372036854775807) (cr' : -9223372036854775808 ≤ c' ∧ c' ≤ 9223372036854775807) (vr' : -9223372036854775808 ≤ v' ∧ v' ≤ 9223372036854775807) (H' : Hid (¬ (0 ≤ k' ∧ k' < 1024 ∧ 0 ≤ n' ∧ n' < 512 ∧ 0 ≤ c' ∧ c' < 32 ∧ 0 ≤ v' ∧ v' < 262144))) (ht : Table w) :
    Calls Tryd.prog 6 #[.agg #[.int .i64 k, .int .i64 n, .bool m, .int .i64 c, .int .i64 v], .agg #[.int .i64 k', .int .i64 n', .bool m', .int .i64 c', .int .i64 v']] w fun e w' => e = .returned (.bool true) ∧ Below w.heap.size w w' := by
  have ho0 := ((Old.refl ht).alloc (.cells #[.int .i64 k, .int .i64 n, .bool m, .int .i64 c, .int .i64 v] 23)).alloc (.cells #[.int .i64 k', .int .i64 n', .bool m', .int .i64 c', .int .i64 v'] 23)
  go_enter Tryd.func6, Tryd.ntmps6
  go_wp2_with (first | (go_at_call 8; refine (awake_any _ ho0.table).mono ?_; rintro e w1 ⟨rfl, hb1⟩; have ho1 := ho0.next hb1; obtain ⟨hc1, hf1⟩ := bcell hb1; have hz1 : w.heap.size < w1.heap.size := (by have := hb1.size; simp at this; omega); have hy1 : w.heap.size + 1 < w1.heap.size := (by have := hb1.size; simp at this; omega)) | (go_at_call 9; refine (put_unfit _ k' n' c' v' m' kr' nr' cr' vr' H'.out ho2.table).mono ?_; rintro e w3 ⟨rfl, hb3⟩; have ho3 := ho2.next hb3; obtain ⟨hc3, hf3⟩ := bcell hb3; have hz3 : w.heap.size < w3.heap.size := (by have := hb3.size; omega); have hy3 : w.heap.size + 1 < w3.heap.size := (by have := hb3.size; omega)) | (go_at_call 9; refine (put_unfit _ k n c v m kr nr cr vr H.out ho1.table).mono ?_; rintro e w2 ⟨rfl, hb2⟩; have ho2 := ho1.next hb2; obtain ⟨hc2, hf2⟩ := bcell hb2; have hz2 : w.heap.size < w2.heap.size := (by have := hb2.size; omega); have hy2 : w.heap.size + 1 < w2.heap.size := (by have := hb2.size; omega)))
  all_goals
    go_returns
    refine ⟨?_, ho3.below⟩
    first | rfl | (simp; done) | (simp; omega) | (simp; intros; contradiction) | (simp; intros; simp_all; done) | (simp; intros; omega)

/-- WHAT THE LAW ANSWERS, at any two words. -/
theorem unlike_any (w : World) (k n c v k' n' c' v' : Int) (m m' : Bool) (kr : -9223372036854775808 ≤ k ∧ k ≤ 9223372036854775807) (nr : -9223372036854775808 ≤ n ∧ n ≤ 9223372036854775807) (cr : -9223372036854775808 ≤ c ∧ c ≤ 9223372036854775807) (vr : -9223372036854775808 ≤ v ∧ v ≤ 9223372036854775807) (kr' : -9223372036854775808 ≤ k' ∧ k' ≤ 9223372036854775807) (nr' : -9223372036854775808 ≤ n' ∧ n' ≤ 9223372036854775807) (cr' : -9223372036854775808 ≤ c' ∧ c' ≤ 9223372036854775807) (vr' : -9223372036854775808 ≤ v' ∧ v' ≤ 9223372036854775807) (ht : Table w) :
    Calls Tryd.prog 6 #[.agg #[.int .i64 k, .int .i64 n, .bool m, .int .i64 c, .int .i64 v], .agg #[.int .i64 k', .int .i64 n', .bool m', .int .i64 c', .int .i64 v']] w fun e w' => e = .returned (.bool true) ∧ Below w.heap.size w w' := by
  by_cases h : 0 ≤ k ∧ k < 1024 ∧ 0 ≤ n ∧ n < 512 ∧ 0 ≤ c ∧ c < 32 ∧ 0 ≤ v ∧ v < 262144
  · obtain ⟨k0, k1, n0, n1, c0, c1, v0, v1⟩ := h
    by_cases h' : 0 ≤ k' ∧ k' < 1024 ∧ 0 ≤ n' ∧ n' < 512 ∧ 0 ≤ c' ∧ c' < 32 ∧ 0 ≤ v' ∧ v' < 262144
    · obtain ⟨k0', k1', n0', n1', c0', c1', v0', v1'⟩ := h'
      exact unlike_fit_fit w k n c v k' n' c' v' m m' k0 k1 n0 n1 c0 c1 v0 v1 k0' k1' n0' n1' c0' c1' v0' v1' ht
    · exact unlike_fit_no w k n c v k' n' c' v' m m' k0 k1 n0 n1 c0 c1 v0 v1 kr' nr' cr' vr' h' ht
  · by_cases h' : 0 ≤ k' ∧ k' < 1024 ∧ 0 ≤ n' ∧ n' < 512 ∧ 0 ≤ c' ∧ c' < 32 ∧ 0 ≤ v' ∧ v' < 262144
    · obtain ⟨k0', k1', n0', n1', c0', c1', v0', v1'⟩ := h'
      exact unlike_no_fit w k n c v k' n' c' v' m m' kr nr cr vr h k0' k1' n0' n1' c0' c1' v0' v1' ht
    · exact unlike_no_no w k n c v k' n' c' v' m m' kr nr cr vr h kr' nr' cr' vr' h' ht
end Go.Proofs.YtcblbbenaeiecaaDoor.word
