/- The law DescUnlike answers true at any two descriptors. -/
import Derived.Test.YtckplpojlhdmhaaDoorDEqw
namespace Go.Proofs.YtckplpojlhdmhaaDoor.desc
open Go.RowKit
attribute [local go_sem] eq_desc

/-- Two descriptors that fit have the same bits just if they are one. -/
theorem num_same (t a v n s x t' a' v' n' s' x' : Int) (m m' : Bool) (t0 : 0 ≤ t) (t1 : t < 4096) (a0 : 0 ≤ a) (a1 : a < 512) (v0 : 0 ≤ v) (v1 : v < 262144) (n0 : 0 ≤ n) (n1 : n < 512) (s0 : 0 ≤ s) (s1 : s < 8) (x0 : 0 ≤ x) (x1 : x < 1024) (t0' : 0 ≤ t') (t1' : t' < 4096) (a0' : 0 ≤ a') (a1' : a' < 512) (v0' : 0 ≤ v') (v1' : v' < 262144) (n0' : 0 ≤ n') (n1' : n' < 512) (s0' : 0 ≤ s') (s1' : s' < 8) (x0' : 0 ≤ x') (x1' : x' < 1024) :
    (num t a v n (mk m) s x == num t' a' v' n' (mk m') s' x') = (t == t' && (a == a' && (v == v' && (n == n' && (m == m' && (s == s' && x == x')))))) := by
  obtain ⟨e0, e1, e2, e3, e4, e5, e6⟩ := get_of_num t a v n s x m t0 t1 a0 a1 v0 v1 n0 n1 s0 s1 x0 x1
  obtain ⟨f0, f1, f2, f3, f4, f5, f6⟩ := get_of_num t' a' v' n' s' x' m' t0' t1' a0' a1' v0' v1' n0' n1' s0' s1' x0' x1'
  rw [Bool.eq_iff_iff]
  constructor
  · intro h
    have h : num t a v n (mk m) s x = num t' a' v' n' (mk m') s' x' := by simpa using h
    rw [h] at e0 e1 e2 e3 e4 e5 e6
    simp [← e0, ← e1, ← e2, ← e3, ← e4, ← e5, ← e6, f0, f1, f2, f3, f4, f5, f6]
  · intro h
    simp at h
    obtain ⟨rfl, rfl, rfl, rfl, rfl, rfl, rfl⟩ := h
    simp

set_option maxRecDepth 100000 in
set_option maxHeartbeats 2000000 in
theorem unlike_fit_fit (w : World) (t a v n : Int) (m : Bool) (s x : Int) (t' a' v' n' : Int) (m' : Bool) (s' x' : Int) (t0 : 0 ≤ t) (t1 : t < 4096) (a0 : 0 ≤ a) (a1 : a < 512) (v0 : 0 ≤ v) (v1 : v < 262144) (n0 : 0 ≤ n) (n1 : n < 512) (s0 : 0 ≤ s) (s1 : s < 8) (x0 : 0 ≤ x) (x1 : x < 1024) (t0' : 0 ≤ t') (t1' : t' < 4096) (a0' : 0 ≤ a') (a1' : a' < 512) (v0' : 0 ≤ v') (v1' : v' < 262144) (n0' : 0 ≤ n') (n1' : n' < 512) (s0' : 0 ≤ s') (s1' : s' < 8) (x0' : 0 ≤ x') (x1' : x' < 1024) (ht : Table w) :
    Calls Tryd.prog 6 #[.agg #[.int .i64 t, .int .i64 a, .int .i64 v, .int .i64 n, .bool m, .int .i64 s, .int .i64 x], .agg #[.int .i64 t', .int .i64 a', .int .i64 v', .int .i64 n', .bool m', .int .i64 s', .int .i64 x']] w fun e w' => e = .returned (.bool true) ∧ Below w.heap.size w w' := by
  have hnum := (num_same t a v n s x t' a' v' n' s' x' m m' t0 t1 a0 a1 v0 v1 n0 n1 s0 s1 x0 x1 t0' t1' a0' a1' v0' v1' n0' n1' s0' s1' x0' x1')
  have ho0 := ((Old.refl ht).alloc (.cells #[.int .i64 t, .int .i64 a, .int .i64 v, .int .i64 n, .bool m, .int .i64 s, .int .i64 x] 23)).alloc (.cells #[.int .i64 t', .int .i64 a', .int .i64 v', .int .i64 n', .bool m', .int .i64 s', .int .i64 x'] 23)
  go_enter Tryd.func6, Tryd.ntmps6
  go_wp2_with (first | (go_at_call 8; refine (awake_any _ ho0.table).mono ?_; rintro e w1 ⟨rfl, hb1⟩; have ho1 := ho0.next hb1; obtain ⟨hc1, hf1⟩ := bcell hb1; have hz1 : w.heap.size < w1.heap.size := (by have := hb1.size; simp at this; omega); have hy1 : w.heap.size + 1 < w1.heap.size := (by have := hb1.size; simp at this; omega)) | (go_at_call 9; refine (put_fit _ t' a' v' n' s' x' m' t0' t1' a0' a1' v0' v1' n0' n1' s0' s1' x0' x1' ho2.table).mono ?_; rintro e w3 ⟨rfl, hb3⟩; have ho3 := ho2.next hb3; obtain ⟨hc3, hf3⟩ := bcell hb3; have hz3 : w.heap.size < w3.heap.size := (by have := hb3.size; omega); have hy3 : w.heap.size + 1 < w3.heap.size := (by have := hb3.size; omega)) | (go_at_call 9; refine (put_fit _ t a v n s x m t0 t1 a0 a1 v0 v1 n0 n1 s0 s1 x0 x1 ho1.table).mono ?_; rintro e w2 ⟨rfl, hb2⟩; have ho2 := ho1.next hb2; obtain ⟨hc2, hf2⟩ := bcell hb2; have hz2 : w.heap.size < w2.heap.size := (by have := hb2.size; omega); have hy2 : w.heap.size + 1 < w2.heap.size := (by have := hb2.size; omega)))
  all_goals
    go_returns
    refine ⟨?_, ho3.below⟩
    first | rfl | (simp; done) | (simp; omega) | (simp; intros; contradiction) | (simp; intros; simp_all; done) | (simp; intros; omega)

set_option maxRecDepth 100000 in
set_option maxHeartbeats 2000000 in
theorem unlike_fit_no (w : World) (t a v n : Int) (m : Bool) (s x : Int) (t' a' v' n' : Int) (m' : Bool) (s' x' : Int) (t0 : 0 ≤ t) (t1 : t < 4096) (a0 : 0 ≤ a) (a1 : a < 512) (v0 : 0 ≤ v) (v1 : v < 262144) (n0 : 0 ≤ n) (n1 : n < 512) (s0 : 0 ≤ s) (s1 : s < 8) (x0 : 0 ≤ x) (x1 : x < 1024) (tr' : -9223372036854775808 ≤ t' ∧ t' ≤ 9223372036854775807) (ar' : -9223372036854775808 ≤ a' ∧ a' ≤ 9223372036854775807) (vr' : -9223372036854775808 ≤ v' ∧ v' ≤ 9223372036854775807) (nr' : -9223372036854775808 ≤ n' ∧ n' ≤ 9223372036854775807) (sr' : -9223372036854775808 ≤ s' ∧ s' ≤ 9223372036854775807) (xr' : -9223372036854775808 ≤ x' ∧ x' ≤ 9223372036854775807) (H' : Hid (¬ (0 ≤ t' ∧ t' < 4096 ∧ 0 ≤ a' ∧ a' < 512 ∧ 0 ≤ v' ∧ v' < 262144 ∧ 0 ≤ n' ∧ n' < 512 ∧ 0 ≤ s' ∧ s' < 8 ∧ 0 ≤ x' ∧ x' < 1024))) (ht : Table w) :
    Calls Tryd.prog 6 #[.agg #[.int .i64 t, .int .i64 a, .int .i64 v, .int .i64 n, .bool m, .int .i64 s, .int .i64 x], .agg #[.int .i64 t', .int .i64 a', .int .i64 v', .int .i64 n', .bool m', .int .i64 s', .int .i64 x']] w fun e w' => e = .returned (.bool true) ∧ Below w.heap.size w w' := by
  have ho0 := ((Old.refl ht).alloc (.cells #[.int .i64 t, .int .i64 a, .int .i64 v, .int .i64 n, .bool m, .int .i64 s, .int .i64 x] 23)).alloc (.cells #[.int .i64 t', .int .i64 a', .int .i64 v', .int .i64 n', .bool m', .int .i64 s', .int .i64 x'] 23)
  go_enter Tryd.func6, Tryd.ntmps6
  go_wp2_with (first | (go_at_call 8; refine (awake_any _ ho0.table).mono ?_; rintro e w1 ⟨rfl, hb1⟩; have ho1 := ho0.next hb1; obtain ⟨hc1, hf1⟩ := bcell hb1; have hz1 : w.heap.size < w1.heap.size := (by have := hb1.size; simp at this; omega); have hy1 : w.heap.size + 1 < w1.heap.size := (by have := hb1.size; simp at this; omega)) | (go_at_call 9; refine (put_unfit _ t' a' v' n' s' x' m' tr' ar' vr' nr' sr' xr' H'.out ho2.table).mono ?_; rintro e w3 ⟨rfl, hb3⟩; have ho3 := ho2.next hb3; obtain ⟨hc3, hf3⟩ := bcell hb3; have hz3 : w.heap.size < w3.heap.size := (by have := hb3.size; omega); have hy3 : w.heap.size + 1 < w3.heap.size := (by have := hb3.size; omega)) | (go_at_call 9; refine (put_fit _ t a v n s x m t0 t1 a0 a1 v0 v1 n0 n1 s0 s1 x0 x1 ho1.table).mono ?_; rintro e w2 ⟨rfl, hb2⟩; have ho2 := ho1.next hb2; obtain ⟨hc2, hf2⟩ := bcell hb2; have hz2 : w.heap.size < w2.heap.size := (by have := hb2.size; omega); have hy2 : w.heap.size + 1 < w2.heap.size := (by have := hb2.size; omega)))
  all_goals
    go_returns
    refine ⟨?_, ho3.below⟩
    first | rfl | (simp; done) | (simp; omega) | (simp; intros; contradiction) | (simp; intros; simp_all; done) | (simp; intros; omega)

set_option maxRecDepth 100000 in
set_option maxHeartbeats 2000000 in
theorem unlike_no_fit (w : World) (t a v n : Int) (m : Bool) (s x : Int) (t' a' v' n' : Int) (m' : Bool) (s' x' : Int) (tr : -9223372036854775808 ≤ t ∧ t ≤ 9223372036854775807) (ar : -9223372036854775808 ≤ a ∧ a ≤ 9223372036854775807) (vr : -9223372036854775808 ≤ v ∧ v ≤ 9223372036854775807) (nr : -9223372036854775808 ≤ n ∧ n ≤ 9223372036854775807) (sr : -9223372036854775808 ≤ s ∧ s ≤ 9223372036854775807) (xr : -9223372036854775808 ≤ x ∧ x ≤ 9223372036854775807) (H : Hid (¬ (0 ≤ t ∧ t < 4096 ∧ 0 ≤ a ∧ a < 512 ∧ 0 ≤ v ∧ v < 262144 ∧ 0 ≤ n ∧ n < 512 ∧ 0 ≤ s ∧ s < 8 ∧ 0 ≤ x ∧ x < 1024))) (t0' : 0 ≤ t') (t1' : t' < 4096) (a0' : 0 ≤ a') (a1' : a' < 512) (v0' : 0 ≤ v') (v1' : v' < 262144) (n0' : 0 ≤ n') (n1' : n' < 512) (s0' : 0 ≤ s') (s1' : s' < 8) (x0' : 0 ≤ x') (x1' : x' < 1024) (ht : Table w) :
    Calls Tryd.prog 6 #[.agg #[.int .i64 t, .int .i64 a, .int .i64 v, .int .i64 n, .bool m, .int .i64 s, .int .i64 x], .agg #[.int .i64 t', .int .i64 a', .int .i64 v', .int .i64 n', .bool m', .int .i64 s', .int .i64 x']] w fun e w' => e = .returned (.bool true) ∧ Below w.heap.size w w' := by
  have ho0 := ((Old.refl ht).alloc (.cells #[.int .i64 t, .int .i64 a, .int .i64 v, .int .i64 n, .bool m, .int .i64 s, .int .i64 x] 23)).alloc (.cells #[.int .i64 t', .int .i64 a', .int .i64 v', .int .i64 n', .bool m', .int .i64 s', .int .i64 x'] 23)
  go_enter Tryd.func6, Tryd.ntmps6
  go_wp2_with (first | (go_at_call 8; refine (awake_any _ ho0.table).mono ?_; rintro e w1 ⟨rfl, hb1⟩; have ho1 := ho0.next hb1; obtain ⟨hc1, hf1⟩ := bcell hb1; have hz1 : w.heap.size < w1.heap.size := (by have := hb1.size; simp at this; omega); have hy1 : w.heap.size + 1 < w1.heap.size := (by have := hb1.size; simp at this; omega)) | (go_at_call 9; refine (put_fit _ t' a' v' n' s' x' m' t0' t1' a0' a1' v0' v1' n0' n1' s0' s1' x0' x1' ho2.table).mono ?_; rintro e w3 ⟨rfl, hb3⟩; have ho3 := ho2.next hb3; obtain ⟨hc3, hf3⟩ := bcell hb3; have hz3 : w.heap.size < w3.heap.size := (by have := hb3.size; omega); have hy3 : w.heap.size + 1 < w3.heap.size := (by have := hb3.size; omega)) | (go_at_call 9; refine (put_unfit _ t a v n s x m tr ar vr nr sr xr H.out ho1.table).mono ?_; rintro e w2 ⟨rfl, hb2⟩; have ho2 := ho1.next hb2; obtain ⟨hc2, hf2⟩ := bcell hb2; have hz2 : w.heap.size < w2.heap.size := (by have := hb2.size; omega); have hy2 : w.heap.size + 1 < w2.heap.size := (by have := hb2.size; omega)))
  all_goals
    go_returns
    refine ⟨?_, ho3.below⟩
    first | rfl | (simp; done) | (simp; omega) | (simp; intros; contradiction) | (simp; intros; simp_all; done) | (simp; intros; omega)

set_option maxRecDepth 100000 in
set_option maxHeartbeats 2000000 in
theorem unlike_no_no (w : World) (t a v n : Int) (m : Bool) (s x : Int) (t' a' v' n' : Int) (m' : Bool) (s' x' : Int) (tr : -9223372036854775808 ≤ t ∧ t ≤ 9223372036854775807) (ar : -9223372036854775808 ≤ a ∧ a ≤ 9223372036854775807) (vr : -9223372036854775808 ≤ v ∧ v ≤ 9223372036854775807) (nr : -9223372036854775808 ≤ n ∧ n ≤ 9223372036854775807) (sr : -9223372036854775808 ≤ s ∧ s ≤ 9223372036854775807) (xr : -9223372036854775808 ≤ x ∧ x ≤ 9223372036854775807) (H : Hid (¬ (0 ≤ t ∧ t < 4096 ∧ 0 ≤ a ∧ a < 512 ∧ 0 ≤ v ∧ v < 262144 ∧ 0 ≤ n ∧ n < 512 ∧ 0 ≤ s ∧ s < 8 ∧ 0 ≤ x ∧ x < 1024))) (tr' : -9223372036854775808 ≤ t' ∧ t' ≤ 9223372036854775807) (ar' : -9223372036854775808 ≤ a' ∧ a' ≤ 9223372036854775807) (vr' : -9223372036854775808 ≤ v' ∧ v' ≤ 9223372036854775807) (nr' : -9223372036854775808 ≤ n' ∧ n' ≤ 9223372036854775807) (sr' : -9223372036854775808 ≤ s' ∧ s' ≤ 9223372036854775807) (xr' : -9223372036854775808 ≤ x' ∧ x' ≤ 9223372036854775807) (H' : Hid (¬ (0 ≤ t' ∧ t' < 4096 ∧ 0 ≤ a' ∧ a' < 512 ∧ 0 ≤ v' ∧ v' < 262144 ∧ 0 ≤ n' ∧ n' < 512 ∧ 0 ≤ s' ∧ s' < 8 ∧ 0 ≤ x' ∧ x' < 1024))) (ht : Table w) :
    Calls Tryd.prog 6 #[.agg #[.int .i64 t, .int .i64 a, .int .i64 v, .int .i64 n, .bool m, .int .i64 s, .int .i64 x], .agg #[.int .i64 t', .int .i64 a', .int .i64 v', .int .i64 n', .bool m', .int .i64 s', .int .i64 x']] w fun e w' => e = .returned (.bool true) ∧ Below w.heap.size w w' := by
  have ho0 := ((Old.refl ht).alloc (.cells #[.int .i64 t, .int .i64 a, .int .i64 v, .int .i64 n, .bool m, .int .i64 s, .int .i64 x] 23)).alloc (.cells #[.int .i64 t', .int .i64 a', .int .i64 v', .int .i64 n', .bool m', .int .i64 s', .int .i64 x'] 23)
  go_enter Tryd.func6, Tryd.ntmps6
  go_wp2_with (first | (go_at_call 8; refine (awake_any _ ho0.table).mono ?_; rintro e w1 ⟨rfl, hb1⟩; have ho1 := ho0.next hb1; obtain ⟨hc1, hf1⟩ := bcell hb1; have hz1 : w.heap.size < w1.heap.size := (by have := hb1.size; simp at this; omega); have hy1 : w.heap.size + 1 < w1.heap.size := (by have := hb1.size; simp at this; omega)) | (go_at_call 9; refine (put_unfit _ t' a' v' n' s' x' m' tr' ar' vr' nr' sr' xr' H'.out ho2.table).mono ?_; rintro e w3 ⟨rfl, hb3⟩; have ho3 := ho2.next hb3; obtain ⟨hc3, hf3⟩ := bcell hb3; have hz3 : w.heap.size < w3.heap.size := (by have := hb3.size; omega); have hy3 : w.heap.size + 1 < w3.heap.size := (by have := hb3.size; omega)) | (go_at_call 9; refine (put_unfit _ t a v n s x m tr ar vr nr sr xr H.out ho1.table).mono ?_; rintro e w2 ⟨rfl, hb2⟩; have ho2 := ho1.next hb2; obtain ⟨hc2, hf2⟩ := bcell hb2; have hz2 : w.heap.size < w2.heap.size := (by have := hb2.size; omega); have hy2 : w.heap.size + 1 < w2.heap.size := (by have := hb2.size; omega)))
  all_goals
    go_returns
    refine ⟨?_, ho3.below⟩
    first | rfl | (simp; done) | (simp; omega) | (simp; intros; contradiction) | (simp; intros; simp_all; done) | (simp; intros; omega)

/-- WHAT THE LAW ANSWERS, at any two descriptors. -/
theorem unlike_any (w : World) (t a v n : Int) (m : Bool) (s x : Int) (t' a' v' n' : Int) (m' : Bool) (s' x' : Int) (tr : -9223372036854775808 ≤ t ∧ t ≤ 9223372036854775807) (ar : -9223372036854775808 ≤ a ∧ a ≤ 9223372036854775807) (vr : -9223372036854775808 ≤ v ∧ v ≤ 9223372036854775807) (nr : -9223372036854775808 ≤ n ∧ n ≤ 9223372036854775807) (sr : -9223372036854775808 ≤ s ∧ s ≤ 9223372036854775807) (xr : -9223372036854775808 ≤ x ∧ x ≤ 9223372036854775807) (tr' : -9223372036854775808 ≤ t' ∧ t' ≤ 9223372036854775807) (ar' : -9223372036854775808 ≤ a' ∧ a' ≤ 9223372036854775807) (vr' : -9223372036854775808 ≤ v' ∧ v' ≤ 9223372036854775807) (nr' : -9223372036854775808 ≤ n' ∧ n' ≤ 9223372036854775807) (sr' : -9223372036854775808 ≤ s' ∧ s' ≤ 9223372036854775807) (xr' : -9223372036854775808 ≤ x' ∧ x' ≤ 9223372036854775807) (ht : Table w) :
    Calls Tryd.prog 6 #[.agg #[.int .i64 t, .int .i64 a, .int .i64 v, .int .i64 n, .bool m, .int .i64 s, .int .i64 x], .agg #[.int .i64 t', .int .i64 a', .int .i64 v', .int .i64 n', .bool m', .int .i64 s', .int .i64 x']] w fun e w' => e = .returned (.bool true) ∧ Below w.heap.size w w' := by
  by_cases h : 0 ≤ t ∧ t < 4096 ∧ 0 ≤ a ∧ a < 512 ∧ 0 ≤ v ∧ v < 262144 ∧ 0 ≤ n ∧ n < 512 ∧ 0 ≤ s ∧ s < 8 ∧ 0 ≤ x ∧ x < 1024
  · obtain ⟨t0, t1, a0, a1, v0, v1, n0, n1, s0, s1, x0, x1⟩ := h
    by_cases h' : 0 ≤ t' ∧ t' < 4096 ∧ 0 ≤ a' ∧ a' < 512 ∧ 0 ≤ v' ∧ v' < 262144 ∧ 0 ≤ n' ∧ n' < 512 ∧ 0 ≤ s' ∧ s' < 8 ∧ 0 ≤ x' ∧ x' < 1024
    · obtain ⟨t0', t1', a0', a1', v0', v1', n0', n1', s0', s1', x0', x1'⟩ := h'
      exact unlike_fit_fit w t a v n m s x t' a' v' n' m' s' x' t0 t1 a0 a1 v0 v1 n0 n1 s0 s1 x0 x1 t0' t1' a0' a1' v0' v1' n0' n1' s0' s1' x0' x1' ht
    · exact unlike_fit_no w t a v n m s x t' a' v' n' m' s' x' t0 t1 a0 a1 v0 v1 n0 n1 s0 s1 x0 x1 tr' ar' vr' nr' sr' xr' h' ht
  · by_cases h' : 0 ≤ t' ∧ t' < 4096 ∧ 0 ≤ a' ∧ a' < 512 ∧ 0 ≤ v' ∧ v' < 262144 ∧ 0 ≤ n' ∧ n' < 512 ∧ 0 ≤ s' ∧ s' < 8 ∧ 0 ≤ x' ∧ x' < 1024
    · obtain ⟨t0', t1', a0', a1', v0', v1', n0', n1', s0', s1', x0', x1'⟩ := h'
      exact unlike_no_fit w t a v n m s x t' a' v' n' m' s' x' tr ar vr nr sr xr h t0' t1' a0' a1' v0' v1' n0' n1' s0' s1' x0' x1' ht
    · exact unlike_no_no w t a v n m s x t' a' v' n' m' s' x' tr ar vr nr sr xr h tr' ar' vr' nr' sr' xr' h' ht
end Go.Proofs.YtckplpojlhdmhaaDoor.desc
