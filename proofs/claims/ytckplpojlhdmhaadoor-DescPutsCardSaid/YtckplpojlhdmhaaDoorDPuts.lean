/- The law DescPuts answers true at every descriptor. -/
import Derived.Test.YtckplpojlhdmhaaDoorDRows
import Derived.Deep.RegionHeld3
namespace Go.Proofs.YtckplpojlhdmhaaDoor.desc
open Go.RowKit

set_option maxRecDepth 100000 in
set_option maxHeartbeats 1000000 in
theorem puts_unfit (w : World) (t a v n : Int) (m : Bool) (s x : Int) (tr : -9223372036854775808 ≤ t ∧ t ≤ 9223372036854775807) (ar : -9223372036854775808 ≤ a ∧ a ≤ 9223372036854775807) (vr : -9223372036854775808 ≤ v ∧ v ≤ 9223372036854775807) (nr : -9223372036854775808 ≤ n ∧ n ≤ 9223372036854775807) (sr : -9223372036854775808 ≤ s ∧ s ≤ 9223372036854775807) (xr : -9223372036854775808 ≤ x ∧ x ≤ 9223372036854775807) (h : ¬ (0 ≤ t ∧ t < 4096 ∧ 0 ≤ a ∧ a < 512 ∧ 0 ≤ v ∧ v < 262144 ∧ 0 ≤ n ∧ n < 512 ∧ 0 ≤ s ∧ s < 8 ∧ 0 ≤ x ∧ x < 1024)) (ht : Table w) :
    Calls Tryd.prog 3 #[.agg #[.int .i64 t, .int .i64 a, .int .i64 v, .int .i64 n, .bool m, .int .i64 s, .int .i64 x]] w fun e w' => e = .returned (.bool true) ∧ Below w.heap.size w w' := by
  have H := Lib.hid h
  clear h
  have hk0 := Kept.first ht t a v n m s x
  go_enter Tryd.func3, Tryd.ntmps3
  go_wp2_with (first | (go_at_call 8; refine (awake_any _ hk0.old.table).mono ?_; rintro e w1 ⟨rfl, hb1⟩; have hk1 := hk0.next hb1; obtain ⟨d10, d11, d12, d13, d14, d15, d16, hz1⟩ := hk1.row) | (go_at_call 9; refine (put_unfit _ t a v n s x m tr ar vr nr sr xr H.out hk1.old.table).mono ?_; rintro e w2 ⟨rfl, hb2⟩; have hk2 := hk1.next hb2; obtain ⟨d20, d21, d22, d23, d24, d25, d26, hz2⟩ := hk2.row) | (go_at_call 10; refine (fit_no _ t a v n m s x H.out).mono ?_; rintro e w3 ⟨rfl, hb3⟩; have hk3 := hk2.next hb3))
  all_goals
    go_returns
    exact ⟨rfl, hk3.old.below⟩

set_option maxRecDepth 100000 in
set_option maxHeartbeats 1000000 in
theorem puts_fit (w : World) (t a v n : Int) (m : Bool) (s x : Int) (t0 : 0 ≤ t) (t1 : t < 4096) (a0 : 0 ≤ a) (a1 : a < 512) (v0 : 0 ≤ v) (v1 : v < 262144) (n0 : 0 ≤ n) (n1 : n < 512) (s0 : 0 ≤ s) (s1 : s < 8) (x0 : 0 ≤ x) (x1 : x < 1024) (ht : Table w) :
    Calls Tryd.prog 3 #[.agg #[.int .i64 t, .int .i64 a, .int .i64 v, .int .i64 n, .bool m, .int .i64 s, .int .i64 x]] w fun e w' => e = .returned (.bool true) ∧ Below w.heap.size w w' := by
  have hk0 := Kept.first ht t a v n m s x
  go_enter Tryd.func3, Tryd.ntmps3
  go_wp2_with (first | (go_at_call 8; refine (awake_any _ hk0.old.table).mono ?_; rintro e w1 ⟨rfl, hb1⟩; have hk1 := hk0.next hb1; obtain ⟨d10, d11, d12, d13, d14, d15, d16, hz1⟩ := hk1.row) | (go_at_call 9; refine (put_fit _ t a v n s x m t0 t1 a0 a1 v0 v1 n0 n1 s0 s1 x0 x1 hk1.old.table).mono ?_; rintro e w2 ⟨rfl, hb2⟩; have hk2 := hk1.next hb2; obtain ⟨d20, d21, d22, d23, d24, d25, d26, hz2⟩ := hk2.row) | (go_at_call 10; refine (fit_yes _ t a v n m s x t0 t1 a0 a1 v0 v1 n0 n1 s0 s1 x0 x1).mono ?_; rintro e w3 ⟨rfl, hb3⟩; have hk3 := hk2.next hb3))
  have hw4 := (hk3.next (Below.refl _ _).drew).cells
  clear hk0 hk1 hk2 hk3 hb1 hb2 hb3 d10 d11 d12 d13 d14 d15 d16 d20 d21 d22 d23 d24 d25 d26 hz1 hz2
  go_region_held3 (fun wx => wx.cell? ⟨w.heap.size, 0, none⟩ = some (.int .i64 t) ∧ wx.cell? ⟨w.heap.size, 1, none⟩ = some (.int .i64 a) ∧ wx.cell? ⟨w.heap.size, 2, none⟩ = some (.int .i64 v) ∧ wx.cell? ⟨w.heap.size, 3, none⟩ = some (.int .i64 n) ∧ wx.cell? ⟨w.heap.size, 4, none⟩ = some (.bool m) ∧ wx.cell? ⟨w.heap.size, 5, none⟩ = some (.int .i64 s) ∧ wx.cell? ⟨w.heap.size, 6, none⟩ = some (.int .i64 x) ∧ Kept w wx w.heap.size t a v n m s x)
    (first | exact hw4 | (refine Kept.keep ?_ hb6; assumption) | (refine Kept.keep ?_ hb5; assumption))
    (first | (go_at_call 11; refine (number_any _ t a v n m s x t0 t1 a0 a1 v0 v1 n0 n1 s0 s1 x0 x1).mono ?_; rintro e w5 ⟨rfl, hb5⟩) | (go_at_call 12; refine (get_num _ t a v n m s x t0 t1 a0 a1 v0 v1 n0 n1 s0 s1 x0 x1 ?_).mono ?_; (go_split_ands; refine Old.table (W := w) (Kept.old (b := w.heap.size) (t := t) (a := a) (v := v) (n := n) (m := m) (s := s) (x := x) ?_); assumption); rintro e w6 ⟨rfl, hb6⟩))
  go_wp2
  go_returns
  refine ⟨rfl, ?_⟩
  have hk6 : Kept w w6 w.heap.size t a v n m s x := by go_split_ands; assumption
  exact hk6.old.below

/-- WHAT THE LAW ANSWERS, at every descriptor. -/
theorem puts_any (w : World) (t a v n : Int) (m : Bool) (s x : Int) (tr : -9223372036854775808 ≤ t ∧ t ≤ 9223372036854775807) (ar : -9223372036854775808 ≤ a ∧ a ≤ 9223372036854775807) (vr : -9223372036854775808 ≤ v ∧ v ≤ 9223372036854775807) (nr : -9223372036854775808 ≤ n ∧ n ≤ 9223372036854775807) (sr : -9223372036854775808 ≤ s ∧ s ≤ 9223372036854775807) (xr : -9223372036854775808 ≤ x ∧ x ≤ 9223372036854775807) (ht : Table w) :
    Calls Tryd.prog 3 #[.agg #[.int .i64 t, .int .i64 a, .int .i64 v, .int .i64 n, .bool m, .int .i64 s, .int .i64 x]] w fun e w' => e = .returned (.bool true) ∧ Below w.heap.size w w' := by
  by_cases h : 0 ≤ t ∧ t < 4096 ∧ 0 ≤ a ∧ a < 512 ∧ 0 ≤ v ∧ v < 262144 ∧ 0 ≤ n ∧ n < 512 ∧ 0 ≤ s ∧ s < 8 ∧ 0 ≤ x ∧ x < 1024
  · obtain ⟨t0, t1, a0, a1, v0, v1, n0, n1, s0, s1, x0, x1⟩ := h
    exact puts_fit w t a v n m s x t0 t1 a0 a1 v0 v1 n0 n1 s0 s1 x0 x1 ht
  · exact puts_unfit w t a v n m s x tr ar vr nr sr xr h ht
end Go.Proofs.YtckplpojlhdmhaaDoor.desc
