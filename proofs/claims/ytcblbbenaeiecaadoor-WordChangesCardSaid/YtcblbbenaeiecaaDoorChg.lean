/- The law WordChanges answers true at every word. -/
import Derived.Test.YtcblbbenaeiecaaDoorRows5
import Derived.Deep.RegionHeld3
import Derived.Deep.DeepCutAuto
import Derived.Test.YtcblbbenaeiecaaDoorFour
namespace Go.Proofs.YtcblbbenaeiecaaDoor.word
open Go.RowKit

theorem link_mod (w : World) (k n : Int) (m : Bool) (c v x : Int) (h0 : 0 ≤ v) (h1 : v < 262144) :
    Calls Tryd.prog 16 #[.agg #[.int .i64 k, .int .i64 n, .bool m, .int .i64 c, .int .i64 v], .int .i64 x] w fun e w' => e = .returned (.agg #[.int .i64 k, .int .i64 x, .bool m, .int .i64 c, .int .i64 ((v + 1) % 262144)]) ∧ Below w.heap.size w w' := by
  have h := nextVer_mod v h1 h0
  exact (link_any w k n m c v x h0 (by omega)).mono fun e w' ⟨he, hb⟩ => ⟨by rw [he, h], hb⟩
theorem marked_mod (w : World) (k n : Int) (m : Bool) (c v : Int) (h0 : 0 ≤ v) (h1 : v < 262144) :
    Calls Tryd.prog 17 #[.agg #[.int .i64 k, .int .i64 n, .bool m, .int .i64 c, .int .i64 v]] w fun e w' => e = .returned (.agg #[.int .i64 k, .int .i64 n, .bool true, .int .i64 c, .int .i64 ((v + 1) % 262144)]) ∧ Below w.heap.size w w' := by
  have h := nextVer_mod v h1 h0
  exact (marked_any w k n m c v h0 (by omega)).mono fun e w' ⟨he, hb⟩ => ⟨by rw [he, h], hb⟩
theorem free_mod (w : World) (k n : Int) (m : Bool) (c v : Int) (h0 : 0 ≤ v) (h1 : v < 262144) :
    Calls Tryd.prog 19 #[.agg #[.int .i64 k, .int .i64 n, .bool m, .int .i64 c, .int .i64 v]] w fun e w' => e = .returned (.agg #[.int .i64 k, .int .i64 n, .bool m, .int .i64 0, .int .i64 ((v + 1) % 262144)]) ∧ Below w.heap.size w w' := by
  have h := nextVer_mod v h1 h0
  exact (free_any w k n m c v h0 (by omega)).mono fun e w' ⟨he, hb⟩ => ⟨by rw [he, h], hb⟩

set_option maxRecDepth 100000 in
set_option maxHeartbeats 1000000 in
theorem chg_no (w : World) (k n c v by8 nx : Int) (m mark : Bool) (kr : -9223372036854775808 ≤ k ∧ k ≤ 9223372036854775807) (nr : -9223372036854775808 ≤ n ∧ n ≤ 9223372036854775807) (cr : -9223372036854775808 ≤ c ∧ c ≤ 9223372036854775807) (vr : -9223372036854775808 ≤ v ∧ v ≤ 9223372036854775807)
    (H : Hid (¬ (0 ≤ k ∧ k < 1024 ∧ 0 ≤ n ∧ n < 512 ∧ 0 ≤ c ∧ c < 32 ∧ 0 ≤ v ∧ v < 262144))) (ht : Table w) :
    Calls Tryd.prog 5 #[.agg #[.int .i64 k, .int .i64 n, .bool m, .int .i64 c, .int .i64 v], .agg #[.int .u8 by8, .int .u8 nx], .bool mark] w fun e w' => e = .returned (.bool true) ∧ Below w.heap.size w w' := by
  obtain ⟨m0, m1⟩ := mark_range m
  have ho0 := ((Old.refl ht).alloc (.cells #[.int .i64 k, .int .i64 n, .bool m, .int .i64 c, .int .i64 v] 23)).alloc (.cells #[.int .u8 by8, .int .u8 nx] 39)
  go_enter Tryd.func5, Tryd.ntmps5
  go_wp2_with (first | (go_at_call 8; refine (awake_any _ ho0.table).mono ?_; rintro e w1 ⟨rfl, hb1⟩; have ho1 := ho0.next hb1; obtain ⟨hc1, hf1⟩ := bcell hb1; have hz1 : w.heap.size < w1.heap.size := (by have := hb1.size; simp at this; omega); have hy1 : w.heap.size + 1 < w1.heap.size := (by have := hb1.size; simp at this; omega)))
  go_quiet (fail)
  go_wp2_with (first | (go_at_call 11; refine (fields_any _ k n m c v).mono ?_; rintro e w3 ⟨rfl, hb3⟩; have ho3 := ho1.next ((below_drewN (Below.refl _ _) _).trans hb3)) | (go_at_call 10; refine (fit_no _ k n _ c v kr nr cr vr m0 m1 H.out).mono ?_; rintro e w4 ⟨rfl, hb4⟩; have ho4 := ho3.next hb4))
  go_returns
  exact ⟨rfl, ho4.below⟩

set_option maxRecDepth 100000 in
set_option maxHeartbeats 4000000 in
theorem chg_yes (w : World) (k n c v by8 nx : Int) (m mark : Bool) (k0 : 0 ≤ k) (k1 : k < 1024) (n0 : 0 ≤ n) (n1 : n < 512) (c0 : 0 ≤ c) (c1 : c < 32) (v0 : 0 ≤ v) (v1 : v < 262144) (b0 : 0 ≤ by8) (b1 : by8 < 256) (x0 : 0 ≤ nx) (x1 : nx < 256) (ht : Table w) :
    Calls Tryd.prog 5 #[.agg #[.int .i64 k, .int .i64 n, .bool m, .int .i64 c, .int .i64 v], .agg #[.int .u8 by8, .int .u8 nx], .bool mark] w fun e w' => e = .returned (.bool true) ∧ Below w.heap.size w w' := by
  obtain ⟨m0, m1⟩ := mark_range m
  have ho0 := ((Old.refl ht).alloc (.cells #[.int .i64 k, .int .i64 n, .bool m, .int .i64 c, .int .i64 v] 23)).alloc (.cells #[.int .u8 by8, .int .u8 nx] 39)
  have hr0 := (Row5.new w 23 (.int .i64 k) (.int .i64 n) (.bool m) (.int .i64 c) (.int .i64 v)).alloc (.cells #[.int .u8 by8, .int .u8 nx] 39)
  go_enter Tryd.func5, Tryd.ntmps5
  go_wp2_with (first | (go_at_call 8; refine (awake_any _ ho0.table).mono ?_; rintro e w1 ⟨rfl, hb1⟩; have ho1 := ho0.next hb1; have hr1 := hr0.below hb1; obtain ⟨hc1, hf1⟩ := bcell hb1; have hz1 : w.heap.size < w1.heap.size := (by have := hb1.size; simp at this; omega); have hy1 : w.heap.size + 1 < w1.heap.size := (by have := hb1.size; simp at this; omega)))
  go_quiet (fail)
  go_upto_region 8 with (first | (go_at_call 11; refine (fields_any _ k n m c v).mono ?_; rintro e w3 ⟨rfl, hb3⟩; have ho3 := ho1.next ((below_drewN (Below.refl _ _) _).trans hb3); have hr3 := hr1.below ((below_drewN (Below.refl _ _) _).trans hb3)) | (go_at_call 10; refine (fit_yes _ k n _ c v k0 k1 n0 n1 m0 m1 c0 c1 v0 v1).mono ?_; rintro e w4 ⟨rfl, hb4⟩; have ho4 := ho3.next hb4; have hr4 := hr3.below hb4; obtain ⟨d0, d1, d2, d3, d4, hz4⟩ := id hr4))
  have hB := boxes w4 k n c v m
  go_cut [11, 12, 13, 14] (fun s1 s2 s3 s4 wx => Four w wx k n c v m s1 s2 s3 s4)
  case first =>
    go_region_held3 (fun w' => w'.cell? ⟨w.heap.size, 0, none⟩ = some (.int .i64 k) ∧ w'.cell? ⟨w.heap.size, 1, none⟩ = some (.int .i64 n) ∧ w'.cell? ⟨w.heap.size, 2, none⟩ = some (.bool m) ∧ w'.cell? ⟨w.heap.size, 3, none⟩ = some (.int .i64 c) ∧ w'.cell? ⟨w.heap.size, 4, none⟩ = some (.int .i64 v)) ((refine cells5_keep hr4 ?_; go_grown)) (fail)
    all_goals
      go_wp2_with fail
      go_meet
      refine ⟨_, _, _, _, rfl, rfl, rfl, rfl, ?_, ?_, ?_, ?_, ⟨by omega, by omega, by omega, by omega, by omega, by omega⟩, ⟨by omega, by omega, by omega, by omega⟩, ?_, ?_⟩
      · first | exact hB.1 | exact hB.2.1 | exact hB.2.2.1 | exact hB.2.2.2
      · first | exact hB.1 | exact hB.2.1 | exact hB.2.2.1 | exact hB.2.2.2
      · first | exact hB.1 | exact hB.2.1 | exact hB.2.2.1 | exact hB.2.2.2
      · first | exact hB.1 | exact hB.2.1 | exact hB.2.2.1 | exact hB.2.2.2
      · exact hr4.below (by go_grown)
      · exact ho4.next (by go_grown)
  case rest =>
    clear hB hc1 hf1 hz1 hy1 hr0 hr1 hr3 ho0 ho1 ho3 hb1 hb3 hb4 hr4 d0 d1 d2 d3 d4 hz4 ho4
    obtain ⟨p, q, r, t, rfl, rfl, rfl, rfl, bp, bq, br, bt, ⟨npq, npr, npt, nqr, nqt, nrt⟩, ⟨lp, lq, lr, lt⟩, horig, hold⟩ := hcut
    have nqp := Ne.symm npq
    have nrp := Ne.symm npr
    have ntp := Ne.symm npt
    have nrq := Ne.symm nqr
    have ntq := Ne.symm nqt
    have ntr := Ne.symm nrt
    have hdone : Done w (turned wc p q r t nx ((v + 1) % 262144) (by8 % 31 + 1) mark) p q r t k n c v nx ((v + 1) % 262144) (by8 % 31 + 1) m mark := turned_done ht bp bq br bt npq npr npt nqr nqt nrt lp lq lr lt horig hold _ _ _ _
    have HD := Lib.hid hdone
    clear hdone
    obtain ⟨p0, p1, p2, p3, p4, hp⟩ := bp.row
    obtain ⟨q0, q1, q2, q3, q4, hq⟩ := bq.row
    obtain ⟨r0, r1, r2, r3, r4, hr⟩ := br.row
    obtain ⟨t0, t1, t2, t3, t4, htt⟩ := bt.row
    have fp := bp.free
    have fq := bq.free
    have fr := br.free
    have ft := bt.free
    go_wp2
    change Code.wp _ _ _ _ (turned wc p q r t nx ((v + 1) % 262144) (by8 % 31 + 1) mark)
    generalize turned wc p q r t nx ((v + 1) % 262144) (by8 % 31 + 1) mark = wz at *
    have hw := (Done.next HD.out (Below.refl _ _).drew).cells
    have hwr : IntKind.i64.wrap nx = nx := IntWalk.i64_in _ (by omega)
    have s0 : 0 ≤ by8 % 31 := by omega
    have s1 : by8 % 31 ≤ 30 := by omega
    clear HD p0 p1 p2 p3 p4 q0 q1 q2 q3 q4 r0 r1 r2 r3 r4 t0 t1 t2 t3 t4 bp bq br bt fp fq fr ft horig hold
    go_region_held3 (fun wx => wx.cell? ⟨w.heap.size, 0, none⟩ = some (.int .i64 k) ∧ wx.cell? ⟨w.heap.size, 1, none⟩ = some (.int .i64 n) ∧ wx.cell? ⟨w.heap.size, 2, none⟩ = some (.bool m) ∧ wx.cell? ⟨w.heap.size, 3, none⟩ = some (.int .i64 c) ∧ wx.cell? ⟨w.heap.size, 4, none⟩ = some (.int .i64 v) ∧ wx.cell? ⟨p, 0, none⟩ = some (.int .i64 k) ∧ wx.cell? ⟨p, 1, none⟩ = some (.int .i64 nx) ∧ wx.cell? ⟨p, 2, none⟩ = some (.bool m) ∧ wx.cell? ⟨p, 3, none⟩ = some (.int .i64 c) ∧ wx.cell? ⟨p, 4, none⟩ = some (.int .i64 ((v + 1) % 262144)) ∧ wx.cell? ⟨q, 0, none⟩ = some (.int .i64 k) ∧ wx.cell? ⟨q, 1, none⟩ = some (.int .i64 n) ∧ wx.cell? ⟨q, 2, none⟩ = some (.bool true) ∧ wx.cell? ⟨q, 3, none⟩ = some (.int .i64 c) ∧ wx.cell? ⟨q, 4, none⟩ = some (.int .i64 ((v + 1) % 262144)) ∧ wx.cell? ⟨r, 0, none⟩ = some (.int .i64 k) ∧ wx.cell? ⟨r, 1, none⟩ = some (.int .i64 nx) ∧ wx.cell? ⟨r, 2, none⟩ = some (.bool mark) ∧ wx.cell? ⟨r, 3, none⟩ = some (.int .i64 (by8 % 31 + 1)) ∧ wx.cell? ⟨r, 4, none⟩ = some (.int .i64 v) ∧ wx.cell? ⟨t, 0, none⟩ = some (.int .i64 k) ∧ wx.cell? ⟨t, 1, none⟩ = some (.int .i64 n) ∧ wx.cell? ⟨t, 2, none⟩ = some (.bool m) ∧ wx.cell? ⟨t, 3, none⟩ = some (.int .i64 0) ∧ wx.cell? ⟨t, 4, none⟩ = some (.int .i64 ((v + 1) % 262144)) ∧ Done w wx p q r t k n c v nx ((v + 1) % 262144) (by8 % 31 + 1) m mark)
      (first | exact hw | (refine Done.keep ?_ hb8; assumption) | (refine Done.keep ?_ hb7; assumption) | (refine Done.keep ?_ hb6; assumption) | (refine Done.keep ?_ hb5; assumption))
      (first | (go_at_call 16; refine (link_mod _ k n m c v nx v0 v1).mono ?_; rintro e w5 ⟨rfl, hb5⟩) | (go_at_call 17; refine (marked_mod _ k n m c v v0 v1).mono ?_; rintro e w6 ⟨rfl, hb6⟩) | (go_at_call 18; refine (claimed_any _ k n m c v (by8 % 31) nx mark s0 s1).mono ?_; rintro e w7 ⟨rfl, hb7⟩) | (go_at_call 19; refine (free_mod _ k n m c v v0 v1).mono ?_; rintro e w8 ⟨rfl, hb8⟩))
    have hd8 : Done w w8 p q r t k n c v nx ((v + 1) % 262144) (by8 % 31 + 1) m mark := by go_split_ands; assumption
    go_wp2
    go_returns
    exact ⟨rfl, hd8.old.below⟩
end Go.Proofs.YtcblbbenaeiecaaDoor.word
