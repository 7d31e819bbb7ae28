/- The law DescSteps answers true, where it comes to its end: the answer's code is ErrFull. -/
import Derived.Test.YtckplpojlhdmhaaDoorDTwo
import Derived.Deep.RegionHeld3
import Derived.Test.YtckplpojlhdmhaaDoorQuiet
import Derived.IntWalk
namespace Go.Proofs.YtckplpojlhdmhaaDoor.desc
open Go.RowKit
attribute [local go_sem] eq_desc eq_res


set_option maxRecDepth 100000 in
set_option maxHeartbeats 4000000 in
theorem steps_low_full (w : World) (t a v n : Int) (m : Bool) (s x : Int) (c : Int) (k : Bool) (z : Int) (l : Option Addr) (len cap : Nat) (zs : Nat → Int) (hl : (len : Int) ≤ 60) (t0 : 0 ≤ t) (t1 : t < 4096) (a0 : 0 ≤ a) (a1 : a < 512) (v0 : 0 ≤ v) (v1 : v < 262144) (n0 : 0 ≤ n) (n1 : n < 512) (s0 : 0 ≤ s) (s1 : s < 8) (x0 : 0 ≤ x) (x1 : x < 1024) (hz : Lst w l len zs)
    (hc : (c == 4) = true) (hfu : full c = 1) (sl : decide (1 ≤ s) = false) (hp : pend s = false) (ht : Table w) :
    Calls Tryd.prog 5 #[.agg #[.int .i64 t, .int .i64 a, .int .i64 v, .int .i64 n, .bool m, .int .i64 s, .int .i64 x], .agg #[.int .i64 c, .bool k, .int .i64 z], .slice l len cap] w fun e w' => e = .returned (.bool true) ∧ Below w.heap.size w w' := by
  have HZ := Lib.hid hz
  have HP := Lib.hid hp
  have HF := Lib.hid hfu
  clear hz hp hfu
  have hk0 := Two.first ht t a v n m s x c k z
  go_enter Tryd.func5, Tryd.ntmps5
  go_wp2_with (first | (go_at_call 8; refine (awake_any _ hk0.old.table).mono ?_; rintro e w1 ⟨rfl, hb1⟩; have hk1 := hk0.next hb1; obtain ⟨d10, d11, d12, d13, d14, d15, d16, hz1⟩ := hk1.drow; obtain ⟨r10, r11, r12, ry1⟩ := hk1.rrow) | (go_at_call 10; refine (fit_yes _ t a v n m s x t0 t1 a0 a1 v0 v1 n0 n1 s0 s1 x0 x1).mono ?_; rintro e w2 ⟨rfl, hb2⟩; have hk2 := hk1.next hb2; obtain ⟨d20, d21, d22, d23, d24, d25, d26, hz2⟩ := hk2.drow; obtain ⟨r20, r21, r22, ry2⟩ := hk2.rrow))
  clear hk0 hk1 hb1 hb2 d10 d11 d12 d13 d14 d15 d16 hz1 r10 r11 r12 ry1
  have HL := Lib.hid (Lst.later HZ.out hk2.old.below)
  go_loop [7, 27] (fun y i => ∃ j : Nat, j ≤ len ∧ i = .int .i64 j ∧ y = .bool (anyB zs j s)) (fun _ i => len - (intOf i).toNat)
  case atStart => exact ⟨0, Nat.zero_le _, rfl, rfl⟩
  case round =>
    obtain ⟨j, hj, rfl, rfl⟩ := hrel
    by_cases hlt : j < len
    · obtain ⟨b, rfl, hc⟩ := HL.out j hlt
      have HA := Lib.hid (anyB_succ zs j s)
      generalize anyB zs j s = q at *
      cases q
      all_goals
        go_wp2
        go_round
        case rel => exact ⟨j + 1, by omega, by go_num, by rw [HA.out]; rfl⟩
        case measure => simp [intOf]; omega
    · have hj : j = len := by omega
      subst hj
      have hl' : j ≤ 60 := by omega
      go_wp2_with (first | (go_at_call 13; refine (next_mod _ t a v n m s x t0 t1).mono ?_; rintro e w3 ⟨rfl, hb3⟩; have hk3 := hk2.next hb3; obtain ⟨d30, d31, d32, d33, d34, d35, d36, hz3⟩ := (hk3.alloc (.cells #[.int .i64 ((t + 1) % 4096), .int .i64 0, .int .i64 0, .int .i64 0, .bool false, .int .i64 1, .int .i64 0] 23)).drow; obtain ⟨r30, r31, r32, ry3⟩ := (hk3.alloc (.cells #[.int .i64 ((t + 1) % 4096), .int .i64 0, .int .i64 0, .int .i64 0, .bool false, .int .i64 1, .int .i64 0] 23)).rrow) | (go_at_call 14; refine (ended_is _ t a v n m s x c k z _ HF.out).mono ?_; rintro e w4 ⟨rfl, hb4⟩; have hk4 := (hk3.alloc _).next hb4))
      have hw := Lay.cells (Lay.next (Lay.mk ((hk4).alloc _) (((Row7.new w3 ((t + 1) % 4096) 0 0 0 false 1 0).below hb4).alloc _) (Row7.new w4 t 0 0 1 k 5 z) (by have := hk4.drow.size; omega)) (Below.refl _ _).drew)
      clear hk2 hk3 hk4 hb3 hb4 d20 d21 d22 d23 d24 d25 d26 hz2 r20 r21 r22 ry2 d30 d31 d32 d33 d34 d35 d36 hz3 r30 r31 r32 ry3
      have q1 : IntKind.i64.wrap (t + 1) = t + 1 := IntWalk.i64_in _ (by omega)
      have q2 : 0 ≤ t + 1 := by omega
      have q3 : (t + 1).tmod 4096 = (t + 1) % 4096 := Int.tmod_eq_emod_of_nonneg q2
      refine quiet.region (C := fun wx => Lay w wx w3.heap.size w4.heap.size t a v n m s x c k z ((t + 1) % 4096) 1) (Lay.back hw) (by kernel_rfl) (by kernel_rfl) ?_
      clear hw
      repeat (first
        | go_big_quiet_skip
        | (go_big_quiet_want; go_big_quiet_op; go_big_quiet_on)
        | (refine BigFrame.wpQuiet_want (by rfl) (fun K hK => ?_)
           apply Exists.intro
           refine ⟨fun wx hwx => ?_, hK _ ?_⟩
           · have hx := Lay.cells hwx
             go_split_ands
             go_simp
             first | rfl | exact quiet.call (is_any _ t a v n m s x l j cap zs hl' (Lst.later HZ.out (Lay.old hwx))) (fun _ hb => Lay.next hwx hb) | exact quiet.call (pend_is _ t a v n m s x _ HP.out) (fun _ hb => Lay.next hwx hb)
           clear hK K
           simp only [Act.put, List.setIfInBounds_toArray, List.set_cons_zero, List.set_cons_succ]))
      refine wpQuiet_nil ?_
      intro w6 hq6
      have hw := True.intro
      have hw6 := Lay.cells hq6
      have hk6 : Lay w w6 w3.heap.size w4.heap.size t a v n m s x c k z ((t + 1) % 4096) 1 := by go_split_ands; assumption
      clear q1 q2 q3 hw
      go_wp2_with (first | (go_at_call 17; refine (with_any _ t a v n m s x 3).mono ?_; rintro e w7 ⟨rfl, hb7⟩; have hk7 := hk6.next hb7; obtain ⟨d70, d71, d72, d73, d74, d75, d76, hz7⟩ := hk7.two.drow; have hf7 := hk7.two.free) | (go_at_call 18; refine (res_not _ t a v n m 3 x (by omega)).mono ?_; rintro e w8 ⟨rfl, hb8⟩; have hk8 := ((Lay.stored hk7 ht _).alloc _).next hb8; obtain ⟨r80, r81, r82, ry8⟩ := hk8.rrow))
      have hv := Fin.cells (E := w4.heap.size) (Fin.next (Fin.alloc hk8 (.cells #[.int .i64 4, .bool false, .int .i64 0] 34)) (Below.refl _ _).drew) ((Row3.new w8 4 false 0).below (Below.refl _ _).drew)
      clear hk6 hk7 hk8 hb7 hb8 d70 d71 d72 d73 d74 d75 d76 hz7 hf7 r80 r81 r82 ry8
      go_region_held3 (fun wx => wx.cell? ⟨w4.heap.size, 0, none⟩ = some (.int .i64 t) ∧ wx.cell? ⟨w4.heap.size, 1, none⟩ = some (.int .i64 0) ∧ wx.cell? ⟨w4.heap.size, 2, none⟩ = some (.int .i64 0) ∧ wx.cell? ⟨w4.heap.size, 3, none⟩ = some (.int .i64 1) ∧ wx.cell? ⟨w4.heap.size, 4, none⟩ = some (.bool k) ∧ wx.cell? ⟨w4.heap.size, 5, none⟩ = some (.int .i64 5) ∧ wx.cell? ⟨w4.heap.size, 6, none⟩ = some (.int .i64 z) ∧ wx.cell? ⟨w8.heap.size, 0, none⟩ = some (.int .i64 4) ∧ wx.cell? ⟨w8.heap.size, 1, none⟩ = some (.bool false) ∧ wx.cell? ⟨w8.heap.size, 2, none⟩ = some (.int .i64 0) ∧ Fin w wx w4.heap.size t c k z 1 ∧ Row3 wx w8.heap.size 4 false 0)
        (first | exact hv | (refine Fin.keep ?_ hb9; assumption))
        (first | (go_at_call 18; refine (res_full _ t 0 0 k z).mono ?_; rintro e w9 ⟨rfl, hb9⟩))
      have hk9 : Fin w w9 w4.heap.size t c k z 1 ∧ Row3 w9 w8.heap.size 4 false 0 := by go_split_ands; exact ⟨by assumption, by assumption⟩
      go_wp2
      go_returns
      exact ⟨rfl, hk9.1.old.below⟩

set_option maxRecDepth 100000 in
set_option maxHeartbeats 4000000 in
theorem steps_mid_full (w : World) (t a v n : Int) (m : Bool) (s x : Int) (c : Int) (k : Bool) (z : Int) (l : Option Addr) (len cap : Nat) (zs : Nat → Int) (hl : (len : Int) ≤ 60) (t0 : 0 ≤ t) (t1 : t < 4096) (a0 : 0 ≤ a) (a1 : a < 512) (v0 : 0 ≤ v) (v1 : v < 262144) (n0 : 0 ≤ n) (n1 : n < 512) (s0 : 0 ≤ s) (s1 : s < 8) (x0 : 0 ≤ x) (x1 : x < 1024) (hz : Lst w l len zs)
    (hc : (c == 4) = true) (hfu : full c = 1) (sl : 1 ≤ s) (su : s ≤ 4) (hp : pend s = true) (ht : Table w) :
    Calls Tryd.prog 5 #[.agg #[.int .i64 t, .int .i64 a, .int .i64 v, .int .i64 n, .bool m, .int .i64 s, .int .i64 x], .agg #[.int .i64 c, .bool k, .int .i64 z], .slice l len cap] w fun e w' => e = .returned (.bool true) ∧ Below w.heap.size w w' := by
  have HZ := Lib.hid hz
  have HP := Lib.hid hp
  have HF := Lib.hid hfu
  clear hz hp hfu
  have hk0 := Two.first ht t a v n m s x c k z
  go_enter Tryd.func5, Tryd.ntmps5
  go_wp2_with (first | (go_at_call 8; refine (awake_any _ hk0.old.table).mono ?_; rintro e w1 ⟨rfl, hb1⟩; have hk1 := hk0.next hb1; obtain ⟨d10, d11, d12, d13, d14, d15, d16, hz1⟩ := hk1.drow; obtain ⟨r10, r11, r12, ry1⟩ := hk1.rrow) | (go_at_call 10; refine (fit_yes _ t a v n m s x t0 t1 a0 a1 v0 v1 n0 n1 s0 s1 x0 x1).mono ?_; rintro e w2 ⟨rfl, hb2⟩; have hk2 := hk1.next hb2; obtain ⟨d20, d21, d22, d23, d24, d25, d26, hz2⟩ := hk2.drow; obtain ⟨r20, r21, r22, ry2⟩ := hk2.rrow))
  clear hk0 hk1 hb1 hb2 d10 d11 d12 d13 d14 d15 d16 hz1 r10 r11 r12 ry1
  have HL := Lib.hid (Lst.later HZ.out hk2.old.below)
  go_loop [7, 27] (fun y i => ∃ j : Nat, j ≤ len ∧ i = .int .i64 j ∧ y = .bool (anyB zs j s)) (fun _ i => len - (intOf i).toNat)
  case atStart => exact ⟨0, Nat.zero_le _, rfl, rfl⟩
  case round =>
    obtain ⟨j, hj, rfl, rfl⟩ := hrel
    by_cases hlt : j < len
    · obtain ⟨b, rfl, hc⟩ := HL.out j hlt
      have HA := Lib.hid (anyB_succ zs j s)
      generalize anyB zs j s = q at *
      cases q
      all_goals
        go_wp2
        go_round
        case rel => exact ⟨j + 1, by omega, by go_num, by rw [HA.out]; rfl⟩
        case measure => simp [intOf]; omega
    · have hj : j = len := by omega
      subst hj
      have hl' : j ≤ 60 := by omega
      go_wp2_with (first | (go_at_call 13; refine (next_mod _ t a v n m s x t0 t1).mono ?_; rintro e w3 ⟨rfl, hb3⟩; have hk3 := hk2.next hb3; obtain ⟨d30, d31, d32, d33, d34, d35, d36, hz3⟩ := (hk3.alloc (.cells #[.int .i64 ((t + 1) % 4096), .int .i64 0, .int .i64 0, .int .i64 0, .bool false, .int .i64 1, .int .i64 0] 23)).drow; obtain ⟨r30, r31, r32, ry3⟩ := (hk3.alloc (.cells #[.int .i64 ((t + 1) % 4096), .int .i64 0, .int .i64 0, .int .i64 0, .bool false, .int .i64 1, .int .i64 0] 23)).rrow) | (go_at_call 14; refine (ended_is _ t a v n m s x c k z _ HF.out).mono ?_; rintro e w4 ⟨rfl, hb4⟩; have hk4 := (hk3.alloc _).next hb4))
      have hw := Lay.cells (Lay.next (Lay.mk ((hk4).alloc _) (((Row7.new w3 ((t + 1) % 4096) 0 0 0 false 1 0).below hb4).alloc _) (Row7.new w4 t 0 0 1 k 5 z) (by have := hk4.drow.size; omega)) (Below.refl _ _).drew)
      clear hk2 hk3 hk4 hb3 hb4 d20 d21 d22 d23 d24 d25 d26 hz2 r20 r21 r22 ry2 d30 d31 d32 d33 d34 d35 d36 hz3 r30 r31 r32 ry3
      have q1 : IntKind.i64.wrap (t + 1) = t + 1 := IntWalk.i64_in _ (by omega)
      have q2 : 0 ≤ t + 1 := by omega
      have q3 : (t + 1).tmod 4096 = (t + 1) % 4096 := Int.tmod_eq_emod_of_nonneg q2
      go_region_held3 (fun wx => wx.cell? ⟨w.heap.size, 0, none⟩ = some (.int .i64 t) ∧ wx.cell? ⟨w.heap.size, 1, none⟩ = some (.int .i64 a) ∧ wx.cell? ⟨w.heap.size, 2, none⟩ = some (.int .i64 v) ∧ wx.cell? ⟨w.heap.size, 3, none⟩ = some (.int .i64 n) ∧ wx.cell? ⟨w.heap.size, 4, none⟩ = some (.bool m) ∧ wx.cell? ⟨w.heap.size, 5, none⟩ = some (.int .i64 s) ∧ wx.cell? ⟨w.heap.size, 6, none⟩ = some (.int .i64 x) ∧ wx.cell? ⟨w.heap.size + 1, 1, none⟩ = some (.bool k) ∧ wx.cell? ⟨w.heap.size + 1, 2, none⟩ = some (.int .i64 z) ∧ wx.cell? ⟨w3.heap.size, 0, none⟩ = some (.int .i64 ((t + 1) % 4096)) ∧ wx.cell? ⟨w3.heap.size, 1, none⟩ = some (.int .i64 0) ∧ wx.cell? ⟨w3.heap.size, 2, none⟩ = some (.int .i64 0) ∧ wx.cell? ⟨w3.heap.size, 3, none⟩ = some (.int .i64 0) ∧ wx.cell? ⟨w3.heap.size, 4, none⟩ = some (.bool false) ∧ wx.cell? ⟨w3.heap.size, 5, none⟩ = some (.int .i64 1) ∧ wx.cell? ⟨w3.heap.size, 6, none⟩ = some (.int .i64 0) ∧ wx.cell? ⟨w4.heap.size, 0, none⟩ = some (.int .i64 t) ∧ wx.cell? ⟨w4.heap.size, 1, none⟩ = some (.int .i64 0) ∧ wx.cell? ⟨w4.heap.size, 2, none⟩ = some (.int .i64 0) ∧ wx.cell? ⟨w4.heap.size, 3, none⟩ = some (.int .i64 1) ∧ wx.cell? ⟨w4.heap.size, 4, none⟩ = some (.bool k) ∧ wx.cell? ⟨w4.heap.size, 5, none⟩ = some (.int .i64 5) ∧ wx.cell? ⟨w4.heap.size, 6, none⟩ = some (.int .i64 z) ∧ Lay w wx w3.heap.size w4.heap.size t a v n m s x c k z ((t + 1) % 4096) 1)
        (first | exact hw | (refine Lay.keep ?_ hb6; assumption) | (refine Lay.keep ?_ hb5; assumption))
        (first | (go_at_call 15; refine (is_any _ t a v n m s x l j cap zs hl' ?_).mono ?_; (go_split_ands; refine Lst.later HZ.out (Lay.old (?_ : Lay w _ w3.heap.size w4.heap.size t a v n m s x c k z ((t + 1) % 4096) 1)); assumption); rintro e w5 ⟨rfl, hb5⟩) | (go_at_call 16; refine (pend_is _ t a v n m s x _ HP.out).mono ?_; rintro e w6 ⟨rfl, hb6⟩))
      have hk6 : Lay w w6 w3.heap.size w4.heap.size t a v n m s x c k z ((t + 1) % 4096) 1 := by go_split_ands; assumption
      clear q1 q2 q3 hw
      go_wp2_with (first | (go_at_call 17; refine (with_any _ t a v n m s x 3).mono ?_; rintro e w7 ⟨rfl, hb7⟩; have hk7 := hk6.next hb7; obtain ⟨d70, d71, d72, d73, d74, d75, d76, hz7⟩ := hk7.two.drow; have hf7 := hk7.two.free) | (go_at_call 18; refine (res_not _ t a v n m 3 x (by omega)).mono ?_; rintro e w8 ⟨rfl, hb8⟩; have hk8 := ((Lay.stored hk7 ht _).alloc _).next hb8; obtain ⟨r80, r81, r82, ry8⟩ := hk8.rrow))
      have hv := Fin.cells (E := w4.heap.size) (Fin.next (Fin.alloc hk8 (.cells #[.int .i64 4, .bool false, .int .i64 0] 34)) (Below.refl _ _).drew) ((Row3.new w8 4 false 0).below (Below.refl _ _).drew)
      clear hk6 hk7 hk8 hb7 hb8 d70 d71 d72 d73 d74 d75 d76 hz7 hf7 r80 r81 r82 ry8
      go_region_held3 (fun wx => wx.cell? ⟨w4.heap.size, 0, none⟩ = some (.int .i64 t) ∧ wx.cell? ⟨w4.heap.size, 1, none⟩ = some (.int .i64 0) ∧ wx.cell? ⟨w4.heap.size, 2, none⟩ = some (.int .i64 0) ∧ wx.cell? ⟨w4.heap.size, 3, none⟩ = some (.int .i64 1) ∧ wx.cell? ⟨w4.heap.size, 4, none⟩ = some (.bool k) ∧ wx.cell? ⟨w4.heap.size, 5, none⟩ = some (.int .i64 5) ∧ wx.cell? ⟨w4.heap.size, 6, none⟩ = some (.int .i64 z) ∧ wx.cell? ⟨w8.heap.size, 0, none⟩ = some (.int .i64 4) ∧ wx.cell? ⟨w8.heap.size, 1, none⟩ = some (.bool false) ∧ wx.cell? ⟨w8.heap.size, 2, none⟩ = some (.int .i64 0) ∧ Fin w wx w4.heap.size t c k z 1 ∧ Row3 wx w8.heap.size 4 false 0)
        (first | exact hv | (refine Fin.keep ?_ hb9; assumption))
        (first | (go_at_call 18; refine (res_full _ t 0 0 k z).mono ?_; rintro e w9 ⟨rfl, hb9⟩))
      have hk9 : Fin w w9 w4.heap.size t c k z 1 ∧ Row3 w9 w8.heap.size 4 false 0 := by go_split_ands; exact ⟨by assumption, by assumption⟩
      go_wp2
      go_returns
      exact ⟨rfl, hk9.1.old.below⟩

set_option maxRecDepth 100000 in
set_option maxHeartbeats 4000000 in
theorem steps_high_full (w : World) (t a v n : Int) (m : Bool) (s x : Int) (c : Int) (k : Bool) (z : Int) (l : Option Addr) (len cap : Nat) (zs : Nat → Int) (hl : (len : Int) ≤ 60) (t0 : 0 ≤ t) (t1 : t < 4096) (a0 : 0 ≤ a) (a1 : a < 512) (v0 : 0 ≤ v) (v1 : v < 262144) (n0 : 0 ≤ n) (n1 : n < 512) (s0 : 0 ≤ s) (s1 : s < 8) (x0 : 0 ≤ x) (x1 : x < 1024) (hz : Lst w l len zs)
    (hc : (c == 4) = true) (hfu : full c = 1) (sl : 1 ≤ s) (su : decide (s ≤ 4) = false) (hp : pend s = false) (ht : Table w) :
    Calls Tryd.prog 5 #[.agg #[.int .i64 t, .int .i64 a, .int .i64 v, .int .i64 n, .bool m, .int .i64 s, .int .i64 x], .agg #[.int .i64 c, .bool k, .int .i64 z], .slice l len cap] w fun e w' => e = .returned (.bool true) ∧ Below w.heap.size w w' := by
  have HZ := Lib.hid hz
  have HP := Lib.hid hp
  have HF := Lib.hid hfu
  clear hz hp hfu
  have hk0 := Two.first ht t a v n m s x c k z
  go_enter Tryd.func5, Tryd.ntmps5
  go_wp2_with (first | (go_at_call 8; refine (awake_any _ hk0.old.table).mono ?_; rintro e w1 ⟨rfl, hb1⟩; have hk1 := hk0.next hb1; obtain ⟨d10, d11, d12, d13, d14, d15, d16, hz1⟩ := hk1.drow; obtain ⟨r10, r11, r12, ry1⟩ := hk1.rrow) | (go_at_call 10; refine (fit_yes _ t a v n m s x t0 t1 a0 a1 v0 v1 n0 n1 s0 s1 x0 x1).mono ?_; rintro e w2 ⟨rfl, hb2⟩; have hk2 := hk1.next hb2; obtain ⟨d20, d21, d22, d23, d24, d25, d26, hz2⟩ := hk2.drow; obtain ⟨r20, r21, r22, ry2⟩ := hk2.rrow))
  clear hk0 hk1 hb1 hb2 d10 d11 d12 d13 d14 d15 d16 hz1 r10 r11 r12 ry1
  have HL := Lib.hid (Lst.later HZ.out hk2.old.below)
  go_loop [7, 27] (fun y i => ∃ j : Nat, j ≤ len ∧ i = .int .i64 j ∧ y = .bool (anyB zs j s)) (fun _ i => len - (intOf i).toNat)
  case atStart => exact ⟨0, Nat.zero_le _, rfl, rfl⟩
  case round =>
    obtain ⟨j, hj, rfl, rfl⟩ := hrel
    by_cases hlt : j < len
    · obtain ⟨b, rfl, hc⟩ := HL.out j hlt
      have HA := Lib.hid (anyB_succ zs j s)
      generalize anyB zs j s = q at *
      cases q
      all_goals
        go_wp2
        go_round
        case rel => exact ⟨j + 1, by omega, by go_num, by rw [HA.out]; rfl⟩
        case measure => simp [intOf]; omega
    · have hj : j = len := by omega
      subst hj
      have hl' : j ≤ 60 := by omega
      go_wp2_with (first | (go_at_call 13; refine (next_mod _ t a v n m s x t0 t1).mono ?_; rintro e w3 ⟨rfl, hb3⟩; have hk3 := hk2.next hb3; obtain ⟨d30, d31, d32, d33, d34, d35, d36, hz3⟩ := (hk3.alloc (.cells #[.int .i64 ((t + 1) % 4096), .int .i64 0, .int .i64 0, .int .i64 0, .bool false, .int .i64 1, .int .i64 0] 23)).drow; obtain ⟨r30, r31, r32, ry3⟩ := (hk3.alloc (.cells #[.int .i64 ((t + 1) % 4096), .int .i64 0, .int .i64 0, .int .i64 0, .bool false, .int .i64 1, .int .i64 0] 23)).rrow) | (go_at_call 14; refine (ended_is _ t a v n m s x c k z _ HF.out).mono ?_; rintro e w4 ⟨rfl, hb4⟩; have hk4 := (hk3.alloc _).next hb4))
      have hw := Lay.cells (Lay.next (Lay.mk ((hk4).alloc _) (((Row7.new w3 ((t + 1) % 4096) 0 0 0 false 1 0).below hb4).alloc _) (Row7.new w4 t 0 0 1 k 5 z) (by have := hk4.drow.size; omega)) (Below.refl _ _).drew)
      clear hk2 hk3 hk4 hb3 hb4 d20 d21 d22 d23 d24 d25 d26 hz2 r20 r21 r22 ry2 d30 d31 d32 d33 d34 d35 d36 hz3 r30 r31 r32 ry3
      have q1 : IntKind.i64.wrap (t + 1) = t + 1 := IntWalk.i64_in _ (by omega)
      have q2 : 0 ≤ t + 1 := by omega
      have q3 : (t + 1).tmod 4096 = (t + 1) % 4096 := Int.tmod_eq_emod_of_nonneg q2
      go_region_held3 (fun wx => wx.cell? ⟨w.heap.size, 0, none⟩ = some (.int .i64 t) ∧ wx.cell? ⟨w.heap.size, 1, none⟩ = some (.int .i64 a) ∧ wx.cell? ⟨w.heap.size, 2, none⟩ = some (.int .i64 v) ∧ wx.cell? ⟨w.heap.size, 3, none⟩ = some (.int .i64 n) ∧ wx.cell? ⟨w.heap.size, 4, none⟩ = some (.bool m) ∧ wx.cell? ⟨w.heap.size, 5, none⟩ = some (.int .i64 s) ∧ wx.cell? ⟨w.heap.size, 6, none⟩ = some (.int .i64 x) ∧ wx.cell? ⟨w.heap.size + 1, 1, none⟩ = some (.bool k) ∧ wx.cell? ⟨w.heap.size + 1, 2, none⟩ = some (.int .i64 z) ∧ wx.cell? ⟨w3.heap.size, 0, none⟩ = some (.int .i64 ((t + 1) % 4096)) ∧ wx.cell? ⟨w3.heap.size, 1, none⟩ = some (.int .i64 0) ∧ wx.cell? ⟨w3.heap.size, 2, none⟩ = some (.int .i64 0) ∧ wx.cell? ⟨w3.heap.size, 3, none⟩ = some (.int .i64 0) ∧ wx.cell? ⟨w3.heap.size, 4, none⟩ = some (.bool false) ∧ wx.cell? ⟨w3.heap.size, 5, none⟩ = some (.int .i64 1) ∧ wx.cell? ⟨w3.heap.size, 6, none⟩ = some (.int .i64 0) ∧ wx.cell? ⟨w4.heap.size, 0, none⟩ = some (.int .i64 t) ∧ wx.cell? ⟨w4.heap.size, 1, none⟩ = some (.int .i64 0) ∧ wx.cell? ⟨w4.heap.size, 2, none⟩ = some (.int .i64 0) ∧ wx.cell? ⟨w4.heap.size, 3, none⟩ = some (.int .i64 1) ∧ wx.cell? ⟨w4.heap.size, 4, none⟩ = some (.bool k) ∧ wx.cell? ⟨w4.heap.size, 5, none⟩ = some (.int .i64 5) ∧ wx.cell? ⟨w4.heap.size, 6, none⟩ = some (.int .i64 z) ∧ Lay w wx w3.heap.size w4.heap.size t a v n m s x c k z ((t + 1) % 4096) 1)
        (first | exact hw | (refine Lay.keep ?_ hb6; assumption) | (refine Lay.keep ?_ hb5; assumption))
        (first | (go_at_call 15; refine (is_any _ t a v n m s x l j cap zs hl' ?_).mono ?_; (go_split_ands; refine Lst.later HZ.out (Lay.old (?_ : Lay w _ w3.heap.size w4.heap.size t a v n m s x c k z ((t + 1) % 4096) 1)); assumption); rintro e w5 ⟨rfl, hb5⟩) | (go_at_call 16; refine (pend_is _ t a v n m s x _ HP.out).mono ?_; rintro e w6 ⟨rfl, hb6⟩))
      have hk6 : Lay w w6 w3.heap.size w4.heap.size t a v n m s x c k z ((t + 1) % 4096) 1 := by go_split_ands; assumption
      clear q1 q2 q3 hw
      go_wp2_with (first | (go_at_call 17; refine (with_any _ t a v n m s x 3).mono ?_; rintro e w7 ⟨rfl, hb7⟩; have hk7 := hk6.next hb7; obtain ⟨d70, d71, d72, d73, d74, d75, d76, hz7⟩ := hk7.two.drow; have hf7 := hk7.two.free) | (go_at_call 18; refine (res_not _ t a v n m 3 x (by omega)).mono ?_; rintro e w8 ⟨rfl, hb8⟩; have hk8 := ((Lay.stored hk7 ht _).alloc _).next hb8; obtain ⟨r80, r81, r82, ry8⟩ := hk8.rrow))
      have hv := Fin.cells (E := w4.heap.size) (Fin.next (Fin.alloc hk8 (.cells #[.int .i64 4, .bool false, .int .i64 0] 34)) (Below.refl _ _).drew) ((Row3.new w8 4 false 0).below (Below.refl _ _).drew)
      clear hk6 hk7 hk8 hb7 hb8 d70 d71 d72 d73 d74 d75 d76 hz7 hf7 r80 r81 r82 ry8
      go_region_held3 (fun wx => wx.cell? ⟨w4.heap.size, 0, none⟩ = some (.int .i64 t) ∧ wx.cell? ⟨w4.heap.size, 1, none⟩ = some (.int .i64 0) ∧ wx.cell? ⟨w4.heap.size, 2, none⟩ = some (.int .i64 0) ∧ wx.cell? ⟨w4.heap.size, 3, none⟩ = some (.int .i64 1) ∧ wx.cell? ⟨w4.heap.size, 4, none⟩ = some (.bool k) ∧ wx.cell? ⟨w4.heap.size, 5, none⟩ = some (.int .i64 5) ∧ wx.cell? ⟨w4.heap.size, 6, none⟩ = some (.int .i64 z) ∧ wx.cell? ⟨w8.heap.size, 0, none⟩ = some (.int .i64 4) ∧ wx.cell? ⟨w8.heap.size, 1, none⟩ = some (.bool false) ∧ wx.cell? ⟨w8.heap.size, 2, none⟩ = some (.int .i64 0) ∧ Fin w wx w4.heap.size t c k z 1 ∧ Row3 wx w8.heap.size 4 false 0)
        (first | exact hv | (refine Fin.keep ?_ hb9; assumption))
        (first | (go_at_call 18; refine (res_full _ t 0 0 k z).mono ?_; rintro e w9 ⟨rfl, hb9⟩))
      have hk9 : Fin w w9 w4.heap.size t c k z 1 ∧ Row3 w9 w8.heap.size 4 false 0 := by go_split_ands; exact ⟨by assumption, by assumption⟩
      go_wp2
      go_returns
      exact ⟨rfl, hk9.1.old.below⟩
end Go.Proofs.YtckplpojlhdmhaaDoor.desc
