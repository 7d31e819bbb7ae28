/- The law TaskGoes at the right tasks of shape 2. -/
import Derived.Test.YtipappihophijaaDoorTkGoesB
namespace Go.Proofs.YtipappihophijaaDoor.task
open Go.RowKit
attribute [local go_sem] eq_place

set_option maxRecDepth 100000 in
set_option maxHeartbeats 4000000 in
theorem goes_2_1 (w : World) (y : Int) (y0 : 0 ≤ y) (y1 : y ≤ 999) (n : Int) (ht : Names w) :
    Calls Tryd.prog 3 #[.agg #[.int .i64 2, .int .i64 1, .int .i64 y], .int .i64 n] w fun e w' => e = .returned (.bool true) ∧ Below w.heap.size w w' := by
  have A0 := Lib.hid (One.new w 2 1 y 25)
  have T := Lib.hid ht
  have HR : Hid (rightB 2 1 y = true) := Lib.hid ((right_iff 2 1 y).2 (by omega))
  have PP : ∀ u, Calls Tryd.prog 7 #[.agg #[.int .i64 2, .int .i64 1, .int .i64 y]] u fun e w' => e = .returned (.agg #[.int .i64 (y % 4), .int .i64 y]) ∧ Below u.heap.size u w' := fun u => place_any u 2 1 y y0 y1
  have PL : ∀ u, Calls Tryd.prog 8 #[.agg #[.int .i64 2, .int .i64 1, .int .i64 y]] u fun e w' => e = .returned (.bool true) ∧ Below u.heap.size u w' := fun u => links_any u 2 1 y
  have PM : ∀ u, Calls Tryd.prog 9 #[.agg #[.int .i64 2, .int .i64 1, .int .i64 y]] u fun e w' => e = .returned (.bool false) ∧ Below u.heap.size u w' := fun u => marks_any u 2 1 y
  have PO : ∀ u, Calls Tryd.prog 10 #[.agg #[.int .i64 2, .int .i64 1, .int .i64 y]] u fun e w' => e = .returned (.bool false) ∧ Below u.heap.size u w' := fun u => pops_any u 2 1 y
  clear ht
  go_enter Tryd.func3, Tryd.ntmps3
  go_upto_block 0 with (go_at_call 4; refine (awake_any _).mono ?_; rintro e w1 ⟨rfl, hb1⟩; have A1 := Lib.hid (A0.out.next hb1); clear hb1; obtain ⟨c0, c1, c2, -, -⟩ := id A1.out)
  go_cut [5] (fun v wx => v = .string (nameOf n) ∧ wx = w1)
  case first =>
    go_wp2_with fail
    all_goals
      go_meet
      refine ⟨?_, rfl⟩
      first
        | exact name1 (by assumption)
        | exact name2 (by assumption)
        | exact name3 (by assumption)
        | exact name4 (by assumption)
        | exact name5 (by assumption)
        | exact name0 (by assumption) (by assumption) (by assumption) (by assumption) (by assumption)
  case rest =>
    obtain ⟨rfl, rfl⟩ := hcut
    go_wp2_with (first
      | (go_at_call 5; refine (name_any _ n (T.out.below A1.out.below)).mono ?_; rintro e w2 ⟨rfl, hb2⟩; have A2 := Lib.hid (A1.out.next hb2); clear hb2; obtain ⟨d0, d1, d2, -, -⟩ := id A2.out)
      | (go_at_call 6; refine (may_any _ 2 1 y).mono ?_; rw [HR.out]; rintro e w3 ⟨rfl, hb3⟩; have A3 := Lib.hid (A2.out.next hb3); clear hb3; obtain ⟨e0, e1, e2, el, -⟩ := id A3.out))
    have hG : Gl w (w3.alloc (.cells #[.int .i64 (y % 4), .int .i64 y] 30)) w3.heap.size 2 1 y (y % 4) y := ⟨A3.out.alloc' _, by go_simp, by go_simp, by simp⟩
    refine quiet.region (C := fun wx => Gl w wx w3.heap.size 2 1 y (y % 4) y) hG.drew (by kernel_rfl) (by kernel_rfl) ?_
    clear hG
    repeat (first
      | go_big_quiet_skip
      | (go_big_quiet_want; go_big_quiet_op; go_big_quiet_on)
      | (refine BigFrame.wpQuiet_want (by rfl) (fun K hK => ?_)
         apply Exists.intro
         refine ⟨fun wx hwx => ?_, hK _ ?_⟩
         · have hx := Gl.cells hwx
           go_split_ands
           go_simp
           first | rfl | exact quiet.call (PP _) (fun _ hb => Gl.next hwx hb) | exact quiet.call (PL _) (fun _ hb => Gl.next hwx hb) | exact quiet.call (PM _) (fun _ hb => Gl.next hwx hb) | exact quiet.call (PO _) (fun _ hb => Gl.next hwx hb)
         clear hK K
         simp only [Act.put, List.setIfInBounds_toArray, List.set_cons_zero, List.set_cons_succ]))
    refine wpQuiet_nil ?_
    intro w6 hq6
    go_wp2
    go_returns
    exact ⟨rfl, hq6.one.below⟩

set_option maxRecDepth 100000 in
set_option maxHeartbeats 4000000 in
theorem goes_2_2 (w : World) (y : Int) (y0 : 0 ≤ y) (y1 : y ≤ 999) (n : Int) (ht : Names w) :
    Calls Tryd.prog 3 #[.agg #[.int .i64 2, .int .i64 2, .int .i64 y], .int .i64 n] w fun e w' => e = .returned (.bool true) ∧ Below w.heap.size w w' := by
  have A0 := Lib.hid (One.new w 2 2 y 25)
  have T := Lib.hid ht
  have HR : Hid (rightB 2 2 y = true) := Lib.hid ((right_iff 2 2 y).2 (by omega))
  have PP : ∀ u, Calls Tryd.prog 7 #[.agg #[.int .i64 2, .int .i64 2, .int .i64 y]] u fun e w' => e = .returned (.agg #[.int .i64 (y % 4), .int .i64 y]) ∧ Below u.heap.size u w' := fun u => place_any u 2 2 y y0 y1
  have PL : ∀ u, Calls Tryd.prog 8 #[.agg #[.int .i64 2, .int .i64 2, .int .i64 y]] u fun e w' => e = .returned (.bool false) ∧ Below u.heap.size u w' := fun u => links_any u 2 2 y
  have PM : ∀ u, Calls Tryd.prog 9 #[.agg #[.int .i64 2, .int .i64 2, .int .i64 y]] u fun e w' => e = .returned (.bool true) ∧ Below u.heap.size u w' := fun u => marks_any u 2 2 y
  have PO : ∀ u, Calls Tryd.prog 10 #[.agg #[.int .i64 2, .int .i64 2, .int .i64 y]] u fun e w' => e = .returned (.bool false) ∧ Below u.heap.size u w' := fun u => pops_any u 2 2 y
  clear ht
  go_enter Tryd.func3, Tryd.ntmps3
  go_upto_block 0 with (go_at_call 4; refine (awake_any _).mono ?_; rintro e w1 ⟨rfl, hb1⟩; have A1 := Lib.hid (A0.out.next hb1); clear hb1; obtain ⟨c0, c1, c2, -, -⟩ := id A1.out)
  go_cut [5] (fun v wx => v = .string (nameOf n) ∧ wx = w1)
  case first =>
    go_wp2_with fail
    all_goals
      go_meet
      refine ⟨?_, rfl⟩
      first
        | exact name1 (by assumption)
        | exact name2 (by assumption)
        | exact name3 (by assumption)
        | exact name4 (by assumption)
        | exact name5 (by assumption)
        | exact name0 (by assumption) (by assumption) (by assumption) (by assumption) (by assumption)
  case rest =>
    obtain ⟨rfl, rfl⟩ := hcut
    go_wp2_with (first
      | (go_at_call 5; refine (name_any _ n (T.out.below A1.out.below)).mono ?_; rintro e w2 ⟨rfl, hb2⟩; have A2 := Lib.hid (A1.out.next hb2); clear hb2; obtain ⟨d0, d1, d2, -, -⟩ := id A2.out)
      | (go_at_call 6; refine (may_any _ 2 2 y).mono ?_; rw [HR.out]; rintro e w3 ⟨rfl, hb3⟩; have A3 := Lib.hid (A2.out.next hb3); clear hb3; obtain ⟨e0, e1, e2, el, -⟩ := id A3.out))
    have hG : Gl w (w3.alloc (.cells #[.int .i64 (y % 4), .int .i64 y] 30)) w3.heap.size 2 2 y (y % 4) y := ⟨A3.out.alloc' _, by go_simp, by go_simp, by simp⟩
    refine quiet.region (C := fun wx => Gl w wx w3.heap.size 2 2 y (y % 4) y) hG.drew (by kernel_rfl) (by kernel_rfl) ?_
    clear hG
    repeat (first
      | go_big_quiet_skip
      | (go_big_quiet_want; go_big_quiet_op; go_big_quiet_on)
      | (refine BigFrame.wpQuiet_want (by rfl) (fun K hK => ?_)
         apply Exists.intro
         refine ⟨fun wx hwx => ?_, hK _ ?_⟩
         · have hx := Gl.cells hwx
           go_split_ands
           go_simp
           first | rfl | exact quiet.call (PP _) (fun _ hb => Gl.next hwx hb) | exact quiet.call (PL _) (fun _ hb => Gl.next hwx hb) | exact quiet.call (PM _) (fun _ hb => Gl.next hwx hb) | exact quiet.call (PO _) (fun _ hb => Gl.next hwx hb)
         clear hK K
         simp only [Act.put, List.setIfInBounds_toArray, List.set_cons_zero, List.set_cons_succ]))
    refine wpQuiet_nil ?_
    intro w6 hq6
    go_wp2
    go_returns
    exact ⟨rfl, hq6.one.below⟩

set_option maxRecDepth 100000 in
set_option maxHeartbeats 4000000 in
theorem goes_2_3 (w : World) (y : Int) (y0 : 0 ≤ y) (y1 : y ≤ 999) (n : Int) (ht : Names w) :
    Calls Tryd.prog 3 #[.agg #[.int .i64 2, .int .i64 3, .int .i64 y], .int .i64 n] w fun e w' => e = .returned (.bool true) ∧ Below w.heap.size w w' := by
  have A0 := Lib.hid (One.new w 2 3 y 25)
  have T := Lib.hid ht
  have HR : Hid (rightB 2 3 y = true) := Lib.hid ((right_iff 2 3 y).2 (by omega))
  have PP : ∀ u, Calls Tryd.prog 7 #[.agg #[.int .i64 2, .int .i64 3, .int .i64 y]] u fun e w' => e = .returned (.agg #[.int .i64 (y % 4), .int .i64 y]) ∧ Below u.heap.size u w' := fun u => place_any u 2 3 y y0 y1
  have PL : ∀ u, Calls Tryd.prog 8 #[.agg #[.int .i64 2, .int .i64 3, .int .i64 y]] u fun e w' => e = .returned (.bool false) ∧ Below u.heap.size u w' := fun u => links_any u 2 3 y
  have PM : ∀ u, Calls Tryd.prog 9 #[.agg #[.int .i64 2, .int .i64 3, .int .i64 y]] u fun e w' => e = .returned (.bool false) ∧ Below u.heap.size u w' := fun u => marks_any u 2 3 y
  have PO : ∀ u, Calls Tryd.prog 10 #[.agg #[.int .i64 2, .int .i64 3, .int .i64 y]] u fun e w' => e = .returned (.bool false) ∧ Below u.heap.size u w' := fun u => pops_any u 2 3 y
  clear ht
  go_enter Tryd.func3, Tryd.ntmps3
  go_upto_block 0 with (go_at_call 4; refine (awake_any _).mono ?_; rintro e w1 ⟨rfl, hb1⟩; have A1 := Lib.hid (A0.out.next hb1); clear hb1; obtain ⟨c0, c1, c2, -, -⟩ := id A1.out)
  go_cut [5] (fun v wx => v = .string (nameOf n) ∧ wx = w1)
  case first =>
    go_wp2_with fail
    all_goals
      go_meet
      refine ⟨?_, rfl⟩
      first
        | exact name1 (by assumption)
        | exact name2 (by assumption)
        | exact name3 (by assumption)
        | exact name4 (by assumption)
        | exact name5 (by assumption)
        | exact name0 (by assumption) (by assumption) (by assumption) (by assumption) (by assumption)
  case rest =>
    obtain ⟨rfl, rfl⟩ := hcut
    go_wp2_with (first
      | (go_at_call 5; refine (name_any _ n (T.out.below A1.out.below)).mono ?_; rintro e w2 ⟨rfl, hb2⟩; have A2 := Lib.hid (A1.out.next hb2); clear hb2; obtain ⟨d0, d1, d2, -, -⟩ := id A2.out)
      | (go_at_call 6; refine (may_any _ 2 3 y).mono ?_; rw [HR.out]; rintro e w3 ⟨rfl, hb3⟩; have A3 := Lib.hid (A2.out.next hb3); clear hb3; obtain ⟨e0, e1, e2, el, -⟩ := id A3.out))
    have hG : Gl w (w3.alloc (.cells #[.int .i64 (y % 4), .int .i64 y] 30)) w3.heap.size 2 3 y (y % 4) y := ⟨A3.out.alloc' _, by go_simp, by go_simp, by simp⟩
    refine quiet.region (C := fun wx => Gl w wx w3.heap.size 2 3 y (y % 4) y) hG.drew (by kernel_rfl) (by kernel_rfl) ?_
    clear hG
    repeat (first
      | go_big_quiet_skip
      | (go_big_quiet_want; go_big_quiet_op; go_big_quiet_on)
      | (refine BigFrame.wpQuiet_want (by rfl) (fun K hK => ?_)
         apply Exists.intro
         refine ⟨fun wx hwx => ?_, hK _ ?_⟩
         · have hx := Gl.cells hwx
           go_split_ands
           go_simp
           first | rfl | exact quiet.call (PP _) (fun _ hb => Gl.next hwx hb) | exact quiet.call (PL _) (fun _ hb => Gl.next hwx hb) | exact quiet.call (PM _) (fun _ hb => Gl.next hwx hb) | exact quiet.call (PO _) (fun _ hb => Gl.next hwx hb)
         clear hK K
         simp only [Act.put, List.setIfInBounds_toArray, List.set_cons_zero, List.set_cons_succ]))
    refine wpQuiet_nil ?_
    intro w6 hq6
    go_wp2
    go_returns
    exact ⟨rfl, hq6.one.below⟩

end Go.Proofs.YtipappihophijaaDoor.task
