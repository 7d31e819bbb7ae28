/- The law MemCopies answers true at any words and any operation. -/
import Derived.Test.YtfoiahnpnipjnaaMDuo
import Derived.Test.YtfoiahnpnipjnaaMOnce
namespace Go.Proofs.Ytfoiahnpnipjnaa.mem
open Go.RowKit
attribute [local go_sem] eq_lay eq_act

set_option maxHeartbeats 1000000 in
theorem copies_long (w : World) (K A Old X : Int) (a : Option Addr) (N cap : Nat) (hl : 30 < (N : Int)) :
    Calls Try.prog 5 #[.slice a N cap, .agg (opCells K A Old X)] w fun e w' => e = .returned (.bool true) ∧ Below w.heap.size w w' := by
  have P0 := Lib.hid (Pre.one w (opCells K A Old X) 34)
  go_enter Try.func5, Try.ntmps5
  go_wp2_with (go_at_call 9; refine (awake_any _).mono ?_; rintro e w1 ⟨rfl, hb⟩; have T := Lib.hid (P0.out.next hb); clear P0 hb; have P0 := T; clear T)
  go_returns
  exact ⟨rfl, P0.out.below⟩

set_option maxRecDepth 100000 in
set_option maxHeartbeats 4000000 in
theorem copies_short (w : World) (K A Old X : Int) (a : Option Addr) (ws : List Int) (N cap : Nat) (hN : ws.length = N) (hl : (N : Int) ≤ 30) (hw : Words w a ws) :
    Calls Try.prog 5 #[.slice a N cap, .agg (opCells K A Old X)] w fun e w' => e = .returned (.bool true) ∧ Below w.heap.size w w' := by
  have P0 := Lib.hid (Pre.one w (opCells K A Old X) 34)
  have HW := Lib.hid hw
  have HN := Lib.hid hN
  have HL : Hid ((padTo 56 ws).length = 56) := padTo_length (by omega)
  have e31 := and31 A
  clear hw hN
  go_enter Try.func5, Try.ntmps5
  go_wp2_with (first
    | (go_at_call 9; refine (awake_any _).mono ?_; rintro e w1 ⟨rfl, hb⟩; have T := Lib.hid (P0.out.next hb); clear P0 hb; have P0 := T; clear T)
    | (go_at_call 10; refine (new_ok _ 2 20 a ws N cap 56 HN.out (by omega) (by omega) (by omega) (by omega) (by omega) (by omega) (HW.out.later (P0.out.alloc _).below)).mono ?_; rintro e w2 ⟨X1, Y1, rfl, hm⟩; have S0 := Lib.hid (Solo.made (P0.out.alloc (.cells (layCells 2 20) 23)) hm); clear hm P0)
    | (go_at_call 29; refine (copy_any S0.out.mem 56 HL.out (by omega) (by omega)).mono ?_; rintro e w3 ⟨X2, Y2, rfl, hm⟩; have D0 := Lib.hid (Duo.made S0.out hm); clear hm S0)
    | (go_at_call 30; refine (same_is D0.out.two.mem D0.out.one.mem 56 true HL.out HL.out (by omega) (by simp)).mono ?_; rintro e w4 ⟨rfl, hb⟩; have D1 := Lib.hid (D0.out.next hb); clear D0 hb)
    | (go_at_call 30; refine (same_is D1.out.one.mem D1.out.two.mem 56 true HL.out HL.out (by omega) (by simp)).mono ?_; rintro e w4 ⟨rfl, hb⟩; have D2 := Lib.hid (D1.out.next hb); clear D1 hb; have o0 := D2.out.one.pre.op1.at 0 rfl; have o1 := D2.out.one.pre.op1.at 1 rfl; have o2 := D2.out.one.pre.op1.at 2 rfl; have o3 := D2.out.one.pre.op1.at 3 rfl)
    | (go_at_call 19; refine (Peek_any D2.out.one.mem (A % 32)).mono ?_; rintro e w5 ⟨rfl, rfl⟩)
    | (go_at_call 14; refine (Store_any D2.out.two.mem (A % 32) X (by omega) (by omega)).mono ?_; rintro e w6 ⟨rfl, hm, ha⟩; have D3 := Lib.hid (D2.out.act2 hm ha); clear D2 hm ha))
  have HI : Hid (inB (padTo 56 ws) (A % 32) = true) := by unfold Hid inB; rw [HL.out]; simp; omega
  obtain ⟨q, hq⟩ : ∃ q, (X == wordAt (padTo 56 ws) (A % 32)) = q := ⟨_, rfl⟩
  have HQ : Hid (decide (setAt (padTo 56 ws) (A % 32) X = padTo 56 ws) = q) := by rw [← hq]; exact setAt_eq _ _ _ HI.out
  have HY : Hid ((setAt (padTo 56 ws) (A % 32) X).length = 56) := (setAt_length _ _ _).trans HL.out
  have HV : Hid (wordAt (padTo 56 ws) (A % 32) = wordAt (padTo 56 ws) (A % 32)) := rfl
  clear o0 o1 o2 o3 e31 HI
  generalize hv : wordAt (padTo 56 ws) (A % 32) = V at *
  have HP := Lib.hid hv
  clear hv HV
  generalize A % 32 = B at *
  refine quiet.region (C := fun wx => Below w6.heap.size w6 wx) ((Below.refl _ _).drew) (by kernel_rfl) (by kernel_rfl) ?_
  repeat (first
    | go_big_quiet_skip
    | (go_big_quiet_want; go_big_quiet_op; go_big_quiet_on)
    | (go_big_quiet_want; go_big_quiet_op; refine ⟨_, fun _ _ => rfl, ?_⟩; go_big_quiet_on)
    | (go_big_quiet_want; go_big_quiet_op; refine ⟨.int .u64 X, fun wx hwx => (by rw [(D3.out.one.pre.op1.below hwx).at 3 rfl]; exact ⟨rfl, rfl⟩), ?_⟩; go_big_quiet_on)
    | (go_big_quiet_want; go_big_quiet_op; apply Exists.intro; refine ⟨fun wx hwx => ?_, ?_⟩; (first | (go_at_call 19; exact still (peek_is (D3.out.one.mem.below hwx) B V HP.out) hwx) | (go_at_call 30; exact quiet.call (same_is (D3.out.two.mem.below hwx) (D3.out.one.mem.below hwx) 56 q HY.out HL.out (by omega) HQ.out) (fun _ hb => past hwx hb)) | (go_at_call 17; first | exact still (actions_any (D3.out.one.mem.below hwx)) hwx | exact still (actions_any (D3.out.two.mem.below hwx)) hwx)); go_big_quiet_on))
  refine wpQuiet_nil ?_
  intro w7 hq7
  have D4 := Lib.hid (D3.out.next hq7)
  clear hq7 D3
  go_wp2_with (first
    | (go_at_call 10; refine (new_ok _ 2 21 none [] 0 0 58 rfl (by omega) (by omega) (by omega) (by omega) (by omega) (by omega) (Words.none _)).mono ?_; rintro e w8 ⟨X3, Y3, rfl, hm⟩; have D5 := Lib.hid (D4.out.next hm.below); have M5 := Lib.hid hm.mem; clear hm D4)
    | (go_at_call 14; refine (store_nil 1 1).mono ?_; rintro e w9 ⟨rfl, hb⟩; have T := Lib.hid (D5.out.next hb); have M6 := Lib.hid (M5.out.below hb); clear D5 hb M5; have D5 := T; clear T)
    | (go_at_call 30; refine (same_other D5.out.one.mem M6.out).mono ?_; rintro e w9 ⟨rfl, hb⟩; have T := Lib.hid (D5.out.next hb); clear D5 hb M6; have D5 := T; clear T)
    | (go_at_call 13; refine (load_nil 1).mono ?_; rintro e w9 ⟨rfl, hb⟩; have T := Lib.hid (D5.out.next hb); clear D5 hb; have D5 := T; clear T)
    | (go_at_call 16; refine (add_nil 1 1).mono ?_; rintro e w9 ⟨rfl, hb⟩; have T := Lib.hid (D5.out.next hb); clear D5 hb; have D5 := T; clear T)
    | (go_at_call 19; refine (peek_nil 1).mono ?_; rintro e w9 ⟨rfl, rfl⟩)
    | (go_at_call 15; refine (cas_nil 1 0 1).mono ?_; rintro e w9 ⟨rfl, hb⟩; have T := Lib.hid (D5.out.next hb); clear D5 hb; have D5 := T; clear T)
    | (go_at_call 17; refine (actions_nil).mono ?_; rintro e w9 ⟨rfl, rfl⟩)
    | (go_at_call 18; refine (last_nil).mono ?_; rintro e w9 ⟨rfl, hb⟩; have T := Lib.hid (D5.out.next hb); clear D5 hb; have D5 := T; clear T)
    | (go_at_call 29; refine (copy_nil _).mono ?_; rintro e w9 ⟨rfl, rfl⟩)
    | (go_at_call 30; with_reducible refine (same_nil _).mono ?_; rintro e w9 ⟨rfl, rfl⟩)
    | (go_at_call 30; with_reducible refine (same_nil_some _ X1).mono ?_; rintro e w9 ⟨rfl, rfl⟩))
  go_returns
  exact ⟨rfl, D5.out.one.pre.below⟩

theorem copies_any (w : World) (K A Old X : Int) (a : Option Addr) (ws : List Int) (N cap : Nat) (hN : ws.length = N) (hw : Words w a ws) :
    Calls Try.prog 5 #[.slice a N cap, .agg (opCells K A Old X)] w fun e w' => e = .returned (.bool true) ∧ Below w.heap.size w w' := by
  by_cases hl : (N : Int) ≤ 30
  · exact copies_short w K A Old X a ws N cap hN hl hw
  · exact copies_long w K A Old X a N cap (by omega)
end Go.Proofs.Ytfoiahnpnipjnaa.mem
