/- The law MemPlays, where nothing is played: too much was handed in, or it is refused. -/
import Derived.Test.YtfoiahnpnipjnaaMPlay
namespace Go.Proofs.Ytfoiahnpnipjnaa.mem
open Go.RowKit

set_option maxRecDepth 100000 in
set_option maxHeartbeats 1000000 in
theorem plays_words (w : World) (t n : Int) (a o : Option Addr) (N cap M capo : Nat) (hl : 800 < (N : Int)) :
    Calls Try.prog 3 #[.agg (layCells t n), .slice a N cap, .slice o M capo] w fun e w' => e = .returned (.bool true) ∧ Below w.heap.size w w' := by
  have hd : decide (800 < (N : Int)) = true := by simpa using hl
  have P0 := Lib.hid (Pre.one w (layCells t n) 23)
  go_enter Try.func3, Try.ntmps3
  go_wp2_with (go_at_call 9; refine (awake_any _).mono ?_; rintro e w1 ⟨rfl, hb⟩; have T := Lib.hid (P0.out.next hb); clear P0 hb; have P0 := T; clear T)
  go_returns
  exact ⟨rfl, P0.out.below⟩
set_option maxRecDepth 100000 in
set_option maxHeartbeats 1000000 in
theorem plays_ops (w : World) (t n : Int) (a o : Option Addr) (N cap M capo : Nat) (hl : (N : Int) ≤ 800) (hm : 200 < (M : Int)) :
    Calls Try.prog 3 #[.agg (layCells t n), .slice a N cap, .slice o M capo] w fun e w' => e = .returned (.bool true) ∧ Below w.heap.size w w' := by
  have hd : decide (800 < (N : Int)) = false := by simp; omega
  have P0 := Lib.hid (Pre.one w (layCells t n) 23)
  go_enter Try.func3, Try.ntmps3
  go_wp2_with (go_at_call 9; refine (awake_any _).mono ?_; rintro e w1 ⟨rfl, hb⟩; have T := Lib.hid (P0.out.next hb); clear P0 hb; have P0 := T; clear T)
  go_returns
  exact ⟨rfl, P0.out.below⟩

/-- How many words a layout has. -/
theorem size_nat {t n : Int} (t0 : 1 ≤ t) (n0 : 1 ≤ n) : ∃ z : Nat, (z : Int) = 2 * n + 6 + 5 * t := ⟨(2 * n + 6 + 5 * t).toNat, by omega⟩

set_option maxRecDepth 100000 in
set_option maxHeartbeats 2000000 in
theorem plays_wrong (w : World) (t n : Int) (a o : Option Addr) (N cap M capo : Nat) (hl : (N : Int) ≤ 800) (hm : (M : Int) ≤ 200) (h : ¬ (1 ≤ t ∧ t ≤ 8 ∧ 1 ≤ n ∧ n ≤ 200)) :
    Calls Try.prog 3 #[.agg (layCells t n), .slice a N cap, .slice o M capo] w fun e w' => e = .returned (.bool true) ∧ Below w.heap.size w w' := by
  have hd : decide (800 < (N : Int)) = false := by simp; omega
  have HH := Lib.hid h
  have HR := Lib.hid (rightB_no h)
  have hw : (decide (t < 1) = true) ∨ (decide (t < 1) = false ∧ decide (8 < t) = true) ∨ (decide (t < 1) = false ∧ decide (8 < t) = false ∧ decide (n < 1) = true) ∨ (decide (t < 1) = false ∧ decide (8 < t) = false ∧ decide (n < 1) = false ∧ decide (200 < n) = true) := by simp; omega
  have P0 := Lib.hid (Pre.one w (layCells t n) 23)
  clear h
  rcases hw with h1 | ⟨h1, h2⟩ | ⟨h1, h2, h3⟩ | ⟨h1, h2, h3, h4⟩
  all_goals
    go_enter Try.func3, Try.ntmps3
    go_wp2_with (first
      | (go_at_call 9; refine (awake_any _).mono ?_; rintro e w1 ⟨rfl, hb⟩; have T := Lib.hid (P0.out.next hb); clear P0 hb; have P0 := T; clear T; have a0 := P0.out.op1.at 0 rfl; have a1 := P0.out.op1.at 1 rfl)
      | (go_at_call 10; refine (new_wrong _ t n a N cap HH.out).mono ?_; rintro e w2 ⟨rfl, hb⟩; have T := Lib.hid (P0.out.next hb); clear P0 hb; have P0 := T; clear T; have a0 := P0.out.op1.at 0 rfl; have a1 := P0.out.op1.at 1 rfl)
      | (go_at_call 11; refine (Right_any _ t n).mono ?_; rintro e w3 ⟨rfl, hb⟩; rw [HR.out]; have T := Lib.hid (P0.out.next hb); clear P0 hb; have P0 := T; clear T))
    go_returns
    exact ⟨rfl, P0.out.below⟩

set_option maxRecDepth 100000 in
set_option maxHeartbeats 2000000 in
theorem plays_long (w : World) (t n : Int) (a o : Option Addr) (N cap M capo z : Nat) (ez : n * 2 + 4 + t * 5 + 2 = (z : Int)) (hl : (N : Int) ≤ 800) (hm : (M : Int) ≤ 200) (t0 : 1 ≤ t) (t1 : t ≤ 8) (n0 : 1 ≤ n) (n1 : n ≤ 200) (hz : (z : Int) < (N : Int)) :
    Calls Try.prog 3 #[.agg (layCells t n), .slice a N cap, .slice o M capo] w fun e w' => e = .returned (.bool true) ∧ Below w.heap.size w w' := by
  have hd : decide (800 < (N : Int)) = false := by simp; omega
  have d1 : decide (t < 1) = false := by simp; omega
  have d2 : decide (8 < t) = false := by simp; omega
  have d3 : decide (n < 1) = false := by simp; omega
  have d4 : decide (200 < n) = false := by simp; omega
  have HZ : Hid (2 * n + 6 + 5 * t = (z : Int)) := by unfold Hid; omega
  have HR := Lib.hid (rightB_yes ⟨t0, t1, n0, n1⟩)
  have P0 := Lib.hid (Pre.one w (layCells t n) 23)
  go_enter Try.func3, Try.ntmps3
  go_wp2_with (first
    | (go_at_call 9; refine (awake_any _).mono ?_; rintro e w1 ⟨rfl, hb⟩; have T := Lib.hid (P0.out.next hb); clear P0 hb; have P0 := T; clear T; have a0 := P0.out.op1.at 0 rfl; have a1 := P0.out.op1.at 1 rfl)
    | (go_at_call 10; refine (new_long _ t n a N cap t0 t1 n0 n1 (by rw [HZ.out]; exact hz)).mono ?_; rintro e w2 ⟨rfl, hb⟩; have T := Lib.hid (P0.out.next hb); clear P0 hb; have P0 := T; clear T; have a0 := P0.out.op1.at 0 rfl; have a1 := P0.out.op1.at 1 rfl)
    | (go_at_call 11; refine (Right_any _ t n).mono ?_; rintro e w3 ⟨rfl, hb⟩; rw [HR.out]; have T := Lib.hid (P0.out.next hb); clear P0 hb; have P0 := T; clear T; have a0 := P0.out.op1.at 0 rfl; have a1 := P0.out.op1.at 1 rfl)
    | (go_at_call 12; refine (Size_any _ t n (by omega) (by omega) (by omega) (by omega)).mono ?_; rintro e w4 ⟨rfl, hb⟩; rw [HZ.out]; have T := Lib.hid (P0.out.next hb); clear P0 hb; have P0 := T; clear T))
  go_returns
  exact ⟨rfl, P0.out.below⟩
end Go.Proofs.Ytfoiahnpnipjnaa.mem
