/- One machine that scans is run to its end, by what its steps do. -/
import Derived.Test.YtnphnhafifaaoaaL1
namespace Go.Proofs.Ytnphnhafifaaoaa.guard
open Go.RowKit mem life

section
variable (w : World) (X C : Nat) (most : Int) (L : Nat) (R : Nat → World → Prop) (l0 : 1 ≤ L) (l1 : (L : Int) ≤ most) (m1 : most ≤ 100000) (h0 : R 0 w)
include l0 l1 m1 h0
set_option maxHeartbeats 2000000 in
theorem toEnd_scan (hstep : ∀ j w, j < L → R j w → Calls Try.prog 22 #[.pointer (some ⟨C, 0, none⟩), .pointer (some ⟨X, 0, none⟩)] w fun e w' => e = .returned (.bool (decide (j + 1 = L))) ∧ R (j + 1) w') :
    Calls Try.prog 36 #[.pointer (some ⟨X, 0, none⟩), .int .i64 most, .iface 40 (.pointer (some ⟨C, 0, none⟩))] w (Ended L R) := by
  have HS := Lib.hid hstep
  have H0 := Lib.hid h0
  clear hstep h0
  go_enter_defers Try.func36, Try.ntmps36
  go_wp2
  go_loopw [6, 7] (fun i e wr => ∃ j : Nat, j ≤ L ∧ i = .int .i64 j ∧ e = .bool (decide (j = L)) ∧ R j wr) (fun i _ _ => L - (intOf i).toNat)
  case atStart => exact ⟨0, by omega, rfl, by have : decide (0 = L) = false := by simp; omega
                                              rw [this], H0.out⟩
  case round =>
    clear H0
    obtain ⟨j, hj, rfl, rfl, hr⟩ := hrel
    have HR := Lib.hid hr
    clear hr
    by_cases hL : j < L
    · have hd : decide (j = L) = false := by simp; omega
      have hdm : decide ((j : Int) < most) = true := by simp; omega
      rw [hd]
      clear hd
      go_wp2_with (go_at_call 22; refine (HS.out j _ hL HR.out).mono ?_; rintro e w1 ⟨rfl, hr1⟩; have HR1 := Lib.hid hr1; clear hr1)
      go_roundw
      case rel => exact ⟨j + 1, by omega, by go_num, rfl, HR1.out⟩
      case measure => simp [intOf]; omega
    · obtain rfl : j = L := by omega
      have hd : decide (j = j) = true := by simp
      rw [hd]
      clear hd
      go_wp2
      refine leaves_cons (f := 50) (args := #[]) (by simp) (by simp [go_sem]) ?_
      refine (recover_idle _).mono ?_
      rintro e u' w'' ⟨rfl, rfl, rfl⟩
      simp [Leaves, settle, results, Try.results36, go_sem]
      exact ⟨rfl, HR.out⟩
set_option maxHeartbeats 2000000 in
theorem run_scan (g : Nat) (hc : w.cell? ⟨g, 0, none⟩ = some (.iface 40 (.pointer (some ⟨C, 0, none⟩)))) (hstep : ∀ j w, j < L → R j w → Calls Try.prog 22 #[.pointer (some ⟨C, 0, none⟩), .pointer (some ⟨X, 0, none⟩)] w fun e w' => e = .returned (.bool (decide (j + 1 = L))) ∧ R (j + 1) w') :
    Calls Try.prog 17 #[.pointer (some ⟨X, 0, none⟩), .int .i64 most, .slice (some ⟨g, 0, none⟩) 1 1] w (Ended L R) := by
  have HS := Lib.hid hstep
  have H0 := Lib.hid h0
  clear hstep h0
  go_enter Try.func17, Try.ntmps17
  go_wp2
  go_loopw [8, 15] (fun s i wr => (i = .int .i64 0 ∧ s = .int .i64 0 ∧ wr = w) ∨ (i = .int .i64 1 ∧ s = .int .i64 L ∧ R L wr)) (fun _ i _ => 1 - (intOf i).toNat)
  case atStart => exact Or.inl ⟨rfl, rfl, rfl⟩
  case round =>
    rcases hrel with ⟨rfl, rfl, rfl⟩ | ⟨rfl, rfl, hr⟩
    · go_wp2_with (go_at_call 36; refine (toEnd_scan _ X C _ L R l0 l1 m1 H0.out HS.out).mono ?_; rintro e w1 ⟨rfl, hr1⟩; have HR1 := Lib.hid hr1; clear hr1)
      go_roundw
      case rel => exact Or.inr ⟨rfl, rfl, HR1.out⟩
      case measure => simp [intOf]
    · have HR := Lib.hid hr
      clear hr
      go_wp2
      go_returns
      exact ⟨rfl, HR.out⟩
end
end Go.Proofs.Ytnphnhafifaaoaa.guard
/- One machine that drops is run to its end, by what its steps do. -/
namespace Go.Proofs.Ytnphnhafifaaoaa.guard
open Go.RowKit mem life

section
variable (w : World) (X C : Nat) (most : Int) (L : Nat) (R : Nat → World → Prop) (l0 : 1 ≤ L) (l1 : (L : Int) ≤ most) (m1 : most ≤ 100000) (h0 : R 0 w)
include l0 l1 m1 h0
set_option maxHeartbeats 2000000 in
theorem toEnd_drop (hstep : ∀ j w, j < L → R j w → Calls Try.prog 77 #[.pointer (some ⟨C, 0, none⟩), .pointer (some ⟨X, 0, none⟩)] w fun e w' => e = .returned (.bool (decide (j + 1 = L))) ∧ R (j + 1) w') :
    Calls Try.prog 36 #[.pointer (some ⟨X, 0, none⟩), .int .i64 most, .iface 52 (.pointer (some ⟨C, 0, none⟩))] w (Ended L R) := by
  have HS := Lib.hid hstep
  have H0 := Lib.hid h0
  clear hstep h0
  go_enter_defers Try.func36, Try.ntmps36
  go_wp2
  go_loopw [6, 7] (fun i e wr => ∃ j : Nat, j ≤ L ∧ i = .int .i64 j ∧ e = .bool (decide (j = L)) ∧ R j wr) (fun i _ _ => L - (intOf i).toNat)
  case atStart => exact ⟨0, by omega, rfl, by have : decide (0 = L) = false := by simp; omega
                                              rw [this], H0.out⟩
  case round =>
    clear H0
    obtain ⟨j, hj, rfl, rfl, hr⟩ := hrel
    have HR := Lib.hid hr
    clear hr
    by_cases hL : j < L
    · have hd : decide (j = L) = false := by simp; omega
      have hdm : decide ((j : Int) < most) = true := by simp; omega
      rw [hd]
      clear hd
      go_wp2_with (go_at_call 77; refine (HS.out j _ hL HR.out).mono ?_; rintro e w1 ⟨rfl, hr1⟩; have HR1 := Lib.hid hr1; clear hr1)
      go_roundw
      case rel => exact ⟨j + 1, by omega, by go_num, rfl, HR1.out⟩
      case measure => simp [intOf]; omega
    · obtain rfl : j = L := by omega
      have hd : decide (j = j) = true := by simp
      rw [hd]
      clear hd
      go_wp2
      refine leaves_cons (f := 50) (args := #[]) (by simp) (by simp [go_sem]) ?_
      refine (recover_idle _).mono ?_
      rintro e u' w'' ⟨rfl, rfl, rfl⟩
      simp [Leaves, settle, results, Try.results36, go_sem]
      exact ⟨rfl, HR.out⟩
set_option maxHeartbeats 2000000 in
theorem run_drop (g : Nat) (hc : w.cell? ⟨g, 0, none⟩ = some (.iface 52 (.pointer (some ⟨C, 0, none⟩)))) (hstep : ∀ j w, j < L → R j w → Calls Try.prog 77 #[.pointer (some ⟨C, 0, none⟩), .pointer (some ⟨X, 0, none⟩)] w fun e w' => e = .returned (.bool (decide (j + 1 = L))) ∧ R (j + 1) w') :
    Calls Try.prog 17 #[.pointer (some ⟨X, 0, none⟩), .int .i64 most, .slice (some ⟨g, 0, none⟩) 1 1] w (Ended L R) := by
  have HS := Lib.hid hstep
  have H0 := Lib.hid h0
  clear hstep h0
  go_enter Try.func17, Try.ntmps17
  go_wp2
  go_loopw [8, 15] (fun s i wr => (i = .int .i64 0 ∧ s = .int .i64 0 ∧ wr = w) ∨ (i = .int .i64 1 ∧ s = .int .i64 L ∧ R L wr)) (fun _ i _ => 1 - (intOf i).toNat)
  case atStart => exact Or.inl ⟨rfl, rfl, rfl⟩
  case round =>
    rcases hrel with ⟨rfl, rfl, rfl⟩ | ⟨rfl, rfl, hr⟩
    · go_wp2_with (go_at_call 36; refine (toEnd_drop _ X C _ L R l0 l1 m1 H0.out HS.out).mono ?_; rintro e w1 ⟨rfl, hr1⟩; have HR1 := Lib.hid hr1; clear hr1)
      go_roundw
      case rel => exact Or.inr ⟨rfl, rfl, HR1.out⟩
      case measure => simp [intOf]
    · have HR := Lib.hid hr
      clear hr
      go_wp2
      go_returns
      exact ⟨rfl, HR.out⟩
end
end Go.Proofs.Ytnphnhafifaaoaa.guard
