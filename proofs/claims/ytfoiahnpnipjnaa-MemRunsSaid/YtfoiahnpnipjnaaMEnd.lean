/- One machine is run to its end, or as long as there are steps left. -/
import Derived.Test.YtfoiahnpnipjnaaMStep
namespace Go.Proofs.Ytfoiahnpnipjnaa.mem
open Go.RowKit

theorem recover_idle (w : World) :
    CallsD Try.prog 47 #[] .returning w fun e u' w' => e = .returned (.tuple #[]) ∧ u' = .returning ∧ w' = w := by
  refine callsD_of_wpS Try.func47 rfl fun c₀ cs hu => ?_
  apply wpS_region
  simp [wpOpsS, go_sem, recoverD, hu, Try.ntmps47]
  cases c₀
  simp_all [bodyPostS, results, Try.results47]

/-- What a machine's run says. -/
def EndsAt (w : World) (X Y C : Nat) (s L J : Int) (b : Bool) (e : Ending) (w' : World) : Prop := e = .returned (.tuple #[.int .i64 J, .bool b]) ∧ Ran w X Y C (s + J) (L - J) w'

theorem ends_mk {w w' : World} {X Y C j : Nat} {s L J : Int} {b c : Bool} (hr : Ran w X Y C (s + j) (L - j) w') (hJ : (j : Int) = J) (hc : c = b) : EndsAt w X Y C s L J b (.returned (.tuple #[.int .i64 j, .bool c])) w' := by
  subst hJ hc
  exact ⟨rfl, hr⟩

set_option maxHeartbeats 2000000 in
theorem toEnd_any (w : World) (X Y C : Nat) (s L most J : Int) (b : Bool) (hs : RunSt w X Y s) (hb : Box w C (cnt L) 55) (cx : C ≠ X) (cy : C ≠ Y) (s0 : 0 ≤ s) (s1 : s ≤ 10000) (l0 : 1 ≤ L) (l1 : L ≤ 1000) (hJ : J = min L (max most 0)) (hB : b = decide (L ≤ most)) :
    Calls Try.prog 45 #[.pointer (some ⟨X, 0, none⟩), .int .i64 most, .iface 53 (.pointer (some ⟨C, 0, none⟩))] w (EndsAt w X Y C s L J b) := by
  have HS := Lib.hid hs
  have HX := Lib.hid hb
  have HJ := Lib.hid hJ
  have HB := Lib.hid hB
  clear hs hb hJ hB
  go_enter_defers Try.func45, Try.ntmps45
  go_wp2
  have hst : Ran w X Y C (s + (0 : Nat)) (L - (0 : Nat)) w := by
    have e1 : s + ((0 : Nat) : Int) = s := by omega
    have e2 : L - ((0 : Nat) : Int) = L := by omega
    rw [e1, e2]
    exact ⟨HS.out, HX.out, Apart3.refl w⟩
  go_loopw [6, 7] (fun i e wr => ∃ j : Nat, (j : Int) ≤ L ∧ (j : Int) ≤ max most 0 ∧ i = .int .i64 j ∧ e = .bool (decide (L - j ≤ 0)) ∧ Ran w X Y C (s + j) (L - j) wr) (fun i _ _ => L.toNat - (intOf i).toNat)
  case atStart => exact ⟨0, by omega, by omega, rfl, by have : decide (L - ((0 : Nat) : Int) ≤ 0) = false := by simp; omega
                                                        rw [this], hst⟩
  case round =>
    clear hst
    obtain ⟨j, hj, hjm, rfl, rfl, hr⟩ := hrel
    have HR := Lib.hid hr
    clear hr
    by_cases hL : (j : Int) < L
    · have hd : decide (L - (j : Int) ≤ 0) = false := by simp; omega
      by_cases hm : (j : Int) < most
      · have hdm : decide ((j : Int) < most) = true := by simpa using hm
        rw [hd]
        clear hd hjm
        go_wp2_with (go_at_call 63; refine (step_any _ X Y C (s + j) (L - j) HR.out.st HR.out.box cx cy (by omega) (by omega) (by omega) (by omega)).mono ?_; rintro e w1 ⟨rfl, hr1⟩; have HR1 := Lib.hid hr1; clear hr1)
        go_roundw
        case rel =>
          have e1 : s + ((j + 1 : Nat) : Int) = s + j + 1 := by omega
          have e2 : L - ((j + 1 : Nat) : Int) = L - j - 1 := by omega
          exact ⟨j + 1, by omega, by omega, by go_num, by rw [e2], by rw [e1, e2]; exact ⟨HR1.out.st, HR1.out.box, HR.out.apart.trans HR1.out.apart⟩⟩
        case measure => simp [intOf]; omega
      · have hdm : decide ((j : Int) < most) = false := by simpa using hm
        rw [hd]
        clear hd
        go_wp2
        refine leaves_cons (f := 47) (args := #[]) (by simp) (by simp [go_sem]) ?_
        refine (recover_idle _).mono ?_
        rintro e u' w'' ⟨rfl, rfl, rfl⟩
        simp [Leaves, settle, results, Try.results45, go_sem]
        exact ends_mk HR.out (by have := HJ.out; omega) (by rw [HB.out]; symm; apply decide_eq_false; omega)
    · have hd : decide (L - (j : Int) ≤ 0) = true := by simp; omega
      rw [hd]
      clear hd
      go_wp2
      refine leaves_cons (f := 47) (args := #[]) (by simp) (by simp [go_sem]) ?_
      refine (recover_idle _).mono ?_
      rintro e u' w'' ⟨rfl, rfl, rfl⟩
      simp [Leaves, settle, results, Try.results45, go_sem]
      exact ends_mk HR.out (by have := HJ.out; omega) (by rw [HB.out]; symm; apply decide_eq_true; omega)
end Go.Proofs.Ytfoiahnpnipjnaa.mem
