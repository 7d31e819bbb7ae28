/- Which addresses there are; a word without an action; how many actions there were; the last one. -/
import Derived.Test.YtglkpajnhdamkaaMBase
namespace Go.Proofs.Ytglkpajnhdamkaa.mem
open Go.RowKit

section
variable {w : World} {X Y : Nat} {t n k : Int} {zs : List Int} {l : Last}

theorem has_in (hm : MemAt w X Y t n zs k l) (a : Nat) (ha : a < zs.length) :
    Calls Try.prog 25 #[.pointer (some ⟨X, 0, none⟩), .int .i64 a] w fun e w' => e = .returned (.bool true) ∧ w = w' := by
  obtain ⟨cp, c0, c1, c2, c3, c4, c5, c6, c7, c8, fx, fy, hx, hy, ne, en⟩ := hm.row
  clear hm
  go_enter Try.func25, Try.ntmps25
  go_wp2
  go_returns
  exact ⟨rfl, rfl⟩
theorem has_neg (p : Option Addr) (a : Int) (ha : decide (0 ≤ a) = false) :
    Calls Try.prog 25 #[.pointer p, .int .i64 a] w fun e w' => e = .returned (.bool false) ∧ w = w' := by
  cases p
  all_goals
    go_enter Try.func25, Try.ntmps25
    go_wp2
    go_returns
    exact ⟨rfl, rfl⟩
theorem has_nil (a : Int) :
    Calls Try.prog 25 #[.pointer none, .int .i64 a] w fun e w' => e = .returned (.bool false) ∧ w = w' := by
  go_enter Try.func25, Try.ntmps25
  go_wp2
  go_returns
  exact ⟨rfl, rfl⟩
theorem has_past (hm : MemAt w X Y t n zs k l) (a : Int) (ha : (zs.length : Int) ≤ a) :
    Calls Try.prog 25 #[.pointer (some ⟨X, 0, none⟩), .int .i64 a] w fun e w' => e = .returned (.bool false) ∧ w = w' := by
  obtain ⟨cp, c0, c1, c2, c3, c4, c5, c6, c7, c8, fx, fy, hx, hy, ne, en⟩ := hm.row
  clear hm
  have h0 : decide (0 ≤ a) = true := by simp; omega
  go_enter Try.func25, Try.ntmps25
  go_wp2
  go_returns
  exact ⟨ret_bool (by simp; omega), rfl⟩
theorem has_out (hm : MemAt w X Y t n zs k l) (a : Int) (ha : ¬ (0 ≤ a ∧ a < zs.length)) :
    Calls Try.prog 25 #[.pointer (some ⟨X, 0, none⟩), .int .i64 a] w fun e w' => e = .returned (.bool false) ∧ w = w' := by
  by_cases h0 : 0 ≤ a
  · exact has_past hm a (by omega)
  · exact has_neg _ a (by simpa using h0)

theorem peek_in (hm : MemAt w X Y t n zs k l) (a : Nat) (z : Int) (ha : a < zs.length) (hz : zs.getD a 0 = z) :
    Calls Try.prog 10 #[.pointer (some ⟨X, 0, none⟩), .int .i64 a] w fun e w' => e = .returned (.int .u64 z) ∧ w = w' := by
  obtain ⟨cp, c0, c1, c2, c3, c4, c5, c6, c7, c8, fx, fy, hx, hy, ne, en⟩ := hm.row
  have hw := hm.word ha
  rw [hz] at hw
  have HM := Lib.hid hm
  clear hm hz
  go_enter Try.func10, Try.ntmps10
  go_wp2_with (go_at_call 25; refine (has_in HM.out a ha).mono ?_; rintro e w1 ⟨rfl, rfl⟩)
  go_returns
  exact ⟨rfl, rfl⟩
theorem peek_out (hm : MemAt w X Y t n zs k l) (a : Int) (ha : ¬ (0 ≤ a ∧ a < zs.length)) :
    Calls Try.prog 10 #[.pointer (some ⟨X, 0, none⟩), .int .i64 a] w fun e w' => e = .returned (.int .u64 0) ∧ w = w' := by
  have HM := Lib.hid hm
  have HA := Lib.hid ha
  clear hm ha
  go_enter Try.func10, Try.ntmps10
  go_wp2_with (go_at_call 25; refine (has_out HM.out a HA.out).mono ?_; rintro e w1 ⟨rfl, rfl⟩)
  go_returns
  exact ⟨rfl, rfl⟩
theorem peek_nil (a : Int) :
    Calls Try.prog 10 #[.pointer none, .int .i64 a] w fun e w' => e = .returned (.int .u64 0) ∧ w = w' := by
  go_enter Try.func10, Try.ntmps10
  go_wp2_with (go_at_call 25; refine (has_nil a).mono ?_; rintro e w1 ⟨rfl, rfl⟩)
  go_returns
  exact ⟨rfl, rfl⟩
/-- An action by value. -/
abbrev av (l : Last) : Value := .agg #[.int .i64 l.kind, .int .i64 l.addr, .int .u64 l.old, .int .u64 l.new, .bool l.ok]

end
end Go.Proofs.Ytglkpajnhdamkaa.mem
