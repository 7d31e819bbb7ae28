/- slices.Index, slices.Contains and desc.Is over any list that came in: is a number one of the list's? -/
import Derived.Test.YtckplpojlhdmhaaDoorDRows
namespace Go.Proofs.YtckplpojlhdmhaaDoor.desc
open Go.RowKit

/-- Is s one of the first n numbers? -/
def anyB (zs : Nat → Int) (n : Nat) (s : Int) : Bool := (List.range n).any fun i => zs i == s
theorem anyB_zero (zs : Nat → Int) (s : Int) : anyB zs 0 s = false := rfl
theorem anyB_succ (zs : Nat → Int) (n : Nat) (s : Int) : anyB zs (n + 1) s = (anyB zs n s || zs n == s) := by
  unfold anyB
  rw [List.range_succ, List.any_append]
  simp
theorem anyB_mono (zs : Nat → Int) (n k : Nat) (s : Int) (h : anyB zs n s = true) (hk : n ≤ k) : anyB zs k s = true := by
  unfold anyB at *
  rw [List.any_eq_true] at *
  obtain ⟨i, hi, he⟩ := h
  exact ⟨i, by simp at *; omega, he⟩

/-- An index, or none: whether there is one. -/
def Idx (b : Bool) (w : World) (e : Ending) (w' : World) : Prop := ∃ r : Int, e = .returned (.int .i64 r) ∧ (decide (0 ≤ r)) = b ∧ w = w'

/-- A list of ints in memory that came in. -/
def Lst (w : World) (a : Option Addr) (len : Nat) (zs : Nat → Int) : Prop := ∀ i, i < len → ∃ b, a = some b ∧ w.cell? (b.add i) = some (.int .i64 (zs i))

set_option maxHeartbeats 400000 in
theorem index_any (w : World) (a : Option Addr) (len cap : Nat) (zs : Nat → Int) (s : Int) (hl : len ≤ 60) (hz : Lst w a len zs) :
    Calls Tryd.prog 23 #[.slice a len cap, .int .i64 s] w (Idx (anyB zs len s) w) := by
  have HZ := Lib.hid hz
  clear hz
  go_enter Tryd.func23, Tryd.ntmps23
  go_wp2
  go_loop [8] (fun i => ∃ k : Nat, k ≤ len ∧ i = .int .i64 k ∧ anyB zs k s = false) (fun i => len - (intOf i).toNat)
  case atStart => exact ⟨0, Nat.zero_le _, rfl, rfl⟩
  case round =>
    obtain ⟨k, hk, rfl, hno⟩ := hrel
    have HN := Lib.hid hno
    clear hno
    by_cases hlt : k < len
    · obtain ⟨b, rfl, hc⟩ := HZ.out k hlt
      by_cases he : zs k = s
      · have hq : (s == zs k) = true := by simp [he]
        have HA : Hid (anyB zs len s = true) := anyB_mono zs (k + 1) len s (by rw [anyB_succ]; simp [he]) (by omega)
        clear he
        go_wp2
        go_returns
        exact ⟨k, rfl, by rw [HA.out]; simp, rfl⟩
      · have hq : (s == zs k) = false := by simp; exact fun h => he h.symm
        have HA : Hid (anyB zs (k + 1) s = false) := by unfold Hid; rw [anyB_succ, HN.out]; simpa using he
        clear he
        go_wp2
        go_round
        case rel => exact ⟨k + 1, by omega, by go_num, HA.out⟩
        case measure => simp [intOf]; omega
    · have hk : k = len := by omega
      subst hk
      go_wp2
      go_returns
      exact ⟨-1, rfl, by rw [HN.out]; rfl, rfl⟩

theorem is_post {b : Bool} {r : Int} (h : decide (0 ≤ r) = b) : Ending.returned (.bool (decide (0 ≤ r))) = Ending.returned (.bool b) := by rw [h]

set_option maxHeartbeats 400000 in
theorem contains_any (w : World) (s : Int) (a : Option Addr) (len cap : Nat) (zs : Nat → Int) (hl : len ≤ 60) (hz : Lst w a len zs) :
    Calls Tryd.prog 21 #[.slice a len cap, .int .i64 s] w fun e w' => e = .returned (.bool (anyB zs len s)) ∧ w = w' := by
  have HZ := Lib.hid hz
  clear hz
  go_enter Tryd.func21, Tryd.ntmps21
  go_wp2_with (go_at_call 23; refine (index_any _ a len cap zs s hl HZ.out).mono ?_; rintro e w' ⟨r, rfl, hr, rfl⟩; have HR := Lib.hid hr; clear hr)
  go_returns
  exact ⟨is_post HR.out, rfl⟩

set_option maxHeartbeats 400000 in
theorem is_any (w : World) (t av v n : Int) (m : Bool) (s x : Int) (a : Option Addr) (len cap : Nat) (zs : Nat → Int) (hl : len ≤ 60) (hz : Lst w a len zs) :
    Calls Tryd.prog 15 #[.agg #[.int .i64 t, .int .i64 av, .int .i64 v, .int .i64 n, .bool m, .int .i64 s, .int .i64 x], .slice a len cap] w fun e w' => e = .returned (.bool (anyB zs len s)) ∧ Below w.heap.size w w' := by
  have hz1 : Lst (w.alloc (.cells #[.int .i64 t, .int .i64 av, .int .i64 v, .int .i64 n, .bool m, .int .i64 s, .int .i64 x] 23)) a len zs := by
    intro i hi
    obtain ⟨b, hb, hc⟩ := hz i hi
    exact ⟨b, hb, (((Below.refl _ _).alloc (Nat.le_refl _) _).cell (World.block_lt_of_cell? w _ hc)).trans hc⟩
  have HZ := Lib.hid hz1
  clear hz hz1
  go_enter Tryd.func15, Tryd.ntmps15
  go_wp2_with (go_at_call 21; refine (contains_any _ s a len cap zs hl HZ.out).mono ?_; rintro e w' ⟨rfl, rfl⟩)
  go_returns
  exact ⟨rfl, by go_grown⟩
end Go.Proofs.YtckplpojlhdmhaaDoor.desc
