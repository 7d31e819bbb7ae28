/- task.Get: the task of any bits that are a right task's; of others none, and ErrForm (3). -/
import Derived.Test.YtipappihophijaaTkPut
import Derived.BigQuiet
import Derived.StillTailTactics
namespace Go.Proofs.Ytipappihophijaa.task
open Go.RowKit

theorem and_mask (i : Nat) (x : Int) (x0 : 0 ≤ x) (hx : x < 18446744073709551616) (hi : i ≤ 62) : bits .and .u64 x ((2 ^ i - 1 : Nat) : Int) = x % ((2 ^ i : Nat) : Int) := by
  obtain ⟨y, rfl⟩ := Int.eq_ofNat_of_zero_le x0
  have hp : 2 ^ i ≤ 2 ^ 62 := Nat.pow_le_pow_right (by omega) hi
  have h1 : (2 : Nat) ^ 62 = 4611686018427387904 := rfl
  rw [u64_and_nat y (2 ^ i - 1) (by omega) (by omega), Nat.and_two_pow_sub_one_eq_mod]
  omega

set_option maxRecDepth 100000 in
set_option maxHeartbeats 1000000 in
theorem field0 (w : World) (x : Int) (x0 : 0 ≤ x) (x1 : x < 18446744073709551616) :
    Calls Try.prog 18 #[.int .u64 x, .int .i64 0, .int .i64 3] w fun e w' => e = .returned (.int .i64 (x % 8)) ∧ Below w.heap.size w w' := by
  have e0 : bits .and .u64 x 7 = x % 8 := and_mask 3 x x0 x1 (by omega)
  go_enter Try.func18, Try.ntmps18
  go_wp2
  go_quiet (fail)
  go_wp2
  go_returns
  exact ⟨rfl, below_drewN (Below.refl _ _) _⟩
set_option maxRecDepth 100000 in
set_option maxHeartbeats 1000000 in
theorem field1 (w : World) (x : Int) (x0 : 0 ≤ x) (x1 : x < 18446744073709551616) :
    Calls Try.prog 18 #[.int .u64 x, .int .i64 3, .int .i64 6] w fun e w' => e = .returned (.int .i64 (x / 8 % 8)) ∧ Below w.heap.size w w' := by
  have e0 : bits .and .u64 (x / 8) 7 = x / 8 % 8 := and_mask 3 _ (by omega) (by omega) (by omega)
  go_enter Try.func18, Try.ntmps18
  go_wp2
  go_quiet (fail)
  go_wp2
  go_returns
  exact ⟨rfl, below_drewN (Below.refl _ _) _⟩
set_option maxRecDepth 100000 in
set_option maxHeartbeats 1000000 in
theorem field2 (w : World) (x : Int) (x0 : 0 ≤ x) (x1 : x < 18446744073709551616) :
    Calls Try.prog 18 #[.int .u64 x, .int .i64 6, .int .i64 16] w fun e w' => e = .returned (.int .i64 (x / 64 % 1024)) ∧ Below w.heap.size w w' := by
  have e0 : bits .and .u64 (x / 64) 1023 = x / 64 % 1024 := and_mask 10 _ (by omega) (by omega) (by omega)
  go_enter Try.func18, Try.ntmps18
  go_wp2
  go_quiet (fail)
  go_wp2
  go_returns
  exact ⟨rfl, below_drewN (Below.refl _ _) _⟩


/-- Three cells of a block of one's own, stored into. -/
theorem put3 {u : World} {b : Nat} {c0 c1 c2 : Value} (h0 : u.cell? ⟨b, 0, none⟩ = some c0) (h1 : u.cell? ⟨b, 1, none⟩ = some c1) (h2 : u.cell? ⟨b, 2, none⟩ = some c2) (v0 v1 v2 : Value) :
    (((u.setCell ⟨b, 0, none⟩ v0).setCell ⟨b, 1, none⟩ v1).setCell ⟨b, 2, none⟩ v2).cell? ⟨b, 0, none⟩ = some v0 ∧ (((u.setCell ⟨b, 0, none⟩ v0).setCell ⟨b, 1, none⟩ v1).setCell ⟨b, 2, none⟩ v2).cell? ⟨b, 1, none⟩ = some v1 ∧ (((u.setCell ⟨b, 0, none⟩ v0).setCell ⟨b, 1, none⟩ v1).setCell ⟨b, 2, none⟩ v2).cell? ⟨b, 2, none⟩ = some v2 := by
  refine ⟨?_, ?_, ?_⟩ <;> go_simp

set_option maxRecDepth 100000 in
set_option maxHeartbeats 4000000 in
theorem get_right (w : World) (x s k y : Int) (x0 : 0 ≤ x) (x1 : x < 18446744073709551616) (hs : x % 8 = s) (hk : x / 8 % 8 = k) (hy : x / 64 % 1024 = y) (hr : rightB s k y = true) (hx : num s k y = x) :
    Calls Try.prog 11 #[.int .u64 x] w fun e w' => e = .returned (.tuple #[tv s k y, .int .i64 0]) ∧ Below w.heap.size w w' := by
  have F0 := fun u => field0 u x x0 x1
  have F1 := fun u => field1 u x x0 x1
  have F2 := fun u => field2 u x x0 x1
  rw [hs] at F0
  rw [hk] at F1
  rw [hy] at F2
  clear hs hk hy
  have B0 : Below w.heap.size w (w.alloc (.cells #[.int .i64 0, .int .i64 0, .int .i64 0] 25)) := (Below.refl _ _).alloc (Nat.le_refl _) _
  go_enter Try.func11, Try.ntmps11
  go_wp2_with (first
    | (go_at_call 8; have _t := hb3; refine (put_right _ _ _ _ hr).mono ?_; rintro e w4 ⟨rfl, hb4⟩; obtain ⟨hc4, hf4⟩ := bcell hb4; have hz4 : w.heap.size < w4.heap.size := (by have := hb4.size; simp at this; omega); have hy4 : w1.heap.size < w4.heap.size := (by have := hb4.size; simp at this; omega))
    | (go_at_call 18; have _t := hb2; refine (F2 _).mono ?_; rintro e w3 ⟨rfl, hb3⟩; obtain ⟨hc3, hf3⟩ := bcell hb3; have hz3 : w.heap.size < w3.heap.size := (by have := hb3.size; simp at this; omega); have hy3 : w1.heap.size < w3.heap.size := (by have := hb3.size; simp at this; omega))
    | (go_at_call 18; have _t := hb1; refine (F1 _).mono ?_; rintro e w2 ⟨rfl, hb2⟩; obtain ⟨hc2, hf2⟩ := bcell hb2; have hz2 : w.heap.size < w2.heap.size := (by have := hb2.size; simp at this; omega); have hy2 : w1.heap.size < w2.heap.size := (by have := hb2.size; simp at this; omega))
    | (go_at_call 18; refine (F0 _).mono ?_; rintro e w1 ⟨rfl, hb1⟩; obtain ⟨hc1, hf1⟩ := bcell hb1; have hz1 : w.heap.size < w1.heap.size := (by have := hb1.size; simp at this; omega)))
  have B1 := hb1.alloc hb1.size (.cells #[.int .i64 s, .int .i64 0, .int .i64 0] 25)
  have g1 : (w.alloc (.cells #[.int .i64 0, .int .i64 0, .int .i64 0] 25)).heap.size ≤ w1.heap.size := hb1.size
  have B2 := (past B1 hb2).setCell (p := ⟨w1.heap.size, 1, none⟩) g1 (.int .i64 k)
  have B3 := (past B2 hb3).setCell (p := ⟨w1.heap.size, 2, none⟩) g1 (.int .i64 y)
  have B4 := past B3 hb4
  have r0 : w4.cell? ⟨w.heap.size, 0, none⟩ = some (.int .i64 0) := (B4.cell (p := ⟨w.heap.size, 0, none⟩) (by simp)).trans (by go_simp)
  have r1 : w4.cell? ⟨w.heap.size, 1, none⟩ = some (.int .i64 0) := (B4.cell (p := ⟨w.heap.size, 1, none⟩) (by simp)).trans (by go_simp)
  have r2 : w4.cell? ⟨w.heap.size, 2, none⟩ = some (.int .i64 0) := (B4.cell (p := ⟨w.heap.size, 2, none⟩) (by simp)).trans (by go_simp)
  obtain ⟨q0, q1, q2⟩ := put3 r0 r1 r2 (.int .i64 s) (.int .i64 k) (.int .i64 y)
  have hB : Below w.heap.size w (((w4.setCell ⟨w.heap.size, 0, none⟩ (.int .i64 s)).setCell ⟨w.heap.size, 1, none⟩ (.int .i64 k)).setCell ⟨w.heap.size, 2, none⟩ (.int .i64 y)) :=
    (((B0.trans (B4.mono B0.size)).setCell (p := ⟨w.heap.size, 0, none⟩) (Nat.le_refl _) _).setCell (p := ⟨w.heap.size, 1, none⟩) (Nat.le_refl _) _).setCell (p := ⟨w.heap.size, 2, none⟩) (Nat.le_refl _) _
  refine bodyPost_ret (v := .tuple #[tv s k y, .int .i64 0]) (by simp [results, Try.results11, go_sem, q0, q1, q2]) rfl ⟨rfl, hB⟩
set_option maxRecDepth 100000 in
set_option maxHeartbeats 4000000 in
theorem get_no (w : World) (x s k y : Int) (x0 : 0 ≤ x) (x1 : x < 18446744073709551616) (hs : x % 8 = s) (hk : x / 8 % 8 = k) (hy : x / 64 % 1024 = y) (hr : rightB s k y = false) :
    Calls Try.prog 11 #[.int .u64 x] w fun e w' => e = .returned (.tuple #[tv 0 0 0, .int .i64 3]) ∧ Below w.heap.size w w' := by
  have F0 := fun u => field0 u x x0 x1
  have F1 := fun u => field1 u x x0 x1
  have F2 := fun u => field2 u x x0 x1
  rw [hs] at F0
  rw [hk] at F1
  rw [hy] at F2
  clear hs hk hy
  have B0 : Below w.heap.size w (w.alloc (.cells #[.int .i64 0, .int .i64 0, .int .i64 0] 25)) := (Below.refl _ _).alloc (Nat.le_refl _) _
  go_enter Try.func11, Try.ntmps11
  go_wp2_with (first
    | (go_at_call 8; have _t := hb3; refine (put_wrong _ _ _ _ hr).mono ?_; rintro e w4 ⟨rfl, hb4⟩; obtain ⟨hc4, hf4⟩ := bcell hb4; have hz4 : w.heap.size < w4.heap.size := (by have := hb4.size; simp at this; omega); have hy4 : w1.heap.size < w4.heap.size := (by have := hb4.size; simp at this; omega))
    | (go_at_call 18; have _t := hb2; refine (F2 _).mono ?_; rintro e w3 ⟨rfl, hb3⟩; obtain ⟨hc3, hf3⟩ := bcell hb3; have hz3 : w.heap.size < w3.heap.size := (by have := hb3.size; simp at this; omega); have hy3 : w1.heap.size < w3.heap.size := (by have := hb3.size; simp at this; omega))
    | (go_at_call 18; have _t := hb1; refine (F1 _).mono ?_; rintro e w2 ⟨rfl, hb2⟩; obtain ⟨hc2, hf2⟩ := bcell hb2; have hz2 : w.heap.size < w2.heap.size := (by have := hb2.size; simp at this; omega); have hy2 : w1.heap.size < w2.heap.size := (by have := hb2.size; simp at this; omega))
    | (go_at_call 18; refine (F0 _).mono ?_; rintro e w1 ⟨rfl, hb1⟩; obtain ⟨hc1, hf1⟩ := bcell hb1; have hz1 : w.heap.size < w1.heap.size := (by have := hb1.size; simp at this; omega)))
  have B1 := hb1.alloc hb1.size (.cells #[.int .i64 s, .int .i64 0, .int .i64 0] 25)
  have g1 : (w.alloc (.cells #[.int .i64 0, .int .i64 0, .int .i64 0] 25)).heap.size ≤ w1.heap.size := hb1.size
  have B2 := (past B1 hb2).setCell (p := ⟨w1.heap.size, 1, none⟩) g1 (.int .i64 k)
  have B3 := (past B2 hb3).setCell (p := ⟨w1.heap.size, 2, none⟩) g1 (.int .i64 y)
  have B4 := past B3 hb4
  have r0 : w4.cell? ⟨w.heap.size, 0, none⟩ = some (.int .i64 0) := (B4.cell (p := ⟨w.heap.size, 0, none⟩) (by simp)).trans (by go_simp)
  have r1 : w4.cell? ⟨w.heap.size, 1, none⟩ = some (.int .i64 0) := (B4.cell (p := ⟨w.heap.size, 1, none⟩) (by simp)).trans (by go_simp)
  have r2 : w4.cell? ⟨w.heap.size, 2, none⟩ = some (.int .i64 0) := (B4.cell (p := ⟨w.heap.size, 2, none⟩) (by simp)).trans (by go_simp)
  obtain ⟨q0, q1, q2⟩ := put3 r0 r1 r2 (.int .i64 0) (.int .i64 0) (.int .i64 0)
  have hB : Below w.heap.size w (((w4.setCell ⟨w.heap.size, 0, none⟩ (.int .i64 0)).setCell ⟨w.heap.size, 1, none⟩ (.int .i64 0)).setCell ⟨w.heap.size, 2, none⟩ (.int .i64 0)) :=
    (((B0.trans (B4.mono B0.size)).setCell (p := ⟨w.heap.size, 0, none⟩) (Nat.le_refl _) _).setCell (p := ⟨w.heap.size, 1, none⟩) (Nat.le_refl _) _).setCell (p := ⟨w.heap.size, 2, none⟩) (Nat.le_refl _) _
  refine bodyPost_ret (v := .tuple #[tv 0 0 0, .int .i64 3]) (by simp [results, Try.results11, go_sem, q0, q1, q2]) rfl ⟨rfl, hB⟩
set_option maxRecDepth 100000 in
set_option maxHeartbeats 4000000 in
theorem get_other (w : World) (x s k y : Int) (x0 : 0 ≤ x) (x1 : x < 18446744073709551616) (hs : x % 8 = s) (hk : x / 8 % 8 = k) (hy : x / 64 % 1024 = y) (hr : rightB s k y = true) (hx : (num s k y == x) = false) :
    Calls Try.prog 11 #[.int .u64 x] w fun e w' => e = .returned (.tuple #[tv 0 0 0, .int .i64 3]) ∧ Below w.heap.size w w' := by
  have F0 := fun u => field0 u x x0 x1
  have F1 := fun u => field1 u x x0 x1
  have F2 := fun u => field2 u x x0 x1
  rw [hs] at F0
  rw [hk] at F1
  rw [hy] at F2
  clear hs hk hy
  have B0 : Below w.heap.size w (w.alloc (.cells #[.int .i64 0, .int .i64 0, .int .i64 0] 25)) := (Below.refl _ _).alloc (Nat.le_refl _) _
  go_enter Try.func11, Try.ntmps11
  go_wp2_with (first
    | (go_at_call 8; have _t := hb3; refine (put_right _ _ _ _ hr).mono ?_; rintro e w4 ⟨rfl, hb4⟩; obtain ⟨hc4, hf4⟩ := bcell hb4; have hz4 : w.heap.size < w4.heap.size := (by have := hb4.size; simp at this; omega); have hy4 : w1.heap.size < w4.heap.size := (by have := hb4.size; simp at this; omega))
    | (go_at_call 18; have _t := hb2; refine (F2 _).mono ?_; rintro e w3 ⟨rfl, hb3⟩; obtain ⟨hc3, hf3⟩ := bcell hb3; have hz3 : w.heap.size < w3.heap.size := (by have := hb3.size; simp at this; omega); have hy3 : w1.heap.size < w3.heap.size := (by have := hb3.size; simp at this; omega))
    | (go_at_call 18; have _t := hb1; refine (F1 _).mono ?_; rintro e w2 ⟨rfl, hb2⟩; obtain ⟨hc2, hf2⟩ := bcell hb2; have hz2 : w.heap.size < w2.heap.size := (by have := hb2.size; simp at this; omega); have hy2 : w1.heap.size < w2.heap.size := (by have := hb2.size; simp at this; omega))
    | (go_at_call 18; refine (F0 _).mono ?_; rintro e w1 ⟨rfl, hb1⟩; obtain ⟨hc1, hf1⟩ := bcell hb1; have hz1 : w.heap.size < w1.heap.size := (by have := hb1.size; simp at this; omega)))
  have B1 := hb1.alloc hb1.size (.cells #[.int .i64 s, .int .i64 0, .int .i64 0] 25)
  have g1 : (w.alloc (.cells #[.int .i64 0, .int .i64 0, .int .i64 0] 25)).heap.size ≤ w1.heap.size := hb1.size
  have B2 := (past B1 hb2).setCell (p := ⟨w1.heap.size, 1, none⟩) g1 (.int .i64 k)
  have B3 := (past B2 hb3).setCell (p := ⟨w1.heap.size, 2, none⟩) g1 (.int .i64 y)
  have B4 := past B3 hb4
  have r0 : w4.cell? ⟨w.heap.size, 0, none⟩ = some (.int .i64 0) := (B4.cell (p := ⟨w.heap.size, 0, none⟩) (by simp)).trans (by go_simp)
  have r1 : w4.cell? ⟨w.heap.size, 1, none⟩ = some (.int .i64 0) := (B4.cell (p := ⟨w.heap.size, 1, none⟩) (by simp)).trans (by go_simp)
  have r2 : w4.cell? ⟨w.heap.size, 2, none⟩ = some (.int .i64 0) := (B4.cell (p := ⟨w.heap.size, 2, none⟩) (by simp)).trans (by go_simp)
  obtain ⟨q0, q1, q2⟩ := put3 r0 r1 r2 (.int .i64 0) (.int .i64 0) (.int .i64 0)
  have hB : Below w.heap.size w (((w4.setCell ⟨w.heap.size, 0, none⟩ (.int .i64 0)).setCell ⟨w.heap.size, 1, none⟩ (.int .i64 0)).setCell ⟨w.heap.size, 2, none⟩ (.int .i64 0)) :=
    (((B0.trans (B4.mono B0.size)).setCell (p := ⟨w.heap.size, 0, none⟩) (Nat.le_refl _) _).setCell (p := ⟨w.heap.size, 1, none⟩) (Nat.le_refl _) _).setCell (p := ⟨w.heap.size, 2, none⟩) (Nat.le_refl _) _
  refine bodyPost_ret (v := .tuple #[tv 0 0 0, .int .i64 3]) (by simp [results, Try.results11, go_sem, q0, q1, q2]) rfl ⟨rfl, hB⟩

/-- Are these bits a right task's? -/
def ownB (x : Int) : Bool := rightB (x % 8) (x / 8 % 8) (x / 64 % 1024) && (num (x % 8) (x / 8 % 8) (x / 64 % 1024) == x)
theorem get_none (w : World) (x : Int) (x0 : 0 ≤ x) (x1 : x < 18446744073709551616) (h : ownB x = false) :
    Calls Try.prog 11 #[.int .u64 x] w fun e w' => e = .returned (.tuple #[tv 0 0 0, .int .i64 3]) ∧ Below w.heap.size w w' := by
  cases hr : rightB (x % 8) (x / 8 % 8) (x / 64 % 1024)
  · exact get_no w x _ _ _ x0 x1 rfl rfl rfl hr
  · exact get_other w x _ _ _ x0 x1 rfl rfl rfl hr (by simpa [ownB, hr] using h)
theorem get_own (w : World) (x : Int) (x0 : 0 ≤ x) (x1 : x < 18446744073709551616) (h : ownB x = true) :
    Calls Try.prog 11 #[.int .u64 x] w fun e w' => e = .returned (.tuple #[tv (x % 8) (x / 8 % 8) (x / 64 % 1024), .int .i64 0]) ∧ Below w.heap.size w w' := by
  simp [ownB] at h
  exact get_right w x _ _ _ x0 x1 rfl rfl rfl h.1 h.2
/-- A right task's bits give it back. -/
theorem get_back (w : World) (s k y : Int) (hr : rightB s k y = true) :
    Calls Try.prog 11 #[.int .u64 (num s k y)] w fun e w' => e = .returned (.tuple #[tv s k y, .int .i64 0]) ∧ Below w.heap.size w w' := by
  have hi := (right_iff s k y).1 hr
  refine get_right w _ s k y ?_ ?_ ?_ ?_ ?_ hr rfl <;> (unfold num; omega)
end Go.Proofs.Ytipappihophijaa.task
