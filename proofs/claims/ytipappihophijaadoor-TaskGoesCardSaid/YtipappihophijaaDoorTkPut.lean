/- task.Put: the bits of a right task, ErrArg (1) of one that isn't. -/
import Derived.Test.YtipappihophijaaDoorTkBase
import Derived.Laws.BitsAllLaws
namespace Go.Proofs.YtipappihophijaaDoor.task
open Go.RowKit

/-- A task's bits as one number. -/
def num (s k y : Int) : Int := s + k * 8 + y * 64

theorem i64_or_nat (a b : Nat) (ha : a < 4611686018427387904) (hb : b < 4611686018427387904) : bits .or .i64 (a : Int) (b : Int) = ((a ||| b : Nat) : Int) := by
  have hx : a ||| b < 2 ^ 62 := Nat.or_lt_two_pow (by omega) (by omega)
  show IntKind.i64.wrap ((BitVec.ofInt 64 (a : Int) ||| BitVec.ofInt 64 (b : Int)).toNat : Int) = _
  rw [BitVec.toNat_or, ofInt_u64 a (by omega), ofInt_u64 b (by omega)]
  generalize a ||| b = c at hx
  simp [IntKind.wrap, IntKind.bits, IntKind.signed]
  omega
theorem or_join (i : Nat) (a b : Int) (a0 : 0 ≤ a) (a1 : a < 2 ^ i) (b0 : 0 ≤ b) (bm : b % 2 ^ i = 0) (ha : a < 4611686018427387904) (hb : b < 4611686018427387904) : bits .or .i64 a b = a + b := by
  obtain ⟨x, rfl⟩ := Int.eq_ofNat_of_zero_le a0
  obtain ⟨y, rfl⟩ := Int.eq_ofNat_of_zero_le b0
  have h1 : x < 2 ^ i := by exact_mod_cast a1
  have h2 : y % 2 ^ i = 0 := by exact_mod_cast bm
  rw [i64_or_nat x y (by omega) (by omega), Nat.or_comm, nat_join i y x h2 h1]
  omega
/-- What Put joins is that number. -/
theorem put_num (s k y : Int) (s0 : 1 ≤ s ∧ s ≤ 4) (k0 : 1 ≤ k ∧ k ≤ 5) (y0 : 0 ≤ y ∧ y ≤ 999) : IntKind.u64.wrap (bits .or .i64 (bits .or .i64 s (k * 8)) (y * 64)) = num s k y := by
  have e1 : bits .or .i64 s (k * 8) = s + k * 8 := or_join 3 _ _ (by omega) (by omega) (by omega) (by omega) (by omega) (by omega)
  have e2 : bits .or .i64 (s + k * 8) (y * 64) = s + k * 8 + y * 64 := or_join 6 _ _ (by omega) (by omega) (by omega) (by omega) (by omega) (by omega)
  rw [e1, e2, IntKind.wrap_u64]
  unfold num
  omega
theorem tuple2 {a b c d : Value} (h : a = c) (h' : b = d) : Ending.returned (.tuple #[a, b]) = Ending.returned (.tuple #[c, d]) := by rw [h, h']
theorem u64_eq {a b : Int} (h : a = b) : Value.int .u64 a = Value.int .u64 b := by rw [h]

/-- A task by value. -/
abbrev tv (s k y : Int) : Value := .agg #[.int .i64 s, .int .i64 k, .int .i64 y]

set_option maxRecDepth 100000 in
set_option maxHeartbeats 1000000 in
theorem put_right (w : World) (s k y : Int) (hr : rightB s k y = true) :
    Calls Tryd.prog 11 #[.agg #[.int .i64 s, .int .i64 k, .int .i64 y]] w fun e w' => e = .returned (.tuple #[.int .u64 (num s k y), .int .i64 0]) ∧ Below w.heap.size w w' := by
  have hi := (right_iff s k y).1 hr
  have s0 : 1 ≤ s ∧ s ≤ 4 := by omega
  have k0 : 1 ≤ k ∧ k ≤ 5 := by omega
  have y0 : 0 ≤ y ∧ y ≤ 999 := by omega
  clear hi
  have hn := Lib.hid (put_num s k y s0 k0 y0)
  go_enter Tryd.func11, Tryd.ntmps11
  go_wp2_with (first | (go_at_call 15; refine (right_any _ _ _ _).mono ?_; rintro e w1 ⟨rfl, hb1⟩; have ho1 : Below w.heap.size w w1 := ((Below.refl _ _).alloc (Nat.le_refl _) _).trans (hb1.mono (by simp)); obtain ⟨hc1, hf1⟩ := bcell hb1; have hz1 : w.heap.size < w1.heap.size := (by have := hb1.size; simp at this; omega)))
  go_returns
  exact ⟨tuple2 (u64_eq hn.out) rfl, ho1⟩

set_option maxRecDepth 100000 in
set_option maxHeartbeats 1000000 in
theorem put_wrong (w : World) (s k y : Int) (hr : rightB s k y = false) :
    Calls Tryd.prog 11 #[.agg #[.int .i64 s, .int .i64 k, .int .i64 y]] w fun e w' => e = .returned (.tuple #[.int .u64 0, .int .i64 1]) ∧ Below w.heap.size w w' := by
  go_enter Tryd.func11, Tryd.ntmps11
  go_wp2_with (first | (go_at_call 15; refine (right_any _ _ _ _).mono ?_; rintro e w1 ⟨rfl, hb1⟩; have ho1 : Below w.heap.size w w1 := ((Below.refl _ _).alloc (Nat.le_refl _) _).trans (hb1.mono (by simp)); obtain ⟨hc1, hf1⟩ := bcell hb1; have hz1 : w.heap.size < w1.heap.size := (by have := hb1.size; simp at this; omega)))
  go_returns
  exact ⟨rfl, ho1⟩
end Go.Proofs.YtipappihophijaaDoor.task
