/- Plain arithmetic of a word's bits: joining fields by 'or', and taking them out again. -/
import Derived.Test.YtckplpojlhdmhaaDoorRows
import Derived.WalkKit
import Derived.Laws.BitsAllLaws
import Derived.Lib.Hide
namespace Go.Proofs.YtckplpojlhdmhaaDoor.word
open Go.RowKit

theorem or_join (i : Nat) (a b : Int) (a0 : 0 ≤ a) (a1 : a < 2 ^ i) (b0 : 0 ≤ b) (bm : b % 2 ^ i = 0) (ha : a < 18446744073709551616) (hb : b < 18446744073709551616) : bits .or .u64 a b = a + b := by
  obtain ⟨x, rfl⟩ := Int.eq_ofNat_of_zero_le a0
  obtain ⟨y, rfl⟩ := Int.eq_ofNat_of_zero_le b0
  have h1 : x < 2 ^ i := by exact_mod_cast a1
  have h2 : y % 2 ^ i = 0 := by exact_mod_cast bm
  rw [u64_or_nat x y (by omega) (by omega), Nat.or_comm, nat_join i y x h2 h1]
  omega

theorem or_zero (a : Int) (a0 : 0 ≤ a) (ha : a < 18446744073709551616) : bits .or .u64 a 0 = a := by
  obtain ⟨x, rfl⟩ := Int.eq_ofNat_of_zero_le a0
  rw [show (0 : Int) = ((0 : Nat) : Int) from rfl, u64_or_nat x 0 (by omega) (by omega)]
  simp

theorem zero_or (a : Int) (a0 : 0 ≤ a) (ha : a < 18446744073709551616) : bits .or .u64 0 a = a := by
  obtain ⟨x, rfl⟩ := Int.eq_ofNat_of_zero_le a0
  rw [show (0 : Int) = ((0 : Nat) : Int) from rfl, u64_or_nat 0 x (by omega) (by omega)]
  simp

theorem and_mask (i : Nat) (x : Int) (x0 : 0 ≤ x) (hx : x < 18446744073709551616) (hi : i ≤ 62) : bits .and .u64 x ((2 ^ i - 1 : Nat) : Int) = x % ((2 ^ i : Nat) : Int) := by
  obtain ⟨y, rfl⟩ := Int.eq_ofNat_of_zero_le x0
  have hp : 2 ^ i ≤ 2 ^ 62 := Nat.pow_le_pow_right (by omega) hi
  have h1 : (2 : Nat) ^ 62 = 4611686018427387904 := rfl
  rw [u64_and_nat y (2 ^ i - 1) (by omega) (by omega), Nat.and_two_pow_sub_one_eq_mod]
  omega

/-- A word's bits as one number: key, next, mark (0 or 1), claim, version. -/
def num (k n m c v : Int) : Int := k + n * 1024 + m * 524288 + c * 1048576 + v * 33554432

theorem num_lt (k n m c v : Int) (k0 : 0 ≤ k) (k1 : k < 1024) (n0 : 0 ≤ n) (n1 : n < 512) (m0 : 0 ≤ m) (m1 : m < 2) (c0 : 0 ≤ c) (c1 : c < 32) (v0 : 0 ≤ v) (v1 : v < 262144) :
    0 ≤ num k n m c v ∧ num k n m c v < 8796093022208 := by unfold num; omega

/-- What Put's five rounds have joined is that number. -/
theorem put_num (k n m c v q : Int) (hq : q = m * 524288) (k0 : 0 ≤ k) (k1 : k < 1024) (n0 : 0 ≤ n) (n1 : n < 512) (m0 : 0 ≤ m) (m1 : m < 2) (c0 : 0 ≤ c) (c1 : c < 32) (v0 : 0 ≤ v) (v1 : v < 262144) :
    bits .or .u64 (bits .or .u64 (bits .or .u64 (bits .or .u64 (bits .or .u64 0 k) (n * 1024)) q) (c * 1048576)) (v * 33554432) = num k n m c v := by
  subst hq
  have e1 : bits .or .u64 0 k = k := zero_or k k0 (by omega)
  have e2 : bits .or .u64 k (n * 1024) = k + n * 1024 := or_join 10 _ _ (by omega) (by omega) (by omega) (by omega) (by omega) (by omega)
  have e3 : bits .or .u64 (k + n * 1024) (m * 524288) = k + n * 1024 + m * 524288 := or_join 19 _ _ (by omega) (by omega) (by omega) (by omega) (by omega) (by omega)
  have e4 : bits .or .u64 (k + n * 1024 + m * 524288) (c * 1048576) = k + n * 1024 + m * 524288 + c * 1048576 := or_join 20 _ _ (by omega) (by omega) (by omega) (by omega) (by omega) (by omega)
  have e5 : bits .or .u64 (k + n * 1024 + m * 524288 + c * 1048576) (v * 33554432) = k + n * 1024 + m * 524288 + c * 1048576 + v * 33554432 := or_join 25 _ _ (by omega) (by omega) (by omega) (by omega) (by omega) (by omega)
  rw [e1, e2, e3, e4, e5]
  rfl

end Go.Proofs.YtckplpojlhdmhaaDoor.word
