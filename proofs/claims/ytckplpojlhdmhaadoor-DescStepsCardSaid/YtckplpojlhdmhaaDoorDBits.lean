/- Plain arithmetic of a descriptor's bits: joining its seven fields by 'or', and taking them out again. -/
import Derived.Test.YtckplpojlhdmhaaDoorBits
import Derived.Test.YtckplpojlhdmhaaDoorDBase
namespace Go.Proofs.YtckplpojlhdmhaaDoor.desc
open Go.RowKit

/-- A descriptor's bits as one number: attempt, address, version, next, mark (0 or 1), status, value. -/
def num (t a v n m s x : Int) : Int := t + a * 4096 + v * 2097152 + n * 549755813888 + m * 281474976710656 + s * 562949953421312 + x * 4503599627370496

theorem num_lt (t a v n m s x : Int) (t0 : 0 ≤ t) (t1 : t < 4096) (a0 : 0 ≤ a) (a1 : a < 512) (v0 : 0 ≤ v) (v1 : v < 262144) (n0 : 0 ≤ n) (n1 : n < 512) (m0 : 0 ≤ m) (m1 : m < 2) (s0 : 0 ≤ s) (s1 : s < 8) (x0 : 0 ≤ x) (x1 : x < 1024) :
    0 ≤ num t a v n m s x ∧ num t a v n m s x < 4611686018427387904 := by unfold num; omega

/-- What Put's seven rounds have joined is that number. -/
theorem put_num (t a v n m s x q : Int) (hq : q = m * 281474976710656) (t0 : 0 ≤ t) (t1 : t < 4096) (a0 : 0 ≤ a) (a1 : a < 512) (v0 : 0 ≤ v) (v1 : v < 262144) (n0 : 0 ≤ n) (n1 : n < 512) (m0 : 0 ≤ m) (m1 : m < 2) (s0 : 0 ≤ s) (s1 : s < 8) (x0 : 0 ≤ x) (x1 : x < 1024) :
    bits .or .u64 (bits .or .u64 (bits .or .u64 (bits .or .u64 (bits .or .u64 (bits .or .u64 (bits .or .u64 0 t) (a * 4096)) (v * 2097152)) (n * 549755813888)) q) (s * 562949953421312)) (x * 4503599627370496) = num t a v n m s x := by
  subst hq
  have e1 : bits .or .u64 0 t = t := word.zero_or t t0 (by omega)
  have e2 : bits .or .u64 t (a * 4096) = t + a * 4096 := word.or_join 12 _ _ (by omega) (by omega) (by omega) (by omega) (by omega) (by omega)
  have e3 : bits .or .u64 (t + a * 4096) (v * 2097152) = t + a * 4096 + v * 2097152 := word.or_join 21 _ _ (by omega) (by omega) (by omega) (by omega) (by omega) (by omega)
  have e4 : bits .or .u64 (t + a * 4096 + v * 2097152) (n * 549755813888) = t + a * 4096 + v * 2097152 + n * 549755813888 := word.or_join 39 _ _ (by omega) (by omega) (by omega) (by omega) (by omega) (by omega)
  have e5 : bits .or .u64 (t + a * 4096 + v * 2097152 + n * 549755813888) (m * 281474976710656) = t + a * 4096 + v * 2097152 + n * 549755813888 + m * 281474976710656 := word.or_join 48 _ _ (by omega) (by omega) (by omega) (by omega) (by omega) (by omega)
  have e6 : bits .or .u64 (t + a * 4096 + v * 2097152 + n * 549755813888 + m * 281474976710656) (s * 562949953421312) = t + a * 4096 + v * 2097152 + n * 549755813888 + m * 281474976710656 + s * 562949953421312 := word.or_join 49 _ _ (by omega) (by omega) (by omega) (by omega) (by omega) (by omega)
  have e7 : bits .or .u64 (t + a * 4096 + v * 2097152 + n * 549755813888 + m * 281474976710656 + s * 562949953421312) (x * 4503599627370496) = t + a * 4096 + v * 2097152 + n * 549755813888 + m * 281474976710656 + s * 562949953421312 + x * 4503599627370496 := word.or_join 52 _ _ (by omega) (by omega) (by omega) (by omega) (by omega) (by omega)
  rw [e1, e2, e3, e4, e5, e6, e7]
  rfl

theorem mark_range (m : Bool) : 0 ≤ mk m ∧ mk m < 2 := by cases m <;> decide

/-- The fields of a number, taken out by shift and mask. -/
def fa (y : Int) : Int := y / 4096 % 512
def fv (y : Int) : Int := y / 2097152 % 262144
def fn (y : Int) : Int := y / 549755813888 % 512
def fm (y : Int) : Bool := y / 281474976710656 % 2 == 1
def fs (y : Int) : Int := y / 562949953421312 % 8
def fx (y : Int) : Int := y / 4503599627370496 % 1024

theorem fa_r (y : Int) : 0 ≤ fa y ∧ fa y < 512 := by unfold fa; omega
theorem fv_r (y : Int) : 0 ≤ fv y ∧ fv y < 262144 := by unfold fv; omega
theorem fn_r (y : Int) : 0 ≤ fn y ∧ fn y < 512 := by unfold fn; omega
theorem fs_r (y : Int) : 0 ≤ fs y ∧ fs y < 8 := by unfold fs; omega
theorem fx_r (y : Int) : 0 ≤ fx y ∧ fx y < 1024 := by unfold fx; omega

/-- What the fields of a number joined again are: the number without its two highest bits. -/
theorem num_get (y : Int) : num (y % 4096) (fa y) (fv y) (fn y) (mk (fm y)) (fs y) (fx y) = y % 4611686018427387904 := by
  have e : mk (fm y) = y / 281474976710656 % 2 := by
    unfold mk fm
    by_cases h : y / 281474976710656 % 2 = 1
    · rw [if_pos (by simp [h]), h]
    · rw [if_neg (by simp [h])]; omega
  rw [e]
  unfold num fa fv fn fs fx
  omega

theorem get_of_num (t a v n s x : Int) (m : Bool) (t0 : 0 ≤ t) (t1 : t < 4096) (a0 : 0 ≤ a) (a1 : a < 512) (v0 : 0 ≤ v) (v1 : v < 262144) (n0 : 0 ≤ n) (n1 : n < 512) (s0 : 0 ≤ s) (s1 : s < 8) (x0 : 0 ≤ x) (x1 : x < 1024) :
    num t a v n (mk m) s x % 4096 = t ∧ fa (num t a v n (mk m) s x) = a ∧ fv (num t a v n (mk m) s x) = v ∧ fn (num t a v n (mk m) s x) = n ∧ fm (num t a v n (mk m) s x) = m ∧ fs (num t a v n (mk m) s x) = s ∧ fx (num t a v n (mk m) s x) = x := by
  obtain ⟨m0, m1⟩ := mark_range m
  generalize hq : mk m = q at *
  have hd : fm (num t a v n q s x) = (q == 1) := by
    unfold fm num
    have : (t + a * 4096 + v * 2097152 + n * 549755813888 + q * 281474976710656 + s * 562949953421312 + x * 4503599627370496) / 281474976710656 % 2 = q := by omega
    rw [this]
  have hm : (q == 1) = m := by subst hq; cases m <;> rfl
  refine ⟨?_, ?_, ?_, ?_, hd.trans hm, ?_, ?_⟩
  · unfold num; omega
  · unfold fa num; omega
  · unfold fv num; omega
  · unfold fn num; omega
  · unfold fs num; omega
  · unfold fx num; omega
end Go.Proofs.YtckplpojlhdmhaaDoor.desc
