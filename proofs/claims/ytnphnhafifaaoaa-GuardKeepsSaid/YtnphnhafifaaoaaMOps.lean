/- Load, Store, Cas, Add: at any address, of any memory: what they return, what they leave. -/
import Derived.Test.YtnphnhafifaaoaaMAct
import Derived.Test.YtnphnhafifaaoaaM1
namespace Go.Proofs.Ytnphnhafifaaoaa.mem
open Go.RowKit

section
variable {w : World} {X Y : Nat} {t n k : Int} {zs : List Int} {l : Last}
set_option maxHeartbeats 1000000 in
theorem act_out (hm : MemAt w X Y t n zs k l) (kind a : Int) (f : Value) (ha : ¬ (0 ≤ a ∧ a < zs.length)) (k0 : 0 ≤ k) (k1 : k ≤ 1000000) :
    Calls Try.prog 26 #[.pointer (some ⟨X, 0, none⟩), .int .i64 kind, .int .i64 a, f] w fun e w' => e = .returned (av ⟨kind, a, 0, 0, false⟩) ∧ MemAt w' X Y t n zs (k + 1) ⟨kind, a, 0, 0, false⟩ ∧ Apart X Y w w' := by
  obtain ⟨cp, c0, c1, c2, c3, c4, c5, c6, c7, c8, fx, fy, hx, hy, ne, en⟩ := hm.row
  have HM := Lib.hid hm
  have HA := Lib.hid ha
  clear hm ha
  go_enter Try.func26, Try.ntmps26
  go_wp2_with (go_at_call 48; refine (has_out ((HM.out.alloc _).alloc _) a HA.out).mono ?_; rintro e w1 ⟨rfl, rfl⟩)
  go_returns
  exact ⟨rfl, (((HM.out.note _ ⟨kind, a, 0, 0, false⟩).alloc _).alloc _), ((((Apart.refl w).noted _ ⟨kind, a, 0, 0, false⟩).alloc _).alloc _)⟩
set_option maxHeartbeats 1000000 in
theorem act_nil (kind a : Int) (f : Value) :
    Calls Try.prog 26 #[.pointer none, .int .i64 kind, .int .i64 a, f] w fun e w' => e = .returned (av Last.no) ∧ Below w.heap.size w w' := by
  go_enter Try.func26, Try.ntmps26
  go_wp2
  go_returns
  exact ⟨rfl, by go_grown⟩

theorem field2 (a b c d e : Value) (w : World) : (Instr.field 63 (.agg #[a, b, c, d, e]) 2).run Try.prog w = .ok c w := by kernel_rfl
theorem field4 (a b c d e : Value) (w : World) : (Instr.field 63 (.agg #[a, b, c, d, e]) 4).run Try.prog w = .ok e w := by kernel_rfl
attribute [local go_sem] field2 field4

set_option maxHeartbeats 1000000 in
theorem load_in (hm : MemAt w X Y t n zs k l) (a : Nat) (z : Int) (ha : a < zs.length) (hz : zs.getD a 0 = z) (k0 : 0 ≤ k) (k1 : k ≤ 1000000) :
    Calls Try.prog 51 #[.pointer (some ⟨X, 0, none⟩), .int .i64 a] w fun e w' => e = .returned (.int .u64 z) ∧ MemAt w' X Y t n (zs.set a z) (k + 1) ⟨1, a, z, z, true⟩ ∧ Apart X Y w w' := by
  have HM := Lib.hid hm
  have HZ := Lib.hid hz
  clear hm hz
  go_enter Try.func51, Try.ntmps51
  go_wp2_with (go_at_call 26; refine (act_load HM.out a z ha HZ.out k0 k1).mono ?_; rintro e w1 ⟨rfl, hm1, ha1⟩; have HM1 := Lib.hid hm1; have HA1 := Lib.hid ha1; clear hm1 ha1)
  go_returns
  exact ⟨rfl, HM1.out, (Apart.refl w).trans HA1.out⟩

set_option maxHeartbeats 1000000 in
theorem load_out (hm : MemAt w X Y t n zs k l) (a : Int) (ha : ¬ (0 ≤ a ∧ a < zs.length)) (k0 : 0 ≤ k) (k1 : k ≤ 1000000) :
    Calls Try.prog 51 #[.pointer (some ⟨X, 0, none⟩), .int .i64 a] w fun e w' => e = .returned (.int .u64 0) ∧ MemAt w' X Y t n zs (k + 1) ⟨1, a, 0, 0, false⟩ ∧ Apart X Y w w' := by
  have HM := Lib.hid hm
  have HA := Lib.hid ha
  clear hm ha
  go_enter Try.func51, Try.ntmps51
  go_wp2_with (go_at_call 26; refine (act_out HM.out 1 a _ HA.out k0 k1).mono ?_; rintro e w1 ⟨rfl, hm1, ha1⟩; have HM1 := Lib.hid hm1; have HA1 := Lib.hid ha1; clear hm1 ha1)
  go_returns
  exact ⟨rfl, HM1.out, (Apart.refl w).trans HA1.out⟩
set_option maxHeartbeats 1000000 in
theorem load_nil (a : Int) :
    Calls Try.prog 51 #[.pointer none, .int .i64 a] w fun e w' => e = .returned (.int .u64 0) ∧ Below w.heap.size w w' := by
  go_enter Try.func51, Try.ntmps51
  go_wp2_with (go_at_call 26; refine (act_nil 1 a _).mono ?_; rintro e w1 ⟨rfl, hb1⟩; have HB1 := Lib.hid hb1; clear hb1)
  go_returns
  exact ⟨rfl, by have hb := HB1.out; have hb2 := hb.mono (B' := w.heap.size) (by first | exact Nat.le_refl _ | (simp; done) | (simp; omega)); refine Below.trans ?_ hb2; go_grown⟩

set_option maxHeartbeats 1000000 in
theorem store_in (hm : MemAt w X Y t n zs k l) (a : Nat) (z x : Int) (ha : a < zs.length) (hz : zs.getD a 0 = z) (k0 : 0 ≤ k) (k1 : k ≤ 1000000) :
    Calls Try.prog 9 #[.pointer (some ⟨X, 0, none⟩), .int .i64 a, .int .u64 x] w fun e w' => e = .returned (.tuple #[]) ∧ MemAt w' X Y t n (zs.set a x) (k + 1) ⟨2, a, z, x, true⟩ ∧ Apart X Y w w' := by
  have HM := Lib.hid hm
  have HZ := Lib.hid hz
  clear hm hz
  go_enter Try.func9, Try.ntmps9
  go_wp2_with (go_at_call 26; refine (act_store (HM.out.alloc _) a z x _ ha HZ.out k0 k1 (by simp)).mono ?_; rintro e w1 ⟨rfl, hm1, ha1⟩; have HM1 := Lib.hid hm1; have HA1 := Lib.hid ha1; clear hm1 ha1)
  go_returns
  exact ⟨rfl, HM1.out, ((Apart.refl w).alloc _).trans HA1.out⟩

set_option maxHeartbeats 1000000 in
theorem store_out (hm : MemAt w X Y t n zs k l) (a x : Int) (ha : ¬ (0 ≤ a ∧ a < zs.length)) (k0 : 0 ≤ k) (k1 : k ≤ 1000000) :
    Calls Try.prog 9 #[.pointer (some ⟨X, 0, none⟩), .int .i64 a, .int .u64 x] w fun e w' => e = .returned (.tuple #[]) ∧ MemAt w' X Y t n zs (k + 1) ⟨2, a, 0, 0, false⟩ ∧ Apart X Y w w' := by
  have HM := Lib.hid hm
  have HA := Lib.hid ha
  clear hm ha
  go_enter Try.func9, Try.ntmps9
  go_wp2_with (go_at_call 26; refine (act_out (HM.out.alloc _) 2 a _ HA.out k0 k1).mono ?_; rintro e w1 ⟨rfl, hm1, ha1⟩; have HM1 := Lib.hid hm1; have HA1 := Lib.hid ha1; clear hm1 ha1)
  go_returns
  exact ⟨rfl, HM1.out, ((Apart.refl w).alloc _).trans HA1.out⟩
set_option maxHeartbeats 1000000 in
theorem store_nil (a x : Int) :
    Calls Try.prog 9 #[.pointer none, .int .i64 a, .int .u64 x] w fun e w' => e = .returned (.tuple #[]) ∧ Below w.heap.size w w' := by
  go_enter Try.func9, Try.ntmps9
  go_wp2_with (go_at_call 26; refine (act_nil 2 a _).mono ?_; rintro e w1 ⟨rfl, hb1⟩; have HB1 := Lib.hid hb1; clear hb1)
  go_returns
  exact ⟨rfl, by have hb := HB1.out; have hb2 := hb.mono (B' := w.heap.size) (by first | exact Nat.le_refl _ | (simp; done) | (simp; omega)); refine Below.trans ?_ hb2; go_grown⟩

set_option maxHeartbeats 1000000 in
theorem add_in (hm : MemAt w X Y t n zs k l) (a : Nat) (z x : Int) (ha : a < zs.length) (hz : zs.getD a 0 = z) (k0 : 0 ≤ k) (k1 : k ≤ 1000000) :
    Calls Try.prog 14 #[.pointer (some ⟨X, 0, none⟩), .int .i64 a, .int .u64 x] w fun e w' => e = .returned (.int .u64 z) ∧ MemAt w' X Y t n (zs.set a (IntKind.u64.wrap (z + x))) (k + 1) ⟨4, a, z, IntKind.u64.wrap (z + x), true⟩ ∧ Apart X Y w w' := by
  have HM := Lib.hid hm
  have HZ := Lib.hid hz
  clear hm hz
  go_enter Try.func14, Try.ntmps14
  go_wp2_with (go_at_call 26; refine (act_add (HM.out.alloc _) a z x _ ha HZ.out k0 k1 (by simp)).mono ?_; rintro e w1 ⟨rfl, hm1, ha1⟩; have HM1 := Lib.hid hm1; have HA1 := Lib.hid ha1; clear hm1 ha1)
  go_returns
  exact ⟨rfl, HM1.out, ((Apart.refl w).alloc _).trans HA1.out⟩

set_option maxHeartbeats 1000000 in
theorem add_out (hm : MemAt w X Y t n zs k l) (a x : Int) (ha : ¬ (0 ≤ a ∧ a < zs.length)) (k0 : 0 ≤ k) (k1 : k ≤ 1000000) :
    Calls Try.prog 14 #[.pointer (some ⟨X, 0, none⟩), .int .i64 a, .int .u64 x] w fun e w' => e = .returned (.int .u64 0) ∧ MemAt w' X Y t n zs (k + 1) ⟨4, a, 0, 0, false⟩ ∧ Apart X Y w w' := by
  have HM := Lib.hid hm
  have HA := Lib.hid ha
  clear hm ha
  go_enter Try.func14, Try.ntmps14
  go_wp2_with (go_at_call 26; refine (act_out (HM.out.alloc _) 4 a _ HA.out k0 k1).mono ?_; rintro e w1 ⟨rfl, hm1, ha1⟩; have HM1 := Lib.hid hm1; have HA1 := Lib.hid ha1; clear hm1 ha1)
  go_returns
  exact ⟨rfl, HM1.out, ((Apart.refl w).alloc _).trans HA1.out⟩
set_option maxHeartbeats 1000000 in
theorem add_nil (a x : Int) :
    Calls Try.prog 14 #[.pointer none, .int .i64 a, .int .u64 x] w fun e w' => e = .returned (.int .u64 0) ∧ Below w.heap.size w w' := by
  go_enter Try.func14, Try.ntmps14
  go_wp2_with (go_at_call 26; refine (act_nil 4 a _).mono ?_; rintro e w1 ⟨rfl, hb1⟩; have HB1 := Lib.hid hb1; clear hb1)
  go_returns
  exact ⟨rfl, by have hb := HB1.out; have hb2 := hb.mono (B' := w.heap.size) (by first | exact Nat.le_refl _ | (simp; done) | (simp; omega)); refine Below.trans ?_ hb2; go_grown⟩

/-- WHAT EACH ACTION RETURNS AND LEAVES, at any address. -/
theorem Load_any (hm : MemAt w X Y t n zs k l) (a : Int) (k0 : 0 ≤ k) (k1 : k ≤ 1000000) :
    Calls Try.prog 51 #[.pointer (some ⟨X, 0, none⟩), .int .i64 a] w fun e w' => e = .returned (.int .u64 (wordAt zs a)) ∧ MemAt w' X Y t n zs (k + 1) ⟨1, a, wordAt zs a, wordAt zs a, inB zs a⟩ ∧ Apart X Y w w' := by
  by_cases ha : 0 ≤ a ∧ a < zs.length
  · obtain ⟨b, rfl⟩ : ∃ b : Nat, a = b := ⟨a.toNat, by omega⟩
    have hb : b < zs.length := by omega
    rw [wordAt_nat hb, inB_nat hb]
    have := load_in hm b _ hb rfl k0 k1
    rw [set_same] at this
    exact this
  · rw [wordAt_not ha, inB_not ha]
    exact load_out hm a ha k0 k1
theorem Store_any (hm : MemAt w X Y t n zs k l) (a x : Int) (k0 : 0 ≤ k) (k1 : k ≤ 1000000) :
    Calls Try.prog 9 #[.pointer (some ⟨X, 0, none⟩), .int .i64 a, .int .u64 x] w fun e w' => e = .returned (.tuple #[]) ∧ MemAt w' X Y t n (setAt zs a x) (k + 1) ⟨2, a, wordAt zs a, only (inB zs a) x, inB zs a⟩ ∧ Apart X Y w w' := by
  by_cases ha : 0 ≤ a ∧ a < zs.length
  · obtain ⟨b, rfl⟩ : ∃ b : Nat, a = b := ⟨a.toNat, by omega⟩
    have hb : b < zs.length := by omega
    rw [wordAt_nat hb, inB_nat hb, setAt_nat x hb]
    exact store_in hm b _ x hb rfl k0 k1
  · rw [wordAt_not ha, inB_not ha, setAt_not x ha]
    exact store_out hm a x ha k0 k1
theorem Add_any (hm : MemAt w X Y t n zs k l) (a x : Int) (k0 : 0 ≤ k) (k1 : k ≤ 1000000) :
    Calls Try.prog 14 #[.pointer (some ⟨X, 0, none⟩), .int .i64 a, .int .u64 x] w fun e w' => e = .returned (.int .u64 (wordAt zs a)) ∧ MemAt w' X Y t n (setAt zs a (IntKind.u64.wrap (wordAt zs a + x))) (k + 1) ⟨4, a, wordAt zs a, only (inB zs a) (IntKind.u64.wrap (wordAt zs a + x)), inB zs a⟩ ∧ Apart X Y w w' := by
  by_cases ha : 0 ≤ a ∧ a < zs.length
  · obtain ⟨b, rfl⟩ : ∃ b : Nat, a = b := ⟨a.toNat, by omega⟩
    have hb : b < zs.length := by omega
    rw [wordAt_nat hb, inB_nat hb, setAt_nat _ hb]
    exact add_in hm b _ x hb rfl k0 k1
  · rw [wordAt_not ha, inB_not ha, setAt_not _ ha]
    exact add_out hm a x ha k0 k1
theorem Peek_any (hm : MemAt w X Y t n zs k l) (a : Int) :
    Calls Try.prog 31 #[.pointer (some ⟨X, 0, none⟩), .int .i64 a] w fun e w' => e = .returned (.int .u64 (wordAt zs a)) ∧ w = w' := by
  by_cases ha : 0 ≤ a ∧ a < zs.length
  · obtain ⟨b, rfl⟩ : ∃ b : Nat, a = b := ⟨a.toNat, by omega⟩
    have hb : b < zs.length := by omega
    rw [wordAt_nat hb]
    exact peek_in hm b _ hb rfl
  · rw [wordAt_not ha]
    exact peek_out hm a ha
end
end Go.Proofs.Ytnphnhafifaaoaa.mem
