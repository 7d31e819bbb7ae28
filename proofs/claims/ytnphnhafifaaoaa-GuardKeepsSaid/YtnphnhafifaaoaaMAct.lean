/- An action at an address that there is: what it returns, what it leaves. -/
import Derived.Test.YtnphnhafifaaoaaM1
import Derived.BigRegion
namespace Go.Proofs.Ytnphnhafifaaoaa.mem
open Go.RowKit

theorem clo_load (w : World) (z : Int) :
    Calls Try.prog 57 #[.int .u64 z] w fun e w' => e = .returned (.tuple #[.int .u64 z, .bool true]) ∧ w = w' := by
  go_enter Try.func57, Try.ntmps57
  go_wp2
  go_returns
  exact ⟨rfl, rfl⟩
theorem clo_store (w : World) (z x : Int) (p : Nat) (hc : w.cell? ⟨p, 0, none⟩ = some (.int .u64 x)) :
    Calls Try.prog 27 #[.int .u64 z, .pointer (some ⟨p, 0, none⟩)] w fun e w' => e = .returned (.tuple #[.int .u64 x, .bool true]) ∧ w = w' := by
  go_enter Try.func27, Try.ntmps27
  go_wp2
  go_returns
  exact ⟨rfl, rfl⟩
theorem clo_add (w : World) (z x : Int) (p : Nat) (hc : w.cell? ⟨p, 0, none⟩ = some (.int .u64 x)) :
    Calls Try.prog 33 #[.int .u64 z, .pointer (some ⟨p, 0, none⟩)] w fun e w' => e = .returned (.tuple #[.int .u64 (IntKind.u64.wrap (z + x)), .bool true]) ∧ w = w' := by
  go_enter Try.func33, Try.ntmps33
  go_wp2
  go_returns
  exact ⟨rfl, rfl⟩
section
variable {w : World} {X Y : Nat} {t n k : Int} {zs : List Int} {l : Last}

set_option maxHeartbeats 1000000 in
theorem act_load (hm : MemAt w X Y t n zs k l) (a : Nat) (z : Int) (ha : a < zs.length) (hz : zs.getD a 0 = z) (k0 : 0 ≤ k) (k1 : k ≤ 1000000) :
    Calls Try.prog 26 #[.pointer (some ⟨X, 0, none⟩), .int .i64 1, .int .i64 a, .func (.func 57) #[] #[]] w fun e w' => e = .returned (av ⟨1, a, z, z, true⟩) ∧ MemAt w' X Y t n (zs.set a (z)) (k + 1) ⟨1, a, z, z, true⟩ ∧ Apart X Y w w' := by
  have h0 : (0 : Int) ≤ (a : Int) := by omega
  have h1 : (a : Int) < (zs.length : Int) := by omega
  obtain ⟨cp, c0, c1, c2, c3, c4, c5, c6, c7, c8, fx, fy, hx, hy, ne, en⟩ := hm.row
  have hw := hm.word ha
  rw [hz] at hw
  have HM := Lib.hid hm
  clear hm hz
  go_enter Try.func26, Try.ntmps26
  go_wp2_with (first | (go_at_call 48; refine (has_in ((HM.out.alloc _).alloc _) a ha).mono ?_; rintro e w1 ⟨rfl, rfl⟩) | (go_at_call 57; refine (clo_load _ z).mono ?_; rintro e w1 ⟨rfl, rfl⟩))

  go_region
  all_goals
    go_wp2
    go_returns
    exact ⟨rfl, ((((HM.out.put a _ ha).note _ ⟨1, a, z, z, true⟩).alloc _).alloc _).drew, (((((Apart.refl w).putY _ _).noted _ ⟨1, a, z, z, true⟩).alloc _).alloc _).drew⟩

set_option maxHeartbeats 1000000 in
theorem act_store (hm : MemAt w X Y t n zs k l) (a : Nat) (z : Int) (x : Int) (p : Nat) (ha : a < zs.length) (hz : zs.getD a 0 = z) (k0 : 0 ≤ k) (k1 : k ≤ 1000000) (hp : w.cell? ⟨p, 0, none⟩ = some (.int .u64 x)) :
    Calls Try.prog 26 #[.pointer (some ⟨X, 0, none⟩), .int .i64 2, .int .i64 a, .func (.func 27) #[] #[.pointer (some ⟨p, 0, none⟩)]] w fun e w' => e = .returned (av ⟨2, a, z, x, true⟩) ∧ MemAt w' X Y t n (zs.set a (x)) (k + 1) ⟨2, a, z, x, true⟩ ∧ Apart X Y w w' := by
  have h0 : (0 : Int) ≤ (a : Int) := by omega
  have h1 : (a : Int) < (zs.length : Int) := by omega
  obtain ⟨cp, c0, c1, c2, c3, c4, c5, c6, c7, c8, fx, fy, hx, hy, ne, en⟩ := hm.row
  have hw := hm.word ha
  rw [hz] at hw
  have HM := Lib.hid hm
  have pz := World.block_lt_of_cell? w _ hp
  have CP : ∀ o2 o3, ((w.alloc o2).alloc o3).cell? ⟨p, 0, none⟩ = some (.int .u64 x) := fun o2 o3 => (((((Below.refl _ w).alloc (Nat.le_refl _) o2).alloc (by simp) o3).cell (p := ⟨p, 0, none⟩) pz)).trans hp
  clear hm hz
  go_enter Try.func26, Try.ntmps26
  go_wp2_with (first | (go_at_call 48; refine (has_in ((HM.out.alloc _).alloc _) a ha).mono ?_; rintro e w1 ⟨rfl, rfl⟩) | (go_at_call 27; refine (clo_store _ z x p (CP _ _)).mono ?_; rintro e w1 ⟨rfl, rfl⟩))

  go_region
  all_goals
    go_wp2
    go_returns
    exact ⟨rfl, ((((HM.out.put a _ ha).note _ ⟨2, a, z, x, true⟩).alloc _).alloc _).drew, (((((Apart.refl w).putY _ _).noted _ ⟨2, a, z, x, true⟩).alloc _).alloc _).drew⟩

set_option maxHeartbeats 1000000 in
theorem act_add (hm : MemAt w X Y t n zs k l) (a : Nat) (z : Int) (x : Int) (p : Nat) (ha : a < zs.length) (hz : zs.getD a 0 = z) (k0 : 0 ≤ k) (k1 : k ≤ 1000000) (hp : w.cell? ⟨p, 0, none⟩ = some (.int .u64 x)) :
    Calls Try.prog 26 #[.pointer (some ⟨X, 0, none⟩), .int .i64 4, .int .i64 a, .func (.func 33) #[] #[.pointer (some ⟨p, 0, none⟩)]] w fun e w' => e = .returned (av ⟨4, a, z, IntKind.u64.wrap (z + x), true⟩) ∧ MemAt w' X Y t n (zs.set a (IntKind.u64.wrap (z + x))) (k + 1) ⟨4, a, z, IntKind.u64.wrap (z + x), true⟩ ∧ Apart X Y w w' := by
  have h0 : (0 : Int) ≤ (a : Int) := by omega
  have h1 : (a : Int) < (zs.length : Int) := by omega
  obtain ⟨cp, c0, c1, c2, c3, c4, c5, c6, c7, c8, fx, fy, hx, hy, ne, en⟩ := hm.row
  have hw := hm.word ha
  rw [hz] at hw
  have HM := Lib.hid hm
  have pz := World.block_lt_of_cell? w _ hp
  have CP : ∀ o2 o3, ((w.alloc o2).alloc o3).cell? ⟨p, 0, none⟩ = some (.int .u64 x) := fun o2 o3 => (((((Below.refl _ w).alloc (Nat.le_refl _) o2).alloc (by simp) o3).cell (p := ⟨p, 0, none⟩) pz)).trans hp
  clear hm hz
  go_enter Try.func26, Try.ntmps26
  go_wp2_with (first | (go_at_call 48; refine (has_in ((HM.out.alloc _).alloc _) a ha).mono ?_; rintro e w1 ⟨rfl, rfl⟩) | (go_at_call 33; refine (clo_add _ z x p (CP _ _)).mono ?_; rintro e w1 ⟨rfl, rfl⟩))

  go_region
  all_goals
    go_wp2
    go_returns
    exact ⟨rfl, ((((HM.out.put a _ ha).note _ ⟨4, a, z, IntKind.u64.wrap (z + x), true⟩).alloc _).alloc _).drew, (((((Apart.refl w).putY _ _).noted _ ⟨4, a, z, IntKind.u64.wrap (z + x), true⟩).alloc _).alloc _).drew⟩

end
end Go.Proofs.Ytnphnhafifaaoaa.mem
