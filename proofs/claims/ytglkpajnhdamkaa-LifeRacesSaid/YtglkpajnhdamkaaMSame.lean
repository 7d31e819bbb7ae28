/- Whether two memories are the same. -/
import Derived.Test.YtglkpajnhdamkaaMDup
import Derived.Test.YtglkpajnhdamkaaMEqw
import Derived.BigQuiet
import Derived.Deep.QuietTactic
import Derived.Test.YtglkpajnhdamkaaQuiet
namespace Go.Proofs.Ytglkpajnhdamkaa.mem
open Go.RowKit
attribute [local go_sem] eq_lay eq_act

section
variable {w : World} {X Y : Nat} {t n k : Int} {zs : List Int} {l : Last}
theorem same_nil (w : World) :
    Calls Try.prog 15 #[.pointer none, .pointer none] w fun e w' => e = .returned (.bool true) ∧ w = w' := by
  go_enter Try.func15, Try.ntmps15
  go_wp2
  go_returns
  exact ⟨rfl, rfl⟩
theorem same_nil_some (w : World) (X : Nat) :
    Calls Try.prog 15 #[.pointer none, .pointer (some ⟨X, 0, none⟩)] w fun e w' => e = .returned (.bool false) ∧ w = w' := by
  have q : ∀ (w : World), (binOp .eql 24 (.pointer none) (.pointer (some ⟨X, 0, none⟩))).run Try.prog w = .ok (.bool false) w := fun w => by kernel_rfl
  go_enter Try.func15, Try.ntmps15
  go_wp2
  go_returns
  exact ⟨rfl, rfl⟩

variable {X2 Y2 : Nat} {k2 : Int} {ys : List Int} {l2 : Last}
set_option maxHeartbeats 2000000 in
/-- Memories of one layout are the same just if all words are. -/
theorem same_words (hm : MemAt w X Y t n zs k l) (hx : MemAt w X2 Y2 t n ys k2 l2) (z : Nat) (hz : zs.length = z) (hy : ys.length = z) (z1 : z ≤ 1000) :
    Calls Try.prog 15 #[.pointer (some ⟨X, 0, none⟩), .pointer (some ⟨X2, 0, none⟩)] w fun e w' => e = .returned (.bool (decide (zs = ys))) ∧ Below w.heap.size w w' := by
  obtain ⟨c, hr⟩ := hm.row
  rw [hz] at hr
  obtain ⟨c0, c1, c2, _, _, _, _, _, _, fx, fy, hx1, hy1, ne, en⟩ := hr
  obtain ⟨d, hs⟩ := hx.row
  rw [hy] at hs
  obtain ⟨d0, d1, d2, _, _, _, _, _, _, gx, gy, hx2, hy2, ne2, en2⟩ := hs
  have HM := Lib.hid hm
  have HX := Lib.hid hx
  have HZ := Lib.hid hz
  have HY := Lib.hid hy
  clear hm hx hz hy
  go_enter Try.func15, Try.ntmps15
  go_wp2
  refine quiet.region (C := fun wx => Below w.heap.size w wx) ((Below.refl _ _).drew) (by kernel_rfl) (by kernel_rfl) ?_
  repeat (first
    | go_big_quiet_skip
    | (go_big_quiet_want; go_big_quiet_op; go_big_quiet_on)
    | (refine BigFrame.wpQuiet_want (by rfl) (fun K hK => ?_)
       apply Exists.intro
       refine ⟨fun wx hwx => ?_, hK _ ?_⟩
       · have e0 := (hwx.cell (p := ⟨X, 0, none⟩) hx1).trans c0
         have e1 := (hwx.cell (p := ⟨X, 1, none⟩) hx1).trans c1
         have e2 := (hwx.cell (p := ⟨X, 2, none⟩) hx1).trans c2
         have f0 := (hwx.cell (p := ⟨X2, 0, none⟩) hx2).trans d0
         have f1 := (hwx.cell (p := ⟨X2, 1, none⟩) hx2).trans d1
         have f2 := (hwx.cell (p := ⟨X2, 2, none⟩) hx2).trans d2
         have HW := Lib.hid hwx
         clear hwx
         go_simp
         first | exact ⟨rfl, HW.out⟩ | exact ⟨HW.out, rfl⟩ | exact HW.out | rfl | exact quiet.call (equal_any _ Y Y2 z c d zs ys HZ.out HY.out z1 (HM.out.below HW.out).rowAt (HX.out.below HW.out).rowAt) (fun _ hb => past HW.out hb)
       clear hK K
       simp only [Act.put, List.setIfInBounds_toArray, List.set_cons_zero, List.set_cons_succ]))
  refine wpQuiet_nil ?_
  intro w6 hq6
  have H6 := Lib.hid hq6
  clear hq6
  go_wp2
  go_returns
  exact ⟨rfl, H6.out⟩
end

set_option maxHeartbeats 2000000 in
/-- Of unlike layouts they aren't. -/
theorem same_other {w : World} {X Y X2 Y2 : Nat} {k k2 : Int} {zs ys : List Int} {l l2 : Last} (hm : MemAt w X Y 2 20 zs k l) (hx : MemAt w X2 Y2 2 21 ys k2 l2) :
    Calls Try.prog 15 #[.pointer (some ⟨X, 0, none⟩), .pointer (some ⟨X2, 0, none⟩)] w fun e w' => e = .returned (.bool false) ∧ Below w.heap.size w w' := by
  obtain ⟨c, hr⟩ := hm.row
  obtain ⟨c0, c1, c2, _, _, _, _, _, _, fx, fy, hx1, hy1, ne, en⟩ := hr
  obtain ⟨d, hs⟩ := hx.row
  obtain ⟨d0, d1, d2, _, _, _, _, _, _, gx, gy, hx2, hy2, ne2, en2⟩ := hs
  clear hm hx
  go_enter Try.func15, Try.ntmps15
  go_wp2
  refine quiet.region (C := fun wx => Below w.heap.size w wx) ((Below.refl _ _).drew) (by kernel_rfl) (by kernel_rfl) ?_
  repeat (first
    | go_big_quiet_skip
    | (go_big_quiet_want; go_big_quiet_op; go_big_quiet_on)
    | (refine BigFrame.wpQuiet_want (by rfl) (fun K hK => ?_)
       apply Exists.intro
       refine ⟨fun wx hwx => ?_, hK _ ?_⟩
       · have e0 := (hwx.cell (p := ⟨X, 0, none⟩) hx1).trans c0
         have e1 := (hwx.cell (p := ⟨X, 1, none⟩) hx1).trans c1
         have e2 := (hwx.cell (p := ⟨X, 2, none⟩) hx1).trans c2
         have f0 := (hwx.cell (p := ⟨X2, 0, none⟩) hx2).trans d0
         have f1 := (hwx.cell (p := ⟨X2, 1, none⟩) hx2).trans d1
         have f2 := (hwx.cell (p := ⟨X2, 2, none⟩) hx2).trans d2
         have HW := Lib.hid hwx
         clear hwx
         go_simp
         first | exact ⟨rfl, HW.out⟩ | exact ⟨HW.out, rfl⟩ | exact HW.out | rfl
       clear hK K
       simp only [Act.put, List.setIfInBounds_toArray, List.set_cons_zero, List.set_cons_succ]))
  refine wpQuiet_nil ?_
  intro w6 hq6
  have H6 := Lib.hid hq6
  clear hq6
  go_wp2
  go_returns
  exact ⟨rfl, H6.out⟩
end Go.Proofs.Ytglkpajnhdamkaa.mem
