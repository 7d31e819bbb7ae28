/- A machine that counts: its step; how it is run to its end. -/
import Derived.Test.YtfoiahnpnipjnaaMSit
import Derived.Defers
import Derived.Recover
namespace Go.Proofs.Ytfoiahnpnipjnaa.mem
open Go.RowKit

/-- Of what there was, nothing but blocks X, Y and C has changed. -/
structure Apart3 (X Y C : Nat) (w w' : World) : Prop where
  os : w'.os = w.os
  tape : w'.tape = w.tape
  output : w'.output = w.output
  size : w.heap.size ≤ w'.heap.size
  block : ∀ b, b < w.heap.size → b ≠ X → b ≠ Y → b ≠ C → w'.heap[b]? = w.heap[b]?
section
variable {w w' w2 : World} {X Y C : Nat}
theorem Apart3.refl (w : World) : Apart3 X Y C w w := ⟨rfl, rfl, rfl, Nat.le_refl _, fun _ _ _ _ _ => rfl⟩
theorem Apart3.of (h : Apart X Y w w') : Apart3 X Y C w w' := ⟨h.os, h.tape, h.output, h.size, fun b hb hx hy _ => h.block b hb hx hy⟩
theorem Apart3.trans (h : Apart3 X Y C w w') (g : Apart3 X Y C w' w2) : Apart3 X Y C w w2 :=
  ⟨g.os.trans h.os, g.tape.trans h.tape, g.output.trans h.output, Nat.le_trans h.size g.size, fun b hb hx hy hc => (g.block b (Nat.lt_of_lt_of_le hb h.size) hx hy hc).trans (h.block b hb hx hy hc)⟩
theorem Apart3.put (h : Apart3 X Y C w w') (i : Nat) (v : Value) : Apart3 X Y C w (w'.setCell ⟨C, i, none⟩ v) :=
  ⟨h.os, h.tape, h.output, by simpa [World.setCell] using h.size, fun b hb hx hy hc => (Below.heap_setCell _ _ _ _ hc).trans (h.block b hb hx hy hc)⟩
theorem Apart3.box {b : Nat} {cs : Array Value} {T : TypeId} (ha : Apart3 X Y C w w') (h : Box w b cs T) (hx : b ≠ X) (hy : b ≠ Y) (hc : b ≠ C) : Box w' b cs T := (ha.block b h.lt hx hy hc).trans h
theorem Apart3.below {B : Nat} {w0 : World} (h : Below B w0 w) (ha : Apart3 X Y C w w') (hs : B ≤ w.heap.size) (hX : B ≤ X) (hY : B ≤ Y) (hC : B ≤ C) : Below B w0 w' :=
  h.trans ⟨ha.os, ha.tape, ha.output, ha.size, fun b hb => ha.block b (by omega) (by omega) (by omega) (by omega)⟩
end

/-- A machine's block: it counts at address 1, so many times yet. -/
abbrev cnt (L : Int) : Array Value := #[.int .i64 1, .int .i64 L]
/-- So many steps were done in all. -/
def RunSt (w : World) (X Y : Nat) (s : Int) : Prop := ∃ zs l, MemAt w X Y 1 1 zs s l ∧ zs.length = 13 ∧ wordAt zs 1 = s

/-- Behind steps of the machine at C. -/
structure Ran (w : World) (X Y C : Nat) (s L : Int) (w' : World) : Prop where
  st : RunSt w' X Y s
  box : Box w' C (cnt L) 55
  apart : Apart3 X Y C w w'

set_option maxHeartbeats 1000000 in
theorem step_any (w : World) (X Y C : Nat) (s L : Int) (hs : RunSt w X Y s) (hb : Box w C (cnt L) 55) (cx : C ≠ X) (cy : C ≠ Y) (s0 : 0 ≤ s) (s1 : s ≤ 100000) (l0 : 1 ≤ L) (l1 : L ≤ 1000) :
    Calls Try.prog 63 #[.pointer (some ⟨C, 0, none⟩), .pointer (some ⟨X, 0, none⟩)] w fun e w' => e = .returned (.bool (decide (L - 1 ≤ 0))) ∧ Ran w X Y C (s + 1) (L - 1) w' := by
  obtain ⟨zs, l, hm, hz, hw⟩ := hs
  have HM := Lib.hid hm
  have HB := Lib.hid hb
  have HW := Lib.hid hw
  have hin : Hid (inB zs 1 = true) := by unfold Hid inB; rw [hz]; decide
  have HZ := Lib.hid hz
  have c0 := hb.at 0 rfl
  have c1 := hb.at 1 rfl
  have hwr : Hid (IntKind.u64.wrap (wordAt zs 1 + 1) = s + 1) := by unfold Hid; rw [hw, IntKind.wrap_u64]; omega
  clear hm hb hw hz
  go_enter Try.func63, Try.ntmps63
  go_wp2_with (go_at_call 16; refine (Add_any HM.out 1 1 s0 (by omega)).mono ?_; rintro e w1 ⟨rfl, hm1, ha1⟩; rw [hwr.out] at hm1; have HM1 := Lib.hid hm1; have HA1 := Lib.hid ha1; have B1 := Lib.hid (HB.out.apart ha1 cx cy); clear hm1 ha1; have d0 := B1.out.at 0 rfl; have d1 := B1.out.at 1 rfl; have f1 := B1.out.free)
  go_returns
  refine ⟨rfl, ⟨⟨_, _, HM1.out.moved (Below.heap_setCell _ _ _ _ (Ne.symm cx)) (Below.heap_setCell _ _ _ _ (Ne.symm cy)), (setAt_length _ _ _).trans HZ.out, wordAt_setAt_same _ _ _ hin.out⟩, B1.out.put 1 _, (Apart3.of HA1.out).put 1 _⟩⟩
end Go.Proofs.Ytfoiahnpnipjnaa.mem
