/- A memory, whatever was counted and noted: what each action returns and leaves. -/
import Derived.Test.YtnphnhafifaaoaaMOpsW
import Derived.Test.YtnphnhafifaaoaaM3
import Derived.Test.YtnphnhafifaaoaaM2
namespace Go.Proofs.Ytnphnhafifaaoaa.mem
open Go.RowKit

/-- A memory of these words, whatever was counted and noted. -/
def MemS (w : World) (X Y : Nat) (t n : Int) (zs : List Int) : Prop := ∃ k l, MemAt w X Y t n zs k l
section
variable {w w' : World} {X Y : Nat} {t n : Int} {zs : List Int}
theorem MemS.ltX (h : MemS w X Y t n zs) : X < w.heap.size := let ⟨_, _, h⟩ := h; h.ltX
theorem MemS.ltY (h : MemS w X Y t n zs) : Y < w.heap.size := let ⟨_, _, h⟩ := h; h.ltY
theorem MemS.ne (h : MemS w X Y t n zs) : X ≠ Y := let ⟨_, _, h⟩ := h; h.ne
theorem MemS.moved (h : MemS w X Y t n zs) (hx : w'.heap[X]? = w.heap[X]?) (hy : w'.heap[Y]? = w.heap[Y]?) : MemS w' X Y t n zs := let ⟨k, l, h⟩ := h; ⟨k, l, h.moved hx hy⟩
theorem MemS.below (h : MemS w X Y t n zs) (hb : Below w.heap.size w w') : MemS w' X Y t n zs := let ⟨k, l, h⟩ := h; ⟨k, l, h.below hb⟩
theorem MemS.alloc (h : MemS w X Y t n zs) (o : Obj) : MemS (w.alloc o) X Y t n zs := let ⟨k, l, h⟩ := h; ⟨k, l, h.alloc o⟩
theorem MemS.drew (h : MemS w X Y t n zs) : MemS w.drew X Y t n zs := let ⟨k, l, h⟩ := h; ⟨k, l, h.drew⟩
theorem MemS.of {k : Int} {l : Last} (h : MemAt w X Y t n zs k l) : MemS w X Y t n zs := ⟨k, l, h⟩
/-- Another block is written. -/
theorem MemS.other (h : MemS w X Y t n zs) {C : Nat} (hx : C ≠ X) (hy : C ≠ Y) (i : Nat) (v : Value) : MemS (w.setCell ⟨C, i, none⟩ v) X Y t n zs := h.moved (Below.heap_setCell _ _ _ _ (Ne.symm hx)) (Below.heap_setCell _ _ _ _ (Ne.symm hy))

theorem Load_s (h : MemS w X Y t n zs) (a z : Int) (hz : wordAt zs a = z) :
    Calls Try.prog 51 #[.pointer (some ⟨X, 0, none⟩), .int .i64 a] w fun e w' => e = .returned (.int .u64 z) ∧ MemS w' X Y t n zs ∧ Apart X Y w w' := by
  obtain ⟨k, l, h⟩ := h
  subst hz
  exact (Load_any_s h a).mono fun e w' ⟨he, hm, ha⟩ => ⟨he, ⟨_, _, hm⟩, ha⟩
theorem Store_s (h : MemS w X Y t n zs) (a x : Int) :
    Calls Try.prog 9 #[.pointer (some ⟨X, 0, none⟩), .int .i64 a, .int .u64 x] w fun e w' => e = .returned (.tuple #[]) ∧ MemS w' X Y t n (setAt zs a x) ∧ Apart X Y w w' := by
  obtain ⟨k, l, h⟩ := h
  exact (Store_any_s h a x).mono fun e w' ⟨he, hm, ha⟩ => ⟨he, ⟨_, _, hm⟩, ha⟩
theorem Add_s (h : MemS w X Y t n zs) (a x z : Int) (hz : wordAt zs a = z) :
    Calls Try.prog 14 #[.pointer (some ⟨X, 0, none⟩), .int .i64 a, .int .u64 x] w fun e w' => e = .returned (.int .u64 z) ∧ MemS w' X Y t n (setAt zs a (IntKind.u64.wrap (z + x))) ∧ Apart X Y w w' := by
  obtain ⟨k, l, h⟩ := h
  subst hz
  exact (Add_any_s h a x).mono fun e w' ⟨he, hm, ha⟩ => ⟨he, ⟨_, _, hm⟩, ha⟩
theorem Peek_s (h : MemS w X Y t n zs) (a z : Int) (hz : wordAt zs a = z) :
    Calls Try.prog 31 #[.pointer (some ⟨X, 0, none⟩), .int .i64 a] w fun e w' => e = .returned (.int .u64 z) ∧ w = w' := by
  obtain ⟨k, l, h⟩ := h
  subst hz
  exact Peek_any h a
/-- A new memory. -/
structure NewS (w : World) (t n : Int) (zs : List Int) (X Y : Nat) (w' : World) : Prop where
  mem : MemS w' X Y t n zs
  below : Below w.heap.size w w'
  x : w.heap.size ≤ X
  y : w.heap.size ≤ Y
theorem NewS.of {X Y : Nat} (h : MadeAt w t n zs X Y w') : NewS w t n zs X Y w' := ⟨⟨_, _, h.mem⟩, h.below, h.x, h.y⟩
theorem Copy_s (h : MemS w X Y t n zs) (z : Nat) (hz : zs.length = z) (z0 : 0 < z) (z1 : z ≤ 1000) :
    Calls Try.prog 11 #[.pointer (some ⟨X, 0, none⟩)] w fun e w' => ∃ X2 Y2, e = .returned (.pointer (some ⟨X2, 0, none⟩)) ∧ NewS w t n zs X2 Y2 w' := by
  obtain ⟨k, l, h⟩ := h
  exact (copy_any h z hz z0 z1).mono fun e w' ⟨X2, Y2, he, hm⟩ => ⟨X2, Y2, he, NewS.of hm⟩
theorem Same_s {X2 Y2 : Nat} {ys : List Int} (h : MemS w X Y t n zs) (g : MemS w X2 Y2 t n ys) (z : Nat) (q : Bool) (hz : zs.length = z) (hy : ys.length = z) (z1 : z ≤ 1000) (hq : decide (zs = ys) = q) :
    Calls Try.prog 20 #[.pointer (some ⟨X, 0, none⟩), .pointer (some ⟨X2, 0, none⟩)] w fun e w' => e = .returned (.bool q) ∧ Below w.heap.size w w' := by
  obtain ⟨k, l, h⟩ := h
  obtain ⟨k2, l2, g⟩ := g
  subst hq
  exact same_words h g z hz hy z1
end
end Go.Proofs.Ytnphnhafifaaoaa.mem
